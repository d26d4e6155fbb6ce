/-
  The contracts of counted, slices.IndexFunc, their closures, and of Room, find, In.
-/
import Derived.Test.YtocaonbmijmbmaaBase
namespace Go.Proofs.Ytocaonbmijmbmaa
open Go.RowKit
attribute [local go_sem ↓] Go.wp_at_zero Go.wp_at_succ

theorem take_cnt {es : List Op} {P : Op → Bool} {k : Nat} {o : Op} (h : es[k]? = some o) : (es.take (k + 1)).countP P = (es.take k).countP P + if P o then 1 else 0 := by
  have hl := (List.getElem?_eq_some_iff.1 h).1
  have he := (List.getElem?_eq_some_iff.1 h).2
  rw [List.take_succ_eq_append_getElem hl, List.countP_append, he]
  simp [List.countP_cons]
theorem cnt_le (es : List Op) (P : Op → Bool) (k : Nat) : (es.take k).countP P ≤ k := by
  have := List.countP_le_length (p := P) (l := es.take k)
  simp at this; omega

/-- A file in a new block. -/
theorem boxed6 (w : World) (o : Op) : ∃ V, w.alloc (.cells #[I o.p, I o.d, I o.m, I o.n, I o.f, I o.s] 62) = V ∧ (V.cell? ⟨w.heap.size, 0, none⟩ = some (I o.p) ∧ V.cell? ⟨w.heap.size, 1, none⟩ = some (I o.d) ∧ V.cell? ⟨w.heap.size, 2, none⟩ = some (I o.m) ∧ V.cell? ⟨w.heap.size, 3, none⟩ = some (I o.n) ∧ V.cell? ⟨w.heap.size, 4, none⟩ = some (I o.f) ∧ V.cell? ⟨w.heap.size, 5, none⟩ = some (I o.s)) ∧ Below w.heap.size w V ∧ V.heap.size = w.heap.size + 1 := by
  have h := putAll (w := w) (.cells #[I o.p, I o.d, I o.m, I o.n, I o.f, I o.s] 62) w.heap.size rfl
  refine ⟨_, rfl, ⟨?_, ?_, ?_, ?_, ?_, ?_⟩, (Below.refl _ _).alloc (Nat.le_refl _) _, by simp⟩ <;> rw [cell_of h] <;> rfl

set_option maxRecDepth 100000 in
set_option maxHeartbeats 1000000 in
theorem counted_any (b n c : Nat) (es : List Op) (F x : Nat) (P : Op → Bool) (w : World) (h : Tb w b n es) (hc : es.length = c)
    (hE : ∀ args w, (callFunc F args).run Try.prog w = .ok (.enter F args) w)
    (hF : ∀ o W, Below w.heap.size w W → Calls Try.prog F #[Op.v o, .pointer (some ⟨x, 0, none⟩)] W fun e W' => e = .returned (.bool (P o)) ∧ Below W.heap.size W W') :
    Calls Try.prog 26 #[.pointer (some ⟨b, 0, none⟩), .func (.func F) #[] #[.pointer (some ⟨x, 0, none⟩)]] w fun e w' => e = .returned (I (es.countP P)) ∧ Below w.heap.size w w' := by
  have HF := hide hF
  have HT := hide h
  have HC := hide hc
  have HO := hide (open_any b n c es w h hc)
  have h64 := h.c64
  rw [hc] at h64
  clear hF h hc
  go_enter Try.func26, Try.ntmps26
  go_wp2_with fail
  refine (unhide HO).mono ?_
  rintro e w1 ⟨rfl, hb1⟩
  have HB1 := hide hb1
  clear hb1 HO
  go_wp2_with fail
  go_loopw [5, 11] (fun v i wr => ∃ k : Nat, i = I k ∧ k ≤ c ∧ v = I ((es.take k).countP P) ∧ Below w.heap.size w wr) (fun _ i _ => c - (intOf i).toNat)
  case atStart => exact ⟨0, rfl, Nat.zero_le _, by simp, unhide HB1⟩
  case round =>
    obtain ⟨k, rfl, hk, rfl, hb⟩ := hrel
    by_cases hkn : k < c
    · have hkl : k < es.length := by rw [unhide HC]; exact hkn
      obtain ⟨o, ho⟩ : ∃ o, es[k]? = some o := ⟨_, List.getElem?_eq_getElem hkl⟩
      obtain ⟨c0, c1, c2, c3, c4, c5⟩ := ((unhide HT).below hb).file ho
      have j1 : (k : Int) < (c : Int) := by omega
      have j0 : (0 : Int) ≤ (k : Int) := by omega
      obtain ⟨V, hV, ⟨v0, v1, v2, v3, v4, v5⟩, hBV, hsV⟩ := boxed6 wr o
      have hbV : Below w.heap.size w V := hb.trans (hBV.mono hb.size)
      have HK := hide (unhide HF o V hbV)
      have hPk := hide (take_cnt (P := P) ho)
      have hle := cnt_le es P k
      have HBV := hide hbV
      clear ho hkl HF HT HC HB1 hbV hBV hsV hb
      generalize hm : (es.take k).countP P = m at *
      clear hm
      cases hp : P o
      · rw [hp] at HK hPk
        clear hp
        go_wp2_with fail
        refine (unhide HK).mono ?_
        rintro e w2 ⟨rfl, hB⟩
        have HE := hide ((unhide HBV).trans (hB.mono (unhide HBV).size))
        clear hB HK HBV c0 c1 c2 c3 c4 c5 v0 v1 v2 v3 v4 v5
        go_wp2_with fail
        go_roundw
        case rel => exact ⟨k + 1, by go_num, by omega, by rw [unhide hPk]; simp, unhide HE⟩
        case measure => simp [intOf]; omega
      · rw [hp] at HK hPk
        clear hp
        go_wp2_with fail
        refine (unhide HK).mono ?_
        rintro e w2 ⟨rfl, hB⟩
        have HE := hide ((unhide HBV).trans (hB.mono (unhide HBV).size))
        clear hB HK HBV c0 c1 c2 c3 c4 c5 v0 v1 v2 v3 v4 v5
        go_wp2_with fail
        go_roundw
        case rel => exact ⟨k + 1, by go_num, by omega, by rw [unhide hPk]; simp, unhide HE⟩
        case measure => simp [intOf]; omega
    · obtain rfl : k = c := by omega
      have HE := hide hb
      have e : Hid (es.take k = es) := by rw [← unhide HC]; exact List.take_length
      rw [unhide e]
      clear hb HF HT HC HB1 e
      go_wp2_with fail
      go_ret
      exact ⟨rfl, unhide HE⟩

/-- What IndexFunc answers. -/
def idxA (i c : Nat) : Int := if i < c then (i : Int) else -1
set_option maxRecDepth 100000 in
set_option maxHeartbeats 1000000 in
theorem idx_any (b n c : Nat) (es : List Op) (F x y : Nat) (P : Op → Bool) (w : World) (h : Tb w b n es) (hc : es.length = c) (i : Nat) (hi : es.findIdx P = i) 
    (hE : ∀ args w, (callFunc F args).run Try.prog w = .ok (.enter F args) w)
    (hF : ∀ o W, Below w.heap.size w W → Calls Try.prog F #[Op.v o, .pointer (some ⟨x, 0, none⟩), .pointer (some ⟨y, 0, none⟩)] W fun e W' => e = .returned (.bool (P o)) ∧ Below W.heap.size W W') :
    Calls Try.prog 33 #[.slice (some ⟨b, 2, none⟩) c 64, .func (.func F) #[] #[.pointer (some ⟨x, 0, none⟩), .pointer (some ⟨y, 0, none⟩)]] w fun e w' => e = .returned (I (idxA i c)) ∧ Below w.heap.size w w' := by
  have HF := hide hF
  have HT := hide h
  have HI := hide hi
  have Hn := hide hc
  have h64 := h.c64
  rw [hc] at h64
  have hil : i ≤ c := by rw [← hi, ← hc]; exact List.findIdx_le_length
  clear hF h hi hc
  go_enter Try.func33, Try.ntmps33
  go_wp2_with fail
  go_loopw [8] (fun v wr => ∃ k : Nat, v = I k ∧ k ≤ i ∧ Below w.heap.size w wr) (fun v _ => c - (intOf v).toNat)
  case atStart => exact ⟨0, rfl, Nat.zero_le _, Below.refl _ _⟩
  case round =>
    obtain ⟨k, rfl, hk, hb⟩ := hrel
    by_cases hkc : k < c
    · have hkn : k < es.length := by have := unhide Hn; omega
      obtain ⟨o, ho⟩ : ∃ o, es[k]? = some o := ⟨_, List.getElem?_eq_getElem hkn⟩
      obtain ⟨c0, c1, c2, c3, c4, c5⟩ := ((unhide HT).below hb).file ho
      have j1 : (k : Int) < (c : Int) := by omega
      have j0 : (0 : Int) ≤ (k : Int) := by omega
      have HC := hide (unhide HF o wr hb)
      have hPk : Hid (P o = decide (k = i)) := by
        have hi := unhide HI
        have he := (List.getElem?_eq_some_iff.1 ho).2
        by_cases e : k = i
        · subst e
          rw [decide_eq_true rfl, ← he]
          subst hi
          exact List.findIdx_getElem (w := hkn)
        · rw [decide_eq_false e, ← he]
          exact List.not_of_lt_findIdx (xs := es) (p := P) (i := k) (by omega)
      have HB := hide hb
      clear hb ho hkn HF HT HI Hn
      by_cases e : k = i
      · subst e
        rw [show P o = true by rw [unhide hPk]; simp] at HC
        clear hPk
        go_wp2_with fail
        refine (unhide HC).mono ?_
        rintro e w1 ⟨rfl, hB⟩
        have HE := hide ((unhide HB).trans (hB.mono (unhide HB).size))
        clear hB HC HB c0 c1 c2 c3 c4 c5
        go_wp2_with fail
        go_ret
        exact ⟨by rw [show idxA k c = (k : Int) from if_pos hkc]; rfl, unhide HE⟩
      · rw [show P o = false by rw [unhide hPk]; simp [e]] at HC
        clear hPk
        go_wp2_with fail
        refine (unhide HC).mono ?_
        rintro e w1 ⟨rfl, hB⟩
        have HE := hide ((unhide HB).trans (hB.mono (unhide HB).size))
        clear hB HC HB c0 c1 c2 c3 c4 c5
        go_wp2_with fail
        go_roundw
        case rel => exact ⟨k + 1, by go_num, by omega, unhide HE⟩
        case measure => simp [intOf]; omega
    · obtain rfl : k = c := by omega
      have HE := hide hb
      clear hb HF HT HI Hn
      go_wp2_with fail
      go_ret
      exact ⟨by rw [show idxA i k = -1 from if_neg (by omega)]; rfl, unhide HE⟩

def isPr (p : Int) (o : Op) : Bool := o.p == p
def isMt (m : Int) (o : Op) : Bool := o.m == m
def isPd (p d : Int) (o : Op) : Bool := o.p == p && o.d == d

set_option maxRecDepth 100000 in
set_option maxHeartbeats 400000 in
theorem isPr_any (x : Nat) (p : Int) (o : Op) (w : World) (hx : w.cell? ⟨x, 0, none⟩ = some (I p)) :
    Calls Try.prog 30 #[Op.v o, .pointer (some ⟨x, 0, none⟩)] w fun e w' => e = .returned (.bool (isPr p o)) ∧ Below w.heap.size w w' := by
  obtain ⟨V, hV, ⟨v0, v1, v2, v3, v4, v5⟩, hB, hsV⟩ := boxed6 w o
  have x1 : V.cell? ⟨x, 0, none⟩ = some (I p) := by
    rw [← hx]; exact hB.cell (p := ⟨x, 0, none⟩) (by
      have := hx
      unfold World.cell? at this
      cases e : w.heap[x]? with
      | none => simp [e] at this
      | some o => exact lt_of_heap e)
  clear hx
  go_enter Try.func30, Try.ntmps30
  go_wp2_with fail
  go_ret
  exact ⟨rfl, hB⟩
set_option maxRecDepth 100000 in
set_option maxHeartbeats 400000 in
theorem isMt_any (x : Nat) (m : Int) (o : Op) (w : World) (hx : w.cell? ⟨x, 0, none⟩ = some (I m)) :
    Calls Try.prog 27 #[Op.v o, .pointer (some ⟨x, 0, none⟩)] w fun e w' => e = .returned (.bool (isMt m o)) ∧ Below w.heap.size w w' := by
  obtain ⟨V, hV, ⟨v0, v1, v2, v3, v4, v5⟩, hB, hsV⟩ := boxed6 w o
  have x1 : V.cell? ⟨x, 0, none⟩ = some (I m) := by
    rw [← hx]; exact hB.cell (p := ⟨x, 0, none⟩) (by
      have := hx
      unfold World.cell? at this
      cases e : w.heap[x]? with
      | none => simp [e] at this
      | some o => exact lt_of_heap e)
  clear hx
  go_enter Try.func27, Try.ntmps27
  go_wp2_with fail
  go_ret
  exact ⟨rfl, hB⟩
set_option maxRecDepth 100000 in
set_option maxHeartbeats 400000 in
theorem isPd_any (x y : Nat) (p d : Int) (o : Op) (w : World) (hx : w.cell? ⟨x, 0, none⟩ = some (I p)) (hy : w.cell? ⟨y, 0, none⟩ = some (I d)) :
    Calls Try.prog 34 #[Op.v o, .pointer (some ⟨x, 0, none⟩), .pointer (some ⟨y, 0, none⟩)] w fun e w' => e = .returned (.bool (isPd p d o)) ∧ Below w.heap.size w w' := by
  obtain ⟨V, hV, ⟨v0, v1, v2, v3, v4, v5⟩, hB, hsV⟩ := boxed6 w o
  have x1 : V.cell? ⟨x, 0, none⟩ = some (I p) := by
    rw [← hx]; exact hB.cell (p := ⟨x, 0, none⟩) (by
      have := hx
      unfold World.cell? at this
      cases e : w.heap[x]? with
      | none => simp [e] at this
      | some o => exact lt_of_heap e)
  have y1 : V.cell? ⟨y, 0, none⟩ = some (I d) := by
    rw [← hy]; exact hB.cell (p := ⟨y, 0, none⟩) (by
      have := hy
      unfold World.cell? at this
      cases e : w.heap[y]? with
      | none => simp [e] at this
      | some o => exact lt_of_heap e)
  clear hx hy
  cases hp : (o.p == p)
  · rw [show isPd p d o = false by simp [isPd, hp]]
    go_enter Try.func34, Try.ntmps34
    go_wp2_with fail
    go_ret
    exact ⟨rfl, hB⟩
  · rw [show isPd p d o = (o.d == d) by simp [isPd, hp]]
    go_enter Try.func34, Try.ntmps34
    go_wp2_with fail
    go_ret
    exact ⟨rfl, hB⟩
end Go.Proofs.Ytocaonbmijmbmaa
