/-
  A file's bytes, written: the contract of write.
-/
import Derived.Test.YtlngeaacjbdmhaaGreatQp01
import Derived.Lib.Bytealg
namespace Go.Proofs.YtlngeaacjbdmhaaGreat
open Go.RowKit Go.Maps
def Bs (W : World) (sb so n : Nat) (g : Nat → Int) : Prop := ∀ j, j < n → W.cell? ⟨sb, so + j, none⟩ = some (U (g j))
theorem lt_of_cell {W : World} {p : Addr} {v : Value} (h : W.cell? p = some v) : p.block < W.heap.size := by
  cases Nat.lt_or_ge p.block W.heap.size with
  | inl h' => exact h'
  | inr h' => simp [World.cell?, Array.getElem?_eq_none h'] at h
theorem cell_same {W W' : World} {k : Nat} (h : W'.heap[k]? = W.heap[k]?) (i : Nat) : W'.cell? ⟨k, i, none⟩ = W.cell? ⟨k, i, none⟩ := by simp [World.cell?, h]
theorem Bs.lt {W : World} {sb so n : Nat} {g : Nat → Int} (h : Bs W sb so n g) (hn : 0 < n) : sb < W.heap.size := lt_of_cell (h 0 hn)
theorem Bs.fr {S : List Nat} {W W' : World} {sb so n : Nat} {g : Nat → Int} (h : Bs W sb so n g) (f : Fr S W W') (hs : sb ∉ S) : Bs W' sb so n g :=
  fun j hj => (cell_same (f.blk sb (lt_of_cell (h j hj)) hs) _).trans (h j hj)
theorem Bs.apart {W : World} {sb so n c m : Nat} {g : Nat → Int} {x : F} (h : Bs W sb so n g) (hn : 0 < n) (hf : Fl W c m x) : sb ≠ c ∧ sb ≠ m := by
  have h0 := h 0 hn
  constructor
  · rintro rfl
    rw [cell_of hf.hc] at h0
    match so + 0, h0 with
    | 0, h0 => simp at h0
    | 1, h0 => simp at h0
    | k + 2, h0 => simp at h0
  · rintro rfl
    obtain ⟨D, ⟨es, c, h1, _⟩, _⟩ := hf.hm
    simp [World.cell?, h1] at h0
theorem Mp.drew {W : World} {b n : Nat} {f : Int → Option Value} (h : Mp W b n f) : Mp W.drew b n f := h.same rfl
theorem row16 {W : World} {b : Nat} {R : Array Value} (h : W.heap[b]? = some (.cells R 309)) (hR : R.size = 16) : ∃ y0 y1 y2 y3 y4 y5 y6 y7 y8 y9 y10 y11 y12 y13 y14 y15, R = #[y0, y1, y2, y3, y4, y5, y6, y7, y8, y9, y10, y11, y12, y13, y14, y15] ∧ W.cell? ⟨b, 0, none⟩ = some y0 ∧ W.cell? ⟨b, 1, none⟩ = some y1 ∧ W.cell? ⟨b, 2, none⟩ = some y2 ∧ W.cell? ⟨b, 3, none⟩ = some y3 ∧ W.cell? ⟨b, 4, none⟩ = some y4 ∧ W.cell? ⟨b, 5, none⟩ = some y5 ∧ W.cell? ⟨b, 6, none⟩ = some y6 ∧ W.cell? ⟨b, 7, none⟩ = some y7 ∧ W.cell? ⟨b, 8, none⟩ = some y8 ∧ W.cell? ⟨b, 9, none⟩ = some y9 ∧ W.cell? ⟨b, 10, none⟩ = some y10 ∧ W.cell? ⟨b, 11, none⟩ = some y11 ∧ W.cell? ⟨b, 12, none⟩ = some y12 ∧ W.cell? ⟨b, 13, none⟩ = some y13 ∧ W.cell? ⟨b, 14, none⟩ = some y14 ∧ W.cell? ⟨b, 15, none⟩ = some y15 := by
  match R, hR with
  | ⟨[y0, y1, y2, y3, y4, y5, y6, y7, y8, y9, y10, y11, y12, y13, y14, y15]⟩, _ => exact ⟨y0, y1, y2, y3, y4, y5, y6, y7, y8, y9, y10, y11, y12, y13, y14, y15, rfl, by rw [cell_of h]; rfl, by rw [cell_of h]; rfl, by rw [cell_of h]; rfl, by rw [cell_of h]; rfl, by rw [cell_of h]; rfl, by rw [cell_of h]; rfl, by rw [cell_of h]; rfl, by rw [cell_of h]; rfl, by rw [cell_of h]; rfl, by rw [cell_of h]; rfl, by rw [cell_of h]; rfl, by rw [cell_of h]; rfl, by rw [cell_of h]; rfl, by rw [cell_of h]; rfl, by rw [cell_of h]; rfl, by rw [cell_of h]; rfl⟩
end Go.Proofs.YtlngeaacjbdmhaaGreat

namespace Go.Proofs.YtlngeaacjbdmhaaGreat
open Go.RowKit Go.Maps
set_option maxRecDepth 100000 in
set_option maxHeartbeats 1000000 in
theorem cwrite_any {W : World} {c m : Nat} {x : F} (h : Fl W c m x) (a n : Nat) (hn : 0 < n) (ha : a + n ≤ 1024) (sb so cap : Nat) (g : Nat → Int) (hs : Bs W sb so n g) (hcap : n ≤ cap) :
    Calls Tryz.prog 218 #[P0 c, I (a : Int), .slice (some ⟨sb, so, none⟩) n cap] W fun e w' => e = .returned (.tuple #[]) ∧ Fl w' c m (x.write a n g) ∧ Fr [c, m] W w' := by
  have H := hide h
  have HS := hide hs
  have hmax := h.ok.most
  have hcm : c ≠ m := by
    rintro rfl
    obtain ⟨D, ⟨es, k, h1, _⟩, _⟩ := h.hm
    rw [h.hc] at h1
    cases h1
  clear h hs
  go_enter Tryz.func218, Tryz.ntmps218
  go_wp2_with fail
  go_loopw [6] (fun v wr => ∃ (d : Nat), d ≤ n ∧ v = I (d : Int) ∧ Hid (Mp wr m 64 (bk (lay x.byte a d g) (layH x.has a d))) ∧ Hid (Fr [m] W wr)) (fun v _ => n - (intOf v).toNat)
  case atStart =>
    refine ⟨0, by omega, rfl, hide ?_, hide (Fr.refl _ _)⟩
    rw [lay_zero, layH_zero]
    exact (unhide H).hm
  case round =>
    obtain ⟨d, hd, rfl, hM, hF⟩ := hrel
    have hc := ((unhide hF).blk c (lt_of_heap (unhide H).hc) (by simpa using hcm)).trans (unhide H).hc
    by_cases hdn : d < n
    · have g1 : (d : Int) < (n : Int) := by omega
      have g0 : (0 : Int) ≤ (d : Int) := by omega
      obtain ⟨q, r, hq, hr⟩ : ∃ q r : Nat, a + d = 16 * q + r ∧ r < 16 := ⟨(a + d) / 16, (a + d) % 16, by omega, by omega⟩
      have hlk := (unhide hM).look ht55 (zero74 _) (k := (q : Int)) (wf_of (by omega))
      rw [bk_row (lay_hol (unhide H).ok.hol a d g)] at hlk
      have c1 : wr.cell? ⟨c, 1, none⟩ = some (.map (some m)) := by rw [cell_of hc]; rfl
      obtain ⟨R, hR⟩ : ∃ R, R = (lst (lay x.byte a d g) (16 * q) 16).toArray := ⟨_, rfl⟩
      have hRs : R.size = 16 := by rw [hR]; simp [lst_length]
      have hst := store74 hRs (by rw [hR]; exact lst_all _ _ _)
      rw [← hR] at hlk
      replace hR := hide hR
      have r0 : (0 : Int) ≤ (r : Int) := by omega
      have r1 : (r : Int) < 16 := by omega
      have a1 : (a : Int) ≤ 1024 := by omega
      have d1 : (d : Int) ≤ 1024 := by omega
      have dcap : ¬ cap = d := by omega
      replace hq := hide hq
      replace hc := hide hc
      have gn : (n : Int) ≤ 1024 := by omega
      go_wp2_with fail
      refine (split_any _ q r (by rw [← unhide hq]; omega) hr (by have := unhide hq; omega) _).mono ?_
      rintro e1 w1 ⟨rfl, rfl⟩
      go_wp2_with fail
      obtain ⟨w2, hw2⟩ : ∃ w2, w2 = w1.alloc (Obj.cells R 309) := ⟨_, rfl⟩
      rw [← hw2]
      have G2 : w2.heap[w1.heap.size]? = some (.cells R 309) := by rw [hw2]; exact heap_alloc_new _ _
      have F2 : Fr [m] W w2 := by rw [hw2]; exact (unhide hF).alloc _
      have M2 : Mp w2 m 64 (bk (lay x.byte a d g) (layH x.has a d)) := by rw [hw2]; exact (unhide hM).alloc _
      have hcl := lt_of_heap (unhide hc)
      have hml := (unhide hM).lt
      have hc2 : w2.heap[c]? = some (.cells #[I x.size, .map (some m)] 261) := by rw [hw2, Below.heap_alloc _ _ _ hcl]; exact unhide hc
      have hsz := (unhide hF).size
      obtain ⟨n1, n2⟩ := (unhide HS).apart hn (unhide H)
      have HS2 : Bs w2 sb so n g := (unhide HS).fr F2 (by simpa using n2)
      have hsl0 := (unhide HS).lt hn
      clear hlk c1 hst
      obtain ⟨b2, hb2⟩ : ∃ b2, b2 = w1.heap.size := ⟨_, rfl⟩
      rw [← hb2] at G2 hcl hml hsz ⊢
      obtain ⟨mm, hmm⟩ : ∃ mm, mm = min (n - d) (16 - r) := ⟨_, rfl⟩
      have hpos : 0 < mm := by omega
      have C2 : ∀ j v, (lst g d mm)[j]? = some v → w2.cell? ((⟨sb, so + d, none⟩ : Addr).add j) = some v := by
        intro j v hv
        rw [lst_get] at hv
        split at hv
        · rw [Addr.add_mid, ← hv, Nat.add_assoc]
          exact HS2 _ (by omega)
        · cases hv
      obtain ⟨L, hL⟩ : ∃ L, L = lst (lay x.byte a d g) (16 * q) 16 := ⟨_, rfl⟩
      have hLR : R = L.toArray := by rw [unhide hR, hL]
      rw [hLR] at G2
      replace hLR := hide hLR
      replace hL := hide hL
      replace hw2 := hide hw2
      replace hmm := hide hmm
      replace G2 := hide G2
      replace F2 := hide F2
      replace M2 := hide M2
      replace C2 := hide C2
      replace hc2 := hide hc2
      replace HS2 := hide HS2
      replace hb2 := hide hb2
      have hsl := slice74 b2 r hr
      have hsz2 : w2.heap.size ≤ w2.heap.size := Nat.le_refl _
      go_region_law (refine step_copy_splice (by rfl) (.tmp 29) (.tmp 32) 34 34 (by rfl) 5 Tryz.underlying34 size5 (some ⟨b2, r, none⟩) (some ⟨sb, so + d, none⟩) (16 - r) (16 - r) (n - d) (cap - d) (by rfl) (by rfl) b2 r L 309 (unhide G2) (lst g d mm) (by rw [lst_length]; exact unhide hmm) (fun _ => ⟨rfl, _, rfl, unhide C2⟩) (by rw [lst_length, unhide hL, lst_length]; have := unhide hmm; omega) (lst_one _ _ _) b2 w2 (below_dn (Below.refl _ _) _) (Nat.le_refl _) ?_; intro w4 hg4 hb4)
      rw [lst_length, wrap_ok (by have := unhide hmm; omega)]
      simp only [Act.put, List.getElem_toArray, List.getElem_cons_succ, List.getElem_cons_zero, List.setIfInBounds_toArray, List.set_cons_zero, List.set_cons_succ]
      have HB4 := hide hb4
      clear hb4
      go_wp2_with fail
      have hB4 := (unhide HB4)
      have hmap : lst (lay x.byte a (d + mm) g) (16 * q) 16 = splice L r (lst g d mm) := by
        have e := unhide hmm
        have e2 := unhide hq
        rw [unhide hL]
        refine (splice_lst (by omega) ?_ ?_).symm
        · intro j hj
          simp only [lay]
          rw [if_pos (by omega)]
          congr 1
          omega
        · intro j hj ho
          simp only [lay]
          by_cases h1 : a ≤ 16 * q + j ∧ 16 * q + j < a + d
          · rw [if_pos (by omega), if_pos (by omega)]
          · rw [if_neg (by omega), if_neg (by omega)]
      obtain ⟨R', hR'⟩ : ∃ R', R' = (lst (lay x.byte a (d + mm) g) (16 * q) 16).toArray := ⟨_, rfl⟩
      have hRs' : R'.size = 16 := by rw [hR']; simp [lst_length]
      have G4 : w4.heap[b2]? = some (.cells R' 309) := by rw [unhide hg4, ← hmap, hR']
      have k4 : w4.cell? ⟨c, 1, none⟩ = some (.map (some m)) := by rw [cell_of ((hB4.block c hcl).trans (unhide hc2))]; rfl
      have M4 : Mp w4 m 64 (bk (lay x.byte a d g) (layH x.has a d)) := (unhide M2).same (hB4.block m hml)
      have hF2 := unhide F2
      have F4 : Fr [m] W w4 := ⟨hB4.os.trans hF2.os, hB4.tape.trans hF2.tape, hB4.output.trans hF2.output, Nat.le_trans hF2.size hB4.size, fun k hk hs => (hB4.block k (by omega)).trans (hF2.blk k hk hs)⟩
      obtain ⟨y0, y1, y2, y3, y4, y5, y6, y7, y8, y9, y10, y11, y12, y13, y14, y15, e16, z0, z1, z2, z3, z4, z5, z6, z7, z8, z9, z10, z11, z12, z13, z14, z15⟩ := row16 G4 hRs'
      rw [e16] at hR'
      obtain ⟨w5, hrun, M5, F5, _⟩ := M4.drew.store ht55 (by decide) (k := (q : Int)) (wf_of (by have := unhide hq; omega)) (.agg #[y0, y1, y2, y3, y4, y5, y6, y7, y8, y9, y10, y11, y12, y13, y14, y15])
      have HM5 := hide M5
      have HF5 := hide F5
      have HF4 := hide F4
      clear M5 F5 F4 M4 G4 hmap hsl hB4 hF2 e16 hRs'
      replace hR' := hide hR'
      go_region
      go_wp2_with fail
      have e := unhide hmm
      have e2 := unhide hq
      refine ⟨⟨d + mm, by omega, rfl, hide ?_, hide ((unhide HF4).drew.trans (unhide HF5))⟩, by simp [intOf]; omega⟩
      have M5 := unhide HM5
      rw [unhide hR'] at M5
      refine Mp.tight (n := 64) (M5.congr (upd_bk (h' := layH x.has a (d + mm)) ?_ ?_)) (by omega) (bk_sup (n := 64) ?_)
      · simp only [layH, Bool.or_eq_true, decide_eq_true_eq]
        right
        omega
      · intro j hj
        refine ⟨?_, fun _ i hi => ?_⟩
        · simp only [layH]
          congr 1
          rw [decide_eq_decide]
          omega
        · simp only [lay]
          by_cases h1 : a ≤ i ∧ i < a + d
          · rw [if_pos (by omega), if_pos (by omega)]
          · rw [if_neg (by omega), if_neg (by omega)]
      · intro k hk
        simp only [layH, Bool.or_eq_true, decide_eq_true_eq] at hk
        rcases hk with hk | hk
        · exact (unhide H).ok.sup k hk
        · omega
    · obtain rfl : d = n := by omega
      have g1 : ¬ (d : Int) < (d : Int) := by omega
      have k0 : wr.cell? ⟨c, 0, none⟩ = some (I x.size) := by rw [cell_of hc]; rfl
      have kf : wr.frozen? ⟨c, 0, none⟩ = false := frozen_of hc _
      have HC := hide hc
      clear hc
      have b0 : (0 : Int) ≤ (a : Int) := by omega
      have b1 : (a : Int) ≤ 1024 := by omega
      have b2 : (d : Int) ≤ 1024 := by omega
      have b3 : (x.size : Int) ≤ 1024 := by omega
      have hx := (unhide H).ok
      have fin : ∀ s : Nat, s = max x.size (a + d) → Fl (wr.setCell ⟨c, 0, none⟩ (I (s : Int))) c m (x.write a d g) ∧ Fr [c, m] W (wr.setCell ⟨c, 0, none⟩ (I (s : Int))) := by
        intro s es
        refine ⟨⟨?_, (unhide hM).same (Below.heap_setCell _ _ _ _ (by exact hcm.symm)), F.write_ok hx g (by omega)⟩, ((unhide hF).mono (by simp)).set (by simp) _⟩
        rw [heap_set (unhide HC), es]
        rfl
      replace fin := hide fin
      replace hx := hide hx
      go_wp2_with fail
      · go_end0
        refine ⟨rfl, ?_⟩
        have := unhide fin (a + d) (by omega)
        simpa using this
      · go_end0
        refine ⟨rfl, ?_⟩
        exact unhide fin x.size (by omega)
end Go.Proofs.YtlngeaacjbdmhaaGreat

namespace Go.Proofs.YtlngeaacjbdmhaaGreat
open Go.RowKit Go.Maps
def cmpL : List UInt8 → List UInt8 → Int := Lib.compareBytes
theorem cmpL_refl : ∀ l, cmpL l l = 0
  | [] => rfl
  | a :: l => by
    have := cmpL_refl l
    simp only [cmpL, Lib.compareBytes] at *
    rw [if_neg (UInt8.lt_irrefl a), if_neg (UInt8.lt_irrefl a)]
    exact this
theorem cmpL_eq : ∀ {a b}, cmpL a b = 0 → a = b
  | [], [], _ => rfl
  | [], _ :: _, h => by simp [cmpL, Lib.compareBytes] at h
  | _ :: _, [], h => by simp [cmpL, Lib.compareBytes] at h
  | x :: a, y :: b, h => by
    simp only [cmpL, Lib.compareBytes] at h
    by_cases h1 : x < y
    · rw [if_pos h1] at h; omega
    · by_cases h2 : y < x
      · rw [if_neg h1, if_pos h2] at h; omega
      · rw [if_neg h1, if_neg h2] at h
        rw [cmpL_eq h, UInt8.le_antisymm (UInt8.not_lt.1 h2) (UInt8.not_lt.1 h1)]
theorem cmpL_flip : ∀ {a b}, cmpL a b < 0 ↔ 0 < cmpL b a
  | [], [] => by simp [cmpL, Lib.compareBytes]
  | [], _ :: _ => by simp [cmpL, Lib.compareBytes]
  | _ :: _, [] => by simp [cmpL, Lib.compareBytes]
  | x :: a, y :: b => by
    have ih := cmpL_flip (a := a) (b := b)
    simp only [cmpL, Lib.compareBytes] at *
    by_cases h1 : x < y
    · have h2 : ¬ y < x := fun h => UInt8.lt_irrefl _ (UInt8.lt_trans h1 h)
      simp [h1, h2]
    · by_cases h2 : y < x
      · simp [h1, h2]
      · simp only [h1, h2, if_false]
        exact ih
theorem cmpL_trans : ∀ {a b c}, cmpL a b < 0 → cmpL b c < 0 → cmpL a c < 0
  | [], [], _, h, _ => by simp [cmpL, Lib.compareBytes] at h
  | [], _ :: _, [], _, h => by simp [cmpL, Lib.compareBytes] at h
  | [], _ :: _, _ :: _, _, _ => by simp [cmpL, Lib.compareBytes]
  | _ :: _, [], _, h, _ => by simp [cmpL, Lib.compareBytes] at h
  | _ :: _, _ :: _, [], _, h => by simp [cmpL, Lib.compareBytes] at h
  | x :: a, y :: b, z :: c, h, g => by
    have ih := @cmpL_trans a b c
    simp only [cmpL, Lib.compareBytes] at *
    by_cases h1 : x < y
    · by_cases g1 : y < z
      · rw [if_pos (UInt8.lt_trans h1 g1)]; omega
      · by_cases g2 : z < y
        · rw [if_neg g1, if_pos g2] at g; omega
        · obtain rfl := UInt8.le_antisymm (UInt8.not_lt.1 g2) (UInt8.not_lt.1 g1)
          rw [if_pos h1]; omega
    · by_cases h2 : y < x
      · rw [if_neg h1, if_pos h2] at h; omega
      · obtain rfl := UInt8.le_antisymm (UInt8.not_lt.1 h2) (UInt8.not_lt.1 h1)
        rw [if_neg h1, if_neg h1] at h
        by_cases g1 : x < z
        · rw [if_pos g1]; omega
        · by_cases g2 : z < x
          · rw [if_neg g1, if_pos g2] at g; omega
          · rw [if_neg g1, if_neg g2] at g ⊢
            exact ih h g
def cmpS (a b : ByteArray) : Int := cmpL a.data.toList b.data.toList
theorem bytes_ext {a b : ByteArray} (h : a.data.toList = b.data.toList) : a = b := by
  obtain ⟨⟨l⟩⟩ := a
  obtain ⟨⟨m⟩⟩ := b
  simp at h
  rw [h]
theorem cmpS_refl (a : ByteArray) : cmpS a a = 0 := cmpL_refl _
theorem cmpS_eq {a b : ByteArray} (h : cmpS a b = 0) : a = b := bytes_ext (cmpL_eq h)
theorem cmpS_flip {a b : ByteArray} : cmpS a b < 0 ↔ 0 < cmpS b a := cmpL_flip
theorem cmpS_trans {a b c : ByteArray} (h : cmpS a b < 0) (g : cmpS b c < 0) : cmpS a c < 0 := cmpL_trans h g
theorem cmpS_ne {a b : ByteArray} (h : cmpS a b < 0) : a ≠ b := fun e => by rw [e, cmpS_refl] at h; omega
abbrev Ent := ByteArray × Int
def Srt (l : List Ent) : Prop := l.Pairwise fun a b => cmpS a.1 b.1 < 0
def getE (l : List Ent) (s : ByteArray) : Option Int := (l.find? fun e => decide (e.1 = s)).map (·.2)
def pos (l : List Ent) (s : ByteArray) : Nat := l.countP fun e => decide (cmpS e.1 s < 0)
def putE (l : List Ent) (s : ByteArray) (n : Int) : List Ent := l.take (pos l s) ++ (s, n) :: l.drop (pos l s)
def delE (l : List Ent) (s : ByteArray) : List Ent := l.take (pos l s) ++ l.drop (pos l s + 1)
theorem pos_le (l : List Ent) (s : ByteArray) : pos l s ≤ l.length := List.countP_le_length
theorem Srt.get {l : List Ent} (h : Srt l) {i j : Nat} (hij : i < j) {a b : Ent} (ha : l[i]? = some a) (hb : l[j]? = some b) : cmpS a.1 b.1 < 0 := by
  obtain ⟨hi, rfl⟩ := List.getElem?_eq_some_iff.1 ha
  obtain ⟨hj, rfl⟩ := List.getElem?_eq_some_iff.1 hb
  exact List.pairwise_iff_getElem.1 h i j hi hj hij
theorem Srt.pos_split : ∀ {l : List Ent}, Srt l → ∀ s, (∀ e ∈ l.take (pos l s), cmpS e.1 s < 0) ∧ ∀ e ∈ l.drop (pos l s), ¬ cmpS e.1 s < 0
  | [], _, s => by simp
  | a :: l, h, s => by
    have hl : Srt l := (List.pairwise_cons.1 h).2
    have ih := hl.pos_split s
    by_cases ha : cmpS a.1 s < 0
    · have hp : pos (a :: l) s = pos l s + 1 := List.countP_cons_of_pos (by simpa using ha)
      rw [hp]
      simp only [List.take_succ_cons, List.drop_succ_cons, List.mem_cons]
      refine ⟨?_, ih.2⟩
      rintro e (rfl | he)
      · exact ha
      · exact ih.1 e he
    · have h0 : pos (a :: l) s = 0 := by
        rw [pos, List.countP_eq_zero]
        intro e he
        rcases List.mem_cons.1 he with rfl | he
        · simpa using ha
        · have := (List.pairwise_cons.1 h).1 e he
          simp only [decide_eq_true_eq]
          exact fun h' => ha (cmpS_trans this h')
      rw [h0]
      simp only [List.take_zero, List.not_mem_nil, false_imp_iff, implies_true, List.drop_zero, true_and]
      intro e he h'
      rcases List.mem_cons.1 he with rfl | he
      · exact ha h'
      · exact ha (cmpS_trans ((List.pairwise_cons.1 h).1 e he) h')
theorem getE_some {l : List Ent} {s : ByteArray} {n : Int} (h : getE l s = some n) : (s, n) ∈ l := by
  simp only [getE, Option.map_eq_some_iff] at h
  obtain ⟨⟨a, b⟩, h1, rfl⟩ := h
  have h2 := List.find?_some h1
  simp at h2
  subst h2
  exact List.mem_of_find?_eq_some h1
theorem getE_none {l : List Ent} {s : ByteArray} : getE l s = none ↔ ∀ e ∈ l, e.1 ≠ s := by
  simp [getE]
theorem Srt.uniq {l : List Ent} (h : Srt l) {a b : Ent} (ha : a ∈ l) (hb : b ∈ l) (e : a.1 = b.1) : a = b := by
  obtain ⟨i, hi, rfl⟩ := List.getElem_of_mem ha
  obtain ⟨j, hj, rfl⟩ := List.getElem_of_mem hb
  rcases Nat.lt_trichotomy i j with hij | rfl | hij
  · have := List.pairwise_iff_getElem.1 h i j hi hj hij
    exact absurd e (cmpS_ne this)
  · rfl
  · have := List.pairwise_iff_getElem.1 h j i hj hi hij
    exact absurd e.symm (cmpS_ne this)
theorem Srt.getE_mem {l : List Ent} (h : Srt l) {s : ByteArray} {n : Int} : getE l s = some n ↔ (s, n) ∈ l := by
  refine ⟨getE_some, fun hm => ?_⟩
  cases e : getE l s with
  | none => exact absurd rfl (getE_none.1 e _ hm)
  | some m =>
    have := h.uniq hm (getE_some e) rfl
    simp at this
    rw [this]
theorem Srt.at_pos {l : List Ent} (h : Srt l) (s : ByteArray) : (getE l s).isSome = (decide (pos l s < l.length) && match l[pos l s]? with | some e => decide (e.1 = s) | none => false) ∧ ∀ n, getE l s = some n → l[pos l s]? = some (s, n) := by
  obtain ⟨h1, h2⟩ := h.pos_split s
  have key : ∀ n, getE l s = some n → l[pos l s]? = some (s, n) := by
    intro n hn
    have hm := getE_some hn
    rw [← List.take_append_drop (pos l s) l] at hm
    rcases List.mem_append.1 hm with hm | hm
    · exact absurd rfl (cmpS_ne (h1 _ hm))
    · obtain ⟨i, hi, he⟩ := List.getElem_of_mem hm
      rcases Nat.eq_zero_or_pos i with rfl | hp
      · rw [List.getElem_drop] at he
        rw [List.getElem?_eq_some_iff]
        exact ⟨by simp at hi; omega, he⟩
      · exfalso
        have hl : pos l s < l.length := by simp at hi; omega
        have h3 : l[pos l s]? = some l[pos l s] := List.getElem?_eq_getElem hl
        have h4 : l[pos l s + i]? = some (s, n) := by rw [List.getElem?_eq_some_iff]; exact ⟨by simp at hi; omega, by rw [List.getElem_drop] at he; exact he⟩
        have h5 := h.get (by omega : pos l s < pos l s + i) h3 h4
        refine h2 _ ?_ h5
        rw [List.drop_eq_getElem_cons hl]
        exact List.mem_cons_self
  refine ⟨?_, key⟩
  cases e : getE l s with
  | some n =>
    have := key n e
    obtain ⟨hl, he⟩ := List.getElem?_eq_some_iff.1 this
    simp [hl, he]
  | none =>
    have hn := getE_none.1 e
    cases e2 : l[pos l s]? with
    | none => simp
    | some x =>
      have := hn x (List.mem_of_getElem? e2)
      simp [this]
theorem putE_mem {l : List Ent} {s : ByteArray} {n : Int} {e : Ent} : e ∈ putE l s n ↔ e = (s, n) ∨ e ∈ l := by
  have : e ∈ l ↔ e ∈ l.take (pos l s) ∨ e ∈ l.drop (pos l s) := by rw [← List.mem_append, List.take_append_drop]
  simp only [putE, List.mem_append, List.mem_cons, this]
  constructor
  · rintro (h | h | h)
    · exact .inr (.inl h)
    · exact .inl h
    · exact .inr (.inr h)
  · rintro (h | h | h)
    · exact .inr (.inl h)
    · exact .inl h
    · exact .inr (.inr h)
theorem putE_count (l : List Ent) (s : ByteArray) (n : Int) (q : Ent → Bool) : (putE l s n).countP q = l.countP q + if q (s, n) then 1 else 0 := by
  conv => rhs; rw [← List.take_append_drop (pos l s) l]
  simp only [putE, List.countP_append, List.countP_cons]
  omega
theorem putE_length (l : List Ent) (s : ByteArray) (n : Int) : (putE l s n).length = l.length + 1 := by
  have := pos_le l s
  simp [putE]
  omega
theorem Srt.put {l : List Ent} (h : Srt l) {s : ByteArray} (hs : getE l s = none) (n : Int) : Srt (putE l s n) := by
  obtain ⟨h1, h2⟩ := h.pos_split s
  have hn := getE_none.1 hs
  have hsp : Srt (l.take (pos l s) ++ l.drop (pos l s)) := by rw [List.take_append_drop]; exact h
  obtain ⟨p1, p2, p3⟩ := List.pairwise_append.1 hsp
  refine List.pairwise_append.2 ⟨p1, List.pairwise_cons.2 ⟨fun b hb => ?_, p2⟩, fun a ha b hb => ?_⟩
  · have g1 := h2 b hb
    have g2 : cmpS b.1 s ≠ 0 := fun e => hn b (List.mem_of_mem_drop hb) (cmpS_eq e)
    exact cmpS_flip.2 (show 0 < cmpS b.1 s by omega)
  · rcases List.mem_cons.1 hb with rfl | hb
    · exact h1 a ha
    · exact p3 a ha b hb
theorem delE_split {l : List Ent} (h : Srt l) {s : ByteArray} {n : Int} (hn : getE l s = some n) : l = l.take (pos l s) ++ (s, n) :: l.drop (pos l s + 1) := by
  have h1 := (h.at_pos s).2 n hn
  obtain ⟨hl, he⟩ := List.getElem?_eq_some_iff.1 h1
  conv => lhs; rw [← List.take_append_drop (pos l s) l, List.drop_eq_getElem_cons hl, he]
theorem delE_count {l : List Ent} (h : Srt l) {s : ByteArray} {n : Int} (hn : getE l s = some n) (q : Ent → Bool) : (delE l s).countP q + (if q (s, n) then 1 else 0) = l.countP q := by
  conv => rhs; rw [delE_split h hn]
  simp only [delE, List.countP_append, List.countP_cons]
  omega
theorem delE_length {l : List Ent} (h : Srt l) {s : ByteArray} {n : Int} (hn : getE l s = some n) : (delE l s).length + 1 = l.length := by
  conv => rhs; rw [delE_split h hn]
  simp only [delE, List.length_append, List.length_cons]
  omega
theorem Srt.del {l : List Ent} (h : Srt l) (s : ByteArray) : Srt (delE l s) := by
  refine List.Pairwise.sublist ?_ h
  conv => rhs; rw [← List.take_append_drop (pos l s) l]
  exact List.Sublist.append (List.Sublist.refl _) (List.drop_sublist_drop_left _ (by omega))
theorem delE_mem {l : List Ent} (h : Srt l) {s : ByteArray} {n : Int} (hn : getE l s = some n) {e : Ent} : e ∈ delE l s ↔ e ∈ l ∧ e.1 ≠ s := by
  have hsp := delE_split h hn
  have hm : ∀ e, e ∈ l ↔ e ∈ l.take (pos l s) ∨ e = (s, n) ∨ e ∈ l.drop (pos l s + 1) := fun e => by
    conv => lhs; rw [hsp]
    rw [List.mem_append, List.mem_cons]
  have hS : Srt (l.take (pos l s) ++ (s, n) :: l.drop (pos l s + 1)) := by rw [← hsp]; exact h
  obtain ⟨p1, p2, p3⟩ := List.pairwise_append.1 hS
  have p4 := (List.pairwise_cons.1 p2).1
  simp only [delE, List.mem_append, hm]
  constructor
  · rintro (he | he)
    · exact ⟨.inl he, cmpS_ne (p3 e he (s, n) List.mem_cons_self)⟩
    · exact ⟨.inr (.inr he), fun e' => cmpS_ne (p4 e he) e'.symm⟩
  · rintro ⟨he | rfl | he, hne⟩
    · exact .inl he
    · exact absurd rfl hne
    · exact .inr he
theorem putE_get {l : List Ent} (h : Srt l) {s : ByteArray} (hs : getE l s = none) (n : Int) (s' : ByteArray) : getE (putE l s n) s' = if s' = s then some n else getE l s' := by
  have hp := h.put hs n
  by_cases e : s' = s
  · rw [if_pos e, hp.getE_mem, putE_mem, e]
    exact .inl rfl
  · rw [if_neg e]
    cases e2 : getE l s' with
    | some m =>
      rw [hp.getE_mem, putE_mem]
      exact .inr (getE_some e2)
    | none =>
      rw [getE_none]
      intro x hx
      rcases putE_mem.1 hx with rfl | hx
      · exact fun h' => e h'.symm
      · exact getE_none.1 e2 x hx
theorem delE_get {l : List Ent} (h : Srt l) {s : ByteArray} {n : Int} (hn : getE l s = some n) (s' : ByteArray) : getE (delE l s) s' = if s' = s then none else getE l s' := by
  have hp := h.del s
  by_cases e : s' = s
  · rw [if_pos e, getE_none]
    intro x hx
    rw [e]
    exact ((delE_mem h hn).1 hx).2
  · rw [if_neg e]
    cases e2 : getE l s' with
    | some m =>
      rw [hp.getE_mem, delE_mem h hn]
      exact ⟨getE_some e2, e⟩
    | none =>
      rw [getE_none]
      intro x hx
      exact getE_none.1 e2 x ((delE_mem h hn).1 hx).1
end Go.Proofs.YtlngeaacjbdmhaaGreat

namespace Go.Proofs.YtlngeaacjbdmhaaGreat
open Go.RowKit Go.Maps
structure Bse where
  lo : Nat
  K : Nat → Prop
def Bse.ok (B : Bse) (b : Nat) : Prop := B.lo ≤ b ∧ ¬ B.K b
def Bse.inn (B : Bse) (W : World) : Prop := B.lo ≤ W.heap.size ∧ ∀ b, B.K b → b < W.heap.size
theorem Bse.inn.new {B : Bse} {W : World} (h : B.inn W) {b : Nat} (hb : W.heap.size ≤ b) : B.ok b := ⟨Nat.le_trans h.1 hb, fun k => by have := h.2 b k; omega⟩
theorem Bse.inn.mono {B : Bse} {W W' : World} (h : B.inn W) (hs : W.heap.size ≤ W'.heap.size) : B.inn W' := ⟨Nat.le_trans h.1 hs, fun b k => Nat.lt_of_lt_of_le (h.2 b k) hs⟩
structure Nx (base : Bse) (W W' : World) : Prop where
  bel : Below base.lo W W'
  oth : ∀ (b : Nat) (cs : Array Value) (t : TypeId) (f : Nat × Nat), W.heap[b]? = some (.cells cs t f) → t ≠ 202 → t ≠ 261 → W'.heap[b]? = some (.cells cs t f)
  kp : ∀ b, base.K b → W'.heap[b]? = W.heap[b]?
theorem Nx.of_below {base : Bse} {W W' : World} (h : Below W.heap.size W W') (hb : base.inn W) : Nx base W W' :=
  ⟨h.mono hb.1, fun b _ _ _ hb' _ _ => (h.block b (lt_of_heap hb')).trans hb', fun b k => h.block b (hb.2 b k)⟩
theorem Nx.refl {base : Bse} {W : World} (hb : base.inn W) : Nx base W W := .of_below (Below.refl _ _) hb
theorem Nx.trans {base : Bse} {u v w : World} (h : Nx base u v) (g : Nx base v w) : Nx base u w :=
  ⟨h.bel.trans g.bel, fun b cs t f hb h1 h2 => g.oth b cs t f (h.oth b cs t f hb h1 h2) h1 h2, fun b k => (g.kp b k).trans (h.kp b k)⟩
theorem Nx.of_fr {base : Bse} {S : List Nat} {W W' : World} (h : Fr S W W') (hb : base.inn W) (hs : ∀ b ∈ S, base.ok b ∧ ∀ (cs : Array Value) (t : TypeId) (f : Nat × Nat), W.heap[b]? = some (.cells cs t f) → t = 202 ∨ t = 261) : Nx base W W' :=
  ⟨h.base hb.1 fun b hb => (hs b hb).1.1, fun b cs t f hb' h1 h2 => (h.blk b (lt_of_heap hb') fun hS => (((hs b hS).2 cs t f hb').elim h1 h2)).trans hb', fun b k => h.blk b (hb.2 b k) fun hS => (hs b hS).1.2 k⟩
structure PlI (base : Bse) (n : Nat) (W : World) (p : Nat) (s : S) (fb : Nat) (cb mb : Int → Nat) : Prop where
  hp : W.heap[p]? = some (.cells #[I s.left, I s.fs.length, .map (some fb)] 202)
  hf : Mp W fb s.fs.length (fun k => if (s.get k).isSome = true then some (P0 (cb k)) else none)
  hx : ∀ k x, s.get k = some x → Fl W (cb k) (mb k) x
  dc : ∀ j k x y, s.get j = some x → s.get k = some y → j ≠ k → cb j ≠ cb k ∧ mb j ≠ mb k
  df : ∀ k x, s.get k = some x → mb k ≠ fb
  bp : base.ok p ∧ base.ok fb ∧ ∀ k x, s.get k = some x → base.ok (cb k) ∧ base.ok (mb k)
  bs : base.inn W
  tot : s.left + total s.fs = n
  nn : n ≤ 256
def Pl (base : Bse) (n : Nat) (W : World) (p : Nat) (s : S) : Prop := ∃ fb cb mb, PlI base n W p s fb cb mb
section
variable {base : Bse} {n : Nat} {W W' : World} {p : Nat} {s : S} {fb : Nat} {cb mb : Int → Nat}
theorem PlI.cells (h : PlI base n W p s fb cb mb) : W.cell? ⟨p, 0, none⟩ = some (I s.left) ∧ W.cell? ⟨p, 1, none⟩ = some (I s.fs.length) ∧ W.cell? ⟨p, 2, none⟩ = some (.map (some fb)) ∧ ∀ i, W.frozen? ⟨p, i, none⟩ = false :=
  ⟨by rw [cell_of h.hp]; rfl, by rw [cell_of h.hp]; rfl, by rw [cell_of h.hp]; rfl, frozen_of h.hp⟩
theorem map_blk {W : World} {b n : Nat} {f : Int → Option Value} (h : Mp W b n f) {cs : Array Value} {t : TypeId} {z : Nat × Nat} (e : W.heap[b]? = some (.cells cs t z)) : False := by
  obtain ⟨D, ⟨es, k, h1, _⟩, _⟩ := h
  rw [h1] at e
  cases e
theorem PlI.below (h : PlI base n W p s fb cb mb) (g : Below W.heap.size W W') : PlI base n W' p s fb cb mb :=
  ⟨(g.block p (lt_of_heap h.hp)).trans h.hp, h.hf.below g, fun k x hk => (h.hx k x hk).below g, h.dc, h.df, h.bp, h.bs.mono g.size, h.tot, h.nn⟩
theorem Pl.below (h : Pl base n W p s) (g : Below W.heap.size W W') : Pl base n W' p s := let ⟨fb, cb, mb, h⟩ := h; ⟨fb, cb, mb, h.below g⟩
theorem Pl.keep (h : Pl base n W p s) (hs : W.heap.size ≤ W'.heap.size) (hm : ∀ (b : Nat) (es : Array MapEntry) (k : Nat), W.heap[b]? = some (.map es k) → W'.heap[b]? = W.heap[b]?) (hc : ∀ (b : Nat) (cs : Array Value) (t : TypeId) (f : Nat × Nat), W.heap[b]? = some (.cells cs t f) → t = 202 ∨ t = 261 → W'.heap[b]? = W.heap[b]?) : Pl base n W' p s := by
  obtain ⟨fb, cb, mb, h⟩ := h
  have hM : ∀ {b m f}, Mp W b m f → Mp W' b m f := fun {b m f} hm' => hm'.same (by
    obtain ⟨D, ⟨es, k, h1, _⟩, _⟩ := hm'
    exact hm b es k h1)
  exact ⟨fb, cb, mb, (hc _ _ _ _ h.hp (.inl rfl)).trans h.hp, hM h.hf, fun k x hk => ⟨(hc _ _ _ _ (h.hx k x hk).hc (.inr rfl)).trans (h.hx k x hk).hc, hM (h.hx k x hk).hm, (h.hx k x hk).ok⟩, h.dc, h.df, h.bp, h.bs.mono hs, h.tot, h.nn⟩
end
theorem zero54 (w : World) : (zeroValue 258).run Tryz.prog w = .ok (.pointer none) w := (zero_of_info (P := Tryz.prog) (t := 258) (v := .pointer none) (n := 1) (by kernel_rfl)).1 w
theorem PlI.look {base : Bse} {n : Nat} {W : World} {p : Nat} {s : S} {fb : Nat} {cb mb : Int → Nat} (h : PlI base n W p s fb cb mb) {f : Int} (hf : (kl f).wf = true) :
    (Instr.lookup 200 (.map (some fb)) (I f) true).run Tryz.prog W = .ok (.tuple #[(if (s.get f).isSome = true then P0 (cb f) else .pointer none), .bool (s.get f).isSome]) W := by
  have := h.hf.look_ok ht51 (zero54 _) hf
  rw [this]
  cases (s.get f).isSome <;> simp
theorem new_bad (n : Int) (h : n < 0 ∨ 256 < n) (w : World) : Calls Tryz.prog 59 #[I n] w fun e w' => e = .returned (.tuple #[.pointer none, I 1]) ∧ w' = w := by
  by_cases h0 : n < 0
  · go_enter Tryz.func59, Tryz.ntmps59
    go_wp2_with fail
    go_ret2
    exact ⟨rfl, rfl⟩
  · have h1 : 256 < n := by omega
    have h2 : 0 ≤ n := by omega
    go_enter Tryz.func59, Tryz.ntmps59
    go_wp2_with fail
    go_ret2
    exact ⟨rfl, rfl⟩
theorem new_good (n : Nat) (hn : n ≤ 256) (w : World) : Calls Tryz.prog 59 #[I (n : Int)] w fun e w' => ∃ p, e = .returned (.tuple #[P0 p, I 0]) ∧ Pl ⟨w.heap.size, fun _ => False⟩ n w' p ⟨n, []⟩ ∧ Below w.heap.size w w' := by
  have h1 : ¬ (256 : Int) < (n : Int) := by omega
  have h2 : (0 : Int) ≤ (n : Int) := by omega
  have h3 : (n : Int) ≤ 256 := by omega
  have hmm := @run_makeMap Tryz.prog
  go_enter Tryz.func59, Tryz.ntmps59
  go_wp2_with fail
  go_ret2
  refine ⟨w.heap.size + 1, rfl, ?_, ((Below.refl _ w).alloc (Nat.le_refl _) _).alloc (by simp) _⟩
  have hg : ∀ k, (⟨n, []⟩ : S).get k = none := fun k => by simp [S.get]
  have hno : ∀ k x, (⟨n, []⟩ : S).get k = some x → False := fun k x h => by rw [hg] at h; cases h
  refine ⟨w.heap.size, fun _ => 0, fun _ => 0, ⟨?_, ?_, fun k x h => (hno k x h).elim, fun j _ x _ h => (hno j x h).elim, fun k x h => (hno k x h).elim, ⟨⟨by simp, fun h => h⟩, ⟨Nat.le_refl _, fun h => h⟩, fun k x h => (hno k x h).elim⟩, ⟨by simp; omega, fun _ h => h.elim⟩, by simp [total], hn⟩⟩
  · have := heap_alloc_new (w.alloc (Obj.map #[] 0)) (Obj.cells #[I (n : Int), Value.int IntKind.i64 0, Value.map (some w.heap.size)] 202)
    simp only [World.size_alloc] at this
    exact this
  · refine ((Mp.made w).alloc _).congr fun k => ?_
    rw [hg]
    rfl
def sizeO : Option F → Nat
  | none => 0
  | some x => x.size
theorem size_any {base : Bse} {n : Nat} {W : World} {p : Nat} {s : S} (h : Pl base n W p s) {f : Int} (hf : (kl f).wf = true) : Calls Tryz.prog 163 #[P0 p, I f] W fun e w' => e = .returned (I (sizeO (s.get f))) ∧ w' = W := by
  obtain ⟨fb, cb, mb, h⟩ := h
  obtain ⟨c0, c1, c2, cf⟩ := h.cells
  have hl := h.look hf
  cases e : s.get f with
  | none =>
    rw [e] at hl
    simp only [Option.isSome_none, Bool.false_eq_true, if_false] at hl
    clear h
    go_enter Tryz.func163, Tryz.ntmps163
    go_wp2_with fail
    go_ret
    exact ⟨rfl, rfl⟩
  | some x =>
    obtain ⟨k0, k1, kf⟩ := (h.hx f x e).cells
    rw [e] at hl
    simp only [Option.isSome_some, if_true] at hl
    clear h e
    go_enter Tryz.func163, Tryz.ntmps163
    go_wp2_with fail
    go_ret
    exact ⟨rfl, rfl⟩
theorem Pl.rebase {base base' : Bse} {n : Nat} {W W' : World} {p : Nat} {s : S} (h : Pl base n W p s) (g : Below W.heap.size W W') (hl : base'.lo ≤ base.lo) (hk : ∀ b, base'.K b → base.K b ∨ (W.heap.size ≤ b ∧ b < W'.heap.size)) : Pl base' n W' p s := by
  obtain ⟨fb, cb, mb, h⟩ := h
  have ok : ∀ b, b < W.heap.size → base.ok b → base'.ok b := fun b hb h1 => ⟨Nat.le_trans hl h1.1, fun k => (hk b k).elim h1.2 fun h2 => by omega⟩
  have h2 := h.below g
  exact ⟨fb, cb, mb, h2.hp, h2.hf, h2.hx, h2.dc, h2.df, ⟨ok _ (lt_of_heap h.hp) h.bp.1, ok _ h.hf.lt h.bp.2.1, fun k x hk => ⟨ok _ (lt_of_heap (h.hx k x hk).hc) (h.bp.2.2 k x hk).1, ok _ (h.hx k x hk).hm.lt (h.bp.2.2 k x hk).2⟩⟩, ⟨Nat.le_trans hl h2.bs.1, fun b k => (hk b k).elim (h2.bs.2 b) fun h3 => h3.2⟩, h2.tot, h2.nn⟩
end Go.Proofs.YtlngeaacjbdmhaaGreat
