/-
  The contracts of File and Drop.
-/
import Derived.Test.YtlngeaacjbdmhaaGreatQp02
import Derived.Shelf.LaysM
import Derived.Shelf.Strconv.Clone
import Derived.Shelf.Strings.Search1
import Derived.Shelf.Strings.Prefix
import Derived.Shelf.Strings.Builder1
import Derived.Test.YtlngeaacjbdmhaaGreatProg
import Derived.Deep.Draws
import Derived.Lib.Bytealg
import Derived.Lib.Strings
import Derived.Laws.Strings3
import Derived.Laws.Externs
namespace Go.Proofs.YtlngeaacjbdmhaaGreat
open Go.RowKit Go.Maps
section
variable {base : Bse} {n : Nat} {W W' : World} {p : Nat} {s : S} {fb : Nat} {cb mb : Int → Nat}
theorem PlI.ne (h : PlI base n W p s fb cb mb) {k : Int} {x : F} (hk : s.get k = some x) : cb k ≠ p ∧ mb k ≠ p ∧ fb ≠ p ∧ cb k ≠ fb ∧ cb k ≠ mb k := by
  have hx := h.hx k x hk
  refine ⟨fun e => ?_, fun e => ?_, fun e => ?_, fun e => ?_, fun e => ?_⟩
  · have h1 := hx.hc
    rw [e, h.hp] at h1
    simp at h1
  · exact map_blk hx.hm (by rw [e]; exact h.hp)
  · exact map_blk h.hf (by rw [e]; exact h.hp)
  · exact map_blk h.hf (by rw [← e]; exact hx.hc)
  · exact map_blk hx.hm (by rw [← e]; exact hx.hc)
theorem PlI.fp (h : PlI base n W p s fb cb mb) : fb ≠ p := fun e => map_blk h.hf (by rw [e]; exact h.hp)
theorem PlI.turn (h : PlI base n W p s fb cb mb) {k : Int} {x y : F} {l : Nat} (hk : s.get k = some x) (F : Fr [p, cb k, mb k] W W')
    (hp : W'.heap[p]? = some (.cells #[I (l : Int), I s.fs.length, .map (some fb)] 202)) (hy : Fl W' (cb k) (mb k) y) (ht : l + y.used = s.left + x.used) : PlI base n W' p (s.put k (some y) l) fb cb mb ∧ Nx base W W' := by
  have hne := h.ne hk
  have hg := fun j => S.get_put hk (some y) l j
  obtain ⟨k1, k2⟩ := S.get_at hk
  refine ⟨⟨?_, ?_, ?_, ?_, ?_, ?_, h.bs.mono F.size, ?_, h.nn⟩, .of_fr F h.bs ?_⟩
  · rw [hp]; simp [S.put]
  · have h1 : Mp W' fb s.fs.length _ := h.hf.fr F (by simp [hne.2.2.1, hne.2.2.2.1.symm, (h.df k x hk).symm])
    have : (s.put k (some y) l).fs.length = s.fs.length := by simp [S.put]
    rw [this]
    refine h1.congr fun j => ?_
    rw [hg]
    by_cases e : j = k
    · subst e; simp [hk]
    · simp [e]
  · intro j z hz
    rw [hg] at hz
    by_cases e : j = k
    · subst e
      simp at hz
      subst hz
      exact hy
    · rw [if_neg e] at hz
      have hn2 := h.ne hz
      have hd := h.dc j k z x hz hk e
      refine (h.hx j z hz).fr F ?_ ?_
      · simp only [List.mem_cons, List.not_mem_nil, or_false, not_or]
        refine ⟨hn2.1, hd.1, fun e2 => map_blk (h.hx k x hk).hm (by rw [← e2]; exact (h.hx j z hz).hc)⟩
      · simp only [List.mem_cons, List.not_mem_nil, or_false, not_or]
        refine ⟨hn2.2.1, fun e2 => map_blk (h.hx j z hz).hm (by rw [e2]; exact (h.hx k x hk).hc), hd.2⟩
  · intro i j z v hz hv
    rw [hg] at hz hv
    by_cases e : i = k
    · by_cases e2 : j = k
      · intro h'; exact absurd (e.trans e2.symm) h'
      · rw [if_neg e2] at hv
        subst e
        exact h.dc i j x v hk hv
    · rw [if_neg e] at hz
      by_cases e2 : j = k
      · subst e2
        exact h.dc i j z x hz hk
      · rw [if_neg e2] at hv
        exact h.dc i j z v hz hv
  · intro j z hz
    rw [hg] at hz
    by_cases e : j = k
    · subst e; exact h.df j x hk
    · rw [if_neg e] at hz
      exact h.df j z hz
  · refine ⟨h.bp.1, h.bp.2.1, fun j z hz => ?_⟩
    rw [hg] at hz
    by_cases e : j = k
    · subst e; exact h.bp.2.2 j x hk
    · rw [if_neg e] at hz
      exact h.bp.2.2 j z hz
  · have := total_set s.fs _ _ (some y) k2
    have := h.tot
    simp only [S.put, usedO] at *
    omega
  · intro b hb
    simp only [List.mem_cons, List.not_mem_nil, or_false] at hb
    rcases hb with rfl | rfl | rfl
    · exact ⟨h.bp.1, fun cs t f e => by rw [h.hp] at e; cases e; exact .inl rfl⟩
    · exact ⟨(h.bp.2.2 k x hk).1, fun cs t f e => by rw [(h.hx k x hk).hc] at e; cases e; exact .inr rfl⟩
    · exact ⟨(h.bp.2.2 k x hk).2, fun cs t f e => (map_blk (h.hx k x hk).hm e).elim⟩
end
set_option maxHeartbeats 1000000 in
theorem file_any {base : Bse} {n : Nat} {W : World} {p : Nat} {s : S} (h : Pl base n W p s) (hl : s.fs.length < 1000000) :
    Calls Tryz.prog 120 #[P0 p] W fun e w' => e = .returned (I ((s.fs.length + 1 : Nat) : Int)) ∧ Pl base n w' p s.add ∧ Nx base W w' := by
  obtain ⟨fb, cb, mb, h⟩ := h
  obtain ⟨c0, c1, c2, cf⟩ := h.cells
  have hmm := @run_makeMap Tryz.prog
  obtain ⟨L, hL⟩ : ∃ L : Nat, L = s.fs.length := ⟨_, rfl⟩
  have l1 : (L : Int) < 1000000 := by omega
  rw [← hL] at c1
  have H := hide h
  have HL := hide hL
  clear h
  obtain ⟨w1, hw1⟩ : ∃ w1, w1 = W.setCell ⟨p, 1, none⟩ (I ((L : Int) + 1)) := ⟨_, rfl⟩
  have hp1 : w1.heap[p]? = some (.cells #[I s.left, I ((L : Int) + 1), .map (some fb)] 202) := by rw [hw1, heap_set (unhide H).hp]; rfl
  have F1 : Fr [p] W w1 := by rw [hw1]; exact (Fr.refl _ W).set (by simp) _
  have k1 : w1.cell? ⟨p, 1, none⟩ = some (I ((L : Int) + 1)) := by rw [cell_of hp1]; rfl
  have k2 : w1.cell? ⟨p, 2, none⟩ = some (.map (some fb)) := by rw [cell_of hp1]; rfl
  have hpa : ∀ o o', ((w1.alloc o).alloc o').heap[p]? = some (.cells #[I s.left, I ((L : Int) + 1), .map (some fb)] 202) := fun o o' => by
    rw [Below.heap_alloc _ _ _ (by have := lt_of_heap hp1; simp; omega), Below.heap_alloc _ _ _ (lt_of_heap hp1)]
    exact hp1
  have ka1 : ∀ o o', ((w1.alloc o).alloc o').cell? ⟨p, 1, none⟩ = some (I ((L : Int) + 1)) := fun o o' => by rw [cell_of (hpa o o')]; rfl
  have ka2 : ∀ o o', ((w1.alloc o).alloc o').cell? ⟨p, 2, none⟩ = some (.map (some fb)) := fun o o' => by rw [cell_of (hpa o o')]; rfl
  have hpb : ∀ o, (w1.alloc o).heap[p]? = some (.cells #[I s.left, I ((L : Int) + 1), .map (some fb)] 202) := fun o => by
    rw [Below.heap_alloc _ _ _ (lt_of_heap hp1)]
    exact hp1
  have kb1 : ∀ o, (w1.alloc o).cell? ⟨p, 1, none⟩ = some (I ((L : Int) + 1)) := fun o => by rw [cell_of (hpb o)]; rfl
  have kb2 : ∀ o, (w1.alloc o).cell? ⟨p, 2, none⟩ = some (.map (some fb)) := fun o => by rw [cell_of (hpb o)]; rfl
  have hM := (unhide H).hf.fr F1 (by simpa using (unhide H).fp)
  have hM2 := ((hM.alloc (.map #[] 0)).alloc (.cells #[I 0, .map (some w1.heap.size)] 261)).drew
  obtain ⟨w3, hrun, M3, F3, hs3⟩ := hM2.store ht51 (by rw [← hL]; unfold maxLen; omega) (k := (L : Int) + 1) (wf_of (by omega)) (P0 (w1.heap.size + 1))
  have hp3 : w3.heap[p]? = some (.cells #[I s.left, I ((L : Int) + 1), .map (some fb)] 202) := by
    rw [F3.blk p (by have := lt_of_heap hp1; simp; omega) (by simpa using (unhide H).fp.symm)]
    exact hpa _ _
  have hk3 : w3.cell? ⟨p, 1, none⟩ = some (I ((L : Int) + 1)) := by rw [cell_of hp3]; rfl
  have HM3 := hide M3
  have HF3 := hide F3
  have HF1 := hide F1
  have HP3 := hide hp3
  have HW1 := hide hw1
  have HS3 := hide hs3
  clear M3 F3 F1 hp1 hp3 hM hM2 hs3 hw1 hL hpa hpb
  go_enter Tryz.func120, Tryz.ntmps120
  go_wp2_with fail
  rw [show W.setCell ⟨p, 1, none⟩ (Value.int IntKind.i64 ((L : Int) + 1)) = w1 from (unhide HW1).symm]
  go_region
  go_wp2_with fail
  go_ret
  have hL := unhide HL
  have hh := unhide H
  have F1 := unhide HF1
  have F3 := unhide HF3
  have hb1 := F1.size
  have hfl := hh.hf.lt
  have FT : Fr [p, fb] W w3 := (((F1.mono (by simp)).alloc _).alloc _).drew.trans (F3.mono (by simp))
  refine ⟨by rw [hL]; rfl, ?_, ?_⟩
  · have hg := S.get_add s
    have hpos : ∀ k x, s.get k = some x → k ≠ (s.fs.length : Int) + 1 := fun k x hk e => by have := S.get_lt hk; omega
    refine ⟨fb, fun k => if k = (s.fs.length : Int) + 1 then w1.heap.size + 1 else cb k, fun k => if k = (s.fs.length : Int) + 1 then w1.heap.size else mb k, ?_, ?_, ?_, ?_, ?_, ?_, hh.bs.mono FT.size, ?_, hh.nn⟩
    · rw [unhide HP3, hL]; simp [S.add]
    · have hM := unhide HM3
      have : s.add.fs.length = s.fs.length + 1 := by simp [S.add]
      rw [this]
      refine hM.congr fun k => ?_
      simp only [upd]
      rw [hg, hL]
      by_cases e : k = (s.fs.length : Int) + 1
      · simp [e]
      · simp [e]
    · intro k x hk
      rw [hg] at hk
      by_cases e : k = (s.fs.length : Int) + 1
      · rw [if_pos e] at hk
        cases hk
        simp only [if_pos e]
        refine ⟨?_, ?_, F.empty_ok⟩
        · rw [F3.blk _ (by simp) (by simp; omega)]
          have := heap_alloc_new (w1.alloc (.map #[] 0)) (.cells #[I 0, .map (some w1.heap.size)] 261)
          simp only [World.size_alloc] at this
          exact this
        · refine (((((Mp.made w1).alloc _).drew).fr F3 (by simp; omega)).mono (by omega)).congr fun k => ?_
          simp [bk, F.empty]
      · rw [if_neg e] at hk
        simp only [if_neg e]
        have hn := hh.ne hk
        exact (hh.hx k x hk).fr FT (by simp [hn.1, hn.2.2.2.1]) (by simp [hn.2.1, hh.df k x hk])
    · intro i j z v hz hv hij
      rw [hg] at hz hv
      by_cases e : i = (s.fs.length : Int) + 1
      · by_cases e2 : j = (s.fs.length : Int) + 1
        · exact absurd (e.trans e2.symm) hij
        · rw [if_neg e2] at hv
          have h1 := lt_of_heap (hh.hx j v hv).hc
          have h2 := (hh.hx j v hv).hm.lt
          simp only [if_pos e, if_neg e2]
          omega
      · rw [if_neg e] at hz
        by_cases e2 : j = (s.fs.length : Int) + 1
        · have h1 := lt_of_heap (hh.hx i z hz).hc
          have h2 := (hh.hx i z hz).hm.lt
          simp only [if_neg e, if_pos e2]
          omega
        · rw [if_neg e2] at hv
          simp only [if_neg e, if_neg e2]
          exact hh.dc i j z v hz hv hij
    · intro k x hk
      rw [hg] at hk
      by_cases e : k = (s.fs.length : Int) + 1
      · simp only [if_pos e]
        omega
      · rw [if_neg e] at hk
        simp only [if_neg e]
        exact hh.df k x hk
    · refine ⟨hh.bp.1, hh.bp.2.1, fun k x hk => ?_⟩
      have := hh.bs
      rw [hg] at hk
      by_cases e : k = (s.fs.length : Int) + 1
      · simp only [if_pos e]
        exact ⟨this.new (by omega), this.new (by omega)⟩
      · rw [if_neg e] at hk
        simp only [if_neg e]
        exact hh.bp.2.2 k x hk
    · have h0 : usedO (some F.empty) = 0 := cnt_none fun k _ => rfl
      have := hh.tot
      simp only [S.add]
      rw [total_append, h0]
      omega
  · refine .of_fr FT hh.bs fun b hb => ?_
    simp only [List.mem_cons, List.not_mem_nil, or_false] at hb
    rcases hb with rfl | rfl
    · exact ⟨hh.bp.1, fun cs t f e => by rw [hh.hp] at e; cases e; exact .inl rfl⟩
    · exact ⟨hh.bp.2.1, fun cs t f e => (map_blk hh.hf e).elim⟩
end Go.Proofs.YtlngeaacjbdmhaaGreat

namespace Go.Proofs.YtlngeaacjbdmhaaGreat
open Go.RowKit Go.Maps
def dropE (s : S) (f : Int) : Int := match s.get f with | none => 1 | some _ => 0
def dropS (s : S) (f : Int) : S := match s.get f with | none => s | some x => s.put f none (s.left + x.used)
def readE (o : Option F) (a n : Int) : Int := match o with | none => 1 | some _ => if a < 0 ∨ n < 0 then 39 else 0
def readM (o : Option F) (a n : Int) : Nat := match o with | none => 0 | some x => if a < 0 ∨ n < 0 then 0 else min n.toNat (x.size - a.toNat)
def byteO (o : Option F) : Nat → Int := match o with | none => fun _ => 0 | some x => x.byte
def writeE (s : S) (f a : Int) (n : Nat) : Int := match s.get f with | none => 1 | some x => if a < 0 then 39 else if n = 0 then 0 else if 1024 < a + n then 42 else if s.left < x.lacks a.toNat n then 43 else 0
def writeS (s : S) (f a : Int) (n : Nat) (g : Nat → Int) : S := match s.get f with | none => s | some x => if a < 0 then s else if n = 0 then s else if 1024 < a + n then s else if s.left < x.lacks a.toNat n then s else s.put f (some (x.write a.toNat n g)) (s.left - x.lacks a.toNat n)
def cutE (o : Option F) (z : Int) : Int := match o with | none => 1 | some _ => if z < 0 then 39 else if 1024 < z then 42 else 0
def cutS (s : S) (f z : Int) : S := match s.get f with | none => s | some x => if z < 0 then s else if 1024 < z then s else s.put f (some (x.cut z.toNat)) (s.left + (x.used - (x.cut z.toNat).used))
def Sl (lo : Nat) (W : World) (v : Value) (f : Nat → Int) (a m : Nat) : Prop := (m = 0 ∧ v = .slice none 0 0) ∨ ∃ g, lo ≤ g ∧ v = .slice (some ⟨g, 0, none⟩) m m ∧ W.heap[g]? = some (.cells (lst f a m).toArray 5)
def In (W : World) (a : Option Addr) (n cap : Nat) (g : Nat → Int) : Prop := 0 < n → ∃ sb so, a = some ⟨sb, so, none⟩ ∧ Bs W sb so n g ∧ n ≤ cap
set_option maxHeartbeats 1000000 in
theorem drop_any {base : Bse} {n : Nat} {W : World} {p : Nat} {s : S} (h : Pl base n W p s) {f : Int} (hf : (kl f).wf = true) :
    Calls Tryz.prog 215 #[P0 p, I f] W fun e w' => e = .returned (I (dropE s f)) ∧ Pl base n w' p (dropS s f) ∧ Nx base W w' := by
  have h' := h
  obtain ⟨fb, cb, mb, h⟩ := h
  obtain ⟨c0, c1, c2, cf⟩ := h.cells
  have hl := h.look hf
  cases e : s.get f with
  | none =>
    rw [e] at hl
    simp only [Option.isSome_none, Bool.false_eq_true, if_false] at hl
    have hb := h.bs
    simp only [dropE, dropS, e]
    replace h' := hide h'
    clear h
    go_enter Tryz.func215, Tryz.ntmps215
    go_wp2_with fail
    go_ret
    exact ⟨rfl, unhide h', Nx.refl hb⟩
  | some x =>
    have hx := h.hx f x e
    obtain ⟨k0, k1, kf⟩ := hx.cells
    have hlen := fun ty => hx.hm.len ht55 (n := 64) (by omega) (bk_sup hx.ok.sup) ty
    rw [bk_cnt] at hlen
    rw [e] at hl
    simp only [Option.isSome_some, if_true] at hl
    simp only [dropE, dropS, e]
    have hlen2 : ∀ ty, (Builtin.len_ #[259] ty #[.map (some (mb f))]).run Tryz.prog W.drew = .ok (I (cnt 64 x.has)) W.drew := fun ty => (hx.hm.drew).len ht55 (n := 64) (by omega) (bk_sup hx.ok.sup) ty |>.trans (by rw [bk_cnt])
    obtain ⟨l, hll⟩ : ∃ l : Nat, l = s.left := ⟨_, rfl⟩
    obtain ⟨u, hu⟩ : ∃ u : Nat, u = cnt 64 x.has := ⟨_, rfl⟩
    rw [← hll] at c0
    rw [← hu] at hlen2
    have t0 := h.tot
    have t1 := h.nn
    have t2 : u ≤ 64 := by rw [hu]; exact cnt_le _ _
    have l1 : (l : Int) ≤ 256 := by omega
    have u1 : (u : Int) ≤ 64 := by omega
    have hne := h.ne e
    have hnc := hne.1
    have hp := h.hp
    obtain ⟨w1, hw1⟩ : ∃ w1, w1 = (W.setCell ⟨p, 0, none⟩ (I ((l : Int) + (u : Int)))).drew := ⟨_, rfl⟩
    have hp1 : w1.heap[p]? = some (.cells #[I ((l : Int) + (u : Int)), I s.fs.length, .map (some fb)] 202) := by
      have := heap_set hp 0 (I ((l : Int) + (u : Int)))
      rw [hw1]; exact this
    have F1 : Fr [p, fb] W w1 := by rw [hw1]; exact ((Fr.refl _ W).set (by simp) _).drew
    have M1 : Mp w1 fb s.fs.length _ := h.hf.same (by rw [hw1]; exact Below.heap_setCell _ _ _ _ (by exact hne.2.2.1))
    obtain ⟨w2, hrun, M2, F2, hs2⟩ := M1.drop ht51 hf 0
    have hrun2 : ∀ ty, (Builtin.delete_ #[200, 3] ty #[.map (some fb), I f]).run Tryz.prog w1 = .ok (.tuple #[]) w2 := by
      intro ty
      rw [← hrun]
      rfl
    have q2 : w1.cell? ⟨p, 2, none⟩ = some (.map (some fb)) := by rw [cell_of hp1]; rfl
    have H := hide h
    have HW1 := hide hw1
    have HM2 := hide M2
    have HF2 := hide F2
    have HF1 := hide F1
    have HP1 := hide hp1
    have HU := hide hu
    have HLL := hide hll
    have HX := hide hx
    have HE := hide e
    clear h h' hlen hx hw1 M1 M2 F2 F1 hp1 hs2 hrun hu hll hp e hne
    go_enter Tryz.func215, Tryz.ntmps215
    go_wp2_with fail
    go_region
    rw [show (W.setCell ⟨p, 0, none⟩ (Value.int IntKind.i64 ((l : Int) + (u : Int)))).drew = w1 from (unhide HW1).symm]
    go_wp2_with fail
    go_ret
    have hh := unhide H
    have e := unhide HE
    have FF : Fr [p, fb] W w2 := (unhide HF1).trans ((unhide HF2).mono (by simp))
    have hg := fun j => S.get_put e none (s.left + x.used) j
    have hno : ∀ j y, (s.put f none (s.left + x.used)).get j = some y → j ≠ f ∧ s.get j = some y := fun j y hy => by
      rw [hg] at hy
      by_cases e2 : j = f
      · rw [if_pos e2] at hy; cases hy
      · rw [if_neg e2] at hy; exact ⟨e2, hy⟩
    obtain ⟨k1, k2⟩ := S.get_at e
    have hlen : (s.put f none (s.left + x.used)).fs.length = s.fs.length := by simp [S.put]
    refine ⟨rfl, ⟨fb, cb, mb, ?_, ?_, ?_, ?_, ?_, ?_, hh.bs.mono FF.size, ?_, hh.nn⟩, .of_fr FF hh.bs ?_⟩
    · rw [(unhide HF2).blk p (lt_of_heap (unhide HP1)) (by simpa using hh.fp.symm), unhide HP1, hlen, unhide HLL, unhide HU]
      simp [S.put, F.used]
    · rw [hlen]
      refine (unhide HM2).congr fun j => ?_
      simp only [upd]
      rw [hg]
      by_cases e2 : j = f
      · simp [e2]
      · simp [e2]
    · intro j y hy
      obtain ⟨h1, h2⟩ := hno j y hy
      have hn := hh.ne h2
      exact (hh.hx j y h2).fr FF (by simp [hn.1, hn.2.2.2.1]) (by simp [hn.2.1, hh.df j y h2])
    · intro i j y z hy hz
      exact hh.dc i j y z (hno i y hy).2 (hno j z hz).2
    · intro j y hy
      exact hh.df j y (hno j y hy).2
    · exact ⟨hh.bp.1, hh.bp.2.1, fun j y hy => hh.bp.2.2 j y (hno j y hy).2⟩
    · have := total_set s.fs _ _ none k2
      have := hh.tot
      simp only [S.put, usedO] at *
      omega
    · intro b hb
      simp only [List.mem_cons, List.not_mem_nil, or_false] at hb
      rcases hb with rfl | rfl
      · exact ⟨hh.bp.1, fun cs t f e => by rw [hh.hp] at e; cases e; exact .inl rfl⟩
      · exact ⟨hh.bp.2.1, fun cs t f e => (map_blk hh.hf e).elim⟩
end Go.Proofs.YtlngeaacjbdmhaaGreat

namespace Go.Proofs.YtlngeaacjbdmhaaGreat
open Go.RowKit Go.Maps
structure Nd where
  kind : Int
  mode : Int
  uid : Int
  gid : Int
  names : Nat
  holds : Nat
  up : Int
  ins : List Ent
  file : Int
  text : ByteArray
structure Tr where
  most : Nat
  made : Nat
  nd : Int → Option Nd
  pool : S
def Tr.set (T : Tr) (n : Int) (o : Option Nd) : Tr := { T with nd := fun k => if k = n then o else T.nd k }
theorem Tr.set_same (T : Tr) (n : Int) (o : Option Nd) : (T.set n o).nd n = o := by simp [Tr.set]
theorem Tr.set_other (T : Tr) {n k : Int} (o : Option Nd) (h : k ≠ n) : (T.set n o).nd k = T.nd k := by simp [Tr.set, h]
def Tr.dir (T : Tr) (n : Int) : Option Nd := (T.nd n).bind fun x => if x.kind = 1 then some x else none
theorem Tr.dir_some {T : Tr} {n : Int} {x : Nd} : T.dir n = some x ↔ T.nd n = some x ∧ x.kind = 1 := by
  simp only [Tr.dir, Option.bind_eq_some_iff]
  constructor
  · rintro ⟨a, h1, h2⟩
    split at h2
    · cases h2; exact ⟨h1, by assumption⟩
    · cases h2
  · rintro ⟨h1, h2⟩
    exact ⟨x, h1, by simp [h2]⟩
def Tr.kindOf (T : Tr) (n : Int) : Int := match T.nd n with | some x => x.kind | none => 0
def Tr.insOf (T : Tr) (n : Int) : List Ent := match T.nd n with | some x => x.ins | none => []
def Tr.live (T : Tr) : Nat := cnt (T.made + 1) fun k => (T.nd (k : Int)).isSome
def Tr.left (T : Tr) : Int := (T.most : Int) - (T.live : Int)
def Tr.links (T : Tr) (x : Nd) : Nat := if x.kind = 1 ∧ 0 < x.names then 2 + x.ins.countP (fun e => decide (T.kindOf e.2 = 1)) else x.names
def Tr.size (T : Tr) (x : Nd) : Nat := if x.kind = 2 then sizeO (T.pool.get x.file) else if x.kind = 3 then x.text.size else x.ins.length
def Tr.up (T : Tr) (n : Int) : Int := match T.dir n with | none => 0 | some x => if x.names = 0 then n else x.up
def Ab (T : Tr) : Int → List Int → Prop
  | n, [] => T.up n = 0 ∨ T.up n = n
  | n, u :: l => T.up n = u ∧ u ≠ 0 ∧ u ≠ n ∧ Ab T u l
theorem Ab.uniq {T : Tr} : ∀ {l m : List Int} {n : Int}, Ab T n l → Ab T n m → l = m
  | [], [], _, _, _ => rfl
  | [], b :: m, n, h, g => by
    obtain ⟨g1, g2, g3, _⟩ := g
    simp only [Ab] at h
    omega
  | a :: l, [], n, h, g => by
    obtain ⟨g1, g2, g3, _⟩ := h
    simp only [Ab] at g
    omega
  | a :: l, b :: m, n, h, g => by
    obtain ⟨h1, _, _, h4⟩ := h
    obtain ⟨g1, _, _, g4⟩ := g
    obtain rfl : a = b := h1.symm.trans g1
    rw [Ab.uniq h4 g4]
theorem Ab.tail {T : Tr} : ∀ {l : List Int} {n m : Int}, Ab T n l → m ∈ l → ∃ l', Ab T m l' ∧ l'.length < l.length
  | [], _, _, _, h => by simp at h
  | a :: l, n, m, h, hm => by
    obtain ⟨_, _, _, h4⟩ := h
    rcases List.mem_cons.1 hm with rfl | hm
    · exact ⟨l, h4, by simp⟩
    · obtain ⟨l', g1, g2⟩ := Ab.tail h4 hm
      exact ⟨l', g1, by simp; omega⟩
theorem Ab.notin {T : Tr} {l : List Int} {n : Int} (h : Ab T n l) : n ∉ l := fun hm => by
  obtain ⟨l', g1, g2⟩ := h.tail hm
  rw [h.uniq g1] at g2
  omega
def Tr.add (T : Tr) (kind mode uid gid : Int) (text : ByteArray) : Tr :=
  ⟨T.most, T.made + 1, fun k => if k = (T.made : Int) + 1 then some ⟨kind, bits .and .i64 mode 4095, uid, gid, 0, 0, 0, [], if kind = 2 then (T.pool.fs.length : Int) + 1 else 0, text⟩ else T.nd k, if kind = 2 then T.pool.add else T.pool⟩
def Nd.named (x : Nd) (dir : Int) : Nd := { x with names := x.names + 1, up := if x.kind = 1 then dir else x.up }
def Tr.give (T : Tr) (dir : Int) (s : ByteArray) (n : Int) : Tr :=
  match T.nd dir, T.nd n with
  | some d, some x => (T.set dir (some { d with ins := putE d.ins s n })).set n (some (x.named dir))
  | _, _ => T
def Tr.leave (T : Tr) (n : Int) : Tr :=
  match T.nd n with
  | some x => if 0 < x.names ∨ 0 < x.holds then T else { (T.set n none) with pool := dropS T.pool x.file }
  | none => T
def Tr.less (T : Tr) (n : Int) : Tr := match T.nd n with | some x => T.set n (some { x with names := x.names - 1 }) | none => T
def Tr.take (T : Tr) (dir : Int) (s : ByteArray) : Tr :=
  match T.nd dir with
  | some d => match getE d.ins s with
    | some n => (((T.set dir (some { d with ins := delE d.ins s })).less n).leave n)
    | none => T
  | none => T
/-! What the calls answer. -/
def dots (l : List UInt8) : Bool := l == [46] || l == [46, 46]
def right (s : ByteArray) : Bool := !(s.data.toList.isEmpty || decide (255 < s.data.toList.length) || dots s.data.toList) && (!decide ((47 : UInt8) ∈ s.data.toList) && !decide ((0 : UInt8) ∈ s.data.toList))
def fitsB (kind : Int) (text : ByteArray) : Bool := if kind = 1 ∨ kind = 2 then decide (text = ⟨#[]⟩) else decide (kind = 3)
def refusesE (d : Nd) (s : ByteArray) : Int := if (getE d.ins s).isSome = true then 35 else if d.names = 0 then 32 else 0
def Tr.makeE (T : Tr) (dir : Int) (s : ByteArray) (kind : Int) (text : ByteArray) : Int :=
  match T.dir dir with
  | none => 1
  | some d => if right s = true ∧ fitsB kind text = true then (if refusesE d s ≠ 0 then refusesE d s else if kind = 1 ∧ T.links d = 16 then 44 else if T.left = 0 then 43 else 0) else 1
def Tr.make (T : Tr) (dir : Int) (s : ByteArray) (kind mode uid gid : Int) (text : ByteArray) : Tr :=
  if T.makeE dir s kind text = 0 then (T.add kind mode uid gid text).give dir s ((T.made : Int) + 1) else T
def Tr.makeN (T : Tr) (dir : Int) (s : ByteArray) (kind : Int) (text : ByteArray) : Int := if T.makeE dir s kind text = 0 then (T.made : Int) + 1 else 0
def Tr.joinE (T : Tr) (dir : Int) (s : ByteArray) (n : Int) : Int :=
  match T.dir dir, T.nd n with
  | some d, some x => if x.kind ≠ 1 ∧ right s = true then (if refusesE d s ≠ 0 then refusesE d s else if T.links x = 16 then 44 else 0) else 1
  | _, _ => 1
def Tr.join (T : Tr) (dir : Int) (s : ByteArray) (n : Int) : Tr := if T.joinE dir s n = 0 then T.give dir s n else T
def Tr.partE (T : Tr) (dir : Int) (s : ByteArray) : Int :=
  match T.dir dir with
  | none => 1
  | some d => match getE d.ins s with
    | none => 32
    | some n => if 0 < (T.insOf n).length then 47 else 0
def Tr.part (T : Tr) (dir : Int) (s : ByteArray) : Tr := if T.partE dir s = 0 then T.take dir s else T
def Tr.yieldsE (T : Tr) (old : Int) (toDir : Bool) : Int :=
  if toDir = true ∧ T.kindOf old ≠ 1 then 37 else if toDir = false ∧ T.kindOf old = 1 then 38 else if 0 < (T.insOf old).length then 47 else 0
def Tr.moveE (T : Tr) (l : List Int) (dir : Int) (s : ByteArray) (to : Int) (s2 : ByteArray) : Int :=
  match T.dir dir, T.dir to with
  | some f, some i => if right s2 = true then match getE f.ins s with
    | some n => if i.names = 0 then 32 else if T.kindOf n = 1 ∧ (to = n ∨ n ∈ l) then 39 else match getE i.ins s2 with
      | some old => if old = n then 0 else T.yieldsE old (decide (T.kindOf n = 1))
      | none => if T.kindOf n = 1 ∧ dir ≠ to ∧ T.links i = 16 then 44 else 0
    | none => 32
    else 1
  | _, _ => 1
def Tr.move (T : Tr) (l : List Int) (dir : Int) (s : ByteArray) (to : Int) (s2 : ByteArray) : Tr :=
  if T.moveE l dir s to s2 = 0 then
    match getE (T.insOf dir) s with
    | some n => match getE (T.insOf to) s2 with
      | some old => if old = n then T else ((T.take to s2).give to s2 n).take dir s
      | none => (T.give to s2 n).take dir s
    | none => T
  else T
def Tr.holdE (T : Tr) (n : Int) : Int := match T.nd n with | some _ => 0 | none => 1
def Tr.hold (T : Tr) (n : Int) : Tr := match T.nd n with | some x => T.set n (some { x with holds := x.holds + 1 }) | none => T
def Tr.looseE (T : Tr) (n : Int) : Int := match T.nd n with | some x => if x.holds = 0 then 16 else 0 | none => 1
def Tr.loose (T : Tr) (n : Int) : Tr := match T.nd n with | some x => if x.holds = 0 then T else (T.set n (some { x with holds := x.holds - 1 })).leave n | none => T
def Tr.setMode (T : Tr) (n mode : Int) : Tr := match T.nd n with | some x => T.set n (some { x with mode := bits .and .i64 mode 4095 }) | none => T
def Tr.setOwner (T : Tr) (n uid gid : Int) : Tr := match T.nd n with | some x => T.set n (some { x with uid := uid, gid := gid }) | none => T
def Tr.fileOf (T : Tr) (n : Int) : Int := match T.nd n with | some x => x.file | none => 0
def Tr.findN (T : Tr) (dir : Int) (s : ByteArray) : Option Int := (T.dir dir).bind fun d => getE d.ins s
def Tr.textOf (T : Tr) (n : Int) : ByteArray := match T.nd n with | some x => x.text | none => ⟨#[]⟩
def Tr.names (T : Tr) (dir : Int) : List ByteArray := match T.dir dir with | some d => d.ins.map (·.1) | none => []
def Tr.lives (T : Tr) : List Nat := (List.range (T.made + 1)).filter fun k => (T.nd (k : Int)).isSome
def Tr.new (nodes blocks : Nat) : Tr := ⟨nodes, 1, fun k => if k = 1 then some ⟨1, 493, 0, 0, 1, 0, 1, [], 0, ⟨#[]⟩⟩ else none, ⟨blocks, []⟩⟩
end Go.Proofs.YtlngeaacjbdmhaaGreat

namespace Go.Proofs.YtlngeaacjbdmhaaGreat
open Go.Shelf
def Tryz.laysM316_ren : Go.Shelf.Ren := ⟨fun | 316 => 209 | n => n, fun | 9 => 9 | 3 => 3 | 4 => 4 | 37 => 34 | 0 => 0 | 127 => 304 | 5 => 5 | n => n, fun | n => n⟩
theorem Tryz.laysM316 : Go.Proofs.LaysM.n316 Tryz.prog Tryz.laysM316_ren := {
  mixed := by kernel_rfl
  f316 := Tryz.func209.trans (congrArg some (by kernel_rfl))
  t0 := Tryz.underlying0
  a0 := Tryz.isAgg0
  z0 := Tryz.sizeOf0
  v0 := Tryz.zeroValue0
  t3 := Tryz.underlying3
  a3 := Tryz.isAgg3
  z3 := Tryz.sizeOf3
  v3 := Tryz.zeroValue3
  t4 := Tryz.underlying4
  a4 := Tryz.isAgg4
  z4 := Tryz.sizeOf4
  v4 := Tryz.zeroValue4
  t9 := Tryz.underlying9
  a9 := Tryz.isAgg9
  z9 := Tryz.sizeOf9
  v9 := Tryz.zeroValue9
  t37 := Tryz.underlying34
  a37 := Tryz.isAgg34
  z37 := Tryz.sizeOf34
  v37 := Tryz.zeroValue34
  t127 := Tryz.underlying304
  a127 := Tryz.isAgg304
  z127 := Tryz.sizeOf304
  v127 := Tryz.zeroValue304
  t5 := Tryz.underlying5
  a5 := Tryz.isAgg5
  z5 := Tryz.sizeOf5
  v5 := Tryz.zeroValue5
  i0 := by kernel_rfl
  i3 := by kernel_rfl
  i4 := by kernel_rfl
  i5 := by kernel_rfl
  i9 := by kernel_rfl
  i37 := by kernel_rfl
  i127 := by kernel_rfl }
def Tryz.lays217_ren : Go.Shelf.Ren := ⟨fun | 217 => 316 | 266 => 328 | n => n, fun | 9 => 9 | 5 => 5 | 3 => 3 | n => n, fun | n => n⟩
theorem Tryz.lays217 : Go.Proofs.Lays.n217 Tryz.prog Tryz.lays217_ren := {
  mixed := by kernel_rfl
  f217 := Tryz.func316.trans (congrArg some (by kernel_rfl))
  f266 := Tryz.func328.trans (congrArg some (by kernel_rfl))
  t3 := Tryz.underlying3
  a3 := Tryz.isAgg3
  z3 := Tryz.sizeOf3
  v3 := Tryz.zeroValue3
  t5 := Tryz.underlying5
  a5 := Tryz.isAgg5
  z5 := Tryz.sizeOf5
  v5 := Tryz.zeroValue5
  t9 := Tryz.underlying9
  a9 := Tryz.isAgg9
  z9 := Tryz.sizeOf9
  v9 := Tryz.zeroValue9 }
def Tryz.lays169_ren : Go.Shelf.Ren := ⟨fun | 169 => 314 | n => n, fun | 70 => 333 | 9 => 9 | 0 => 0 | 72 => 335 | 37 => 34 | 127 => 304 | 3 => 3 | 5 => 5 | n => n, fun | n => n⟩
theorem Tryz.lays169 : Go.Proofs.Lays.n169 Tryz.prog Tryz.lays169_ren := {
  mixed := by kernel_rfl
  f169 := Tryz.func314.trans (congrArg some (by kernel_rfl))
  t0 := Tryz.underlying0
  a0 := Tryz.isAgg0
  z0 := Tryz.sizeOf0
  v0 := Tryz.zeroValue0
  t3 := Tryz.underlying3
  a3 := Tryz.isAgg3
  z3 := Tryz.sizeOf3
  v3 := Tryz.zeroValue3
  t9 := Tryz.underlying9
  a9 := Tryz.isAgg9
  z9 := Tryz.sizeOf9
  v9 := Tryz.zeroValue9
  t37 := Tryz.underlying34
  a37 := Tryz.isAgg34
  z37 := Tryz.sizeOf34
  v37 := Tryz.zeroValue34
  t70 := Tryz.underlying333
  a70 := Tryz.isAgg333
  z70 := Tryz.sizeOf333
  v70 := Tryz.zeroValue333
  t72 := Tryz.underlying335
  a72 := Tryz.isAgg335
  z72 := Tryz.sizeOf335
  v72 := Tryz.zeroValue335
  t127 := Tryz.underlying304
  a127 := Tryz.isAgg304
  z127 := Tryz.sizeOf304
  v127 := Tryz.zeroValue304 }
def Tryz.lays99_ren : Go.Shelf.Ren := ⟨fun | 99 => 229 | 206 => 287 | n => n, fun | 9 => 9 | 4 => 4 | 3 => 3 | n => n, fun | n => n⟩
theorem Tryz.lays99 : Go.Proofs.Lays.n99 Tryz.prog Tryz.lays99_ren := {
  mixed := by kernel_rfl
  f99 := Tryz.func229.trans (congrArg some (by kernel_rfl))
  f206 := Tryz.func287.trans (congrArg some (by kernel_rfl))
  t3 := Tryz.underlying3
  a3 := Tryz.isAgg3
  z3 := Tryz.sizeOf3
  v3 := Tryz.zeroValue3
  t4 := Tryz.underlying4
  a4 := Tryz.isAgg4
  z4 := Tryz.sizeOf4
  v4 := Tryz.zeroValue4
  t9 := Tryz.underlying9
  a9 := Tryz.isAgg9
  z9 := Tryz.sizeOf9
  v9 := Tryz.zeroValue9 }
def Tryz.lays100_ren : Go.Shelf.Ren := ⟨fun | 100 => 230 | 207 => 288 | n => n, fun | 9 => 9 | 4 => 4 | 3 => 3 | n => n, fun | n => n⟩
theorem Tryz.lays100 : Go.Proofs.Lays.n100 Tryz.prog Tryz.lays100_ren := {
  mixed := by kernel_rfl
  f100 := Tryz.func230.trans (congrArg some (by kernel_rfl))
  f207 := Tryz.func288.trans (congrArg some (by kernel_rfl))
  t3 := Tryz.underlying3
  a3 := Tryz.isAgg3
  z3 := Tryz.sizeOf3
  v3 := Tryz.zeroValue3
  t4 := Tryz.underlying4
  a4 := Tryz.isAgg4
  z4 := Tryz.sizeOf4
  v4 := Tryz.zeroValue4
  t9 := Tryz.underlying9
  a9 := Tryz.isAgg9
  z9 := Tryz.sizeOf9
  v9 := Tryz.zeroValue9 }
open Go.RowKit in
theorem Tryz.stringslite_Clone (s : ByteArray) (w : World) (hlim : s.size ≤ 281474976710656) :
    Calls Tryz.prog 209 #[.string s] w fun e w' => e = .returned (.string s) ∧ Below w.heap.size w w' := Any.stringslite_Clone Tryz.laysM316 s w hlim
open Go.RowKit Go.Lib in
theorem Tryz.stringslite_IndexByte (s : ByteArray) (c : Int) (w : World) :
    Calls Tryz.prog 316 #[.string s, .int .u8 c] w fun e w' => e = .returned (.int .i64 (Lib.indexByte s.data.toList c.toNat.toUInt8)) ∧ w' = w := Any.stringslite_IndexByte Tryz.lays217 s c w
theorem Tryz.Builder_Extra_169 : Builder.Extra Tryz.prog Tryz.lays169_ren := {
  sizeBuilder := by kernel_rfl
  liesBuilder := by kernel_rfl
  t5 := Tryz.underlying5
  a5 := Tryz.isAgg5
  z5 := Tryz.sizeOf5
  v5 := Tryz.zeroValue5
  infoByte := by kernel_rfl
  cellsByte := by kernel_rfl
  sizeByte := by kernel_rfl
  neB5 := by decide }
open Go.RowKit in
theorem Tryz.Builder_String_any (B b : Nat) (l : List UInt8) (w : World) (h : Lib.IsBuilder 335 5 B b (Lib.byteCells l) w) (hBw : B ≤ w.heap.size) :
    Calls Tryz.prog 314 #[.pointer (some ⟨b, 0, none⟩)] w fun e w' => e = .returned (.string ⟨l.toArray⟩) ∧ Below B w w' := Any.Builder_String_any Tryz.lays169 Tryz.Builder_Extra_169 B b l w h hBw
open Go.RowKit Go.Lib in
theorem Tryz.strings_HasPrefix (s p : ByteArray) (w : World) :
    Calls Tryz.prog 229 #[.string s, .string p] w fun e w' => e = .returned (.bool (Lib.hasPrefix s.data.toList p.data.toList)) ∧ w' = w := Any.strings_HasPrefix Tryz.lays99 s p w
open Go.RowKit Go.Lib in
theorem Tryz.strings_HasSuffix (s p : ByteArray) (w : World) (hs : s.size ≤ 9223372036854775807) :
    Calls Tryz.prog 230 #[.string s, .string p] w fun e w' => e = .returned (.bool (Lib.hasSuffix s.data.toList p.data.toList)) ∧ w' = w := Any.strings_HasSuffix Tryz.lays100 s p w hs
end Go.Proofs.YtlngeaacjbdmhaaGreat

namespace Go.Proofs.YtlngeaacjbdmhaaGreat
open Go.RowKit
attribute [local go_sem ↓] Go.wp_at_zero Go.wp_at_succ
abbrev bs (l : List UInt8) : ByteArray := ⟨l.toArray⟩
abbrev Sl' (l : List UInt8) : Value := .string (bs l)
set_option maxRecDepth 100000 in
set_option maxHeartbeats 2000000 in
theorem index_one (s : ByteArray) (c : UInt8) (w : World) :
    Calls Tryz.prog 299 #[.string s, .string ⟨#[c]⟩] w fun e w' => e = .returned (.int .i64 (Lib.indexByte s.data.toList c)) ∧ w' = w := by
  go_enter Tryz.func299, Tryz.ntmps299
  go_wp2_with (go_at_call 316; refine (Tryz.stringslite_IndexByte _ _ _).mono ?_; rintro e w' ⟨rfl, rfl⟩)
  · have h : ([c] == s.toList) = true := by assumption
    go_ret
    refine ⟨?_, rfl⟩
    have e : s.data.toList = [c] := by rw [← Lib.toList_data]; exact (beq_iff_eq.1 h).symm
    rw [e]
    simp [Lib.indexByte]
  · go_ret
    exact ⟨rfl, rfl⟩
set_option maxHeartbeats 1000000 in
theorem index2_one (s : ByteArray) (c : UInt8) (w : World) :
    Calls Tryz.prog 277 #[.string s, .string ⟨#[c]⟩] w fun e w' => e = .returned (.int .i64 (Lib.indexByte s.data.toList c)) ∧ w' = w := by
  go_enter Tryz.func277, Tryz.ntmps277
  go_wp2_with (go_at_call 299; refine (index_one _ _ _).mono ?_; rintro e w' ⟨rfl, rfl⟩)
  go_ret
  exact ⟨rfl, rfl⟩
theorem indexByte_mem (l : List UInt8) (c : UInt8) : (0 ≤ Lib.indexByte l c) ↔ c ∈ l := by
  induction l with
  | nil => simp [Lib.indexByte]
  | cons b r ih =>
    have hg := Lib.indexByte_ge r c
    unfold Lib.indexByte
    by_cases hb : b = c
    · subst hb; simp
    · have hb2 : ¬ c = b := Ne.symm hb
      by_cases h1 : Lib.indexByte r c = -1
      · have : c ∉ r := by rw [← ih]; omega
        simp [hb, h1, hb2, this]
      · have : c ∈ r := by rw [← ih]; omega
        simp [hb, h1, this]; omega
set_option maxHeartbeats 1000000 in
theorem contains_one (s : ByteArray) (c : UInt8) (w : World) :
    Calls Tryz.prog 211 #[.string s, .string ⟨#[c]⟩] w fun e w' => e = .returned (.bool (decide (c ∈ s.data.toList))) ∧ w' = w := by
  go_enter Tryz.func211, Tryz.ntmps211
  go_wp2_with (go_at_call 277; refine (index2_one _ _ _).mono ?_; rintro e w' ⟨rfl, rfl⟩)
  go_ret
  refine ⟨?_, rfl⟩
  have := indexByte_mem s.data.toList c
  simp only [this]
  rfl
set_option maxHeartbeats 1000000 in
theorem dots_l (l : List UInt8) (w : World) : Calls Tryz.prog 210 #[Sl' l] w fun e w' => e = .returned (.bool (dots l)) ∧ w' = w := by
  go_enter Tryz.func210, Tryz.ntmps210
  go_wp2
  all_goals (go_ret; refine ⟨?_, rfl⟩; simp_all [dots])
set_option maxHeartbeats 1000000 in
theorem right_l (l : List UInt8) (w : World) : Calls Tryz.prog 121 #[Sl' l] w fun e w' => e = .returned (.bool (right (bs l))) ∧ w' = w := by
  by_cases hd : dots l = true
  · have hr : right (bs l) = false := by simp [right, hd]
    rw [hr]
    go_enter Tryz.func121, Tryz.ntmps121
    go_wp2_with (first | (go_at_call 211; refine (contains_one _ _ _).mono ?_; rintro e w' ⟨rfl, rfl⟩) | (go_at_call 210; refine (dots_l _ _).mono ?_; rintro e w' ⟨rfl, rfl⟩; rw [hd]))
    all_goals (go_ret; exact ⟨rfl, rfl⟩)
  · replace hd : dots l = false := by simpa using hd
    by_cases h0 : l = []
    · have hr : right (bs l) = false := by simp [right, h0]
      rw [hr]; subst h0
      go_enter Tryz.func121, Tryz.ntmps121
      go_wp2_with fail
      go_ret; exact ⟨rfl, rfl⟩
    · have h1 : l.isEmpty = false := by simpa using h0
      by_cases h2 : 255 < l.length
      · have hr : right (bs l) = false := by simp [right, h2]
        have h3 : (255 : Int) < (l.length : Int) := by omega
        rw [hr]
        go_enter Tryz.func121, Tryz.ntmps121
        go_wp2_with fail
        all_goals (go_ret; refine ⟨?_, rfl⟩; first | rfl | simp_all)
      · have hr : right (bs l) = (!decide ((47 : UInt8) ∈ l) && !decide ((0 : UInt8) ∈ l)) := by simp [right, h2, hd, h1]
        have h3 : ¬ (255 : Int) < (l.length : Int) := by omega
        rw [hr]
        clear hr
        go_enter Tryz.func121, Tryz.ntmps121
        go_wp2_with (first | (go_at_call 211; refine (contains_one _ _ _).mono ?_; rintro e w' ⟨rfl, rfl⟩) | (go_at_call 210; refine (dots_l _ _).mono ?_; rintro e w' ⟨rfl, rfl⟩; rw [hd]))
        all_goals (go_ret; refine ⟨?_, rfl⟩; first | rfl | simp_all)
theorem right_any (s : ByteArray) (w : World) : Calls Tryz.prog 121 #[.string s] w fun e w' => e = .returned (.bool (right s)) ∧ w' = w := right_l s.data.toList w
set_option maxHeartbeats 1000000 in
theorem clone_any (s : ByteArray) (w : World) (hs : s.size ≤ 281474976710656) :
    Calls Tryz.prog 119 #[.string s] w fun e w' => e = .returned (.string s) ∧ Below w.heap.size w w' := by
  go_enter Tryz.func119, Tryz.ntmps119
  go_wp2_with (go_at_call 209; refine (Tryz.stringslite_Clone _ _ hs).mono ?_; rintro e w' ⟨rfl, hB⟩)
  go_ret
  exact ⟨rfl, hB⟩
set_option maxRecDepth 100000 in
set_option maxHeartbeats 1000000 in
theorem compare_any (a b : ByteArray) (w : World) : Calls Tryz.prog 298 #[.string a, .string b] w fun e w' => e = .returned (.int .i64 (cmpS a b)) ∧ w' = w := by
  go_enter Tryz.func298, Tryz.ntmps298
  go_wp2_with fail
  rw [run_callFunc_extern Tryz.func315 (by kernel_rfl) (by kernel_rfl) (by kernel_rfl) (e := Extern.BytealgCompare.compare) (by kernel_rfl), Lib.run_compareString]
  simp only [Result.andThen]
  rw [Oper.upon_value]
  go_wp2_with fail
  go_ret
  exact ⟨rfl, rfl⟩
theorem compare2_any (a b : ByteArray) (w : World) : Calls Tryz.prog 276 #[.string a, .string b] w fun e w' => e = .returned (.int .i64 (cmpS a b)) ∧ w' = w := by
  go_enter Tryz.func276, Tryz.ntmps276
  go_wp2_with (go_at_call 298; refine (compare_any _ _ _).mono ?_; rintro e w' ⟨rfl, rfl⟩)
  go_ret
  exact ⟨rfl, rfl⟩
theorem place1_any (a : ByteArray) (n : Int) (s : ByteArray) (w : World) : Calls Tryz.prog 275 #[.agg #[.string a, .int .i64 n], .string s] w fun e w' => e = .returned (.int .i64 (cmpS a s)) ∧ w' = w.alloc (.cells #[.string a, .int .i64 n] 256) := by
  go_enter Tryz.func275, Tryz.ntmps275
  go_wp2_with (go_at_call 276; refine (compare2_any _ _ _).mono ?_; rintro e w' ⟨rfl, rfl⟩)
  go_ret
  exact ⟨rfl, rfl⟩
set_option maxHeartbeats 1000000 in
theorem fits_any (k : Int) (t : ByteArray) (w : World) : Calls Tryz.prog 122 #[.int .i64 k, .string t] w fun e w' => e = .returned (.bool (fitsB k t)) ∧ w' = w := by
  have ht : t.toList.isEmpty = decide (t = ⟨#[]⟩) := by
    rw [Lib.toList_data]
    by_cases h : t = ⟨#[]⟩
    · subst h; rfl
    · have : ¬ t.data = #[] := fun e => h (bytes_ext (by rw [e]))
      simp [h, this]
  unfold fitsB
  by_cases h1 : k = 1
  · subst h1
    go_enter Tryz.func122, Tryz.ntmps122
    go_wp2_with fail
    all_goals (go_ret; refine ⟨?_, rfl⟩; simp_all)
  · by_cases h2 : k = 2
    · subst h2
      go_enter Tryz.func122, Tryz.ntmps122
      go_wp2_with fail
      all_goals (go_ret; refine ⟨?_, rfl⟩; simp_all)
    · by_cases h3 : k = 3
      · subst h3
        go_enter Tryz.func122, Tryz.ntmps122
        go_wp2_with fail
        all_goals (go_ret; refine ⟨?_, rfl⟩; simp_all)
      · go_enter Tryz.func122, Tryz.ntmps122
        go_wp2_with fail
        all_goals (go_ret; refine ⟨?_, rfl⟩; simp_all)
end Go.Proofs.YtlngeaacjbdmhaaGreat
