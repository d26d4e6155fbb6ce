/-
  The contracts of Drop, Read, Write and Cut.
-/
import Derived.Test.YtlngeaacjbdmhaaOps
namespace Go.Proofs.Ytlngeaacjbdmhaa
open Go.RowKit Go.Maps

def dropE (s : S) (f : Int) : Int := match s.get f with | none => 1 | some _ => 0
def dropS (s : S) (f : Int) : S := match s.get f with | none => s | some x => s.put f none (s.left + x.used)
def readE (o : Option F) (a n : Int) : Int := match o with | none => 1 | some _ => if a < 0 ∨ n < 0 then 39 else 0
def readM (o : Option F) (a n : Int) : Nat := match o with | none => 0 | some x => if a < 0 ∨ n < 0 then 0 else min n.toNat (x.size - a.toNat)
def byteO (o : Option F) : Nat → Int := match o with | none => fun _ => 0 | some x => x.byte
def writeE (s : S) (f a : Int) (n : Nat) : Int := match s.get f with | none => 1 | some x => if a < 0 then 39 else if n = 0 then 0 else if 1024 < a + n then 42 else if s.left < x.lacks a.toNat n then 43 else 0
def writeS (s : S) (f a : Int) (n : Nat) (g : Nat → Int) : S := match s.get f with | none => s | some x => if a < 0 then s else if n = 0 then s else if 1024 < a + n then s else if s.left < x.lacks a.toNat n then s else s.put f (some (x.write a.toNat n g)) (s.left - x.lacks a.toNat n)
def cutE (o : Option F) (z : Int) : Int := match o with | none => 1 | some _ => if z < 0 then 39 else if 1024 < z then 42 else 0
def cutS (s : S) (f z : Int) : S := match s.get f with | none => s | some x => if z < 0 then s else if 1024 < z then s else s.put f (some (x.cut z.toNat)) (s.left + (x.used - (x.cut z.toNat).used))
/-- A slice of bytes of its own. -/
def Sl (lo : Nat) (W : World) (v : Value) (f : Nat → Int) (a m : Nat) : Prop := (m = 0 ∧ v = .slice none 0 0) ∨ ∃ g, lo ≤ g ∧ v = .slice (some ⟨g, 0, none⟩) m m ∧ W.heap[g]? = some (.cells (lst f a m).toArray 5)
/-- A slice of bytes that is handed in. -/
def In (W : World) (a : Option Addr) (n cap : Nat) (g : Nat → Int) : Prop := 0 < n → ∃ sb so, a = some ⟨sb, so, none⟩ ∧ Bs W sb so n g ∧ n ≤ cap
set_option maxHeartbeats 1000000 in
theorem drop_any {base : Bse} {n : Nat} {W : World} {p : Nat} {s : S} (h : Pl base n W p s) {f : Int} (hf : (kl f).wf = true) :
    Calls Try.prog 48 #[P0 p, I f] W fun e w' => e = .returned (I (dropE s f)) ∧ Pl base n w' p (dropS s f) ∧ Nx base W w' := by
  have h' := h
  obtain ⟨fb, cb, mb, h⟩ := h
  obtain ⟨c0, c1, c2, cf⟩ := h.cells
  have hl := h.look hf
  cases e : s.get f with
  | none =>
    rw [e] at hl
    simp only [Option.isSome_none, Bool.false_eq_true, if_false] at hl
    have hb := h.bs
    simp only [dropE, dropS, e]
    replace h' := hide h'
    clear h
    go_enter Try.func48, Try.ntmps48
    go_wp2_with fail
    go_ret
    exact ⟨rfl, unhide h', Nx.refl hb⟩
  | some x =>
    have hx := h.hx f x e
    obtain ⟨k0, k1, kf⟩ := hx.cells
    have hlen := fun ty => hx.hm.len ht55 (n := 64) (by omega) (bk_sup hx.ok.sup) ty
    rw [bk_cnt] at hlen
    rw [e] at hl
    simp only [Option.isSome_some, if_true] at hl
    simp only [dropE, dropS, e]
    have hlen2 : ∀ ty, (Builtin.len_ #[97] ty #[.map (some (mb f))]).run Try.prog W.drew = .ok (I (cnt 64 x.has)) W.drew := fun ty => (hx.hm.drew).len ht55 (n := 64) (by omega) (bk_sup hx.ok.sup) ty |>.trans (by rw [bk_cnt])
    obtain ⟨l, hll⟩ : ∃ l : Nat, l = s.left := ⟨_, rfl⟩
    obtain ⟨u, hu⟩ : ∃ u : Nat, u = cnt 64 x.has := ⟨_, rfl⟩
    rw [← hll] at c0
    rw [← hu] at hlen2
    have t0 := h.tot
    have t1 := h.nn
    have t2 : u ≤ 64 := by rw [hu]; exact cnt_le _ _
    have l1 : (l : Int) ≤ 256 := by omega
    have u1 : (u : Int) ≤ 64 := by omega
    have hne := h.ne e
    have hnc := hne.1
    have hp := h.hp
    obtain ⟨w1, hw1⟩ : ∃ w1, w1 = (W.setCell ⟨p, 0, none⟩ (I ((l : Int) + (u : Int)))).drew := ⟨_, rfl⟩
    have hp1 : w1.heap[p]? = some (.cells #[I ((l : Int) + (u : Int)), I s.fs.length, .map (some fb)] 86) := by
      have := heap_set hp 0 (I ((l : Int) + (u : Int)))
      rw [hw1]; exact this
    have F1 : Fr [p, fb] W w1 := by rw [hw1]; exact ((Fr.refl _ W).set (by simp) _).drew
    have M1 : Mp w1 fb s.fs.length _ := h.hf.same (by rw [hw1]; exact Below.heap_setCell _ _ _ _ (by exact hne.2.2.1))
    obtain ⟨w2, hrun, M2, F2, hs2⟩ := M1.drop ht51 hf 0
    have hrun2 : ∀ ty, (Builtin.delete_ #[84, 3] ty #[.map (some fb), I f]).run Try.prog w1 = .ok (.tuple #[]) w2 := by
      intro ty
      rw [← hrun]
      rfl
    have q2 : w1.cell? ⟨p, 2, none⟩ = some (.map (some fb)) := by rw [cell_of hp1]; rfl
    have H := hide h
    have HW1 := hide hw1
    have HM2 := hide M2
    have HF2 := hide F2
    have HF1 := hide F1
    have HP1 := hide hp1
    have HU := hide hu
    have HLL := hide hll
    have HX := hide hx
    have HE := hide e
    clear h h' hlen hx hw1 M1 M2 F2 F1 hp1 hs2 hrun hu hll hp e hne
    go_enter Try.func48, Try.ntmps48
    go_wp2_with fail
    go_region
    rw [show (W.setCell ⟨p, 0, none⟩ (Value.int IntKind.i64 ((l : Int) + (u : Int)))).drew = w1 from (unhide HW1).symm]
    go_wp2_with fail
    go_ret
    have hh := unhide H
    have e := unhide HE
    have FF : Fr [p, fb] W w2 := (unhide HF1).trans ((unhide HF2).mono (by simp))
    have hg := fun j => S.get_put e none (s.left + x.used) j
    have hno : ∀ j y, (s.put f none (s.left + x.used)).get j = some y → j ≠ f ∧ s.get j = some y := fun j y hy => by
      rw [hg] at hy
      by_cases e2 : j = f
      · rw [if_pos e2] at hy; cases hy
      · rw [if_neg e2] at hy; exact ⟨e2, hy⟩
    obtain ⟨k1, k2⟩ := S.get_at e
    have hlen : (s.put f none (s.left + x.used)).fs.length = s.fs.length := by simp [S.put]
    refine ⟨rfl, ⟨fb, cb, mb, ?_, ?_, ?_, ?_, ?_, ?_, hh.bs.mono FF.size, ?_, hh.nn⟩, .of_fr FF hh.bs ?_⟩
    · rw [(unhide HF2).blk p (lt_of_heap (unhide HP1)) (by simpa using hh.fp.symm), unhide HP1, hlen, unhide HLL, unhide HU]
      simp [S.put, F.used]
    · rw [hlen]
      refine (unhide HM2).congr fun j => ?_
      simp only [upd]
      rw [hg]
      by_cases e2 : j = f
      · simp [e2]
      · simp [e2]
    · intro j y hy
      obtain ⟨h1, h2⟩ := hno j y hy
      have hn := hh.ne h2
      exact (hh.hx j y h2).fr FF (by simp [hn.1, hn.2.2.2.1]) (by simp [hn.2.1, hh.df j y h2])
    · intro i j y z hy hz
      exact hh.dc i j y z (hno i y hy).2 (hno j z hz).2
    · intro j y hy
      exact hh.df j y (hno j y hy).2
    · exact ⟨hh.bp.1, hh.bp.2.1, fun j y hy => hh.bp.2.2 j y (hno j y hy).2⟩
    · have := total_set s.fs _ _ none k2
      have := hh.tot
      simp only [S.put, usedO] at *
      omega
    · intro b hb
      simp only [List.mem_cons, List.not_mem_nil, or_false] at hb
      rcases hb with rfl | rfl
      · exact ⟨hh.bp.1, fun cs t f e => by rw [hh.hp] at e; cases e; exact .inl rfl⟩
      · exact ⟨hh.bp.2.1, fun cs t f e => (map_blk hh.hf e).elim⟩
end Go.Proofs.Ytlngeaacjbdmhaa
