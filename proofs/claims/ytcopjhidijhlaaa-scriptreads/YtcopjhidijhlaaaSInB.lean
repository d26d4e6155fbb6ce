/-
  How long bytes that came in are at most.
-/
import Derived.Test.YtcopjhidijhlaaaSIn
import Derived.SizedLaws
namespace Go.Proofs.Ytcopjhidijhlaaa.Cl
open Go.ChangeShapes Go.WideShapes Go.ChangeAt Go.RowKit

/-- The reading of bytes has as many elements. -/
def Rdg {H : Type} (d : DataW H) (l : List UInt8) : Prop := (d = .nil ∧ l = []) ∨ ∃ e s, d = .slice e s ∧ e.length = l.length
/-- Bytes that came in. -/
theorem bytes_of2 {H : Type} {enc : TypeId × Value → H} {w : World} {held : Bool} {fuel : Nat} {v : Value} {x : DataW H × List MemPlace}
    (h : DataW.trod enc Try.prog w 0 (fun _ => true) held fuel 22 [v] = some x) : ∃ (a : Option Addr) (l : List UInt8) (cap : Nat), v = .slice a l.length cap ∧ (By w w.heap.size a l ∧ l.length ≤ cap ∧ cap ≤ maxLen ∧ (a = none → cap = 0)) ∧ Rdg x.1 l := by
  rcases open_ints Try.underlying22 Try.underlying5 cells5 h with ⟨hcs, hx⟩ | ⟨y, l, c, zs, hcs, _, hlc, hcm, hzl, hx, hzc, hwf⟩
  · simp at hcs
    exact ⟨none, [], 0, hcs, ⟨By.nil _ _ _, Nat.le_refl _, Nat.zero_le _, fun _ => rfl⟩, .inl ⟨by rw [hx], rfl⟩⟩
  · simp at hcs
    simp at hzl
    obtain ⟨yb, yo, ys⟩ := y
    have hlen : ((zs.take l).map fun z => UInt8.ofNat z.toNat).length = l := by simp; omega
    refine ⟨_, (zs.take l).map fun z => UInt8.ofNat z.toNat, c, by rw [hlen]; exact hcs, ⟨?_, by rw [hlen]; exact hlc, hcm, fun e => by cases e⟩, .inr ⟨_, _, by rw [hx], by rw [hlen]; simp [lits]; omega⟩⟩
    intro k b hk
    have hkl : k < l := by
      have := (List.getElem?_eq_some_iff.1 hk).1
      omega
    have c0 := hzc 0 (by omega)
    have e0 : (⟨yb, yo, ys⟩ : Addr).add 0 = ⟨yb, yo, ys⟩ := rfl
    rw [e0] at c0
    obtain rfl := spot_none' c0
    have ck := hzc k (by omega)
    rw [addAt] at ck
    refine ⟨yb, yo, rfl, lt_of_cell ck, ?_⟩
    rw [ck]
    have hkz : k < zs.length := by omega
    have hw := u8_of (hwf zs[k] (List.getElem_mem hkz))
    have e1 : zs.getD k 0 = zs[k] := by simp [List.getD, hkz]
    have e2 : b = UInt8.ofNat zs[k].toNat := by
      rw [List.getElem?_map, List.getElem?_take_of_lt hkl, List.getElem?_eq_getElem hkz] at hk
      exact (Option.some.inj hk).symm
    rw [e1, e2, UInt8.toNat_ofNat']
    congr 2
    omega
theorem bytesOf5 : Try.prog.bytesOf 5 = 1 := by kernel_rfl
theorem size_of {H : Type} {ts : List TypeId} {ds : List (DataW H)} (h : (DataW.weightsEach Try.prog ts ds).all (· ≤ reachBytes) = true) (j : Nat) {d : DataW H} {l : List UInt8} (ht : ts[j]? = some 22) (hd : ds[j]? = some d) (f : Rdg d l) : l.length ≤ 140737488351232 := by
  rcases f with ⟨-, rfl⟩ | ⟨e, s, rfl, hl⟩
  · simp
  · have h1 := sized_slice h ht hd Try.underlying22
    rw [bytesOf5] at h1
    have h2 : reachBytes = 140737488351232 := rfl
    omega
end Go.Proofs.Ytcopjhidijhlaaa.Cl
