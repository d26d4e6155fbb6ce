/-
  The document's run as its New lays it.
-/
import Derived.Test.YtkgeapmafpeapaaRReg2
namespace Go.Proofs.Ytkgeapmafpeapaa
open Go.RowKit

def RJ.fresh (j : Jb) : RJ := ⟨j, 0, 0, 0, St.zero⟩
theorem fresh_ints (js : List Jb) (f : RJ → Int) (hf : ∀ j, f (RJ.fresh j) = 0) : ((js.map RJ.fresh).map (fun x => Value.int .i64 (f x))).toArray = zcs js.length := by
  unfold zcs
  congr 1
  induction js with
  | nil => rfl
  | cons j js ih => simp only [List.map_cons, List.length_cons, List.replicate_succ, hf, ih]
theorem fresh_sts (js : List Jb) : (rowsOf St.row ((js.map RJ.fresh).map RJ.st)).toArray = scs js.length := by
  unfold scs
  have e : (js.map RJ.fresh).map RJ.st = List.replicate js.length St.zero := by
    induction js with
    | nil => rfl
    | cons j js ih => simp only [List.map_cons, List.length_cons, List.replicate_succ, ih]; rfl
  rw [e]
theorem fresh_jobs (js : List Jb) : (js.map RJ.fresh).map RJ.job = js := by
  induction js with
  | nil => rfl
  | cons j js ih => simp only [List.map_cons, ih]; rfl

theorem Fresh.rsys {w0 W : World} {hh k cp aa ca la sa b c n : Nat} {js : List Jb} {jp : Option Addr} {ws : List Int} {st kk ak ok vk : Int} {dk : Bool} {x1 : Value}
    (F : Fresh w0 hh k js true true true true true true x1 (.slice jp k cp) (.slice (some ⟨aa, 0, none⟩) k k) (.slice (some ⟨ca, 0, none⟩) k k) (.slice (some ⟨la, 0, none⟩) k k) (.slice (some ⟨sa, 0, none⟩) k k) W) (hj3 : JobsAt W jp js) (hj4 : ∀ a : Addr, jp = some a → hh ≤ a.block ∧ ∃ cur, W.heap[a.block]? = some (.cells cur 82))
    (haa : hh ≤ aa) (haa' : W.heap[aa]? = some (.cells (zcs k) 3)) (hca : hh ≤ ca) (hca' : W.heap[ca]? = some (.cells (zcs k) 2)) (hla : hh ≤ la) (hla' : W.heap[la]? = some (.cells (zcs k) 3)) (hsa : hh ≤ sa) (hsa' : W.heap[sa]? = some (.cells (scs k) 50))
    (hm : RMem w0 b c n ws st kk ak ok vk dk) (hh0 : w0.heap.size = hh) (hl : js.length = k) (k8 : k ≤ 8) :
    RSys (W.alloc (.cells #[.pointer (some ⟨b, 0, none⟩), .slice jp k cp, .slice (some ⟨aa, 0, none⟩) k k, .slice (some ⟨ca, 0, none⟩) k k, .slice (some ⟨la, 0, none⟩) k k, .slice (some ⟨sa, 0, none⟩) k k] 84)) W.heap.size b c aa ca la sa n jp cp ws st (js.map RJ.fresh) := by
  subst hl
  have lt : ∀ {k : Nat} {o : Obj}, W.heap[k]? = some o → k < W.heap.size := fun e => (Array.getElem?_eq_some_iff.1 e).1
  have hb := hm.blt
  have hc := hm.clt
  have hz := F.size
  have l1 := lt haa'
  have l2 := lt hca'
  have l3 := lt hla'
  have l4 := lt hsa'
  have nt : ∀ {p q : Nat} {cs ds : Array Value} {T U : TypeId}, W.heap[p]? = some (.cells cs T) → W.heap[q]? = some (.cells ds U) → T ≠ U → p ≠ q := by
    intro p q cs ds T U h1 h2 hT e
    subst e
    rw [h1] at h2
    simp at h2
    exact hT h2.2
  have hal : aa ≠ la := by
    intro e
    exact F.ne rfl rfl (by rw [e])
  have hB : Below W.heap.size W (W.alloc (.cells #[.pointer (some ⟨b, 0, none⟩), .slice jp js.length cp, .slice (some ⟨aa, 0, none⟩) js.length js.length, .slice (some ⟨ca, 0, none⟩) js.length js.length, .slice (some ⟨la, 0, none⟩) js.length js.length, .slice (some ⟨sa, 0, none⟩) js.length js.length] 84)) := (Below.refl _ _).alloc (Nat.le_refl _) _
  have hm' : RMem (W.alloc (.cells #[.pointer (some ⟨b, 0, none⟩), .slice jp js.length cp, .slice (some ⟨aa, 0, none⟩) js.length js.length, .slice (some ⟨ca, 0, none⟩) js.length js.length, .slice (some ⟨la, 0, none⟩) js.length js.length, .slice (some ⟨sa, 0, none⟩) js.length js.length] 84)) b c n ws st kk ak ok vk dk :=
    hm.of ((hB.block b (by omega)).trans (F.below.block b (by omega))) ((hB.block c (by omega)).trans (F.below.block c (by omega)))
  refine ⟨⟨_, _, _, _, _, hm'⟩, ?_, ?_, ?_, ?_, ?_, ?_, ?_, ⟨by omega, by omega, by omega, by omega, by omega, by omega⟩, ⟨by omega, by omega, nt haa' hca' (by decide), hal, nt haa' hsa' (by decide)⟩, ⟨by omega, by omega, nt hca' hla' (by decide), nt hca' hsa' (by decide)⟩, ⟨by omega, by omega, nt hla' hsa' (by decide)⟩, ⟨by omega, by omega⟩, by simpa using k8⟩
  · rw [List.length_map]; exact putAll _ _ rfl
  · rw [fresh_jobs]; exact hj3.below hB (Nat.le_refl _)
  · rw [fresh_ints js RJ.pl (fun _ => rfl)]; exact (hB.block _ l1).trans haa'
  · rw [fresh_ints js RJ.cnt (fun _ => rfl)]; exact (hB.block _ l2).trans hca'
  · rw [fresh_ints js RJ.lft (fun _ => rfl)]; exact (hB.block _ l3).trans hla'
  · rw [fresh_sts]; exact (hB.block _ l4).trans hsa'
  · intro a e
    obtain ⟨h1, cur, h2⟩ := hj4 a e
    exact ⟨by omega, by omega, nt h2 haa' (by decide), nt h2 hca' (by decide), nt h2 hla' (by decide), nt h2 hsa' (by decide)⟩
end Go.Proofs.Ytkgeapmafpeapaa
