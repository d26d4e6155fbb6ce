/-
  A round of a range over a function that breaks.
-/
import Derived.Test.YtcopjhidijhlaaaRange
namespace Go.Proofs.Ytcopjhidijhlaaa
open Go.RowKit

/-- The statement where a round may break: the record is then done, the jump pending. -/
theorem wpIn_range_brk {F : Fence} {n id : Nat} {P : Program} {g : Operand} {ps : Array Tmp} {assign body : Code} {Q : Exit → Act → World → Prop} {a : Act} {w : World}
    (hro : F.round = none) (h1 : 1 ≤ n) {gf : Nat} {lb : Array Value} (hg : a.eval g = .func (.func gf) #[] lb) (hFg : F.fn gf) (eg : ∀ args w, (callFunc gf args).run P w = .ok (.enter gf args) w)
    (h : ∀ r : Loop, F.fn r.fn → r.state = .ready → r.pending = none → r.tmps = a.tmps → r.params = ps → r.assign = assign → r.body = body →
      CallsIn F (n - 1) P gf (#[.func (.yield (w.heap.size + 1)) #[] #[]] ++ lb) ((w.alloc (.deferred (some []))).alloc (.loop r))
        fun e W2 => (∃ v, e = .returned v) ∧ ((W2.heap[w.heap.size + 1]? = some (.loop r) ∧
          Q .normal { a with defers := { target := .collected w.heap.size, args := #[] } :: a.defers } (W2.putObj (w.heap.size + 1) (.loop { r with state := .exhausted }))) ∨
          ∃ rd : Loop, rd.state = .done ∧ rd.pending = some (.exit id) ∧ W2.heap[w.heap.size + 1]? = some (.loop rd) ∧
          Q (.exit id) { a with defers := { target := .collected w.heap.size, args := #[] } :: a.defers } (W2.putObj (w.heap.size + 1) (.loop { rd with state := .exhausted })))) :
    (Code.rangeFunc g ps assign body).wpIn F n P Q a w := by
  refine wpIn_rangeFunc ?_
  intro fn hfn
  rw [hro]
  obtain ⟨r, hr⟩ : ∃ r : Loop, r = { state := .ready, pending := none, fn, tmps := a.tmps, params := ps, assign, body, defers := w.heap.size } := ⟨_, rfl⟩
  refine ⟨w.heap.size + 1, [{ target := .collected w.heap.size, args := #[] }], (w.alloc (.deferred (some []))).alloc (.loop r), { target := .fn (.func gf) lb, args := #[.func (.yield (w.heap.size + 1)) #[] #[]] },
    (w.alloc (.deferred (some []))).alloc (.loop r), gf, #[.func (.yield (w.heap.size + 1)) #[] #[]] ++ lb, (w.alloc (.deferred (some []))).alloc (.loop r), ?_, ?_, ?_, ?_, fun _ => h1, ?_⟩
  · rw [hr]; exact run_enterLoop_outer _ _ _ _ _
  · simp only [resolve, hg]
    simp [go_sem]
  · intro f' hf'; simp [Target.leads] at hf'; subst hf'; exact hFg
  · simp [invoke, go_sem, eg]
  · refine (h r (by rw [hr]; exact hfn) (by rw [hr]) (by rw [hr]) (by rw [hr]) (by rw [hr]) (by rw [hr]) (by rw [hr])).mono ?_
    rintro e W2 ⟨⟨v, rfl⟩, ⟨hl, hq⟩ | ⟨rd, hd1, hd2, hl, hq⟩⟩
    · have hp : r.pending = none := by rw [hr]
      have he := run_endLoop (P := P) hl (by rw [hr]; simp)
      exact ⟨r.pending, _, he, by rw [hp]; rw [hp] at hq; exact hq⟩
    · have he := run_endLoop (P := P) hl (by rw [hd1]; simp)
      refine ⟨rd.pending, _, he, ?_⟩
      rw [hd2] at hq ⊢
      exact wpIn_exit hq

/-- One call of yield whose body goes on, or breaks. -/
theorem yield_brk {F : Fence} {n id : Nat} {P : Program} {l : Nat} {r : Loop} {args : Array Value} {W : World} {R : Ending → World → Prop} {tm : Array Value} {ps : Array Tmp} {assign body : Code}
    (hF : F.fn r.fn) (hst : r.state = .ready) (hpe : r.pending = none) (htm : r.tmps = tm) (hps : r.params = ps) (has : r.assign = assign) (hbo : r.body = body) (hs : args.size = ps.size) (hl : W.heap[l]? = some (.loop r))
    (h : ∀ rb : Loop, assign.wpIn (F.inRound l) n P (Exit.then (fun a₁ w₁ => w₁.heap[l]? = some (.loop r) ∧
      body.wpIn (F.inRound l) n P (fun e _ w => w.heap[l]? = some (.loop rb) ∧ ((e = .normal ∧ R (.returned (.bool true)) (w.putObj l (.loop r))) ∨ (e = .exit id ∧ R (.returned (.bool false)) (w.putObj l (.loop { rb with state := .done, pending := some (.exit id) }))))) a₁ (w₁.putObj l (.loop rb))) (fun _ _ _ => False))
      { tmps := (ps.zip args).foldl (fun tmps (t, a) => tmps.setIfInBounds t a) tm, defers := [] } W) :
    YieldAt F n P l args W R := by
  subst htm hps has hbo
  refine ⟨r.fn, _, r.assign, r.body, run_yield (P := P) hl hs, roundIn_of_wpIn hF (wpIn_mono (h { r with state := .busy }) ?_)⟩
  intro e a₁ w₁ hq
  cases e with
  | normal =>
    obtain ⟨hl1, hb⟩ := hq
    refine ⟨_, run_beginRound hl1 hst, wpIn_mono hb ?_⟩
    rintro e a w ⟨hl2, ⟨rfl, hR⟩ | ⟨rfl, hR⟩⟩
    · have he := run_endRound (P := P) none hl2
      refine ⟨_, _, he, ?_⟩
      have hrr : ({ state := LoopState.ready, pending := none, fn := r.fn, tmps := r.tmps, params := r.params, assign := r.assign, body := r.body, defers := r.defers } : Loop) = r := by
        cases r; simp at hst hpe; subst hst hpe; rfl
      simpa [hrr] using hR
    · have he := run_endRound (P := P) (some (.exit id)) hl2
      refine ⟨_, _, he, ?_⟩
      simpa using hR
  | ret => exact hq.elim
  | exit _ => exact hq.elim
  | goto t => exact hq.elim
  | panic c => exact hq.elim
  | outgrown => exact hq.elim

end Go.Proofs.Ytcopjhidijhlaaa
