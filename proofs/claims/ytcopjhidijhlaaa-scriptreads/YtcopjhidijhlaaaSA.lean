/-
  Items in memory; the contracts of zero, Right, and of the document's own.
-/
import Derived.Test.YtcopjhidijhlaaaSP
import Derived.Test.YtcopjhidijhlaaaERight
import Derived.Test.YtcopjhidijhlaaaSSizes
namespace Go.Proofs.Ytcopjhidijhlaaa.Cl
open Go.RowKit
attribute [local go_sem ↓] Go.wp_at_zero Go.wp_at_succ

theorem len0 (l : List UInt8) : ((l.length : Int) == 0) = l.isEmpty := by
  cases l with
  | nil => rfl
  | cons c l => simp; omega
theorem cells12 {W : World} {b : Nat} {x : It} {d : Value} {t : TypeId} {f : Nat × Nat} (h : W.heap[b]? = some (.cells (x.cs d) t f)) :
    W.cell? ⟨b, 0, none⟩ = some (I x.kind) ∧ W.cell? ⟨b, 1, none⟩ = some (I x.thread) ∧ W.cell? ⟨b, 2, none⟩ = some (I x.n) ∧ W.cell? ⟨b, 3, none⟩ = some (I x.c.op) ∧ W.cell? ⟨b, 4, none⟩ = some (S x.c.path) ∧ W.cell? ⟨b, 5, none⟩ = some (S x.c.dst) ∧ W.cell? ⟨b, 6, none⟩ = some (I x.c.fd) ∧ W.cell? ⟨b, 7, none⟩ = some (I x.c.fl) ∧ W.cell? ⟨b, 8, none⟩ = some (I x.c.mo) ∧ W.cell? ⟨b, 9, none⟩ = some (I x.c.n) ∧ W.cell? ⟨b, 10, none⟩ = some (I x.c.m) ∧ W.cell? ⟨b, 11, none⟩ = some d := by
  refine ⟨?_, ?_, ?_, ?_, ?_, ?_, ?_, ?_, ?_, ?_, ?_, ?_⟩
  all_goals (rw [cell_of h]; rfl)
set_option maxRecDepth 100000 in
set_option maxHeartbeats 2000000 in
theorem zero_any (x : Cc) (a : Option Addr) (k cap : Nat) (hk : k = x.data.length) (w : World) :
    Calls Try.prog 22 #[.agg (x.cs (.slice a k cap))] w fun e w' => e = .returned (.bool x.bare) ∧ Below w.heap.size w w' := by
  subst hk
  obtain ⟨V, hV, hs, g0, hB⟩ := alloc1 w (.cells (x.cs (.slice a x.data.length cap)) 27)
  obtain ⟨b0, b1, b2, b3, b4, b5, b6, b7, b8⟩ := cells9 g0
  have HB := hide hB
  clear hB g0 hs
  go_enter Try.func22, Try.ntmps22
  go_wp2_with fail
  all_goals go_ret
  all_goals refine ⟨?_, unhide HB⟩
  all_goals simp [Cc.bare, len0, *]
set_option maxRecDepth 100000 in
set_option maxHeartbeats 2000000 in
theorem bare_any (x : Cc) (a : Option Addr) (k cap : Nat) (hk : k = x.data.length) (w : World) :
    Calls Try.prog 29 #[.agg (x.cs (.slice a k cap))] w fun e w' => e = .returned (.bool x.bare) ∧ Below w.heap.size w w' := by
  subst hk
  obtain ⟨V, hV, hs, g0, hB⟩ := alloc1 w (.cells (x.cs (.slice a x.data.length cap)) 27)
  obtain ⟨b0, b1, b2, b3, b4, b5, b6, b7, b8⟩ := cells9 g0
  have HB := hide hB
  clear hB g0 hs
  go_enter Try.func29, Try.ntmps29
  go_wp2_with fail
  all_goals go_ret
  all_goals refine ⟨?_, unhide HB⟩
  all_goals simp [Cc.bare, len0, *]

theorem It.right_out {x : It} (h : x.thread < 0 ∨ 255 < x.thread ∨ x.n < 0 ∨ 65535 < x.n) : x.right = 1 := by
  unfold It.right
  rw [if_pos h]
theorem It.right_kd {x : It} (h : x.kind < 1 ∨ 3 < x.kind) : x.right = 1 := by
  unfold It.right
  split
  · rfl
  · rw [if_neg (by omega), if_neg (by omega)]
set_option maxRecDepth 100000 in
set_option maxHeartbeats 4000000 in
theorem iright_any (x : It) (a : Option Addr) (k cap : Nat) (hk : k = x.c.data.length) (w : World) :
    Calls Try.prog 10 #[.agg (x.cs (.slice a k cap))] w fun e w' => e = .returned (I x.right) ∧ Below w.heap.size w w' := by
  subst hk
  obtain ⟨V, hV, hs, g0, hB⟩ := alloc1 w (.cells (x.cs (.slice a x.c.data.length cap)) 29)
  obtain ⟨b0, b1, b2, b3, b4, b5, b6, b7, b8, b9, b10, b11⟩ := cells12 g0
  have HB := hide hB
  clear hB g0 hs
  by_cases a0 : x.thread < 0
  · have HR := hide (show x.right = 1 from It.right_out (by omega))
    go_enter Try.func10, Try.ntmps10
    go_wp2_with fail
    go_ret
    exact ⟨by rw [unhide HR]; rfl, unhide HB⟩
  · skip
    by_cases a1 : 255 < x.thread
    · have HR := hide (show x.right = 1 from It.right_out (by omega))
      go_enter Try.func10, Try.ntmps10
      go_wp2_with fail
      go_ret
      exact ⟨by rw [unhide HR]; rfl, unhide HB⟩
    · skip
      by_cases a2 : x.n < 0
      · have HR := hide (show x.right = 1 from It.right_out (by omega))
        go_enter Try.func10, Try.ntmps10
        go_wp2_with fail
        go_ret
        exact ⟨by rw [unhide HR]; rfl, unhide HB⟩
      · skip
        by_cases a3 : 65535 < x.n
        · have HR := hide (show x.right = 1 from It.right_out (by omega))
          go_enter Try.func10, Try.ntmps10
          go_wp2_with fail
          go_ret
          exact ⟨by rw [unhide HR]; rfl, unhide HB⟩
        · skip
          have h1 : ¬ (x.thread < 0 ∨ 255 < x.thread ∨ x.n < 0 ∨ 65535 < x.n) := by omega
          by_cases hk1 : x.kind = 1
          · have hk2 : (x.kind == 1) = true := by simpa using hk1
            by_cases hn : x.n = 0
            · have hn2 : (x.n == 0) = true := by simpa using hn
              have hn3 : (x.n != 0) = false := by simp [hn]
              have HR := hide (show x.right = x.c.right from by unfold It.right; rw [if_neg h1, if_pos hk1, if_pos hn])
              clear hk1 hn h1
              go_enter Try.func10, Try.ntmps10
              go_wp2_with fail
              refine (right_any x.c a _ cap rfl _).mono ?_
              rintro e w' ⟨rfl, be⟩
              have HB2 := hide ((unhide HB).trans (be.mono (unhide HB).size))
              clear be
              go_wp2_with fail
              go_ret
              exact ⟨by rw [unhide HR]; try rfl, unhide HB2⟩
            · have hn2 : (x.n == 0) = false := by simpa using hn
              have hn3 : (x.n != 0) = true := by simpa using hn
              have HR := hide (show x.right = 1 from by unfold It.right; rw [if_neg h1, if_pos hk1, if_neg hn])
              clear hk1 hn h1
              go_enter Try.func10, Try.ntmps10
              go_wp2_with fail
              go_ret
              exact ⟨by rw [unhide HR]; rfl, unhide HB⟩
          · have hk2 : (x.kind == 1) = false := by simpa using hk1
            by_cases h3 : x.kind = 2 ∨ x.kind = 3
            · by_cases ht : x.thread = 0
              · have ht2 : (x.thread == 0) = true := by simpa using ht
                have ht3 : (x.thread != 0) = false := by simp [ht]
                cases hb : x.c.bare with
                | true =>
                  have HR := hide (show x.right = 0 from by unfold It.right; rw [if_neg h1, if_neg hk1, if_pos h3, if_pos (by simp [ht, hb])])
                  clear hk1 h1 ht
                  rcases h3 with h3 | h3
                  · have h4 : (x.kind == 2) = true := by simpa using h3
                    clear h3
                    go_enter Try.func10, Try.ntmps10
                    go_wp2_with fail
                    refine (zero_any x.c a _ cap rfl _).mono ?_
                    rintro e w' ⟨rfl, be⟩
                    rw [hb]
                    have HB2 := hide ((unhide HB).trans (be.mono (unhide HB).size))
                    clear be
                    go_wp2_with fail
                    go_ret
                    exact ⟨by rw [unhide HR]; try rfl, unhide HB2⟩
                  · have h4 : (x.kind == 3) = true := by simpa using h3
                    have h5 : (x.kind == 2) = false := by simp [h3]
                    clear h3
                    go_enter Try.func10, Try.ntmps10
                    go_wp2_with fail
                    refine (zero_any x.c a _ cap rfl _).mono ?_
                    rintro e w' ⟨rfl, be⟩
                    rw [hb]
                    have HB2 := hide ((unhide HB).trans (be.mono (unhide HB).size))
                    clear be
                    go_wp2_with fail
                    go_ret
                    exact ⟨by rw [unhide HR]; try rfl, unhide HB2⟩
                | false =>
                  have HR := hide (show x.right = 1 from by unfold It.right; rw [if_neg h1, if_neg hk1, if_pos h3, if_neg (by simp [ht, hb])])
                  clear hk1 h1 ht
                  rcases h3 with h3 | h3
                  · have h4 : (x.kind == 2) = true := by simpa using h3
                    clear h3
                    go_enter Try.func10, Try.ntmps10
                    go_wp2_with fail
                    refine (zero_any x.c a _ cap rfl _).mono ?_
                    rintro e w' ⟨rfl, be⟩
                    rw [hb]
                    have HB2 := hide ((unhide HB).trans (be.mono (unhide HB).size))
                    clear be
                    go_wp2_with fail
                    go_ret
                    exact ⟨by rw [unhide HR]; try rfl, unhide HB2⟩
                  · have h4 : (x.kind == 3) = true := by simpa using h3
                    have h5 : (x.kind == 2) = false := by simp [h3]
                    clear h3
                    go_enter Try.func10, Try.ntmps10
                    go_wp2_with fail
                    refine (zero_any x.c a _ cap rfl _).mono ?_
                    rintro e w' ⟨rfl, be⟩
                    rw [hb]
                    have HB2 := hide ((unhide HB).trans (be.mono (unhide HB).size))
                    clear be
                    go_wp2_with fail
                    go_ret
                    exact ⟨by rw [unhide HR]; try rfl, unhide HB2⟩
              · have ht2 : (x.thread == 0) = false := by simpa using ht
                have ht3 : (x.thread != 0) = true := by simpa using ht
                have HR := hide (show x.right = 1 from by unfold It.right; rw [if_neg h1, if_neg hk1, if_pos h3, if_neg (by simp [ht])])
                clear hk1 h1 ht
                rcases h3 with h3 | h3
                · have h4 : (x.kind == 2) = true := by simpa using h3
                  clear h3
                  go_enter Try.func10, Try.ntmps10
                  go_wp2_with fail
                  go_ret
                  exact ⟨by rw [unhide HR]; rfl, unhide HB⟩
                · have h4 : (x.kind == 3) = true := by simpa using h3
                  have h5 : (x.kind == 2) = false := by simp [h3]
                  clear h3
                  go_enter Try.func10, Try.ntmps10
                  go_wp2_with fail
                  go_ret
                  exact ⟨by rw [unhide HR]; rfl, unhide HB⟩
            · have h4 : (x.kind == 2) = false := by simp; omega
              have h5 : (x.kind == 3) = false := by simp; omega
              have HR := hide (show x.right = 1 from by unfold It.right; rw [if_neg h1, if_neg hk1, if_neg h3])
              clear hk1 h1 h3
              go_enter Try.func10, Try.ntmps10
              go_wp2_with fail
              go_ret
              exact ⟨by rw [unhide HR]; rfl, unhide HB⟩
set_option maxRecDepth 100000 in
set_option maxHeartbeats 4000000 in
theorem fright_any (x : It) (a : Option Addr) (k cap : Nat) (hk : k = x.c.data.length) (w : World) :
    Calls Try.prog 19 #[.agg (x.cs (.slice a k cap))] w fun e w' => e = .returned (I x.right) ∧ Below w.heap.size w w' := by
  subst hk
  obtain ⟨V, hV, hs, g0, hB⟩ := alloc1 w (.cells (x.cs (.slice a x.c.data.length cap)) 29)
  obtain ⟨b0, b1, b2, b3, b4, b5, b6, b7, b8, b9, b10, b11⟩ := cells12 g0
  have HB := hide hB
  clear hB g0 hs
  by_cases a0 : x.kind < 1
  · have HR := hide (show x.right = 1 from It.right_kd (by omega))
    go_enter Try.func19, Try.ntmps19
    go_wp2_with fail
    go_ret
    exact ⟨by rw [unhide HR]; rfl, unhide HB⟩
  · skip
    by_cases a1 : 3 < x.kind
    · have HR := hide (show x.right = 1 from It.right_kd (by omega))
      go_enter Try.func19, Try.ntmps19
      go_wp2_with fail
      go_ret
      exact ⟨by rw [unhide HR]; rfl, unhide HB⟩
    · skip
      by_cases a2 : x.thread < 0
      · have HR := hide (show x.right = 1 from It.right_out (by omega))
        go_enter Try.func19, Try.ntmps19
        go_wp2_with fail
        go_ret
        exact ⟨by rw [unhide HR]; rfl, unhide HB⟩
      · skip
        by_cases a3 : 255 < x.thread
        · have HR := hide (show x.right = 1 from It.right_out (by omega))
          go_enter Try.func19, Try.ntmps19
          go_wp2_with fail
          go_ret
          exact ⟨by rw [unhide HR]; rfl, unhide HB⟩
        · skip
          by_cases a4 : x.n < 0
          · have HR := hide (show x.right = 1 from It.right_out (by omega))
            go_enter Try.func19, Try.ntmps19
            go_wp2_with fail
            go_ret
            exact ⟨by rw [unhide HR]; rfl, unhide HB⟩
          · skip
            by_cases a5 : 65535 < x.n
            · have HR := hide (show x.right = 1 from It.right_out (by omega))
              go_enter Try.func19, Try.ntmps19
              go_wp2_with fail
              go_ret
              exact ⟨by rw [unhide HR]; rfl, unhide HB⟩
            · skip
              have h1 : ¬ (x.thread < 0 ∨ 255 < x.thread ∨ x.n < 0 ∨ 65535 < x.n) := by omega
              by_cases hk1 : x.kind = 1
              · have hk2 : (x.kind == 1) = true := by simpa using hk1
                by_cases hn : x.n = 0
                · have hn2 : (x.n == 0) = true := by simpa using hn
                  have hn3 : (x.n != 0) = false := by simp [hn]
                  have HR := hide (show x.right = x.c.right from by unfold It.right; rw [if_neg h1, if_pos hk1, if_pos hn])
                  clear hk1 hn h1
                  go_enter Try.func19, Try.ntmps19
                  go_wp2_with fail
                  refine (eright_any x.c a _ cap rfl _).mono ?_
                  rintro e w' ⟨rfl, be⟩
                  have HB2 := hide ((unhide HB).trans (be.mono (unhide HB).size))
                  clear be
                  go_wp2_with fail
                  go_ret
                  exact ⟨by rw [unhide HR]; try rfl, unhide HB2⟩
                · have hn2 : (x.n == 0) = false := by simpa using hn
                  have hn3 : (x.n != 0) = true := by simpa using hn
                  have HR := hide (show x.right = 1 from by unfold It.right; rw [if_neg h1, if_pos hk1, if_neg hn])
                  clear hk1 hn h1
                  go_enter Try.func19, Try.ntmps19
                  go_wp2_with fail
                  go_ret
                  exact ⟨by rw [unhide HR]; rfl, unhide HB⟩
              · have hk2 : (x.kind == 1) = false := by simpa using hk1
                by_cases h3 : x.kind = 2 ∨ x.kind = 3
                · by_cases ht : x.thread = 0
                  · have ht2 : (x.thread == 0) = true := by simpa using ht
                    have ht3 : (x.thread != 0) = false := by simp [ht]
                    cases hb : x.c.bare with
                    | true =>
                      have HR := hide (show x.right = 0 from by unfold It.right; rw [if_neg h1, if_neg hk1, if_pos h3, if_pos (by simp [ht, hb])])
                      clear hk1 h1 h3 ht
                      go_enter Try.func19, Try.ntmps19
                      go_wp2_with fail
                      refine (bare_any x.c a _ cap rfl _).mono ?_
                      rintro e w' ⟨rfl, be⟩
                      rw [hb]
                      have HB2 := hide ((unhide HB).trans (be.mono (unhide HB).size))
                      clear be
                      go_wp2_with fail
                      go_ret
                      exact ⟨by rw [unhide HR]; try rfl, unhide HB2⟩
                    | false =>
                      have HR := hide (show x.right = 1 from by unfold It.right; rw [if_neg h1, if_neg hk1, if_pos h3, if_neg (by simp [ht, hb])])
                      clear hk1 h1 h3 ht
                      go_enter Try.func19, Try.ntmps19
                      go_wp2_with fail
                      refine (bare_any x.c a _ cap rfl _).mono ?_
                      rintro e w' ⟨rfl, be⟩
                      rw [hb]
                      have HB2 := hide ((unhide HB).trans (be.mono (unhide HB).size))
                      clear be
                      go_wp2_with fail
                      go_ret
                      exact ⟨by rw [unhide HR]; try rfl, unhide HB2⟩
                  · have ht2 : (x.thread == 0) = false := by simpa using ht
                    have ht3 : (x.thread != 0) = true := by simpa using ht
                    have HR := hide (show x.right = 1 from by unfold It.right; rw [if_neg h1, if_neg hk1, if_pos h3, if_neg (by simp [ht])])
                    clear hk1 h1 h3 ht
                    go_enter Try.func19, Try.ntmps19
                    go_wp2_with fail
                    go_ret
                    exact ⟨by rw [unhide HR]; rfl, unhide HB⟩
                · omega
end Go.Proofs.Ytcopjhidijhlaaa.Cl
