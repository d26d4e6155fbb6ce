/-
  The law's known.
-/
import Derived.Test.YtcopjhidijhlaaaSK
import Derived.Test.YtcopjhidijhlaaaSRoom
namespace Go.Proofs.Ytcopjhidijhlaaa.Cl
open Go.RowKit
attribute [local go_sem ↓] Go.wp_at_zero Go.wp_at_succ

theorem Ips.row {W : World} {g B : Nat} {ps : List Ip} {t : TypeId} {f : Nat × Nat} (h : W.heap[g]? = some (.cells (ps.flatMap rowI).toArray t f)) (hg : g < B) (hd : ∀ p ∈ ps, Du W B p) : Ips W B (some ⟨g, 0, none⟩) ps := fun k p hk =>
  ⟨g, 0, rfl, hg, fun j v hj => by rw [cell_of h, Nat.zero_add, List.getElem?_toArray]; exact rows_get hk hj, hd p (List.mem_of_getElem? hk)⟩
def kit : List Ip := [(⟨2, 0, 5, cc0⟩, .slice none 0 0), (it0, .slice none 0 0), (it0, .slice none 0 0)]
theorem kdec : decs 1024 [2, 0, 5, 9, 1] = fsts kit := rfl
theorem kdu (W : World) (B : Nat) : ∀ p ∈ kit, Du W B p := by
  intro p hp
  simp only [kit, List.mem_cons, List.not_mem_nil, or_false] at hp
  rcases hp with rfl | rfl | rfl <;> exact ⟨none, 0, rfl, By.nil _ _ _, Nat.le_refl _, by unfold maxLen; omega⟩
set_option maxRecDepth 100000 in
set_option maxHeartbeats 2000000 in
theorem sknown_any (w : World) : Calls Try.prog 12 #[] w fun e w' => e = .returned (.bool true) ∧ Below w.heap.size w w' := by
  obtain ⟨V, hV, hs, g0, hB⟩ := alloc1 w (.cells #[.int .u8 2, .int .u8 0, .int .u8 5, .int .u8 9, .int .u8 1] 5)
  have HD := hide (sdecode_any [2, 0, 5, 9, 1] (some ⟨w.heap.size, 0, none⟩) 5 5 rfl (Nat.le_refl _) (by unfold maxLen; omega) V (By.row (l := [2, 0, 5, 9, 1]) g0 (by omega)))
  have HB := hide hB
  clear hB g0 hs
  go_enter Try.func12, Try.ntmps12
  go_wp2_with fail
  refine (unhide HD).mono ?_
  rintro e W1 ⟨v, ps, rfl, hps, hir, be1⟩
  obtain ⟨va, vc, rfl, hip, -⟩ := hir.form
  have hpl : ps.length = 3 := by
    have := congrArg List.length hps
    rw [kdec] at this
    simpa [kit, fsts] using this
  rw [hpl]
  obtain ⟨W2, hW2, hs2, g2, hB2⟩ := alloc1 W1 (.cells #[I 2, I 0, I 5, I 0, .string ⟨#[]⟩, .string ⟨#[]⟩, I 0, I 0, I 0, I 0, I 0, .slice none 0 0, I 0, I 0, I 0, I 0, .string ⟨#[]⟩, .string ⟨#[]⟩, I 0, I 0, I 0, I 0, I 0, .slice none 0 0, I 0, I 0, I 0, I 0, .string ⟨#[]⟩, .string ⟨#[]⟩, I 0, I 0, I 0, I 0, I 0, .slice none 0 0] 29)
  have HK := hide (items_same ps kit (hps.trans kdec) va (some ⟨W1.heap.size, 0, none⟩) 3 3 vc 3 hpl.symm rfl (by omega) W2 ((hip.below hB2).mono (by omega)) (Ips.row (ps := kit) g2 (by omega) (kdu _ _)))
  have HB2 := hide ((unhide HB).trans ((be1.mono (by have := (unhide HB).size; omega)).trans (hB2.mono (Nat.le_trans (unhide HB).size be1.size))))
  clear HD hps hir be1 hip hpl g2 hB2 hs2 HB
  go_wp2_with fail
  refine (unhide HK).mono ?_
  rintro e W3 ⟨rfl, be3⟩
  have HB3 := hide ((unhide HB2).trans (be3.mono (unhide HB2).size))
  have HD3 := hide (sdecode_any [] none 0 0 rfl (Nat.le_refl _) (by unfold maxLen; omega) W3 (By.nil _ _ _))
  clear be3 HB2 HK
  go_wp2_with fail
  refine (unhide HD3).mono ?_
  rintro e W4 ⟨v, ps, rfl, hps, hir, be4⟩
  have hps0 : ps = [] := by simpa [decs] using hps
  subst hps0
  obtain ⟨va, vc, rfl⟩ := hir.sl
  have HB4 := hide ((unhide HB3).trans (be4.mono (unhide HB3).size))
  clear be4 HB3 HD3 hps hir
  go_wp2_with fail
  go_ret
  exact ⟨rfl, unhide HB4⟩
end Go.Proofs.Ytcopjhidijhlaaa.Cl
