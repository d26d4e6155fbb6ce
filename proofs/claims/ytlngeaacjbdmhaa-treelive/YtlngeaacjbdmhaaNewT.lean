/-
  The contract of New.
-/
import Derived.Test.YtlngeaacjbdmhaaAdd
namespace Go.Proofs.Ytlngeaacjbdmhaa
open Go.RowKit Go.Maps

theorem Tr.new_wk (nodes blocks : Nat) (hn : 1 ≤ nodes ∧ nodes ≤ 64) : Wk 1 (Tr.new nodes blocks) := by
  have hnd : ∀ k x, (Tr.new nodes blocks).nd k = some x → k = 1 ∧ x = ⟨1, 493, 0, 0, 1, 0, 1, [], 0, ⟨#[]⟩⟩ := fun k x h => by
    simp only [Tr.new] at h
    split at h
    · cases h; exact ⟨by assumption, rfl⟩
    · cases h
  refine ⟨fun k x h => ?_, fun k x h => ?_, fun k x h e he => ?_, Nat.le_refl _, fun k x h => ?_, fun k x h e he => ?_, fun k x h => ?_, fun k x h => ?_, fun k x h => ?_, fun k x h => ?_, fun k x h => ?_, by simp [Tr.new], hn.2⟩
  all_goals obtain ⟨rfl, rfl⟩ := hnd k x h
  · exact ⟨by decide, by simp [Tr.new]⟩
  · exact List.Pairwise.nil
  · simp at he
  · exact ⟨by decide, by decide, by decide⟩
  · simp at he
  · decide
  · exact ⟨by decide, by decide, fun _ => rfl⟩
  · decide
  · decide
  · rfl
/-- A tree before its root. -/
def Tr.bare (nodes blocks : Nat) : Tr := ⟨nodes, 0, fun _ => none, ⟨blocks, []⟩⟩
theorem Tr.bare_wk (nodes blocks : Nat) (hn : nodes ≤ 64) : Wk 0 (Tr.bare nodes blocks) := by
  have hno : ∀ k x, (Tr.bare nodes blocks).nd k = some x → False := fun k x h => by simp [Tr.bare] at h
  exact ⟨fun k x h => (hno k x h).elim, fun k x h => (hno k x h).elim, fun k x h => (hno k x h).elim, Nat.le_refl _, fun k x h => (hno k x h).elim, fun k x h => (hno k x h).elim, fun k x h => (hno k x h).elim, fun k x h => (hno k x h).elim, fun k x h => (hno k x h).elim, fun k x h => (hno k x h).elim, fun k x h => (hno k x h).elim, by simp [Tr.bare], hn⟩
set_option maxRecDepth 100000 in
set_option maxHeartbeats 1000000 in
theorem new_good' (nodes blocks : Nat) (hn : 1 ≤ nodes ∧ nodes ≤ 64) (hb : blocks ≤ 256) (w : World) :
    Calls Try.prog 4 #[I (nodes : Int), I (blocks : Int)] w fun e w' => ∃ t, e = .returned (.tuple #[P0 t, I 0]) ∧ Tp w.heap.size blocks w' t (Tr.new nodes blocks) ∧ Below w.heap.size w w' := by
  have HN := hide (new_good blocks hb w)
  have hmm := @run_makeMap Try.prog
  have q1 : ¬ ((nodes : Int) < 1) := by omega
  have q2 : ¬ ((64 : Int) < (nodes : Int)) := by omega
  have HNN := hide hn
  clear hn
  go_enter Try.func4, Try.ntmps4
  go_wp2_with (go_at_call 19; refine (unhide HN).mono ?_; rintro e w1 ⟨p, rfl, hp, hB1⟩; have HP := hide hp; have HB := hide hB1; clear hp hB1)
  obtain ⟨V, hV⟩ : ∃ V, V = (w1.alloc (Obj.map #[] 0)).alloc (Obj.cells #[I (nodes : Int), Value.int IntKind.i64 0, Value.map (some w1.heap.size), P0 p] 57) := ⟨_, rfl⟩
  rw [← hV]
  have hs1 := (unhide HB).size
  have hBV : Below w1.heap.size w1 V := by rw [hV]; exact ((Below.refl _ w1).alloc (Nat.le_refl _) _).alloc (by simp) _
  have hsz : V.heap.size = w1.heap.size + 2 := by rw [hV]; simp
  have ht : V.heap[w1.heap.size + 1]? = some (.cells #[I (nodes : Int), Value.int IntKind.i64 0, Value.map (some w1.heap.size), P0 p] 57) := by
    have := heap_alloc_new (w1.alloc (Obj.map #[] 0)) (Obj.cells #[I (nodes : Int), Value.int IntKind.i64 0, Value.map (some w1.heap.size), P0 p] 57)
    simp only [World.size_alloc] at this
    rw [hV]; exact this
  have hmp : Mp V w1.heap.size 0 (fun _ => none) := by rw [hV]; exact (Mp.made w1).alloc _
  have TV : TrI w.heap.size blocks V (w1.heap.size + 1) (Tr.bare nodes blocks) w1.heap.size p (fun _ => 0) (fun _ => .slice none 0 0) := by
    refine ⟨ht, (hmp.mono (by omega)).congr fun k => rfl, fun k x h => by simp [Tr.bare] at h, fun j k x y h => by simp [Tr.bare] at h, ?_, ⟨by omega, by omega, by omega, fun k x h => by simp [Tr.bare] at h⟩⟩
    exact (unhide HP).rebase hBV (Nat.le_refl _) fun b hb => .inr ⟨by rw [hb]; exact Nat.le_refl _, by rw [hb]; omega⟩
  have HA0 := add_any TV (Tr.bare_wk nodes blocks (unhide HNN).2) (by omega) 0 1 493 0 0 0 0 ⟨#[]⟩ (by decide)
  have HA : Hid (Calls Try.prog 20 #[Value.pointer (some ⟨w1.heap.size + 1, 0, none⟩), Value.agg #[Value.int IntKind.i64 0, Value.int IntKind.i64 1, Value.int IntKind.i64 493, Value.int IntKind.i64 0, Value.int IntKind.i64 0, Value.int IntKind.i64 0, Value.int IntKind.i64 0], Value.string ⟨#[]⟩] V fun e w2 => e = .returned (I 1) ∧ ∃ b, (w2.cell? ⟨w1.heap.size + 1, 2, none⟩ = some (.map (some w1.heap.size)) ∧ (Instr.lookup 55 (.map (some w1.heap.size)) (I 1) false).run Try.prog w2.drew = .ok (P0 b) w2.drew ∧ w2.cell? ⟨b, 4, none⟩ = some (I 0) ∧ w2.cell? ⟨b, 6, none⟩ = some (I 0) ∧ ∀ i, w2.frozen? ⟨b, i, none⟩ = false) ∧ Hid (∀ w3 : World, w3 = ((w2.setCell ⟨b, 4, none⟩ (I 1)).setCell ⟨b, 6, none⟩ (I 1)).drew → Tp w.heap.size blocks w3 (w1.heap.size + 1) (Tr.new nodes blocks) ∧ Below w.heap.size w w3)) := by
    refine HA0.mono ?_
    rintro e w2 ⟨h1, b, T2, X2⟩
    have hnd : ((Tr.bare nodes blocks).add 1 493 0 0 ⟨#[]⟩).nd 1 = some ⟨1, 493, 0, 0, 0, 0, 0, [], 0, ⟨#[]⟩⟩ := by simp [Tr.add, Tr.bare]; decide
    have hb2 := (T2.hn 1 _ hnd).1
    have hlk := (T2.below (below_drew (Below.refl _ w2))).look (n := 1) (wf_of (by omega))
    rw [hnd] at hlk
    simp only [Option.isSome_some, if_true] at hlk
    have hb1 : (if (1 : Int) = ((Tr.bare nodes blocks).made : Int) + 1 then b else 0) = b := rfl
    simp only [hb1] at hb2 hlk
    obtain ⟨-, -, -, -, d4, -, d6, -, -, -, df⟩ := ndcells hb2
    refine ⟨h1, b, ⟨T2.cells.2.2.1, hlk, d4, d6, df⟩, ?_⟩
    rintro w3 rfl
    obtain ⟨T3, X3⟩ := T2.turn (n := 1) (y := ⟨1, 493, 0, 0, 1, 0, 1, [], 0, ⟨#[]⟩⟩) (v := .slice none 0 0) (W' := ((w2.setCell ⟨b, 4, none⟩ (I 1)).setCell ⟨b, 6, none⟩ (I 1)).drew) hnd (by
        simp only [hb1]
        exact (((Fn.refl _ _ _).set 4 _).set 6 _).drew) (by
        simp only [hb1]
        exact (heap_set (heap_set hb2 4 _) 6 _)) ⟨rfl, .inl ⟨rfl, rfl⟩⟩ (.inl rfl)
    have e : ((Tr.bare nodes blocks).add 1 493 0 0 ⟨#[]⟩).set 1 (some ⟨1, 493, 0, 0, 1, 0, 1, [], 0, ⟨#[]⟩⟩) = Tr.new nodes blocks := by
      simp only [Tr.set, Tr.add, Tr.bare, Tr.new]
      congr 1
      funext k
      by_cases hk : k = 1
      · simp [hk]
      · simp [hk]
    rw [← e]
    exact ⟨⟨_, _, _, _, T3⟩, (unhide HB).trans (((hBV.mono hs1)).trans ((X2.trans X3).bel))⟩
  obtain ⟨tb, htb⟩ : ∃ tb, tb = w1.heap.size + 1 := ⟨_, rfl⟩
  obtain ⟨qb, hqb⟩ : ∃ qb, qb = w1.heap.size := ⟨_, rfl⟩
  rw [← htb] at HA ⊢
  rw [← hqb] at HA ⊢
  clear hV TV HA0 hmp ht hsz hBV hs1 htb hqb HP
  refine (unhide HA).mono ?_
  rintro e w2 ⟨rfl, b, ⟨y2, yl, y4, y6, yf⟩, FF⟩
  go_wp2_with fail
  go_region
  go_wp2_with fail
  go_ret2
  exact ⟨tb, rfl, unhide FF _ rfl⟩
theorem new_bad' (nodes blocks : Int) (h : nodes < 1 ∨ 64 < nodes ∨ blocks < 0 ∨ 256 < blocks) (w : World) : Calls Try.prog 4 #[I nodes, I blocks] w fun e w' => e = .returned (.tuple #[.pointer none, I 1]) ∧ Below w.heap.size w w' := by
  by_cases hb : blocks < 0 ∨ 256 < blocks
  · have HN := hide (new_bad blocks hb w)
    clear hb h
    go_enter Try.func4, Try.ntmps4
    go_wp2_with (go_at_call 19; refine (unhide HN).mono ?_; rintro e w1 ⟨rfl, rfl⟩)
    all_goals (go_ret2; exact ⟨rfl, Below.refl _ _⟩)
  · obtain ⟨m, rfl⟩ : ∃ m : Nat, blocks = (m : Int) := ⟨blocks.toNat, by omega⟩
    have HN := hide (new_good m (by omega) w)
    by_cases h1 : nodes < 1
    · clear hb h
      go_enter Try.func4, Try.ntmps4
      go_wp2_with (go_at_call 19; refine (unhide HN).mono ?_; rintro e w1 ⟨p, rfl, hp, hB⟩; have HB := hide hB; clear hp hB)
      all_goals (go_ret2; exact ⟨rfl, unhide HB⟩)
    · have h2 : 64 < nodes := by omega
      have h3 : 1 ≤ nodes := by omega
      clear hb h h1
      go_enter Try.func4, Try.ntmps4
      go_wp2_with (go_at_call 19; refine (unhide HN).mono ?_; rintro e w1 ⟨p, rfl, hp, hB⟩; have HB := hide hB; clear hp hB)
      all_goals (go_ret2; exact ⟨rfl, unhide HB⟩)
end Go.Proofs.Ytlngeaacjbdmhaa
