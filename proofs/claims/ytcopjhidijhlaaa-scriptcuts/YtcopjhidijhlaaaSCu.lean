/-
  ScriptCuts' walk.
-/
import Derived.Test.YtcopjhidijhlaaaSM
import Derived.Test.YtcopjhidijhlaaaSQ
import Derived.Test.YtcopjhidijhlaaaSReadA
import Derived.Deep.RegionWith
namespace Go.Proofs.Ytcopjhidijhlaaa.Cl
open Go.RowKit
attribute [local go_sem ↓] Go.wp_at_zero Go.wp_at_succ

/-- What a cut leaves of a script: j items of its own, and at most one that is none. -/
theorem cut_at {L : List It} {ts : List Ip} {k : Nat} (hL : ∀ x ∈ L, x.right = 0) (hl : L.length ≤ 20) (hk : k ≤ (encs L).length) (ht : fsts ts = decs 1024 ((encs L).take k)) :
    ∃ j, j ≤ L.length ∧ fsts (ts.take j) = L.take j ∧ (k = (encs L).length → j = L.length) ∧ ((ts.length = 0 ∧ j = 0) ∨ (∃ q p, ts.length = q + 1 ∧ ts[q]? = some p ∧ ((p.1.kind ≠ 0 ∧ j = q + 1) ∨ (p.1.kind = 0 ∧ j = q)))) := by
  obtain ⟨j, h1, h2, h3⟩ := cut_dec L 1024 k hL (by omega) hk
  have hmap : ∀ i, fsts (ts.take i) = (fsts ts).take i := fun i => List.map_take
  have hlen : (fsts ts).length = ts.length := by simp
  rcases h2 with h2 | h2
  · rw [h2] at ht
    have hj : ts.length = j := by
      rw [← hlen, ht, List.length_take]
      omega
    refine ⟨j, h1, by rw [hmap, ht, List.take_take, Nat.min_self], h3, ?_⟩
    cases j with
    | zero => exact .inl ⟨hj, rfl⟩
    | succ q =>
      obtain ⟨p, hp⟩ : ∃ p, ts[q]? = some p := ⟨_, List.getElem?_eq_getElem (by omega)⟩
      refine .inr ⟨q, p, hj, hp, .inl ⟨right_kind (hL p.1 ?_), rfl⟩⟩
      have hf := fsts_get hp
      rw [ht] at hf
      exact List.mem_of_mem_take (List.mem_of_getElem? hf)
  · rw [h2] at ht
    have hj : ts.length = j + 1 := by
      rw [← hlen, ht, List.length_append, List.length_take]
      simp
      omega
    have hlj : (L.take j).length = j := by rw [List.length_take]; omega
    refine ⟨j, h1, by rw [hmap, ht, List.take_left' hlj], h3, ?_⟩
    obtain ⟨p, hp⟩ : ∃ p, ts[j]? = some p := ⟨_, List.getElem?_eq_getElem (by omega)⟩
    refine .inr ⟨j, p, hj, hp, .inr ⟨?_, rfl⟩⟩
    have hf := fsts_get hp
    rw [ht, List.getElem?_append_right (by omega), hlj, Nat.sub_self] at hf
    simp at hf
    rw [← hf]
    rfl
set_option maxRecDepth 100000 in
set_option maxHeartbeats 2000000 in
theorem scuts_walk (ps : List Ip) (a : Option Addr) (n cap : Nat) (cut : Int) (w : World) (hn : n = ps.length) (hc : n ≤ cap) (hm : cap ≤ maxLen) (hI : Ips w w.heap.size a ps) :
    Calls Try.prog 7 #[.slice a n cap, I cut] w fun e w' => e = .returned (.bool true) ∧ Below w.heap.size w w' := by
  have q1 : (n : Int) ≤ (cap : Int) := by omega
  have q2 : (cap : Int) ≤ 9223372036854775807 := by unfold maxLen at hm; omega
  obtain ⟨m, qs0, hm0, hq0, hI0, hmc, hcase⟩ : ∃ (m : Nat) (qs0 : List Ip), m = qs0.length ∧ m ≤ 20 ∧ Ips w w.heap.size a qs0 ∧ m ≤ cap ∧ ((20 < n ∧ m = 20) ∨ (¬ 20 < n ∧ m = n)) := by
    by_cases h20 : 20 < n
    · exact ⟨20, ps.take 20, by rw [List.length_take]; omega, Nat.le_refl _, hI.take 20, by omega, .inl ⟨h20, rfl⟩⟩
    · exact ⟨n, ps, hn, by omega, hI, hc, .inr ⟨h20, rfl⟩⟩
  have HI := hide hI0
  have HM := hide (⟨hm0, hq0, hmc⟩ : _ ∧ _ ∧ _)
  clear hn hI hm0 hq0 hI0 hc hm hmc
  go_enter Try.func7, Try.ntmps7
  go_upto_if 12 with fail
  go_cut [0] from 13 to 14 (fun v wc => v = .slice a m cap ∧ w = wc)
  case first =>
    rcases hcase with ⟨h40, rfl⟩ | ⟨h40, rfl⟩
    · have j40 : (20 : Int) < (n : Int) := by omega
      have j41 : (20 : Int) ≤ (cap : Int) := by omega
      go_wp2_with fail
      go_meet
      case rel => exact ⟨rfl, rfl⟩
    · have j40 : ¬ (20 : Int) < (m : Int) := by omega
      go_wp2_with fail
      go_meet
      case rel => exact ⟨rfl, rfl⟩
  case rest =>
  obtain ⟨rfl, rfl⟩ := hcut
  clear hcase q1
  have HE := hide (sencode_any qs0 a m cap (unhide HM).1 w (unhide HI))
  obtain ⟨L, hL⟩ : ∃ L, fsts qs0 = L := ⟨_, rfl⟩
  rw [hL] at HE
  have HLL := hide hL
  clear hL
  by_cases hz : encR L = 0
  · have hz2 := hz
    rw [hz, eb_yes hz] at HE
    unfold encR at hz2
    have hl0 : L.length = m := by rw [← unhide HLL]; simp; exact (unhide HM).1.symm
    have hm20 := (unhide HM).2.1
    rw [if_neg (by omega)] at hz2
    have HLR := hide (⟨whys_ok hz2, hl0⟩ : _ ∧ _)
    have hel := encs_len (whys_ok hz2)
    clear hz hz2 hl0
    go_wp2_with fail
    refine (unhide HE).mono ?_
    rintro e W2 ⟨v2, rfl, r2, be2⟩
    obtain ⟨ba, bcap, rfl, hbb, hbl, hbm, hbn⟩ := bwForm5 r2
    obtain ⟨el, hel2⟩ : ∃ el, (encs L).length = el := ⟨_, rfl⟩
    have hel3 : el ≤ 300000 := by have := (unhide HLR).2; omega
    have hbl2 : (el : Int) ≤ (bcap : Int) := by omega
    have hbm2 : (bcap : Int) ≤ 9223372036854775807 := by unfold maxLen at hbm; omega
    have HR2 := hide (⟨hbb, hbl, hbm, hbn⟩ : _ ∧ _ ∧ _ ∧ _)
    have HB2 := hide be2
    rw [hel2]
    have HEL := hide hel2
    clear HE r2 be2 hbb hbl hbm hbn hel hel2
    go_wp2_with fail
    refine (within_any cut (el : Int) W2 (by omega) (by omega)).mono ?_
    rintro e W' ⟨⟨r, hrr, rfl⟩, hW'⟩
    rw [hW']
    clear hW' W'
    have hr0 : (0 : Int) ≤ (r : Int) := by omega
    have hrb : (r : Int) ≤ (bcap : Int) := by omega
    have hrb2 : r ≤ bcap := by omega
    have HD2 := hide (sdecode_any ((encs L).take r) ba r bcap (by rw [List.length_take, unhide HEL]; omega) (by omega) (unhide HR2).2.2.1 W2 ((unhide HR2).1.take r))
    go_wp2_with fail
    refine (unhide HD2).mono ?_
    rintro e W3 ⟨v3, ts, rfl, hts, ht3, be3⟩
    obtain ⟨ta, tc, rfl, hti, htc, htm⟩ := ht3.form
    obtain ⟨j, hj1, hj2, hj3, hj4⟩ := cut_at (unhide HLR).1 (by have := (unhide HLR).2; omega) (by rw [unhide HEL]; omega) hts
    rw [unhide HEL] at hj3
    obtain ⟨z, hz⟩ : ∃ z, ts.length = z := ⟨_, rfl⟩
    rw [hz] at hj4 htc ⊢
    have hz1024 : z ≤ 1024 := by
      have h1 := congrArg List.length hts
      have h2 := (decs_len 1024 ((encs L).take r)).1
      simp at h1
      omega
    have hjm : j ≤ m := by have := (unhide HLR).2; omega
    have hjm2 : (j : Int) ≤ (m : Int) := by omega
    have hjz : z ≤ j + 1 ∧ j ≤ z := by rcases hj4 with ⟨h1, h2⟩ | ⟨q, p, h1, -, ⟨-, h2⟩ | ⟨-, h2⟩⟩ <;> omega
    have HB3 := hide ((unhide HB2).trans (be3.mono (unhide HB2).size))
    have HT := hide (⟨hti, hj2, hj3⟩ : _ ∧ _ ∧ _)
    have HZ := hide hz
    clear HD2 HB2 be3 hts ht3 hj2 hj3 hz hti
    obtain ⟨bb, hbb⟩ : ∃ bb : Bool, (bb = false ∧ j = z ∧ (z = 0 ∨ ∃ q p, z = q + 1 ∧ ts[q]? = some p ∧ p.1.kind ≠ 0)) ∨ (bb = true ∧ j + 1 = z ∧ ∃ q p, z = q + 1 ∧ ts[q]? = some p ∧ p.1.kind = 0) := by
      rcases hj4 with ⟨h1, h2⟩ | ⟨q, p, h1, hp, ⟨hpq, h2⟩ | ⟨hpq, h2⟩⟩
      · exact ⟨false, .inl ⟨rfl, by omega, .inl h1⟩⟩
      · exact ⟨false, .inl ⟨rfl, by omega, .inr ⟨q, p, h1, hp, hpq⟩⟩⟩
      · exact ⟨true, .inr ⟨rfl, by omega, q, p, h1, hp, hpq⟩⟩
    clear hj4
    go_upto_region 9 with fail
    go_cut [43] from 33 to 43 (fun v wc => v = .bool bb ∧ W3 = wc)
    case first =>
      rcases hbb with ⟨rfl, -, hzz | ⟨q, p, h1, hp, hp1⟩⟩ | ⟨rfl, -, q, p, h1, hp, hp1⟩
      · have z0 : ¬ (0 : Int) < (z : Int) := by omega
        clear hzz
        go_wp2_with fail
        go_meet
        case rel => exact ⟨rfl, rfl⟩
      · have z0 : (0 : Int) < (z : Int) := by omega
        have z1 : (z : Int) - 1 = (q : Int) := by omega
        have z2 : (q : Int) < (z : Int) := by omega
        have z3 : (0 : Int) ≤ (q : Int) := by omega
        have z4 : q < z := by omega
        obtain ⟨g, off, ea⟩ : ∃ g off, ta = some ⟨g, off, none⟩ := by
          obtain ⟨g, off, e, -⟩ := (unhide HT).1 q p hp
          exact ⟨g, off, e⟩
        subst ea
        obtain ⟨hrow, -⟩ := (unhide HT).1.at' hp
        obtain ⟨r0, -⟩ := row12 hrow
        have hp2 : (p.1.kind == 0) = false := by simpa using hp1
        clear h1 hp1 hp hrow
        go_wp2_with fail
        go_meet
        case rel => exact ⟨rfl, rfl⟩
      · have z0 : (0 : Int) < (z : Int) := by omega
        have z1 : (z : Int) - 1 = (q : Int) := by omega
        have z2 : (q : Int) < (z : Int) := by omega
        have z3 : (0 : Int) ≤ (q : Int) := by omega
        have z4 : q < z := by omega
        obtain ⟨g, off, ea⟩ : ∃ g off, ta = some ⟨g, off, none⟩ := by
          obtain ⟨g, off, e, -⟩ := (unhide HT).1 q p hp
          exact ⟨g, off, e⟩
        subst ea
        obtain ⟨hrow, -⟩ := (unhide HT).1.at' hp
        obtain ⟨r0, -⟩ := row12 hrow
        have hp2 : (p.1.kind == 0) = true := by simpa using hp1
        clear h1 hp1 hp hrow
        go_wp2_with fail
        go_meet
        case rel => exact ⟨rfl, rfl⟩
    case rest =>
    obtain ⟨rfl, rfl⟩ := hcut
    go_upto_if 43 with fail
    go_cut [9] from 44 to 45 (fun v wc => v = I (j : Nat) ∧ W3 = wc)
    case first =>
      rcases hbb with ⟨rfl, hjz, -⟩ | ⟨rfl, hjz, -⟩
      · have hjj := hide (show ((j : Nat) : Int) = (z : Int) by omega)
        clear hjz
        go_wp2_with fail
        go_meet
        case rel => exact ⟨by rw [unhide hjj], rfl⟩
      · have hjj : (z : Int) - 1 = ((j : Nat) : Int) := by omega
        clear hjz
        go_wp2_with fail
        go_meet
        case rel => exact ⟨rfl, rfl⟩
    case rest =>
    obtain ⟨rfl, rfl⟩ := hcut
    clear hbb
    have j0 : (0 : Int) ≤ (j : Int) := by omega
    have j1 : (z : Int) ≤ (j : Int) + 1 := by omega
    have j2 : (j : Int) ≤ (tc : Int) := by omega
    have j3 : (j : Int) ≤ (cap : Int) := by have := (unhide HM).2.2; omega
    have j4 : (j : Int) ≤ 1024 := by omega
    have jw : IntKind.i64.wrap ((j : Int) + 1) = (j : Int) + 1 := wrap_small _ (by omega) (by omega)
    have htl : j = (ts.take j).length := by rw [List.length_take, unhide HZ]; omega
    have hql : j = (qs0.take j).length := by rw [List.length_take]; have := (unhide HM).1; omega
    have hff : fsts (ts.take j) = fsts (qs0.take j) := by
      rw [(unhide HT).2.1, ← unhide HLL]
      exact List.map_take.symm
    have HK := hide (items_same (ts.take j) (qs0.take j) hff ta a j j tc cap htl hql (by omega) W3.drew ((unhide HT).1.take j) ((((unhide HI).take j).below (unhide HB3)).mono (unhide HB3).size))
    have HB4 := hide (show Below w.heap.size w W3.drew from below_drew (unhide HB3))
    rcases (show r = el ∨ r < el by omega) with hre | hre
    · have k1 : ¬ (r : Int) < (el : Int) := by omega
      have k2 : ((j : Int) == (m : Int)) = true := by
        have h1 := (unhide HT).2.2 hre
        have h2 := (unhide HLR).2
        simp
        omega
      clear hjz htl hql hff hrr hrb hrb2 hre HT HLL HLR HR2 HEL
      go_wp2_with fail
      refine wp_region_held_drew (S := fun _ => True) (by kernel_rfl) trivial (fun hHeld => ?_)
      refine wpAnyH_take (i := 0) (oi := ({ dst := some 46, op := Op.move (Operand.tmp 9), type := 3, pos := "law.go:99", after := #[], guard := none } : Oper)) (v := ?_) rfl (by kernel_rfl) (by kernel_rfl) (by kernel_rfl) (fun _ _ _ h => h) (Or.inl ⟨by rfl, ?_⟩) (by assumption) ?_
      rotate_left
      · (intro w hSw; go_simp; all_goals with_reducible rfl)
      try simp only [Act.put, List.setIfInBounds_toArray, List.set_cons_zero, List.set_cons_succ]
      refine wpAnyH_take (i := 1) (oi := ({ dst := some 47, op := Op.move (Operand.tmp 0), type := 30, pos := "law.go:99", after := #[], guard := none } : Oper)) (v := ?_) rfl (by kernel_rfl) (by kernel_rfl) (by kernel_rfl) (fun _ _ _ h => h) (Or.inl ⟨by rfl, ?_⟩) (by assumption) ?_
      rotate_left
      · (intro w hSw; go_simp; all_goals with_reducible rfl)
      try simp only [Act.put, List.setIfInBounds_toArray, List.set_cons_zero, List.set_cons_succ]
      refine wpAnyH_take (i := 2) (oi := ({ dst := some 48, op := Op.call { callee := Callee.builtin Builtin.len, args := #[Operand.tmp 47], argTypes := #[30] }, type := 3, pos := "law.go:99", after := #[{ on := 1, ground := Ground.data }], guard := none } : Oper)) (v := ?_) rfl (by kernel_rfl) (by kernel_rfl) (by kernel_rfl) (fun _ _ _ h => h) (Or.inl ⟨by rfl, ?_⟩) (by assumption) ?_
      rotate_left
      · (intro w hSw; go_simp; all_goals with_reducible rfl)
      try simp only [Act.put, List.setIfInBounds_toArray, List.set_cons_zero, List.set_cons_succ]
      refine wpAnyH_take (i := 3) (oi := ({ dst := some 49, op := Op.binOp BinOp.leq 3 (Operand.tmp 46) (Operand.tmp 48) 3, type := 4, pos := "law.go:99", after := #[{ on := 0, ground := Ground.data }, { on := 2, ground := Ground.data }], guard := none } : Oper)) (v := .bool true) rfl (by kernel_rfl) (by kernel_rfl) (by kernel_rfl) (fun _ _ _ h => h) (Or.inl ⟨by rfl, ?_⟩) (by assumption) ?_
      · (intro w hSw; go_simp; all_goals first | with_reducible rfl | (simp; omega) | (simp [jw]; omega) | simp_all)
      try simp only [Act.put, List.setIfInBounds_toArray, List.set_cons_zero, List.set_cons_succ]
      refine wpAnyH_take (i := 4) (oi := ({ dst := some 50, op := Op.move (Operand.tmp 49), type := 4, pos := "law.go:99", after := #[{ on := 3, ground := Ground.data }], guard := none } : Oper)) (v := ?_) rfl (by kernel_rfl) (by kernel_rfl) (by kernel_rfl) (fun _ _ _ h => h) (Or.inl ⟨by rfl, ?_⟩) (by assumption) ?_
      rotate_left
      · (intro w hSw; go_simp; all_goals with_reducible rfl)
      try simp only [Act.put, List.setIfInBounds_toArray, List.set_cons_zero, List.set_cons_succ]
      refine wpAnyH_take (i := 5) (oi := ({ dst := some 51, op := Op.move (Operand.tmp 8), type := 30, pos := "law.go:99", after := #[{ on := 4, ground := Ground.guard }], guard := some (4, true) } : Oper)) (v := ?_) rfl (by kernel_rfl) (by kernel_rfl) (by kernel_rfl) (fun _ _ _ h => h) (Or.inl ⟨by rfl, ?_⟩) (by assumption) ?_
      rotate_left
      · (intro w hSw; go_simp; all_goals with_reducible rfl)
      try simp only [Act.put, List.setIfInBounds_toArray, List.set_cons_zero, List.set_cons_succ]
      refine wpAnyH_take (i := 6) (oi := ({ dst := some 52, op := Op.call { callee := Callee.builtin Builtin.len, args := #[Operand.tmp 51], argTypes := #[30] }, type := 3, pos := "law.go:99", after := #[{ on := 5, ground := Ground.data }, { on := 4, ground := Ground.guard }], guard := some (4, true) } : Oper)) (v := ?_) rfl (by kernel_rfl) (by kernel_rfl) (by kernel_rfl) (fun _ _ _ h => h) (Or.inl ⟨by rfl, ?_⟩) (by assumption) ?_
      rotate_left
      · (intro w hSw; go_simp; all_goals with_reducible rfl)
      try simp only [Act.put, List.setIfInBounds_toArray, List.set_cons_zero, List.set_cons_succ]
      refine wpAnyH_take (i := 7) (oi := ({ dst := some 53, op := Op.move (Operand.tmp 9), type := 3, pos := "law.go:99", after := #[{ on := 4, ground := Ground.guard }], guard := some (4, true) } : Oper)) (v := ?_) rfl (by kernel_rfl) (by kernel_rfl) (by kernel_rfl) (fun _ _ _ h => h) (Or.inl ⟨by rfl, ?_⟩) (by assumption) ?_
      rotate_left
      · (intro w hSw; go_simp; all_goals with_reducible rfl)
      try simp only [Act.put, List.setIfInBounds_toArray, List.set_cons_zero, List.set_cons_succ]
      refine wpAnyH_take (i := 8) (oi := ({ dst := some 54, op := Op.binOp BinOp.add 3 (Operand.tmp 53) (Operand.const (Value.int IntKind.i64 1)) 3, type := 3, pos := "law.go:99", after := #[{ on := 7, ground := Ground.data }, { on := 4, ground := Ground.guard }], guard := some (4, true) } : Oper)) (v := ?_) rfl (by kernel_rfl) (by kernel_rfl) (by kernel_rfl) (fun _ _ _ h => h) (Or.inl ⟨by rfl, ?_⟩) (by assumption) ?_
      rotate_left
      · (intro w hSw; go_simp; all_goals with_reducible rfl)
      try simp only [Act.put, List.setIfInBounds_toArray, List.set_cons_zero, List.set_cons_succ]
      refine wpAnyH_take (i := 9) (oi := ({ dst := some 55, op := Op.binOp BinOp.leq 3 (Operand.tmp 52) (Operand.tmp 54) 3, type := 4, pos := "law.go:99", after := #[{ on := 6, ground := Ground.data }, { on := 8, ground := Ground.data }, { on := 4, ground := Ground.guard }], guard := some (4, true) } : Oper)) (v := .bool true) rfl (by kernel_rfl) (by kernel_rfl) (by kernel_rfl) (fun _ _ _ h => h) (Or.inl ⟨by rfl, ?_⟩) (by assumption) ?_
      · (intro w hSw; go_simp; all_goals first | with_reducible rfl | (simp; omega) | (simp [jw]; omega) | simp_all)
      try simp only [Act.put, List.setIfInBounds_toArray, List.set_cons_zero, List.set_cons_succ]
      refine wpAnyH_take (i := 10) (oi := ({ dst := some 56, op := Op.pick (Operand.tmp 50) (Operand.tmp 55) (Operand.const (Value.bool false)), type := 4, pos := "law.go:99", after := #[{ on := 4, ground := Ground.data }, { on := 9, ground := Ground.data }], guard := none } : Oper)) (v := ?_) rfl (by kernel_rfl) (by kernel_rfl) (by kernel_rfl) (fun _ _ _ h => h) (Or.inl ⟨by rfl, ?_⟩) (by assumption) ?_
      rotate_left
      · (intro w hSw; go_simp; all_goals with_reducible rfl)
      try simp only [Act.put, List.setIfInBounds_toArray, List.set_cons_zero, List.set_cons_succ]
      refine wpAnyH_take (i := 11) (oi := ({ dst := some 57, op := Op.move (Operand.tmp 56), type := 4, pos := "law.go:99", after := #[{ on := 10, ground := Ground.data }, { on := 4, ground := Ground.chain }], guard := none } : Oper)) (v := ?_) rfl (by kernel_rfl) (by kernel_rfl) (by kernel_rfl) (fun _ _ _ h => h) (Or.inl ⟨by rfl, ?_⟩) (by assumption) ?_
      rotate_left
      · (intro w hSw; go_simp; all_goals with_reducible rfl)
      try simp only [Act.put, List.setIfInBounds_toArray, List.set_cons_zero, List.set_cons_succ]
      refine wpAnyH_take (i := 12) (oi := ({ dst := some 58, op := Op.move (Operand.tmp 8), type := 30, pos := "law.go:99", after := #[{ on := 11, ground := Ground.guard }], guard := some (11, true) } : Oper)) (v := ?_) rfl (by kernel_rfl) (by kernel_rfl) (by kernel_rfl) (fun _ _ _ h => h) (Or.inl ⟨by rfl, ?_⟩) (by assumption) ?_
      rotate_left
      · (intro w hSw; go_simp; all_goals with_reducible rfl)
      try simp only [Act.put, List.setIfInBounds_toArray, List.set_cons_zero, List.set_cons_succ]
      refine wpAnyH_take (i := 13) (oi := ({ dst := some 59, op := Op.move (Operand.tmp 9), type := 3, pos := "law.go:99", after := #[{ on := 11, ground := Ground.guard }], guard := some (11, true) } : Oper)) (v := ?_) rfl (by kernel_rfl) (by kernel_rfl) (by kernel_rfl) (fun _ _ _ h => h) (Or.inl ⟨by rfl, ?_⟩) (by assumption) ?_
      rotate_left
      · (intro w hSw; go_simp; all_goals with_reducible rfl)
      try simp only [Act.put, List.setIfInBounds_toArray, List.set_cons_zero, List.set_cons_succ]
      refine wpAnyH_take (i := 14) (oi := ({ dst := some 60, op := Op.slice 30 (Operand.tmp 58) none (some (Operand.tmp 59)) none, type := 30, pos := "law.go:99", after := #[{ on := 12, ground := Ground.data }, { on := 13, ground := Ground.data }, { on := 11, ground := Ground.guard }], guard := some (11, true) } : Oper)) (v := ?_) rfl (by kernel_rfl) (by kernel_rfl) (by kernel_rfl) (fun _ _ _ h => h) (Or.inl ⟨by rfl, ?_⟩) (by assumption) ?_
      rotate_left
      · (intro w hSw; go_simp; all_goals with_reducible rfl)
      try simp only [Act.put, List.setIfInBounds_toArray, List.set_cons_zero, List.set_cons_succ]
      refine wpAnyH_take (i := 15) (oi := ({ dst := some 61, op := Op.move (Operand.tmp 0), type := 30, pos := "law.go:99", after := #[{ on := 11, ground := Ground.guard }], guard := some (11, true) } : Oper)) (v := ?_) rfl (by kernel_rfl) (by kernel_rfl) (by kernel_rfl) (fun _ _ _ h => h) (Or.inl ⟨by rfl, ?_⟩) (by assumption) ?_
      rotate_left
      · (intro w hSw; go_simp; all_goals with_reducible rfl)
      try simp only [Act.put, List.setIfInBounds_toArray, List.set_cons_zero, List.set_cons_succ]
      refine wpAnyH_take (i := 16) (oi := ({ dst := some 62, op := Op.move (Operand.tmp 9), type := 3, pos := "law.go:99", after := #[{ on := 11, ground := Ground.guard }], guard := some (11, true) } : Oper)) (v := ?_) rfl (by kernel_rfl) (by kernel_rfl) (by kernel_rfl) (fun _ _ _ h => h) (Or.inl ⟨by rfl, ?_⟩) (by assumption) ?_
      rotate_left
      · (intro w hSw; go_simp; all_goals with_reducible rfl)
      try simp only [Act.put, List.setIfInBounds_toArray, List.set_cons_zero, List.set_cons_succ]
      refine wpAnyH_take (i := 17) (oi := ({ dst := some 63, op := Op.slice 30 (Operand.tmp 61) none (some (Operand.tmp 62)) none, type := 30, pos := "law.go:99", after := #[{ on := 15, ground := Ground.data }, { on := 16, ground := Ground.data }, { on := 11, ground := Ground.guard }], guard := some (11, true) } : Oper)) (v := ?_) rfl (by kernel_rfl) (by kernel_rfl) (by kernel_rfl) (fun _ _ _ h => h) (Or.inl ⟨by rfl, ?_⟩) (by assumption) ?_
      rotate_left
      · (intro w hSw; go_simp; all_goals with_reducible rfl)
      try simp only [Act.put, List.setIfInBounds_toArray, List.set_cons_zero, List.set_cons_succ]
      refine wpAnyH_ready (rs := [18]) (by kernel_rfl) (by simp) (AllReadyH.cons (o := ({ dst := some 64, op := Op.call { callee := Callee.value (Operand.func 16), args := #[Operand.tmp 60, Operand.tmp 63], argTypes := #[30, 30] }, type := 4, pos := "law.go:99", after := #[{ on := 14, ground := Ground.data }, { on := 17, ground := Ground.data }, { on := 11, ground := Ground.chain }, { on := 11, ground := Ground.guard }], guard := some (11, true) } : Oper)) rfl (fun K hK => ?_) AllReadyH.nil)
      go_simp
      refine (unhide HK).mono ?_
      rintro e W5 ⟨rfl, be5⟩; have HB5 := hide ((unhide HB4).trans (be5.mono (unhide HB4).size)); clear be5
      refine hK.out _ _ trivial (fun hHeld => ?_)
      clear hK K
      try simp only [Act.put, List.setIfInBounds_toArray, List.set_cons_zero, List.set_cons_succ]
      refine wpAnyH_take (i := 19) (oi := ({ dst := some 65, op := Op.pick (Operand.tmp 57) (Operand.tmp 64) (Operand.const (Value.bool false)), type := 4, pos := "law.go:99", after := #[{ on := 11, ground := Ground.data }, { on := 18, ground := Ground.data }], guard := none } : Oper)) (v := ?_) rfl (by kernel_rfl) (by kernel_rfl) (by kernel_rfl) (fun _ _ _ h => h) (Or.inl ⟨by rfl, ?_⟩) (by assumption) ?_
      rotate_left
      · (intro w hSw; go_simp; all_goals with_reducible rfl)
      try simp only [Act.put, List.setIfInBounds_toArray, List.set_cons_zero, List.set_cons_succ]
      refine wpAnyH_take (i := 20) (oi := ({ dst := some 66, op := Op.move (Operand.tmp 65), type := 4, pos := "law.go:99", after := #[{ on := 19, ground := Ground.data }, { on := 18, ground := Ground.chain }], guard := none } : Oper)) (v := ?_) rfl (by kernel_rfl) (by kernel_rfl) (by kernel_rfl) (fun _ _ _ h => h) (Or.inl ⟨by rfl, ?_⟩) (by assumption) ?_
      rotate_left
      · (intro w hSw; go_simp; all_goals with_reducible rfl)
      try simp only [Act.put, List.setIfInBounds_toArray, List.set_cons_zero, List.set_cons_succ]
      refine wpAnyH_take (i := 21) (oi := ({ dst := some 67, op := Op.move (Operand.tmp 7), type := 3, pos := "law.go:99", after := #[{ on := 20, ground := Ground.guard }], guard := some (20, true) } : Oper)) (v := ?_) rfl (by kernel_rfl) (by kernel_rfl) (by kernel_rfl) (fun _ _ _ h => h) (Or.inl ⟨by rfl, ?_⟩) (by assumption) ?_
      rotate_left
      · (intro w hSw; go_simp; all_goals with_reducible rfl)
      try simp only [Act.put, List.setIfInBounds_toArray, List.set_cons_zero, List.set_cons_succ]
      refine wpAnyH_take (i := 22) (oi := ({ dst := some 68, op := Op.move (Operand.tmp 5), type := 22, pos := "law.go:99", after := #[{ on := 20, ground := Ground.guard }], guard := some (20, true) } : Oper)) (v := ?_) rfl (by kernel_rfl) (by kernel_rfl) (by kernel_rfl) (fun _ _ _ h => h) (Or.inl ⟨by rfl, ?_⟩) (by assumption) ?_
      rotate_left
      · (intro w hSw; go_simp; all_goals with_reducible rfl)
      try simp only [Act.put, List.setIfInBounds_toArray, List.set_cons_zero, List.set_cons_succ]
      refine wpAnyH_take (i := 23) (oi := ({ dst := some 69, op := Op.call { callee := Callee.builtin Builtin.len, args := #[Operand.tmp 68], argTypes := #[22] }, type := 3, pos := "law.go:99", after := #[{ on := 22, ground := Ground.data }, { on := 20, ground := Ground.guard }], guard := some (20, true) } : Oper)) (v := ?_) rfl (by kernel_rfl) (by kernel_rfl) (by kernel_rfl) (fun _ _ _ h => h) (Or.inl ⟨by rfl, ?_⟩) (by assumption) ?_
      rotate_left
      · (intro w hSw; go_simp; all_goals with_reducible rfl)
      try simp only [Act.put, List.setIfInBounds_toArray, List.set_cons_zero, List.set_cons_succ]
      refine wpAnyH_take (i := 24) (oi := ({ dst := some 70, op := Op.binOp BinOp.lss 3 (Operand.tmp 67) (Operand.tmp 69) 3, type := 4, pos := "law.go:99", after := #[{ on := 21, ground := Ground.data }, { on := 23, ground := Ground.data }, { on := 20, ground := Ground.guard }], guard := some (20, true) } : Oper)) (v := .bool false) rfl (by kernel_rfl) (by kernel_rfl) (by kernel_rfl) (fun _ _ _ h => h) (Or.inl ⟨by rfl, ?_⟩) (by assumption) ?_
      · (intro w hSw; go_simp; all_goals first | with_reducible rfl | (simp; omega) | (simp [jw]; omega) | simp_all)
      try simp only [Act.put, List.setIfInBounds_toArray, List.set_cons_zero, List.set_cons_succ]
      refine wpAnyH_take (i := 25) (oi := ({ dst := some 71, op := Op.move (Operand.tmp 70), type := 4, pos := "law.go:99", after := #[{ on := 24, ground := Ground.data }, { on := 20, ground := Ground.chain }, { on := 20, ground := Ground.guard }], guard := some (20, true) } : Oper)) (v := ?_) rfl (by kernel_rfl) (by kernel_rfl) (by kernel_rfl) (fun _ _ _ h => h) (Or.inl ⟨by rfl, ?_⟩) (by assumption) ?_
      rotate_left
      · (intro w hSw; go_simp; all_goals with_reducible rfl)
      try simp only [Act.put, List.setIfInBounds_toArray, List.set_cons_zero, List.set_cons_succ]
      refine wpAnyH_take (i := 26) (oi := ({ dst := some 72, op := Op.move (Operand.tmp 9), type := 3, pos := "law.go:99", after := #[{ on := 25, ground := Ground.guard }], guard := some (25, false) } : Oper)) (v := ?_) rfl (by kernel_rfl) (by kernel_rfl) (by kernel_rfl) (fun _ _ _ h => h) (Or.inl ⟨by rfl, ?_⟩) (by assumption) ?_
      rotate_left
      · (intro w hSw; go_simp; all_goals with_reducible rfl)
      try simp only [Act.put, List.setIfInBounds_toArray, List.set_cons_zero, List.set_cons_succ]
      refine wpAnyH_take (i := 27) (oi := ({ dst := some 73, op := Op.move (Operand.tmp 0), type := 30, pos := "law.go:99", after := #[{ on := 25, ground := Ground.guard }], guard := some (25, false) } : Oper)) (v := ?_) rfl (by kernel_rfl) (by kernel_rfl) (by kernel_rfl) (fun _ _ _ h => h) (Or.inl ⟨by rfl, ?_⟩) (by assumption) ?_
      rotate_left
      · (intro w hSw; go_simp; all_goals with_reducible rfl)
      try simp only [Act.put, List.setIfInBounds_toArray, List.set_cons_zero, List.set_cons_succ]
      refine wpAnyH_take (i := 28) (oi := ({ dst := some 74, op := Op.call { callee := Callee.builtin Builtin.len, args := #[Operand.tmp 73], argTypes := #[30] }, type := 3, pos := "law.go:99", after := #[{ on := 27, ground := Ground.data }, { on := 25, ground := Ground.guard }], guard := some (25, false) } : Oper)) (v := ?_) rfl (by kernel_rfl) (by kernel_rfl) (by kernel_rfl) (fun _ _ _ h => h) (Or.inl ⟨by rfl, ?_⟩) (by assumption) ?_
      rotate_left
      · (intro w hSw; go_simp; all_goals with_reducible rfl)
      try simp only [Act.put, List.setIfInBounds_toArray, List.set_cons_zero, List.set_cons_succ]
      refine wpAnyH_take (i := 29) (oi := ({ dst := some 75, op := Op.binOp BinOp.eql 3 (Operand.tmp 72) (Operand.tmp 74) 3, type := 4, pos := "law.go:99", after := #[{ on := 26, ground := Ground.data }, { on := 28, ground := Ground.data }, { on := 25, ground := Ground.guard }], guard := some (25, false) } : Oper)) (v := .bool true) rfl (by kernel_rfl) (by kernel_rfl) (by kernel_rfl) (fun _ _ _ h => h) (Or.inl ⟨by rfl, ?_⟩) (by assumption) ?_
      · (intro w hSw; go_simp; all_goals first | with_reducible rfl | (simp; omega) | (simp [jw]; omega) | simp_all)
      try simp only [Act.put, List.setIfInBounds_toArray, List.set_cons_zero, List.set_cons_succ]
      refine wpAnyH_take (i := 30) (oi := ({ dst := some 76, op := Op.pick (Operand.tmp 71) (Operand.const (Value.bool true)) (Operand.tmp 75), type := 4, pos := "law.go:99", after := #[{ on := 25, ground := Ground.data }, { on := 29, ground := Ground.data }, { on := 20, ground := Ground.guard }], guard := some (20, true) } : Oper)) (v := ?_) rfl (by kernel_rfl) (by kernel_rfl) (by kernel_rfl) (fun _ _ _ h => h) (Or.inl ⟨by rfl, ?_⟩) (by assumption) ?_
      rotate_left
      · (intro w hSw; go_simp; all_goals with_reducible rfl)
      try simp only [Act.put, List.setIfInBounds_toArray, List.set_cons_zero, List.set_cons_succ]
      refine wpAnyH_take (i := 31) (oi := ({ dst := some 77, op := Op.pick (Operand.tmp 66) (Operand.tmp 76) (Operand.const (Value.bool false)), type := 4, pos := "law.go:99", after := #[{ on := 20, ground := Ground.data }, { on := 30, ground := Ground.data }], guard := none } : Oper)) (v := ?_) rfl (by kernel_rfl) (by kernel_rfl) (by kernel_rfl) (fun _ _ _ h => h) (Or.inl ⟨by rfl, ?_⟩) (by assumption) ?_
      rotate_left
      · (intro w hSw; go_simp; all_goals with_reducible rfl)
      try simp only [Act.put, List.setIfInBounds_toArray, List.set_cons_zero, List.set_cons_succ]
      refine wpAnyH_take (i := 32) (oi := ({ dst := some 78, op := Op.move (Operand.tmp 77), type := 4, pos := "law.go:99", after := #[{ on := 31, ground := Ground.data }, { on := 25, ground := Ground.chain }], guard := none } : Oper)) (v := ?_) rfl (by kernel_rfl) (by kernel_rfl) (by kernel_rfl) (fun _ _ _ h => h) (Or.inl ⟨by rfl, ?_⟩) (by assumption) ?_
      rotate_left
      · (intro w hSw; go_simp; all_goals with_reducible rfl)
      try simp only [Act.put, List.setIfInBounds_toArray, List.set_cons_zero, List.set_cons_succ]
      refine wpAnyH_ready (rs := [33]) (by kernel_rfl) (by simp) (AllReadyH.cons (o := ({ dst := some 79, op := Op.call { callee := Callee.value (Operand.func 12), args := #[], argTypes := #[] }, type := 4, pos := "law.go:99", after := #[{ on := 32, ground := Ground.chain }, { on := 32, ground := Ground.guard }], guard := some (32, true) } : Oper)) rfl (fun K hK => ?_) AllReadyH.nil)
      go_simp
      refine (sknown_any _).mono ?_
      rintro e W6 ⟨rfl, be6⟩; have HB6 := hide ((unhide HB5).trans (be6.mono (unhide HB5).size)); clear be6
      refine hK.out _ _ trivial (fun hHeld => ?_)
      clear hK K
      try simp only [Act.put, List.setIfInBounds_toArray, List.set_cons_zero, List.set_cons_succ]
      refine wpAnyH_take (i := 34) (oi := ({ dst := some 80, op := Op.pick (Operand.tmp 78) (Operand.tmp 79) (Operand.const (Value.bool false)), type := 4, pos := "law.go:99", after := #[{ on := 32, ground := Ground.data }, { on := 33, ground := Ground.data }], guard := none } : Oper)) (v := ?_) rfl (by kernel_rfl) (by kernel_rfl) (by kernel_rfl) (fun _ _ _ h => h) (Or.inl ⟨by rfl, ?_⟩) (by assumption) ?_
      rotate_left
      · (intro w hSw; go_simp; all_goals with_reducible rfl)
      try simp only [Act.put, List.setIfInBounds_toArray, List.set_cons_zero, List.set_cons_succ]
      refine wpAnyH_take (i := 35) (oi := ({ dst := some 4, op := Op.assign (Operand.tmp 80), type := 4, pos := "law.go:99", after := #[{ on := 34, ground := Ground.data }, { on := 33, ground := Ground.chain }, { on := 0, ground := Ground.phase }, { on := 1, ground := Ground.phase }, { on := 2, ground := Ground.phase }, { on := 3, ground := Ground.phase }, { on := 4, ground := Ground.phase }, { on := 5, ground := Ground.phase }, { on := 6, ground := Ground.phase }, { on := 7, ground := Ground.phase }, { on := 8, ground := Ground.phase }, { on := 9, ground := Ground.phase }, { on := 10, ground := Ground.phase }, { on := 11, ground := Ground.phase }, { on := 12, ground := Ground.phase }, { on := 13, ground := Ground.phase }, { on := 14, ground := Ground.phase }, { on := 15, ground := Ground.phase }, { on := 16, ground := Ground.phase }, { on := 17, ground := Ground.phase }, { on := 18, ground := Ground.phase }, { on := 19, ground := Ground.phase }, { on := 20, ground := Ground.phase }, { on := 21, ground := Ground.phase }, { on := 22, ground := Ground.phase }, { on := 23, ground := Ground.phase }, { on := 24, ground := Ground.phase }, { on := 25, ground := Ground.phase }, { on := 26, ground := Ground.phase }, { on := 27, ground := Ground.phase }, { on := 28, ground := Ground.phase }, { on := 29, ground := Ground.phase }, { on := 30, ground := Ground.phase }, { on := 31, ground := Ground.phase }, { on := 32, ground := Ground.phase }, { on := 33, ground := Ground.phase }, { on := 34, ground := Ground.phase }], guard := none } : Oper)) (v := ?_) rfl (by kernel_rfl) (by kernel_rfl) (by kernel_rfl) (fun _ _ _ h => h) (Or.inl ⟨by rfl, ?_⟩) (by assumption) ?_
      rotate_left
      · (intro w hSw; go_simp; all_goals with_reducible rfl)
      try simp only [Act.put, List.setIfInBounds_toArray, List.set_cons_zero, List.set_cons_succ]
      refine wpAnyH_done (by kernel_rfl) ?_ _
      all_goals go_wp2_with fail
      all_goals go_ret
      all_goals exact ⟨rfl, unhide HB6⟩
    · have k1 : (r : Int) < (el : Int) := by omega
      clear hjz htl hql hff hrr hrb hrb2 hre HT HLL HLR HR2 HEL
      go_wp2_with fail
      refine wp_region_held_drew (S := fun _ => True) (by kernel_rfl) trivial (fun hHeld => ?_)
      refine wpAnyH_take (i := 0) (oi := ({ dst := some 46, op := Op.move (Operand.tmp 9), type := 3, pos := "law.go:99", after := #[], guard := none } : Oper)) (v := ?_) rfl (by kernel_rfl) (by kernel_rfl) (by kernel_rfl) (fun _ _ _ h => h) (Or.inl ⟨by rfl, ?_⟩) (by assumption) ?_
      rotate_left
      · (intro w hSw; go_simp; all_goals with_reducible rfl)
      try simp only [Act.put, List.setIfInBounds_toArray, List.set_cons_zero, List.set_cons_succ]
      refine wpAnyH_take (i := 1) (oi := ({ dst := some 47, op := Op.move (Operand.tmp 0), type := 30, pos := "law.go:99", after := #[], guard := none } : Oper)) (v := ?_) rfl (by kernel_rfl) (by kernel_rfl) (by kernel_rfl) (fun _ _ _ h => h) (Or.inl ⟨by rfl, ?_⟩) (by assumption) ?_
      rotate_left
      · (intro w hSw; go_simp; all_goals with_reducible rfl)
      try simp only [Act.put, List.setIfInBounds_toArray, List.set_cons_zero, List.set_cons_succ]
      refine wpAnyH_take (i := 2) (oi := ({ dst := some 48, op := Op.call { callee := Callee.builtin Builtin.len, args := #[Operand.tmp 47], argTypes := #[30] }, type := 3, pos := "law.go:99", after := #[{ on := 1, ground := Ground.data }], guard := none } : Oper)) (v := ?_) rfl (by kernel_rfl) (by kernel_rfl) (by kernel_rfl) (fun _ _ _ h => h) (Or.inl ⟨by rfl, ?_⟩) (by assumption) ?_
      rotate_left
      · (intro w hSw; go_simp; all_goals with_reducible rfl)
      try simp only [Act.put, List.setIfInBounds_toArray, List.set_cons_zero, List.set_cons_succ]
      refine wpAnyH_take (i := 3) (oi := ({ dst := some 49, op := Op.binOp BinOp.leq 3 (Operand.tmp 46) (Operand.tmp 48) 3, type := 4, pos := "law.go:99", after := #[{ on := 0, ground := Ground.data }, { on := 2, ground := Ground.data }], guard := none } : Oper)) (v := .bool true) rfl (by kernel_rfl) (by kernel_rfl) (by kernel_rfl) (fun _ _ _ h => h) (Or.inl ⟨by rfl, ?_⟩) (by assumption) ?_
      · (intro w hSw; go_simp; all_goals first | with_reducible rfl | (simp; omega) | (simp [jw]; omega) | simp_all)
      try simp only [Act.put, List.setIfInBounds_toArray, List.set_cons_zero, List.set_cons_succ]
      refine wpAnyH_take (i := 4) (oi := ({ dst := some 50, op := Op.move (Operand.tmp 49), type := 4, pos := "law.go:99", after := #[{ on := 3, ground := Ground.data }], guard := none } : Oper)) (v := ?_) rfl (by kernel_rfl) (by kernel_rfl) (by kernel_rfl) (fun _ _ _ h => h) (Or.inl ⟨by rfl, ?_⟩) (by assumption) ?_
      rotate_left
      · (intro w hSw; go_simp; all_goals with_reducible rfl)
      try simp only [Act.put, List.setIfInBounds_toArray, List.set_cons_zero, List.set_cons_succ]
      refine wpAnyH_take (i := 5) (oi := ({ dst := some 51, op := Op.move (Operand.tmp 8), type := 30, pos := "law.go:99", after := #[{ on := 4, ground := Ground.guard }], guard := some (4, true) } : Oper)) (v := ?_) rfl (by kernel_rfl) (by kernel_rfl) (by kernel_rfl) (fun _ _ _ h => h) (Or.inl ⟨by rfl, ?_⟩) (by assumption) ?_
      rotate_left
      · (intro w hSw; go_simp; all_goals with_reducible rfl)
      try simp only [Act.put, List.setIfInBounds_toArray, List.set_cons_zero, List.set_cons_succ]
      refine wpAnyH_take (i := 6) (oi := ({ dst := some 52, op := Op.call { callee := Callee.builtin Builtin.len, args := #[Operand.tmp 51], argTypes := #[30] }, type := 3, pos := "law.go:99", after := #[{ on := 5, ground := Ground.data }, { on := 4, ground := Ground.guard }], guard := some (4, true) } : Oper)) (v := ?_) rfl (by kernel_rfl) (by kernel_rfl) (by kernel_rfl) (fun _ _ _ h => h) (Or.inl ⟨by rfl, ?_⟩) (by assumption) ?_
      rotate_left
      · (intro w hSw; go_simp; all_goals with_reducible rfl)
      try simp only [Act.put, List.setIfInBounds_toArray, List.set_cons_zero, List.set_cons_succ]
      refine wpAnyH_take (i := 7) (oi := ({ dst := some 53, op := Op.move (Operand.tmp 9), type := 3, pos := "law.go:99", after := #[{ on := 4, ground := Ground.guard }], guard := some (4, true) } : Oper)) (v := ?_) rfl (by kernel_rfl) (by kernel_rfl) (by kernel_rfl) (fun _ _ _ h => h) (Or.inl ⟨by rfl, ?_⟩) (by assumption) ?_
      rotate_left
      · (intro w hSw; go_simp; all_goals with_reducible rfl)
      try simp only [Act.put, List.setIfInBounds_toArray, List.set_cons_zero, List.set_cons_succ]
      refine wpAnyH_take (i := 8) (oi := ({ dst := some 54, op := Op.binOp BinOp.add 3 (Operand.tmp 53) (Operand.const (Value.int IntKind.i64 1)) 3, type := 3, pos := "law.go:99", after := #[{ on := 7, ground := Ground.data }, { on := 4, ground := Ground.guard }], guard := some (4, true) } : Oper)) (v := ?_) rfl (by kernel_rfl) (by kernel_rfl) (by kernel_rfl) (fun _ _ _ h => h) (Or.inl ⟨by rfl, ?_⟩) (by assumption) ?_
      rotate_left
      · (intro w hSw; go_simp; all_goals with_reducible rfl)
      try simp only [Act.put, List.setIfInBounds_toArray, List.set_cons_zero, List.set_cons_succ]
      refine wpAnyH_take (i := 9) (oi := ({ dst := some 55, op := Op.binOp BinOp.leq 3 (Operand.tmp 52) (Operand.tmp 54) 3, type := 4, pos := "law.go:99", after := #[{ on := 6, ground := Ground.data }, { on := 8, ground := Ground.data }, { on := 4, ground := Ground.guard }], guard := some (4, true) } : Oper)) (v := .bool true) rfl (by kernel_rfl) (by kernel_rfl) (by kernel_rfl) (fun _ _ _ h => h) (Or.inl ⟨by rfl, ?_⟩) (by assumption) ?_
      · (intro w hSw; go_simp; all_goals first | with_reducible rfl | (simp; omega) | (simp [jw]; omega) | simp_all)
      try simp only [Act.put, List.setIfInBounds_toArray, List.set_cons_zero, List.set_cons_succ]
      refine wpAnyH_take (i := 10) (oi := ({ dst := some 56, op := Op.pick (Operand.tmp 50) (Operand.tmp 55) (Operand.const (Value.bool false)), type := 4, pos := "law.go:99", after := #[{ on := 4, ground := Ground.data }, { on := 9, ground := Ground.data }], guard := none } : Oper)) (v := ?_) rfl (by kernel_rfl) (by kernel_rfl) (by kernel_rfl) (fun _ _ _ h => h) (Or.inl ⟨by rfl, ?_⟩) (by assumption) ?_
      rotate_left
      · (intro w hSw; go_simp; all_goals with_reducible rfl)
      try simp only [Act.put, List.setIfInBounds_toArray, List.set_cons_zero, List.set_cons_succ]
      refine wpAnyH_take (i := 11) (oi := ({ dst := some 57, op := Op.move (Operand.tmp 56), type := 4, pos := "law.go:99", after := #[{ on := 10, ground := Ground.data }, { on := 4, ground := Ground.chain }], guard := none } : Oper)) (v := ?_) rfl (by kernel_rfl) (by kernel_rfl) (by kernel_rfl) (fun _ _ _ h => h) (Or.inl ⟨by rfl, ?_⟩) (by assumption) ?_
      rotate_left
      · (intro w hSw; go_simp; all_goals with_reducible rfl)
      try simp only [Act.put, List.setIfInBounds_toArray, List.set_cons_zero, List.set_cons_succ]
      refine wpAnyH_take (i := 12) (oi := ({ dst := some 58, op := Op.move (Operand.tmp 8), type := 30, pos := "law.go:99", after := #[{ on := 11, ground := Ground.guard }], guard := some (11, true) } : Oper)) (v := ?_) rfl (by kernel_rfl) (by kernel_rfl) (by kernel_rfl) (fun _ _ _ h => h) (Or.inl ⟨by rfl, ?_⟩) (by assumption) ?_
      rotate_left
      · (intro w hSw; go_simp; all_goals with_reducible rfl)
      try simp only [Act.put, List.setIfInBounds_toArray, List.set_cons_zero, List.set_cons_succ]
      refine wpAnyH_take (i := 13) (oi := ({ dst := some 59, op := Op.move (Operand.tmp 9), type := 3, pos := "law.go:99", after := #[{ on := 11, ground := Ground.guard }], guard := some (11, true) } : Oper)) (v := ?_) rfl (by kernel_rfl) (by kernel_rfl) (by kernel_rfl) (fun _ _ _ h => h) (Or.inl ⟨by rfl, ?_⟩) (by assumption) ?_
      rotate_left
      · (intro w hSw; go_simp; all_goals with_reducible rfl)
      try simp only [Act.put, List.setIfInBounds_toArray, List.set_cons_zero, List.set_cons_succ]
      refine wpAnyH_take (i := 14) (oi := ({ dst := some 60, op := Op.slice 30 (Operand.tmp 58) none (some (Operand.tmp 59)) none, type := 30, pos := "law.go:99", after := #[{ on := 12, ground := Ground.data }, { on := 13, ground := Ground.data }, { on := 11, ground := Ground.guard }], guard := some (11, true) } : Oper)) (v := ?_) rfl (by kernel_rfl) (by kernel_rfl) (by kernel_rfl) (fun _ _ _ h => h) (Or.inl ⟨by rfl, ?_⟩) (by assumption) ?_
      rotate_left
      · (intro w hSw; go_simp; all_goals with_reducible rfl)
      try simp only [Act.put, List.setIfInBounds_toArray, List.set_cons_zero, List.set_cons_succ]
      refine wpAnyH_take (i := 15) (oi := ({ dst := some 61, op := Op.move (Operand.tmp 0), type := 30, pos := "law.go:99", after := #[{ on := 11, ground := Ground.guard }], guard := some (11, true) } : Oper)) (v := ?_) rfl (by kernel_rfl) (by kernel_rfl) (by kernel_rfl) (fun _ _ _ h => h) (Or.inl ⟨by rfl, ?_⟩) (by assumption) ?_
      rotate_left
      · (intro w hSw; go_simp; all_goals with_reducible rfl)
      try simp only [Act.put, List.setIfInBounds_toArray, List.set_cons_zero, List.set_cons_succ]
      refine wpAnyH_take (i := 16) (oi := ({ dst := some 62, op := Op.move (Operand.tmp 9), type := 3, pos := "law.go:99", after := #[{ on := 11, ground := Ground.guard }], guard := some (11, true) } : Oper)) (v := ?_) rfl (by kernel_rfl) (by kernel_rfl) (by kernel_rfl) (fun _ _ _ h => h) (Or.inl ⟨by rfl, ?_⟩) (by assumption) ?_
      rotate_left
      · (intro w hSw; go_simp; all_goals with_reducible rfl)
      try simp only [Act.put, List.setIfInBounds_toArray, List.set_cons_zero, List.set_cons_succ]
      refine wpAnyH_take (i := 17) (oi := ({ dst := some 63, op := Op.slice 30 (Operand.tmp 61) none (some (Operand.tmp 62)) none, type := 30, pos := "law.go:99", after := #[{ on := 15, ground := Ground.data }, { on := 16, ground := Ground.data }, { on := 11, ground := Ground.guard }], guard := some (11, true) } : Oper)) (v := ?_) rfl (by kernel_rfl) (by kernel_rfl) (by kernel_rfl) (fun _ _ _ h => h) (Or.inl ⟨by rfl, ?_⟩) (by assumption) ?_
      rotate_left
      · (intro w hSw; go_simp; all_goals with_reducible rfl)
      try simp only [Act.put, List.setIfInBounds_toArray, List.set_cons_zero, List.set_cons_succ]
      refine wpAnyH_ready (rs := [18]) (by kernel_rfl) (by simp) (AllReadyH.cons (o := ({ dst := some 64, op := Op.call { callee := Callee.value (Operand.func 16), args := #[Operand.tmp 60, Operand.tmp 63], argTypes := #[30, 30] }, type := 4, pos := "law.go:99", after := #[{ on := 14, ground := Ground.data }, { on := 17, ground := Ground.data }, { on := 11, ground := Ground.chain }, { on := 11, ground := Ground.guard }], guard := some (11, true) } : Oper)) rfl (fun K hK => ?_) AllReadyH.nil)
      go_simp
      refine (unhide HK).mono ?_
      rintro e W5 ⟨rfl, be5⟩; have HB5 := hide ((unhide HB4).trans (be5.mono (unhide HB4).size)); clear be5
      refine hK.out _ _ trivial (fun hHeld => ?_)
      clear hK K
      try simp only [Act.put, List.setIfInBounds_toArray, List.set_cons_zero, List.set_cons_succ]
      refine wpAnyH_take (i := 19) (oi := ({ dst := some 65, op := Op.pick (Operand.tmp 57) (Operand.tmp 64) (Operand.const (Value.bool false)), type := 4, pos := "law.go:99", after := #[{ on := 11, ground := Ground.data }, { on := 18, ground := Ground.data }], guard := none } : Oper)) (v := ?_) rfl (by kernel_rfl) (by kernel_rfl) (by kernel_rfl) (fun _ _ _ h => h) (Or.inl ⟨by rfl, ?_⟩) (by assumption) ?_
      rotate_left
      · (intro w hSw; go_simp; all_goals with_reducible rfl)
      try simp only [Act.put, List.setIfInBounds_toArray, List.set_cons_zero, List.set_cons_succ]
      refine wpAnyH_take (i := 20) (oi := ({ dst := some 66, op := Op.move (Operand.tmp 65), type := 4, pos := "law.go:99", after := #[{ on := 19, ground := Ground.data }, { on := 18, ground := Ground.chain }], guard := none } : Oper)) (v := ?_) rfl (by kernel_rfl) (by kernel_rfl) (by kernel_rfl) (fun _ _ _ h => h) (Or.inl ⟨by rfl, ?_⟩) (by assumption) ?_
      rotate_left
      · (intro w hSw; go_simp; all_goals with_reducible rfl)
      try simp only [Act.put, List.setIfInBounds_toArray, List.set_cons_zero, List.set_cons_succ]
      refine wpAnyH_take (i := 21) (oi := ({ dst := some 67, op := Op.move (Operand.tmp 7), type := 3, pos := "law.go:99", after := #[{ on := 20, ground := Ground.guard }], guard := some (20, true) } : Oper)) (v := ?_) rfl (by kernel_rfl) (by kernel_rfl) (by kernel_rfl) (fun _ _ _ h => h) (Or.inl ⟨by rfl, ?_⟩) (by assumption) ?_
      rotate_left
      · (intro w hSw; go_simp; all_goals with_reducible rfl)
      try simp only [Act.put, List.setIfInBounds_toArray, List.set_cons_zero, List.set_cons_succ]
      refine wpAnyH_take (i := 22) (oi := ({ dst := some 68, op := Op.move (Operand.tmp 5), type := 22, pos := "law.go:99", after := #[{ on := 20, ground := Ground.guard }], guard := some (20, true) } : Oper)) (v := ?_) rfl (by kernel_rfl) (by kernel_rfl) (by kernel_rfl) (fun _ _ _ h => h) (Or.inl ⟨by rfl, ?_⟩) (by assumption) ?_
      rotate_left
      · (intro w hSw; go_simp; all_goals with_reducible rfl)
      try simp only [Act.put, List.setIfInBounds_toArray, List.set_cons_zero, List.set_cons_succ]
      refine wpAnyH_take (i := 23) (oi := ({ dst := some 69, op := Op.call { callee := Callee.builtin Builtin.len, args := #[Operand.tmp 68], argTypes := #[22] }, type := 3, pos := "law.go:99", after := #[{ on := 22, ground := Ground.data }, { on := 20, ground := Ground.guard }], guard := some (20, true) } : Oper)) (v := ?_) rfl (by kernel_rfl) (by kernel_rfl) (by kernel_rfl) (fun _ _ _ h => h) (Or.inl ⟨by rfl, ?_⟩) (by assumption) ?_
      rotate_left
      · (intro w hSw; go_simp; all_goals with_reducible rfl)
      try simp only [Act.put, List.setIfInBounds_toArray, List.set_cons_zero, List.set_cons_succ]
      refine wpAnyH_take (i := 24) (oi := ({ dst := some 70, op := Op.binOp BinOp.lss 3 (Operand.tmp 67) (Operand.tmp 69) 3, type := 4, pos := "law.go:99", after := #[{ on := 21, ground := Ground.data }, { on := 23, ground := Ground.data }, { on := 20, ground := Ground.guard }], guard := some (20, true) } : Oper)) (v := .bool true) rfl (by kernel_rfl) (by kernel_rfl) (by kernel_rfl) (fun _ _ _ h => h) (Or.inl ⟨by rfl, ?_⟩) (by assumption) ?_
      · (intro w hSw; go_simp; all_goals first | with_reducible rfl | (simp; omega) | (simp [jw]; omega) | simp_all)
      try simp only [Act.put, List.setIfInBounds_toArray, List.set_cons_zero, List.set_cons_succ]
      refine wpAnyH_take (i := 25) (oi := ({ dst := some 71, op := Op.move (Operand.tmp 70), type := 4, pos := "law.go:99", after := #[{ on := 24, ground := Ground.data }, { on := 20, ground := Ground.chain }, { on := 20, ground := Ground.guard }], guard := some (20, true) } : Oper)) (v := ?_) rfl (by kernel_rfl) (by kernel_rfl) (by kernel_rfl) (fun _ _ _ h => h) (Or.inl ⟨by rfl, ?_⟩) (by assumption) ?_
      rotate_left
      · (intro w hSw; go_simp; all_goals with_reducible rfl)
      try simp only [Act.put, List.setIfInBounds_toArray, List.set_cons_zero, List.set_cons_succ]
      refine wpAnyH_take (i := 26) (oi := ({ dst := some 72, op := Op.move (Operand.tmp 9), type := 3, pos := "law.go:99", after := #[{ on := 25, ground := Ground.guard }], guard := some (25, false) } : Oper)) (v := undef) rfl (by kernel_rfl) (by kernel_rfl) (by kernel_rfl) (fun _ _ _ h => h) (Or.inr ⟨by rfl, rfl⟩) (by assumption) ?_
      try simp only [Act.put, List.setIfInBounds_toArray, List.set_cons_zero, List.set_cons_succ]
      refine wpAnyH_take (i := 27) (oi := ({ dst := some 73, op := Op.move (Operand.tmp 0), type := 30, pos := "law.go:99", after := #[{ on := 25, ground := Ground.guard }], guard := some (25, false) } : Oper)) (v := undef) rfl (by kernel_rfl) (by kernel_rfl) (by kernel_rfl) (fun _ _ _ h => h) (Or.inr ⟨by rfl, rfl⟩) (by assumption) ?_
      try simp only [Act.put, List.setIfInBounds_toArray, List.set_cons_zero, List.set_cons_succ]
      refine wpAnyH_take (i := 28) (oi := ({ dst := some 74, op := Op.call { callee := Callee.builtin Builtin.len, args := #[Operand.tmp 73], argTypes := #[30] }, type := 3, pos := "law.go:99", after := #[{ on := 27, ground := Ground.data }, { on := 25, ground := Ground.guard }], guard := some (25, false) } : Oper)) (v := undef) rfl (by kernel_rfl) (by kernel_rfl) (by kernel_rfl) (fun _ _ _ h => h) (Or.inr ⟨by rfl, rfl⟩) (by assumption) ?_
      try simp only [Act.put, List.setIfInBounds_toArray, List.set_cons_zero, List.set_cons_succ]
      refine wpAnyH_take (i := 29) (oi := ({ dst := some 75, op := Op.binOp BinOp.eql 3 (Operand.tmp 72) (Operand.tmp 74) 3, type := 4, pos := "law.go:99", after := #[{ on := 26, ground := Ground.data }, { on := 28, ground := Ground.data }, { on := 25, ground := Ground.guard }], guard := some (25, false) } : Oper)) (v := undef) rfl (by kernel_rfl) (by kernel_rfl) (by kernel_rfl) (fun _ _ _ h => h) (Or.inr ⟨by rfl, rfl⟩) (by assumption) ?_
      try simp only [Act.put, List.setIfInBounds_toArray, List.set_cons_zero, List.set_cons_succ]
      refine wpAnyH_take (i := 30) (oi := ({ dst := some 76, op := Op.pick (Operand.tmp 71) (Operand.const (Value.bool true)) (Operand.tmp 75), type := 4, pos := "law.go:99", after := #[{ on := 25, ground := Ground.data }, { on := 29, ground := Ground.data }, { on := 20, ground := Ground.guard }], guard := some (20, true) } : Oper)) (v := ?_) rfl (by kernel_rfl) (by kernel_rfl) (by kernel_rfl) (fun _ _ _ h => h) (Or.inl ⟨by rfl, ?_⟩) (by assumption) ?_
      rotate_left
      · (intro w hSw; go_simp; all_goals with_reducible rfl)
      try simp only [Act.put, List.setIfInBounds_toArray, List.set_cons_zero, List.set_cons_succ]
      refine wpAnyH_take (i := 31) (oi := ({ dst := some 77, op := Op.pick (Operand.tmp 66) (Operand.tmp 76) (Operand.const (Value.bool false)), type := 4, pos := "law.go:99", after := #[{ on := 20, ground := Ground.data }, { on := 30, ground := Ground.data }], guard := none } : Oper)) (v := ?_) rfl (by kernel_rfl) (by kernel_rfl) (by kernel_rfl) (fun _ _ _ h => h) (Or.inl ⟨by rfl, ?_⟩) (by assumption) ?_
      rotate_left
      · (intro w hSw; go_simp; all_goals with_reducible rfl)
      try simp only [Act.put, List.setIfInBounds_toArray, List.set_cons_zero, List.set_cons_succ]
      refine wpAnyH_take (i := 32) (oi := ({ dst := some 78, op := Op.move (Operand.tmp 77), type := 4, pos := "law.go:99", after := #[{ on := 31, ground := Ground.data }, { on := 25, ground := Ground.chain }], guard := none } : Oper)) (v := ?_) rfl (by kernel_rfl) (by kernel_rfl) (by kernel_rfl) (fun _ _ _ h => h) (Or.inl ⟨by rfl, ?_⟩) (by assumption) ?_
      rotate_left
      · (intro w hSw; go_simp; all_goals with_reducible rfl)
      try simp only [Act.put, List.setIfInBounds_toArray, List.set_cons_zero, List.set_cons_succ]
      refine wpAnyH_ready (rs := [33]) (by kernel_rfl) (by simp) (AllReadyH.cons (o := ({ dst := some 79, op := Op.call { callee := Callee.value (Operand.func 12), args := #[], argTypes := #[] }, type := 4, pos := "law.go:99", after := #[{ on := 32, ground := Ground.chain }, { on := 32, ground := Ground.guard }], guard := some (32, true) } : Oper)) rfl (fun K hK => ?_) AllReadyH.nil)
      go_simp
      refine (sknown_any _).mono ?_
      rintro e W6 ⟨rfl, be6⟩; have HB6 := hide ((unhide HB5).trans (be6.mono (unhide HB5).size)); clear be6
      refine hK.out _ _ trivial (fun hHeld => ?_)
      clear hK K
      try simp only [Act.put, List.setIfInBounds_toArray, List.set_cons_zero, List.set_cons_succ]
      refine wpAnyH_take (i := 34) (oi := ({ dst := some 80, op := Op.pick (Operand.tmp 78) (Operand.tmp 79) (Operand.const (Value.bool false)), type := 4, pos := "law.go:99", after := #[{ on := 32, ground := Ground.data }, { on := 33, ground := Ground.data }], guard := none } : Oper)) (v := ?_) rfl (by kernel_rfl) (by kernel_rfl) (by kernel_rfl) (fun _ _ _ h => h) (Or.inl ⟨by rfl, ?_⟩) (by assumption) ?_
      rotate_left
      · (intro w hSw; go_simp; all_goals with_reducible rfl)
      try simp only [Act.put, List.setIfInBounds_toArray, List.set_cons_zero, List.set_cons_succ]
      refine wpAnyH_take (i := 35) (oi := ({ dst := some 4, op := Op.assign (Operand.tmp 80), type := 4, pos := "law.go:99", after := #[{ on := 34, ground := Ground.data }, { on := 33, ground := Ground.chain }, { on := 0, ground := Ground.phase }, { on := 1, ground := Ground.phase }, { on := 2, ground := Ground.phase }, { on := 3, ground := Ground.phase }, { on := 4, ground := Ground.phase }, { on := 5, ground := Ground.phase }, { on := 6, ground := Ground.phase }, { on := 7, ground := Ground.phase }, { on := 8, ground := Ground.phase }, { on := 9, ground := Ground.phase }, { on := 10, ground := Ground.phase }, { on := 11, ground := Ground.phase }, { on := 12, ground := Ground.phase }, { on := 13, ground := Ground.phase }, { on := 14, ground := Ground.phase }, { on := 15, ground := Ground.phase }, { on := 16, ground := Ground.phase }, { on := 17, ground := Ground.phase }, { on := 18, ground := Ground.phase }, { on := 19, ground := Ground.phase }, { on := 20, ground := Ground.phase }, { on := 21, ground := Ground.phase }, { on := 22, ground := Ground.phase }, { on := 23, ground := Ground.phase }, { on := 24, ground := Ground.phase }, { on := 25, ground := Ground.phase }, { on := 26, ground := Ground.phase }, { on := 27, ground := Ground.phase }, { on := 28, ground := Ground.phase }, { on := 29, ground := Ground.phase }, { on := 30, ground := Ground.phase }, { on := 31, ground := Ground.phase }, { on := 32, ground := Ground.phase }, { on := 33, ground := Ground.phase }, { on := 34, ground := Ground.phase }], guard := none } : Oper)) (v := ?_) rfl (by kernel_rfl) (by kernel_rfl) (by kernel_rfl) (fun _ _ _ h => h) (Or.inl ⟨by rfl, ?_⟩) (by assumption) ?_
      rotate_left
      · (intro w hSw; go_simp; all_goals with_reducible rfl)
      try simp only [Act.put, List.setIfInBounds_toArray, List.set_cons_zero, List.set_cons_succ]
      refine wpAnyH_done (by kernel_rfl) ?_ _
      all_goals go_wp2_with fail
      all_goals go_ret
      all_goals exact ⟨rfl, unhide HB6⟩
  · have hz2 : (encR L == 0) = false := by simpa using hz
    have hz3 : (encR L != 0) = true := by simpa using hz
    clear hz
    go_wp2_with fail
    refine (unhide HE).mono ?_
    rintro e W2 ⟨v2, rfl, r2, be2⟩
    obtain ⟨ba, bcap, rfl, -⟩ := r2.form
    have HB2 := hide be2
    clear HE r2 be2
    generalize encR L = z at *
    generalize (eb L).length = el at *
    go_wp2_with fail
    refine (sknown_any W2).mono ?_
    rintro e W3 ⟨rfl, be3⟩
    have HB3 := hide ((unhide HB2).trans (be3.mono (unhide HB2).size))
    clear be3 HB2
    go_wp2_with fail
    go_ret
    exact ⟨rfl, unhide HB3⟩
end Go.Proofs.Ytcopjhidijhlaaa.Cl
