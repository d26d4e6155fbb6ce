/-
  The contract of the document's New.
-/
import Derived.Test.YtkgeapmafpeapaaRMade
namespace Go.Proofs.Ytkgeapmafpeapaa
open Go.RowKit
attribute [local go_sem ↓] Go.wp_at_zero Go.wp_at_succ

def NewAns (w : World) (b c n l : Nat) (ws : List Int) (st : Int) (js : List Jb) (e : Ending) (w' : World) : Prop :=
  Below w.heap.size w w' ∧ (((∃ (k : Nat) (j : Jb), js[k]? = some j ∧ ¬ j.fit n) ∧ e = .returned (.tuple #[.pointer none, .int .i64 1])) ∨
    ((∀ (k : Nat) (j : Jb), js[k]? = some j → j.fit n) ∧ 8 < l ∧ e = .returned (.tuple #[.pointer none, .int .i64 4])) ∨
    ((∀ (k : Nat) (j : Jb), js[k]? = some j → j.fit n) ∧ l ≤ 8 ∧ ∃ rr aa ca la sa jp cap, e = .returned (.tuple #[.pointer (some ⟨rr, 0, none⟩), .int .i64 0]) ∧ w.heap.size ≤ rr ∧ w.heap.size ≤ aa ∧ w.heap.size ≤ ca ∧ w.heap.size ≤ la ∧ w.heap.size ≤ sa ∧ (∀ a : Addr, jp = some a → w.heap.size ≤ a.block) ∧ RSys w' rr b c aa ca la sa n jp cap ws st (js.map RJ.fresh)))

set_option maxRecDepth 100000 in
set_option maxHeartbeats 2000000 in
theorem rnew (b c n l cap : Nat) (ws : List Int) (st kk ak ok vk : Int) (dk : Bool) (js : List Jb) (pa : Option Addr) (w : World) (hM : RMem w b c n ws st kk ak ok vk dk) (hJ : JobsAt w pa js) (hl : js.length = l) (l10 : l ≤ 10) :
    Calls Try.prog 17 #[.pointer (some ⟨b, 0, none⟩), .slice pa l cap] w (NewAns w b c n l ws st js) := by
  have n0 := hM.lo
  have n1 := hM.hi
  have hb := hM.blt
  have n0' : (1 : Int) ≤ (n : Int) := by omega
  have n1' : (n : Int) ≤ 64 := by omega
  have hm0 := hM.cells.1
  obtain ⟨hh, ehh⟩ : ∃ hh, w.heap.size = hh := ⟨_, rfl⟩
  have HM := hide hM
  have HJ := hide hJ
  have HL := hide hl
  have HE := hide ehh
  rw [ehh] at hb
  clear hM hJ hl ehh
  go_enter Try.func17, Try.ntmps17
  go_wp2_with fail
  go_loopw [6] (fun i wr => ∃ k : Nat, k ≤ l ∧ i = .int .i64 k ∧ (∀ (i : Nat) (j : Jb), i < k → js[i]? = some j → j.fit n) ∧ Below hh w wr ∧ hh ≤ wr.heap.size) (fun i _ => l - (intOf i).toNat)
  case atStart => exact ⟨0, Nat.zero_le _, rfl, fun i j h => by omega, Below.refl _ _, by rw [unhide HE]; exact Nat.le_refl _⟩
  case round =>
    obtain ⟨k, hk, rfl, hfs, hB, hs⟩ := hrel
    have hbw : b < wr.heap.size := by omega
    have m0 := (hB.cell (p := ⟨b, 0, none⟩) hb).trans hm0
    by_cases hkn : k < l
    · have j1 : (k : Int) < (l : Int) := by omega
      have j0 : (0 : Int) ≤ (k : Int) := by omega
      have hkx : k < js.length := by rw [unhide HL]; exact hkn
      obtain ⟨jb, jo, rfl, hjl, o0, o1, o2, o3, o4⟩ := unhide HJ k _ (List.getElem?_eq_getElem hkx)
      rw [unhide HE] at hjl
      have d0 := (hB.cell (p := ⟨jb, jo + k * 5, none⟩) hjl).trans o0
      have d1 := (hB.cell (p := ⟨jb, jo + k * 5 + 1, none⟩) hjl).trans o1
      have d2 := (hB.cell (p := ⟨jb, jo + k * 5 + 2, none⟩) hjl).trans o2
      have d3 := (hB.cell (p := ⟨jb, jo + k * 5 + 3, none⟩) hjl).trans o3
      have d4 := (hB.cell (p := ⟨jb, jo + k * 5 + 4, none⟩) hjl).trans o4
      clear o0 o1 o2 o3 o4
      have HT : Hid (js[k]? = some js[k]) := List.getElem?_eq_getElem hkx
      generalize js[k] = t at *
      by_cases hf : t.fit n
      · have hfs' : ∀ (i : Nat) (j : Jb), i < k + 1 → js[i]? = some j → j.fit n := by
          intro i j hi hj
          rcases Nat.lt_or_ge i k with h | h
          · exact hfs i j h hj
          · obtain rfl : i = k := by omega
            have := (unhide HT).symm.trans hj
            cases this
            exact hf
        have HFS := hide hfs'
        clear hfs hfs'
        obtain ⟨f0, f1, f2, ⟨f3, f4⟩ | ⟨f3 | f3, f4⟩⟩ := hf
        all_goals
          rw [f3] at d0
          have y0 : ¬ t.work < 0 := by omega
          have y1 : ¬ 100 < t.work := by omega
          have y2 : ¬ t.at_ < 0 := by omega
          have y3 : ¬ (n : Int) ≤ t.at_ := by omega
          try have y4 : ¬ (n : Int) - 2 ≤ t.at_ := by omega
          clear f3
          go_wp2_with fail
          go_roundw
          case rel => exact ⟨k + 1, by omega, by go_num, unhide HFS, hB.alloc hs _, by simp; omega⟩
          case measure => simp [intOf]; omega
      · have HF := hide hf
        have hc : t.kind < 1 ∨ 3 < t.kind ∨ ((t.kind = 1 ∨ t.kind = 2 ∨ t.kind = 3) ∧ (t.work < 0 ∨ 100 < t.work ∨ t.at_ < 0 ∨ (t.kind = 1 ∧ (n : Int) ≤ t.at_) ∨ (¬ t.kind = 1 ∧ (n : Int) - 2 ≤ t.at_))) := by
          unfold Jb.fit at hf
          omega
        clear hf hfs
        rcases hc with hc | hc | ⟨hk1, hc⟩
        · have e1 : ¬ t.kind = 1 := by omega
          go_wp2_with fail
          go_ret2
          exact ⟨by rw [unhide HE]; exact hB.alloc hs _, .inl ⟨⟨k, t, unhide HT, unhide HF⟩, rfl⟩⟩
        · have e1 : ¬ t.kind = 1 := by omega
          have e2 : ¬ t.kind < 1 := by omega
          go_wp2_with fail
          go_ret2
          exact ⟨by rw [unhide HE]; exact hB.alloc hs _, .inl ⟨⟨k, t, unhide HT, unhide HF⟩, rfl⟩⟩
        · rcases hk1 with hk1 | hk1 | hk1
          all_goals
            rw [hk1] at d0
            rcases hc with hc | hc | hc | ⟨hc1, hc⟩ | ⟨hc1, hc⟩
          all_goals first
            | (exfalso; omega)
            | (by_cases z0 : t.work < 0
               · clear hc hk1
                 go_wp2_with fail
                 go_ret2
                 exact ⟨by rw [unhide HE]; exact hB.alloc hs _, .inl ⟨⟨k, t, unhide HT, unhide HF⟩, rfl⟩⟩
               by_cases z1 : 100 < t.work
               · clear hc hk1
                 go_wp2_with fail
                 go_ret2
                 exact ⟨by rw [unhide HE]; exact hB.alloc hs _, .inl ⟨⟨k, t, unhide HT, unhide HF⟩, rfl⟩⟩
               by_cases z2 : t.at_ < 0
               · clear hc hk1
                 go_wp2_with fail
                 go_ret2
                 exact ⟨by rw [unhide HE]; exact hB.alloc hs _, .inl ⟨⟨k, t, unhide HT, unhide HF⟩, rfl⟩⟩
               first
               | (exfalso; omega)
               | (clear hk1
                  go_wp2_with fail
                  go_ret2
                  exact ⟨by rw [unhide HE]; exact hB.alloc hs _, .inl ⟨⟨k, t, unhide HT, unhide HF⟩, rfl⟩⟩))
    · obtain rfl : k = l := by omega
      have hfa : ∀ (i : Nat) (j : Jb), js[i]? = some j → j.fit n := fun i j hj => hfs i j (by rw [← unhide HL]; exact (List.getElem?_eq_some_iff.1 hj).1) hj
      have HFA := hide hfa
      clear hkn hk hfs hfa
      by_cases h8 : k ≤ 8
      · have h8' : ¬ (8 : Int) < (k : Int) := by omega
        go_wp2_with fail
        refine wp_region_any (by kernel_rfl) ?_
        change wpAny _ _ _ _ 16 _ _ (World.drew _)
        refine wpAny_take (i := 0) (v := ?_) rfl (by kernel_rfl) (by kernel_rfl) (by kernel_rfl) (fun _ _ _ h => h) (Or.inl ⟨by rfl, ?hy0⟩) ?_
        case hy0 => intro w; go_simp; all_goals with_reducible rfl
        refine wpAny_take (i := 2) (v := ?_) rfl (by kernel_rfl) (by kernel_rfl) (by kernel_rfl) (fun _ _ _ h => h) (Or.inl ⟨by rfl, ?hy2⟩) ?_
        case hy2 => intro w; go_simp; all_goals with_reducible rfl
        refine wpAny_take (i := 4) (v := ?_) rfl (by kernel_rfl) (by kernel_rfl) (by kernel_rfl) (fun _ _ _ h => h) (Or.inl ⟨by rfl, ?hy4⟩) ?_
        case hy4 => intro w; go_simp; all_goals with_reducible rfl
        refine wpAny_take (i := 6) (v := ?_) rfl (by kernel_rfl) (by kernel_rfl) (by kernel_rfl) (fun _ _ _ h => h) (Or.inl ⟨by rfl, ?hy6⟩) ?_
        case hy6 => intro w; go_simp; all_goals with_reducible rfl
        refine wpAny_take (i := 8) (v := ?_) rfl (by kernel_rfl) (by kernel_rfl) (by kernel_rfl) (fun _ _ _ h => h) (Or.inl ⟨by rfl, ?hy8⟩) ?_
        case hy8 => intro w; go_simp; all_goals with_reducible rfl
        refine wpAny_take (i := 10) (v := ?_) rfl (by kernel_rfl) (by kernel_rfl) (by kernel_rfl) (fun _ _ _ h => h) (Or.inl ⟨by rfl, ?hy10⟩) ?_
        case hy10 => intro w; go_simp; all_goals with_reducible rfl
        change wpAny _ _ _ _ 10 #[true, false, true, false, true, false, true, false, true, false, true, false, false, false, false, false] _ _
        go_simp
        refine region15 (by kernel_rfl) ⟨_, rfl, rfl, rfl, rfl⟩ ⟨_, rfl, rfl, rfl, rfl, rfl⟩ ⟨_, rfl, rfl, rfl, rfl⟩ ⟨_, rfl, rfl, rfl, rfl⟩ ⟨_, rfl, rfl, rfl, rfl⟩ ⟨_, rfl, rfl, rfl, rfl⟩ _ (by simp) rfl rfl rfl rfl rfl (unhide HJ) (unhide HL) h8 (unhide HE) (w := wr.drew) ⟨hB.os, hB.tape, hB.output, hB.size, hB.block⟩ hs ?_
        intro x1 x3 x5 x7 x9 x11 W F
        obtain ⟨jp, cp, rfl, hj3, hj4⟩ := F.p3 rfl
        obtain ⟨aa, rfl, haa, haa'⟩ := (F.p5 rfl).ex
        obtain ⟨ca, rfl, hca, hca'⟩ := (F.p7 rfl).ex
        obtain ⟨la, rfl, hla, hla'⟩ := (F.p9 rfl).ex
        obtain ⟨sa, rfl, hsa, hsa'⟩ := (F.p11 rfl).ex
        have HR := hide (F.rsys hj3 hj4 haa haa' hca hca' hla hla' hsa hsa' (unhide HM) (unhide HE) (unhide HL) h8)
        have HBW := hide F.below
        have HJ4 : Hid (∀ a : Addr, jp = some a → hh ≤ a.block) := hide (fun a e => (hj4 a e).1)
        have HSZ := hide F.size
        clear F hj3 hj4 haa' hca' hla' hsa' m0 hB hs hbw
        unfold six
        go_simp
        refine wpAny_take (i := 12) (v := ?_) rfl (by kernel_rfl) (by kernel_rfl) (by kernel_rfl) (fun _ _ _ h => h) (Or.inl ⟨by rfl, ?hy12⟩) ?_
        case hy12 => intro w; go_simp; all_goals with_reducible rfl
        refine wpAny_ready (rs := [13]) (by kernel_rfl) (by simp) ?_
        refine AllReady.cons rfl (fun K hK => ?_) AllReady.nil
        go_simp
        refine hK _ _ ?_
        clear hK
        refine wpAny_take (i := 14) (v := ?_) rfl (by kernel_rfl) (by kernel_rfl) (by kernel_rfl) (fun _ _ _ h => h) (Or.inl ⟨by rfl, ?hy14⟩) ?_
        case hy14 => intro w; go_simp; all_goals with_reducible rfl
        refine wpAny_take (i := 15) (v := ?_) rfl (by kernel_rfl) (by kernel_rfl) (by kernel_rfl) (fun _ _ _ h => h) (Or.inl ⟨by rfl, ?hy15⟩) ?_
        case hy15 => intro w; go_simp; all_goals with_reducible rfl
        refine wpAny_done (by kernel_rfl) ?_ _
        go_simp

        go_wp2_with fail
        go_ret2
        refine ⟨by rw [unhide HE]; exact (unhide HBW).alloc (unhide HSZ) _, .inr (.inr ⟨unhide HFA, h8, _, aa, ca, la, sa, jp, cp, rfl, ?_, ?_, ?_, ?_, ?_, ?_, unhide HR⟩)⟩
        all_goals (rw [unhide HE]; first | assumption | exact unhide HSZ | exact unhide HJ4)
      · have h8' : (8 : Int) < (k : Int) := by omega
        go_wp2_with fail
        go_ret2
        exact ⟨by rw [unhide HE]; exact hB, .inr (.inl ⟨unhide HFA, by omega, rfl⟩)⟩
end Go.Proofs.Ytkgeapmafpeapaa
