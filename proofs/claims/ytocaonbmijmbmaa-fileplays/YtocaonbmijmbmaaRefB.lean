/-
  The contracts of the document's check, Room, Get, Seek, Open and Close, told by the files that are open.
-/
import Derived.Test.YtocaonbmijmbmaaRefA
namespace Go.Proofs.Ytocaonbmijmbmaa
open Go.RowKit Go.Shelf
attribute [local go_sem ↓] Go.wp_at_zero Go.wp_at_succ

theorem RL.bi {es : List Op} {F : Nat → Op} {B : Nat → Bool} (h : RL es F B) {i : Nat} (hi : i < 64) : B i = (getO es ((i / 8 : Nat) : Int) ((i % 8 : Nat) : Int)).isSome := by
  have := h.b (i / 8) (i % 8) (by omega) (by omega)
  rw [show i / 8 * 8 + i % 8 = i by omega] at this
  exact this
theorem RL.fi {es : List Op} {F : Nat → Op} {B : Nat → Bool} (h : RL es F B) {i : Nat} (hi : i < 64) : Op.frow (F i) = Op.frow ((getO es ((i / 8 : Nat) : Int) ((i % 8 : Nat) : Int)).getD o0) := by
  have := h.f (i / 8) (i % 8) (by omega) (by omega)
  rw [show i / 8 * 8 + i % 8 = i by omega] at this
  exact this
theorem frow_inj {a b : Op} (h : Op.frow a = Op.frow b) : a.m = b.m ∧ a.n = b.n ∧ a.f = b.f ∧ a.s = b.s := by
  simp [Op.frow] at h; exact h
theorem RL.count {es : List Op} {F : Nat → Op} {B : Nat → Bool} (h : RL es F B) (hw : Wf es) : (List.range 64).countP B = es.length := by
  rw [len_all hw]
  apply List.countP_congr
  intro i hi
  rw [h.bi (List.mem_range.1 hi)]
theorem RL.inn {es : List Op} {F : Nat → Op} {B : Nat → Bool} (h : RL es F B) (hw : Wf es) (m : Int) : ((List.range 64).countP fun i => B i && (F i).m == m) = es.countP (isMt m) := by
  rw [cnt_all hw]
  apply List.countP_congr
  intro i hi
  have h1 := h.bi (List.mem_range.1 hi)
  have h2 := (frow_inj (h.fi (List.mem_range.1 hi))).1
  rw [h1, h2]
  cases getO es ((i / 8 : Nat) : Int) ((i % 8 : Nat) : Int) <;> simp [isMt]
theorem RL.room {es : List Op} {F : Nat → Op} {B : Nat → Bool} (h : RL es F B) (hw : Wf es) {p : Nat} (hp : p < 8) : ((List.range 8).countP fun k => B (p * 8 + k)) = es.countP (isPr p) := by
  rw [cnt_pr hw]
  apply List.countP_congr
  intro k hk
  rw [h.b p k hp (List.mem_range.1 hk)]
theorem RL.turn {es es' : List Op} {F : Nat → Op} {B : Nat → Bool} (h : RL es F B) {p d : Nat} (hp : p < 8) (hd : d < 8) {x : Option Op} {o : Op} (ho : Op.frow o = Op.frow (x.getD o0))
    (hg : ∀ p' d' : Int, getO es' p' d' = if p' = p ∧ d' = d then x else getO es p' d') : RL es' (up F (p * 8 + d) o) (up B (p * 8 + d) x.isSome) := by
  constructor
  · intro q k hq hk
    rw [hg]
    by_cases e : q = p ∧ k = d
    · obtain ⟨rfl, rfl⟩ := e
      rw [if_pos ⟨rfl, rfl⟩, up_same]
    · rw [if_neg (by omega)]
      unfold up
      rw [if_neg (by omega)]
      exact h.b q k hq hk
  · intro q k hq hk
    rw [hg]
    by_cases e : q = p ∧ k = d
    · obtain ⟨rfl, rfl⟩ := e
      rw [if_pos ⟨rfl, rfl⟩, up_same]
      exact ho
    · rw [if_neg (by omega)]
      unfold up
      rw [if_neg (by omega)]
      exact h.f q k hq hk
theorem isP_nat {p : Int} (h : isP p = true) : ∃ q : Nat, p = q ∧ q < 8 := by
  rw [isP_iff] at h; exact ⟨p.toNat, by omega, by omega⟩
theorem getO_rng {es : List Op} (hw : Wf es) {p d : Int} (hd : d < 0 ∨ 8 ≤ d) : getO es p d = none := by
  rw [getO_none]
  rintro o ho ⟨_, e2⟩
  have := (hw.rng o ho).2
  omega

set_option maxRecDepth 100000 in
set_option maxHeartbeats 1000000 in
theorem rcheck_any (r n : Nat) (es : List Op) (p d : Int) (F : Nat → Op) (B : Nat → Bool) (w : World) (h : Rt w r n F B) (hl : RL es F B) (hw : Wf es) :
    Calls Try.prog 28 #[.pointer (some ⟨r, 0, none⟩), I p, I d] w fun e w' => e = .returned (I (findE es p d)) ∧ w' = w := by
  have HP := hide (fun W => rproc_any p W)
  by_cases hp : isP p = true
  · rw [hp] at HP
    by_cases hd0 : d < 0
    · rw [show findE es p d = 33 by rw [findE_eq, if_pos hp, getO_rng hw (.inl hd0)]; rfl]
      clear h hl hw hp
      go_enter Try.func28, Try.ntmps28
      go_wp2_with fail
      refine (unhide HP _).mono ?_
      rintro e w1 ⟨rfl, rfl⟩
      go_wp2_with fail
      go_ret
      exact ⟨rfl, rfl⟩
    · by_cases hd8 : 8 ≤ d
      · rw [show findE es p d = 33 by rw [findE_eq, if_pos hp, getO_rng hw (.inr hd8)]; rfl]
        clear h hl hw hp
        go_enter Try.func28, Try.ntmps28
        go_wp2_with fail
        refine (unhide HP _).mono ?_
        rintro e w1 ⟨rfl, rfl⟩
        go_wp2_with fail
        go_ret
        exact ⟨rfl, rfl⟩
      · obtain ⟨q, rfl, hq⟩ := isP_nat hp
        obtain ⟨k, rfl⟩ : ∃ k : Nat, d = k := ⟨d.toNat, by omega⟩
        have hk : k < 8 := by omega
        have hb := h.b q k hq hk
        rw [hl.b q k hq hk] at hb
        rw [findE_eq, if_pos hp]
        have q1 : (q : Int) < 8 := by omega
        have q0 : (0 : Int) ≤ (q : Int) := by omega
        have k1 : (k : Int) < 8 := by omega
        have k0 : (0 : Int) ≤ (k : Int) := by omega
        cases hs : (getO es (q : Int) (k : Int)).isSome
        · rw [hs] at hb
          clear h hl hw hp hd0 hd8 hs
          go_enter Try.func28, Try.ntmps28
          go_wp2_with fail
          refine (unhide HP _).mono ?_
          rintro e w1 ⟨rfl, rfl⟩
          go_wp2_with fail
          go_ret
          exact ⟨rfl, rfl⟩
        · rw [hs] at hb
          clear h hl hw hp hd0 hd8 hs
          go_enter Try.func28, Try.ntmps28
          go_wp2_with fail
          refine (unhide HP _).mono ?_
          rintro e w1 ⟨rfl, rfl⟩
          go_wp2_with fail
          go_ret
          exact ⟨rfl, rfl⟩
  · rw [show findE es p d = 1 by rw [findE_eq, if_neg hp]]
    rw [show isP p = false by simpa using hp] at HP
    clear hp h hl hw
    go_enter Try.func28, Try.ntmps28
    go_wp2_with fail
    refine (unhide HP _).mono ?_
    rintro e w1 ⟨rfl, rfl⟩
    go_wp2_with fail
    go_ret
    exact ⟨rfl, rfl⟩

theorem roomE_eq (es : List Op) (n : Nat) (p : Int) (h : es.length ≤ n) : roomE es n p = if isP p = true then (if es.countP (isPr p) = 8 then 41 else if n ≤ es.length then 40 else 0) else 1 := by
  unfold roomE
  by_cases e : es.length = n
  · rw [if_pos e, if_pos (show n ≤ es.length by omega)]
  · rw [if_neg e, if_neg (show ¬ n ≤ es.length by omega)]

set_option maxRecDepth 100000 in
set_option maxHeartbeats 1000000 in
theorem rroom_any (r n : Nat) (es : List Op) (p : Int) (F : Nat → Op) (B : Nat → Bool) (w : World) (h : Rt w r n F B) (hl : RL es F B) (hw : Wf es) (hn : es.length ≤ n) :
    Calls Try.prog 21 #[.pointer (some ⟨r, 0, none⟩), I p] w fun e w' => e = .returned (I (roomE es n p)) ∧ Below w.heap.size w w' := by
  have HP := hide (fun W => rproc_any p W)
  rw [roomE_eq es n p hn]
  by_cases hp : isP p = true
  · rw [hp] at HP
    rw [if_pos hp]
    obtain ⟨q, rfl, hq⟩ := isP_nat hp
    have HC := hide (fun U (hU : Below w.heap.size w U) => rcount_any r n F B U (h.below hU))
    rw [hl.count hw] at HC
    have HR := hide h
    have hc8 := hl.room hw hq
    have q1 : (q : Int) < 8 := by omega
    have q0 : (0 : Int) ≤ (q : Int) := by omega
    have n0 := h.n0
    generalize hL : es.length = L at *
    generalize hK : es.countP (isPr (q : Int)) = K at *
    have HK8 := hide hc8
    obtain ⟨R, hR⟩ : ∃ R : Int, (if K = 8 then 41 else if n ≤ L then 40 else 0) = R := ⟨_, rfl⟩
    rw [hR]
    have HRR := hide hR
    clear hp h hl hw hc8 hL hK hR
    go_enter Try.func21, Try.ntmps21
    go_wp2_with fail
    refine (unhide HP _).mono ?_
    rintro e w1 ⟨rfl, hw1⟩
    rw [hw1]
    clear hw1 w1 HP
    go_wp2_with fail
    go_loopw [5, 6] (fun v i wr => wr = w ∧ ∃ k : Nat, i = I k ∧ k ≤ 8 ∧ v = I ((List.range k).countP fun k => B (q * 8 + k))) (fun _ i _ => 8 - (intOf i).toNat)
    case atStart => exact ⟨rfl, 0, rfl, by omega, by simp⟩
    case round =>
      obtain ⟨rfl, k, rfl, hk, rfl⟩ := hrel
      by_cases hk8 : k < 8
      · have i1 : (k : Int) < 8 := by omega
        have i0 : (0 : Int) ≤ (k : Int) := by omega
        have c := (unhide HR).b q k hq hk8
        have hs := hide (cnt_succ k fun k => B (q * 8 + k))
        have hl := cnt_bd k fun k => B (q * 8 + k)
        generalize hm : (List.range k).countP (fun k => B (q * 8 + k)) = m at *
        clear hm
        cases hB : B (q * 8 + k)
        · rw [hB] at c
          have hs1 : (List.range (k + 1)).countP (fun k => B (q * 8 + k)) = m := by
            have := unhide hs; rw [hB] at this; simpa using this
          have hs2 := hide hs1
          clear hB hs hs1
          go_wp2_with fail
          go_roundw
          case rel => exact ⟨trivial, k + 1, by go_num, by omega, by rw [unhide hs2]⟩
          case measure => simp [intOf]; omega
        · rw [hB] at c
          have hs1 : (List.range (k + 1)).countP (fun k => B (q * 8 + k)) = m + 1 := by
            have := unhide hs; rw [hB] at this; simpa using this
          have hs2 := hide hs1
          clear hB hs hs1
          go_wp2_with fail
          go_roundw
          case rel => exact ⟨trivial, k + 1, by go_num, by omega, by rw [unhide hs2]; simp⟩
          case measure => simp [intOf]; omega
      · obtain rfl : k = 8 := by omega
        rw [unhide HK8]
        clear HK8
        by_cases h8 : K = 8
        · have h8' : (K : Int) = 8 := by omega
          go_wp2_with fail
          go_ret
          exact ⟨by rw [← unhide HRR, if_pos h8]; rfl, Below.refl _ _⟩
        · have h8' : ¬ (K : Int) = 8 := by omega
          have n0d : wr.drew.cell? ⟨r, 0, none⟩ = some (I n) := n0
          by_cases hnl : n ≤ L
          · have hnl' : (n : Int) ≤ (L : Int) := by omega
            go_wp2_with fail
            go_region_held3 (fun w' => w'.cell? ⟨r, 0, none⟩ = some (I n)) (go_keep)
              ((go_at_call 22; refine (unhide HC wr.drew (below_d (Below.refl _ _))).mono ?_; rintro e w2 ⟨rfl, hw2⟩; rw [hw2]; clear hw2))
            all_goals go_wp2_with fail
            all_goals go_ret
            all_goals exact ⟨by rw [← unhide HRR, if_neg h8, if_pos hnl]; rfl, below_d (Below.refl _ _)⟩
          · have hnl' : ¬ (n : Int) ≤ (L : Int) := by omega
            go_wp2_with fail
            go_region_held3 (fun w' => w'.cell? ⟨r, 0, none⟩ = some (I n)) (go_keep)
              ((go_at_call 22; refine (unhide HC wr.drew (below_d (Below.refl _ _))).mono ?_; rintro e w2 ⟨rfl, hw2⟩; rw [hw2]; clear hw2))
            all_goals go_wp2_with fail
            all_goals go_ret
            all_goals exact ⟨by rw [← unhide HRR, if_neg h8, if_neg hnl]; rfl, below_d (Below.refl _ _)⟩
  · rw [if_neg hp]
    rw [show isP p = false by simpa using hp] at HP
    clear hp h hl hw
    go_enter Try.func21, Try.ntmps21
    go_wp2_with fail
    refine (unhide HP _).mono ?_
    rintro e w1 ⟨rfl, rfl⟩
    go_wp2_with fail
    go_ret
    exact ⟨rfl, Below.refl _ _⟩
end Go.Proofs.Ytocaonbmijmbmaa
