/-
  The document's own tree: Move.
-/
import Derived.Test.YtlngeaacjbdmhaaGreatQp24
namespace Go.Proofs.YtlngeaacjbdmhaaGreat.Rf
open Go.RowKit Go.Maps
attribute [local go_sem ↓] Go.wp_at_zero Go.wp_at_succ
section
variable {lo N : Nat} {W W' : World} {r : Nat} {T : Tr} {p : Nat} {Lv : Value} {nb : Int → Nat} {ev : Int → Value} {uv : Int → Int} {B : Nat}
set_option maxRecDepth 100000 in
set_option maxHeartbeats 8000000 in
theorem dMove_D (hq : Dq lo N W r T) (hw : Wf B T) (hB : B ≤ 870) (dir : Int) (s : ByteArray) (tq : Int) (s2 : ByteArray) (l : List Int) (hl : Ab T tq l) (hd : (kl dir).wf = true) (ht : (kl tq).wf = true) (hs : s2.size ≤ 281474976710656) (h16 : LkB T) :
    Calls Tryz.prog 70 #[P0 r, I dir, .string s, I tq, .string s2] W fun e w' => e = .returned (I (T.moveE l dir s tq s2)) ∧ De lo N W w' r (T.move l dir s tq s2) := by
  obtain ⟨p, Lv, nb, ev, uv, h, hu⟩ := hq
  have B0 : Below W.heap.size W W := Below.refl _ _
  have HR : Hid (∀ V, Below W.heap.size W V → De lo N W V r T) := hide fun V g => ⟨⟨p, Lv, nb, ev, uv, h.below g, hu⟩, Rx.of_below g h.bd.2.1⟩
  obtain ⟨vd, hvd⟩ : ∃ v, dirV T nb dir = v := ⟨_, rfl⟩
  obtain ⟨vt, hvt⟩ : ∃ v, dirV T nb tq = v := ⟨_, rfl⟩
  have HD1 := hide (fun V (g : Below W.heap.size W V) => dir_any (h.below g) hw.k (by omega) dir hd vd hvd)
  have HD2 := hide (fun V (g : Below W.heap.size W V) => dir_any (h.below g) hw.k (by omega) tq ht vt hvt)
  obtain ⟨rs, hrs⟩ : ∃ v, right s2 = v := ⟨_, rfl⟩
  have HQ : Hid (∀ V, Below W.heap.size W V → Calls Tryz.prog 126 #[.string s2] V fun e w' => e = .returned (.bool rs) ∧ w' = V) := hide (fun V _ => by rw [← hrs]; exact r7_any s2 hs V)
  obtain ⟨n0, hn0⟩ : ∃ v, (T.findN dir s).getD 0 = v := ⟨_, rfl⟩
  obtain ⟨f0, hf0⟩ : ∃ v, (T.findN dir s).isSome = v := ⟨_, rfl⟩
  obtain ⟨n1, hn1⟩ : ∃ v, (T.findN tq s2).getD 0 = v := ⟨_, rfl⟩
  obtain ⟨f1, hf1⟩ : ∃ v, (T.findN tq s2).isSome = v := ⟨_, rfl⟩
  have HF1 : Hid (∀ V, Below W.heap.size W V → Calls Tryz.prog 93 #[P0 r, I dir, .string s] V fun e w' => e = .returned (.tuple #[I n0, .bool f0]) ∧ Below W.heap.size W w') := hide (fun V g => (dFind_any (h.below g) hw.k (by omega) dir hd s n0 f0 hn0 hf0).mono (by
    rintro e w' ⟨h8, k, rfl⟩
    exact ⟨h8, g.trans ((below_n V k).mono g.size)⟩))
  have HF2 : Hid (∀ V, Below W.heap.size W V → Calls Tryz.prog 93 #[P0 r, I tq, .string s2] V fun e w' => e = .returned (.tuple #[I n1, .bool f1]) ∧ Below W.heap.size W w') := hide (fun V g => (dFind_any (h.below g) hw.k (by omega) tq ht s2 n1 f1 hn1 hf1).mono (by
    rintro e w' ⟨h8, k, rfl⟩
    exact ⟨h8, g.trans ((below_n V k).mono g.size)⟩))
  cases hx : T.dir dir with
  | none =>
    rw [dirV, hx] at hvd
    subst hvd
    have e1 : T.moveE l dir s tq s2 = 1 := by simp [Tr.moveE, hx]
    rw [Tr.move, e1, if_neg (by decide)]
    clear e1 h hw hl hu h16 
    go_enter Tryz.func70, Tryz.ntmps70
    go_wp2_with fail
    refine (unhide HD1 W B0).mono ?_
    rintro e z1 ⟨rfl, hz1⟩
    rw [hz1]
    clear hz1
    go_wp2_with fail
    go_ret
    exact ⟨rfl, unhide HR _ B0⟩
  | some f =>
    rw [dirV, hx] at hvd
    subst hvd
    obtain ⟨hfn, hfk⟩ := Tr.dir_some.1 hx
    cases hy : T.dir tq with
    | none =>
      rw [dirV, hy] at hvt
      subst hvt
      have e1 : T.moveE l dir s tq s2 = 1 := by simp [Tr.moveE, hx, hy]
      rw [Tr.move, e1, if_neg (by decide)]
      clear e1 h hw hl hu h16 
      go_enter Tryz.func70, Tryz.ntmps70
      go_wp2_with fail
      refine (unhide HD1 W B0).mono ?_
      rintro e z1 ⟨rfl, hz1⟩
      rw [hz1]
      clear hz1
      go_wp2_with fail
      refine (unhide HD2 W B0).mono ?_
      rintro e z1 ⟨rfl, hz1⟩
      rw [hz1]
      clear hz1
      go_wp2_with fail
      go_ret
      exact ⟨rfl, unhide HR _ B0⟩
    | some i =>
      rw [dirV, hy] at hvt
      subst hvt
      obtain ⟨hin, hik⟩ := Tr.dir_some.1 hy
      cases rs with
      | false =>
        have e1 : T.moveE l dir s tq s2 = 1 := by simp [Tr.moveE, hx, hy, hrs]
        rw [Tr.move, e1, if_neg (by decide)]
        clear e1 h hw hl hu h16 
        go_enter Tryz.func70, Tryz.ntmps70
        go_wp2_with fail
        refine (unhide HD1 W B0).mono ?_
        rintro e z1 ⟨rfl, hz1⟩
        rw [hz1]
        clear hz1
        go_wp2_with fail
        refine (unhide HD2 W B0).mono ?_
        rintro e z1 ⟨rfl, hz1⟩
        rw [hz1]
        clear hz1
        go_wp2_with fail
        refine (unhide HQ W B0).mono ?_
        rintro e z1 ⟨rfl, hz1⟩
        rw [hz1]
        clear hz1
        go_wp2_with fail
        go_ret
        exact ⟨rfl, unhide HR _ B0⟩
      | true =>
        cases hg : getE f.ins s with
        | none =>
          have e2 : T.findN dir s = none := by simp [Tr.findN, hx, hg]
          rw [e2] at hf0 hn0
          subst hf0
          have e1 : T.moveE l dir s tq s2 = 32 := by simp [Tr.moveE, hx, hy, hrs, hg]
          rw [Tr.move, e1, if_neg (by decide)]
          clear e2 hn0
          clear e1 h hw hl hu h16 
          go_enter Tryz.func70, Tryz.ntmps70
          go_wp2_with fail
          refine (unhide HD1 W B0).mono ?_
          rintro e z1 ⟨rfl, hz1⟩
          rw [hz1]
          clear hz1
          go_wp2_with fail
          refine (unhide HD2 W B0).mono ?_
          rintro e z1 ⟨rfl, hz1⟩
          rw [hz1]
          clear hz1
          go_wp2_with fail
          refine (unhide HQ W B0).mono ?_
          rintro e z1 ⟨rfl, hz1⟩
          rw [hz1]
          clear hz1
          go_wp2_with fail
          refine (unhide HF1 W B0).mono ?_
          rintro e w1 ⟨rfl, B1⟩
          go_wp2_with fail
          go_ret
          exact ⟨rfl, unhide HR _ B1⟩
        | some n =>
          have e2 : T.findN dir s = some n := by simp [Tr.findN, hx, hg]
          rw [e2] at hf0 hn0
          subst hf0
          obtain rfl : n = n0 := hn0
          clear e2
          obtain ⟨x, hxn⟩ := hw.k.ent hfn (getE_some hg)
          have hnw := hw.k.wf (by omega) hxn
          have HA := hide (fun V (g : Below W.heap.size W V) => at_any (h.below g) hw.k (by omega) n hnw (P0 (nb n)) (by rw [atV, hxn]))
          have hkx : T.kindOf n = x.kind := by simp [Tr.kindOf, hxn]
          by_cases hnm : i.names = 0
          · have HG := hide (fun V (g : Below W.heap.size W V) => gone_any (h.below g) hw.k (by omega) ht hin true (by simp [hnm]))
            have e1 : T.moveE l dir s tq s2 = 32 := by simp [Tr.moveE, hx, hy, hrs, hg, hnm]
            rw [Tr.move, e1, if_neg (by decide)]
            clear e1 h hw hl hu h16 
            go_enter Tryz.func70, Tryz.ntmps70
            go_wp2_with fail
            refine (unhide HD1 W B0).mono ?_
            rintro e z1 ⟨rfl, hz1⟩
            rw [hz1]
            clear hz1
            go_wp2_with fail
            refine (unhide HD2 W B0).mono ?_
            rintro e z1 ⟨rfl, hz1⟩
            rw [hz1]
            clear hz1
            go_wp2_with fail
            refine (unhide HQ W B0).mono ?_
            rintro e z1 ⟨rfl, hz1⟩
            rw [hz1]
            clear hz1
            go_wp2_with fail
            refine (unhide HF1 W B0).mono ?_
            rintro e w1 ⟨rfl, B1⟩
            go_wp2_with fail
            refine (unhide HG w1 B1).mono ?_
            rintro e z1 ⟨rfl, hz1⟩
            rw [hz1]
            clear hz1
            go_wp2_with fail
            go_ret
            exact ⟨rfl, unhide HR _ B1⟩
          · have HG := hide (fun V (g : Below W.heap.size W V) => gone_any (h.below g) hw.k (by omega) ht hin false (by simp [hnm]))
            have HC1 := hide (fun V (g : Below W.heap.size W V) => (dcells ((h.below g).hn n x hxn).1).2.1)
            by_cases hbad : x.kind = 1 ∧ (tq = n ∨ n ∈ l)
            · obtain ⟨hk1, hb2⟩ := hbad
              rw [hk1] at HC1
              by_cases htn : tq = n
              · have q1 : (tq == n) = true := by simpa using htn
                have HW := hide trivial
                have e1 : T.moveE l dir s tq s2 = 39 := by (simp only [Tr.moveE, hx, hy, hrs, hg, hkx, if_true]; rw [if_neg hnm, if_pos ⟨hk1, .inl htn⟩])
                rw [Tr.move, e1, if_neg (by decide)]
                clear htn hb2
                clear e1 h hw hl hu h16 
                go_enter Tryz.func70, Tryz.ntmps70
                go_wp2_with fail
                refine (unhide HD1 W B0).mono ?_
                rintro e z1 ⟨rfl, hz1⟩
                rw [hz1]
                clear hz1
                go_wp2_with fail
                refine (unhide HD2 W B0).mono ?_
                rintro e z1 ⟨rfl, hz1⟩
                rw [hz1]
                clear hz1
                go_wp2_with fail
                refine (unhide HQ W B0).mono ?_
                rintro e z1 ⟨rfl, hz1⟩
                rw [hz1]
                clear hz1
                go_wp2_with fail
                refine (unhide HF1 W B0).mono ?_
                rintro e w1 ⟨rfl, B1⟩
                have c1 := unhide HC1 w1 B1
                go_wp2_with fail
                refine (unhide HG w1 B1).mono ?_
                rintro e z1 ⟨rfl, hz1⟩
                rw [hz1]
                clear hz1
                go_wp2_with fail
                refine (unhide HA w1 B1).mono ?_
                rintro e z1 ⟨rfl, hz1⟩
                rw [hz1]
                clear hz1
                go_wp2_with fail
                go_ret
                exact ⟨rfl, unhide HR _ B1⟩
              · have hnl : n ∈ l := hb2.resolve_left htn
                have q1 : (tq == n) = false := by simpa using htn
                have HW := hide (fun V (g : Below W.heap.size W V) => within_any (h.below g) hu hw (by omega) tq n ht hnw i x hy (Tr.dir_some.2 ⟨hxn, hk1⟩) l hl true (by simp [hnl]))
                have e1 : T.moveE l dir s tq s2 = 39 := by simp [Tr.moveE, hx, hy, hrs, hg, hnm, hkx, hk1, hnl]
                rw [Tr.move, e1, if_neg (by decide)]
                clear htn hb2 hnl
                clear e1 h hw hl hu h16 
                go_enter Tryz.func70, Tryz.ntmps70
                go_wp2_with fail
                refine (unhide HD1 W B0).mono ?_
                rintro e z1 ⟨rfl, hz1⟩
                rw [hz1]
                clear hz1
                go_wp2_with fail
                refine (unhide HD2 W B0).mono ?_
                rintro e z1 ⟨rfl, hz1⟩
                rw [hz1]
                clear hz1
                go_wp2_with fail
                refine (unhide HQ W B0).mono ?_
                rintro e z1 ⟨rfl, hz1⟩
                rw [hz1]
                clear hz1
                go_wp2_with fail
                refine (unhide HF1 W B0).mono ?_
                rintro e w1 ⟨rfl, B1⟩
                have c1 := unhide HC1 w1 B1
                go_wp2_with fail
                refine (unhide HG w1 B1).mono ?_
                rintro e z1 ⟨rfl, hz1⟩
                rw [hz1]
                clear hz1
                go_wp2_with fail
                refine (unhide HA w1 B1).mono ?_
                rintro e z1 ⟨rfl, hz1⟩
                rw [hz1]
                clear hz1
                go_wp2_with fail
                refine (unhide HW w1 B1).mono ?_
                rintro e z1 ⟨rfl, hz1⟩
                rw [hz1]
                clear hz1
                go_wp2_with fail
                go_ret
                exact ⟨rfl, unhide HR _ B1⟩
            · have htn : tq ≠ n := fun e => hbad ⟨by
                subst e
                rw [hin] at hxn
                cases hxn
                exact hik, .inl e⟩
              have q1 : (tq == n) = false := by simpa using htn
              obtain ⟨kb, hkb⟩ : ∃ b, (x.kind == 1) = b := ⟨_, rfl⟩
              have HW : Hid (kb = true → ∀ V, Below W.heap.size W V → Calls Tryz.prog 21 #[P0 r, I tq, I n] V fun e w' => e = .returned (.bool false) ∧ w' = V) := hide (fun hk V g => within_any (h.below g) hu hw (by omega) tq n ht hnw i x hy (Tr.dir_some.2 ⟨hxn, by rw [← hkb] at hk; simpa using hk⟩) l hl false (by
                have hk1 : x.kind = 1 := by rw [← hkb] at hk; simpa using hk
                simp
                exact fun e => hbad ⟨hk1, .inr e⟩))
              cases hg2 : getE i.ins s2 with
              | some old =>
                have e2 : T.findN tq s2 = some old := by simp [Tr.findN, hy, hg2]
                rw [e2] at hf1 hn1
                subst hf1
                obtain rfl : old = n1 := hn1
                clear e2
                have hmo : T.moveE l dir s tq s2 = if old = n then 0 else T.yieldsE old (decide (x.kind = 1)) := by
                  simp only [Tr.moveE, hx, hy, hrs, hg, hg2, hkx, if_true]
                  rw [if_neg hnm, if_neg hbad]
                by_cases hon : old = n
                · have hm2 : T.move l dir s tq s2 = T := by
                    rw [Tr.move, hmo, if_pos hon, if_pos rfl]
                    simp only [Tr.insOf, hfn, hin, hg, hg2]
                    rw [if_pos hon]
                  rw [hmo, if_pos hon, hm2]
                  have q2 : (old == n) = true := by simpa using hon
                  clear hmo hm2 hon h16 hbad
                  cases kb with
                  | true =>
                    have hk1 : x.kind = 1 := by simpa using hkb
                    rw [hk1] at HC1
                    replace HW := hide (unhide HW rfl)
                    clear h hw hl hu
                    go_enter Tryz.func70, Tryz.ntmps70
                    go_wp2_with fail
                    refine (unhide HD1 W B0).mono ?_
                    rintro e z1 ⟨rfl, hz1⟩
                    rw [hz1]
                    clear hz1
                    go_wp2_with fail
                    refine (unhide HD2 W B0).mono ?_
                    rintro e z1 ⟨rfl, hz1⟩
                    rw [hz1]
                    clear hz1
                    go_wp2_with fail
                    refine (unhide HQ W B0).mono ?_
                    rintro e z1 ⟨rfl, hz1⟩
                    rw [hz1]
                    clear hz1
                    go_wp2_with fail
                    refine (unhide HF1 W B0).mono ?_
                    rintro e w1 ⟨rfl, B1⟩
                    have c1 := unhide HC1 w1 B1
                    go_wp2_with fail
                    refine (unhide HG w1 B1).mono ?_
                    rintro e z1 ⟨rfl, hz1⟩
                    rw [hz1]
                    clear hz1
                    go_wp2_with fail
                    refine (unhide HA w1 B1).mono ?_
                    rintro e z1 ⟨rfl, hz1⟩
                    rw [hz1]
                    clear hz1
                    go_wp2_with fail
                    refine (unhide HW w1 B1).mono ?_
                    rintro e z1 ⟨rfl, hz1⟩
                    rw [hz1]
                    clear hz1
                    go_wp2_with fail
                    refine (unhide HF2 w1 B1).mono ?_
                    rintro e w2 ⟨rfl, B2⟩
                    go_wp2_with fail
                    go_ret
                    exact ⟨rfl, unhide HR _ B2⟩
                  | false =>
                    have hk1 : ¬ x.kind = 1 := by simpa using hkb
                    clear HW
                    clear h hw hl hu
                    go_enter Tryz.func70, Tryz.ntmps70
                    go_wp2_with fail
                    refine (unhide HD1 W B0).mono ?_
                    rintro e z1 ⟨rfl, hz1⟩
                    rw [hz1]
                    clear hz1
                    go_wp2_with fail
                    refine (unhide HD2 W B0).mono ?_
                    rintro e z1 ⟨rfl, hz1⟩
                    rw [hz1]
                    clear hz1
                    go_wp2_with fail
                    refine (unhide HQ W B0).mono ?_
                    rintro e z1 ⟨rfl, hz1⟩
                    rw [hz1]
                    clear hz1
                    go_wp2_with fail
                    refine (unhide HF1 W B0).mono ?_
                    rintro e w1 ⟨rfl, B1⟩
                    have c1 := unhide HC1 w1 B1
                    go_wp2_with fail
                    refine (unhide HG w1 B1).mono ?_
                    rintro e z1 ⟨rfl, hz1⟩
                    rw [hz1]
                    clear hz1
                    go_wp2_with fail
                    refine (unhide HA w1 B1).mono ?_
                    rintro e z1 ⟨rfl, hz1⟩
                    rw [hz1]
                    clear hz1
                    go_wp2_with fail
                    refine (unhide HF2 w1 B1).mono ?_
                    rintro e w2 ⟨rfl, B2⟩
                    go_wp2_with fail
                    go_ret
                    exact ⟨rfl, unhide HR _ B2⟩
                · rw [if_neg hon] at hmo
                  have q2 : (old == n) = false := by simpa using hon
                  obtain ⟨y, hyn⟩ := hw.k.ent hin (getE_some hg2)
                  have how := hw.k.wf (by omega) hyn
                  have hky : T.kindOf old = y.kind := by simp [Tr.kindOf, hyn]
                  have HA2 := hide (fun V (g : Below W.heap.size W V) => at_any (h.below g) hw.k (by omega) old how (P0 (nb old)) (by rw [atV, hyn]))
                  obtain ⟨a9, cap9, hev⟩ := own_form (h.hn old y hyn).2
                  have hly := (hw.k.bnd old y hyn).2.2
                  have HC2 : Hid (∀ V, Below W.heap.size W V → V.cell? ⟨nb old, 1, none⟩ = some (I y.kind) ∧ V.cell? ⟨nb old, 8, none⟩ = some (.slice a9 y.ins.length cap9)) := hide (fun V g => by
                    have h8 := dcells ((h.below g).hn old y hyn).1
                    exact ⟨h8.2.1, by rw [h8.2.2.2.2.2.2.2.2.1, hev]⟩)
                  have hyo : T.insOf old = y.ins := by simp [Tr.insOf, hyn]
                  by_cases hkk : (x.kind = 1 ∧ y.kind ≠ 1) ∨ (x.kind ≠ 1 ∧ y.kind = 1)
                  · rcases hkk with ⟨hk1, hk2⟩ | ⟨hk1, hk2⟩
                    · have e1 : T.moveE l dir s tq s2 = 37 := by rw [hmo, Tr.yieldsE, hky]; simp [hk1, hk2]
                      rw [Tr.move, e1, if_neg (by decide)]
                      rw [hk1] at HC1
                      obtain rfl : true = kb := by rw [← hkb]; simp [hk1]
                      replace HW := hide (unhide HW rfl)
                      have q3 : (y.kind == 1) = false := by simpa using hk2
                      have q4 : (y.kind != 1) = true := by simpa using hk2
                      clear e1 h hw hl hu h16 hmo hbad hon
                      go_enter Tryz.func70, Tryz.ntmps70
                      go_wp2_with fail
                      refine (unhide HD1 W B0).mono ?_
                      rintro e z1 ⟨rfl, hz1⟩
                      rw [hz1]
                      clear hz1
                      go_wp2_with fail
                      refine (unhide HD2 W B0).mono ?_
                      rintro e z1 ⟨rfl, hz1⟩
                      rw [hz1]
                      clear hz1
                      go_wp2_with fail
                      refine (unhide HQ W B0).mono ?_
                      rintro e z1 ⟨rfl, hz1⟩
                      rw [hz1]
                      clear hz1
                      go_wp2_with fail
                      refine (unhide HF1 W B0).mono ?_
                      rintro e w1 ⟨rfl, B1⟩
                      have c1 := unhide HC1 w1 B1
                      go_wp2_with fail
                      refine (unhide HG w1 B1).mono ?_
                      rintro e z1 ⟨rfl, hz1⟩
                      rw [hz1]
                      clear hz1
                      go_wp2_with fail
                      refine (unhide HA w1 B1).mono ?_
                      rintro e z1 ⟨rfl, hz1⟩
                      rw [hz1]
                      clear hz1
                      go_wp2_with fail
                      refine (unhide HW w1 B1).mono ?_
                      rintro e z1 ⟨rfl, hz1⟩
                      rw [hz1]
                      clear hz1
                      go_wp2_with fail
                      refine (unhide HF2 w1 B1).mono ?_
                      rintro e w2 ⟨rfl, B2⟩
                      obtain ⟨c2, c3⟩ := unhide HC2 w2 B2
                      go_wp2_with fail
                      refine (unhide HA2 w2 B2).mono ?_
                      rintro e z1 ⟨rfl, hz1⟩
                      rw [hz1]
                      clear hz1
                      go_wp2_with fail
                      go_ret
                      exact ⟨rfl, unhide HR _ B2⟩
                    · have e1 : T.moveE l dir s tq s2 = 38 := by rw [hmo, Tr.yieldsE, hky]; simp [hk1, hk2]
                      rw [Tr.move, e1, if_neg (by decide)]
                      rw [hk2] at HC2
                      obtain rfl : false = kb := by rw [← hkb]; simp [hk1]
                      clear HW
                      clear e1 h hw hl hu h16 hmo hbad hon
                      go_enter Tryz.func70, Tryz.ntmps70
                      go_wp2_with fail
                      refine (unhide HD1 W B0).mono ?_
                      rintro e z1 ⟨rfl, hz1⟩
                      rw [hz1]
                      clear hz1
                      go_wp2_with fail
                      refine (unhide HD2 W B0).mono ?_
                      rintro e z1 ⟨rfl, hz1⟩
                      rw [hz1]
                      clear hz1
                      go_wp2_with fail
                      refine (unhide HQ W B0).mono ?_
                      rintro e z1 ⟨rfl, hz1⟩
                      rw [hz1]
                      clear hz1
                      go_wp2_with fail
                      refine (unhide HF1 W B0).mono ?_
                      rintro e w1 ⟨rfl, B1⟩
                      have c1 := unhide HC1 w1 B1
                      go_wp2_with fail
                      refine (unhide HG w1 B1).mono ?_
                      rintro e z1 ⟨rfl, hz1⟩
                      rw [hz1]
                      clear hz1
                      go_wp2_with fail
                      refine (unhide HA w1 B1).mono ?_
                      rintro e z1 ⟨rfl, hz1⟩
                      rw [hz1]
                      clear hz1
                      go_wp2_with fail
                      refine (unhide HF2 w1 B1).mono ?_
                      rintro e w2 ⟨rfl, B2⟩
                      obtain ⟨c2, c3⟩ := unhide HC2 w2 B2
                      go_wp2_with fail
                      refine (unhide HA2 w2 B2).mono ?_
                      rintro e z1 ⟨rfl, hz1⟩
                      rw [hz1]
                      clear hz1
                      go_wp2_with fail
                      go_ret
                      exact ⟨rfl, unhide HR _ B2⟩
                  · have hk2 : ∀ b, kb = b → (y.kind == 1) = b := fun b hb => by
                      rw [← hb, ← hkb]
                      by_cases e : x.kind = 1
                      · have : y.kind = 1 := Classical.byContradiction fun e2 => hkk (.inl ⟨e, e2⟩)
                        simp [e, this]
                      · have : ¬ y.kind = 1 := fun e2 => hkk (.inr ⟨e, e2⟩)
                        rw [beq_eq_false_iff_ne.2 this, beq_eq_false_iff_ne.2 e]
                    have hmo2 : T.moveE l dir s tq s2 = if 0 < y.ins.length then 47 else 0 := by
                      rw [hmo, Tr.yieldsE, hky, hyo, if_neg, if_neg]
                      · rintro ⟨a, b⟩; exact hkk (.inr ⟨by simpa using a, b⟩)
                      · rintro ⟨a, b⟩; exact hkk (.inl ⟨by simpa using a, b⟩)
                    by_cases hyl : 0 < y.ins.length
                    · rw [if_pos hyl] at hmo2
                      rw [Tr.move, hmo2, if_neg (by decide)]
                      generalize y.ins.length = L at *
                      have g1 : (0 : Int) < (L : Int) := by omega
                      have g2 : (L : Int) ≤ 900 := by omega
                      cases kb with
                      | true =>
                        have hk1 : x.kind = 1 := by simpa using hkb
                        rw [hk1] at HC1
                        replace HW := hide (unhide HW rfl)
                        have q3 := hk2 true rfl
                        have q4 : (y.kind != 1) = false := by simpa using q3
                        rw [show y.kind = 1 by simpa using q3] at HC2
                        clear h hw hl hu h16 hmo hmo2 hbad hon hkk hk2
                        go_enter Tryz.func70, Tryz.ntmps70
                        go_wp2_with fail
                        refine (unhide HD1 W B0).mono ?_
                        rintro e z1 ⟨rfl, hz1⟩
                        rw [hz1]
                        clear hz1
                        go_wp2_with fail
                        refine (unhide HD2 W B0).mono ?_
                        rintro e z1 ⟨rfl, hz1⟩
                        rw [hz1]
                        clear hz1
                        go_wp2_with fail
                        refine (unhide HQ W B0).mono ?_
                        rintro e z1 ⟨rfl, hz1⟩
                        rw [hz1]
                        clear hz1
                        go_wp2_with fail
                        refine (unhide HF1 W B0).mono ?_
                        rintro e w1 ⟨rfl, B1⟩
                        have c1 := unhide HC1 w1 B1
                        go_wp2_with fail
                        refine (unhide HG w1 B1).mono ?_
                        rintro e z1 ⟨rfl, hz1⟩
                        rw [hz1]
                        clear hz1
                        go_wp2_with fail
                        refine (unhide HA w1 B1).mono ?_
                        rintro e z1 ⟨rfl, hz1⟩
                        rw [hz1]
                        clear hz1
                        go_wp2_with fail
                        refine (unhide HW w1 B1).mono ?_
                        rintro e z1 ⟨rfl, hz1⟩
                        rw [hz1]
                        clear hz1
                        go_wp2_with fail
                        refine (unhide HF2 w1 B1).mono ?_
                        rintro e w2 ⟨rfl, B2⟩
                        obtain ⟨c2, c3⟩ := unhide HC2 w2 B2
                        go_wp2_with fail
                        refine (unhide HA2 w2 B2).mono ?_
                        rintro e z1 ⟨rfl, hz1⟩
                        rw [hz1]
                        clear hz1
                        go_wp2_with fail
                        go_ret
                        exact ⟨rfl, unhide HR _ B2⟩
                      | false =>
                        have hk1 : ¬ x.kind = 1 := by simpa using hkb
                        clear HW
                        have q3 := hk2 false rfl
                        have q4 : (y.kind != 1) = true := by simpa using q3
                        skip
                        clear h hw hl hu h16 hmo hmo2 hbad hon hkk hk2
                        go_enter Tryz.func70, Tryz.ntmps70
                        go_wp2_with fail
                        refine (unhide HD1 W B0).mono ?_
                        rintro e z1 ⟨rfl, hz1⟩
                        rw [hz1]
                        clear hz1
                        go_wp2_with fail
                        refine (unhide HD2 W B0).mono ?_
                        rintro e z1 ⟨rfl, hz1⟩
                        rw [hz1]
                        clear hz1
                        go_wp2_with fail
                        refine (unhide HQ W B0).mono ?_
                        rintro e z1 ⟨rfl, hz1⟩
                        rw [hz1]
                        clear hz1
                        go_wp2_with fail
                        refine (unhide HF1 W B0).mono ?_
                        rintro e w1 ⟨rfl, B1⟩
                        have c1 := unhide HC1 w1 B1
                        go_wp2_with fail
                        refine (unhide HG w1 B1).mono ?_
                        rintro e z1 ⟨rfl, hz1⟩
                        rw [hz1]
                        clear hz1
                        go_wp2_with fail
                        refine (unhide HA w1 B1).mono ?_
                        rintro e z1 ⟨rfl, hz1⟩
                        rw [hz1]
                        clear hz1
                        go_wp2_with fail
                        refine (unhide HF2 w1 B1).mono ?_
                        rintro e w2 ⟨rfl, B2⟩
                        obtain ⟨c2, c3⟩ := unhide HC2 w2 B2
                        go_wp2_with fail
                        refine (unhide HA2 w2 B2).mono ?_
                        rintro e z1 ⟨rfl, hz1⟩
                        rw [hz1]
                        clear hz1
                        go_wp2_with fail
                        go_ret
                        exact ⟨rfl, unhide HR _ B2⟩
                    · rw [if_neg hyl] at hmo2
                      have hyi : y.ins = [] := List.eq_nil_of_length_eq_zero (by omega)
                      have hto : tq ≠ old := fun e => by subst e; exact hw.noself hin (getE_some hg2)
                      have hdo : dir ≠ old := fun e => by
                        rw [← e, hfn] at hyn; cases hyn
                        have := getE_some hg
                        rw [hyi] at this; simp at this
                      have ho1 : old ≠ 1 := fun e => by subst e; exact hw.noroot hin (getE_some hg2)
                      have hy0 : 1 ≤ y.names := by
                        have := hw.k.num old y hyn
                        have := cntE_pos hw.k hin (getE_some hg2)
                        simp at this
                        omega
                      have hm2 : T.move l dir s tq s2 = ((T.take tq s2).give tq s2 n).take dir s := by
                        rw [Tr.move, hmo2, if_pos rfl]
                        simp only [Tr.insOf, hfn, hin, hg, hg2]
                        rw [if_neg hon]
                      have hnd := Tr.take_nd hin hg2 hyn hto
                      obtain ⟨T1, T2, T3⟩ := hw.take hin hg2 hyn hyi
                      have hSi := hw.k.srt tq i hin
                      have e5 : (T.take tq s2).nd tq = some { i with ins := delE i.ins s2 } := by rw [hnd, if_neg hto, if_pos rfl]
                      have e6 : (T.take tq s2).nd n = some x := by rw [hnd, if_neg (Ne.symm hon), if_neg (Ne.symm htn)]; exact hxn
                      have e7 : ∃ f1, (T.take tq s2).nd dir = some f1 ∧ getE f1.ins s = some n := by
                        rw [hnd, if_neg hdo]
                        by_cases e : dir = tq
                        · rw [if_pos e]
                          rw [e, hin] at hfn; cases hfn
                          refine ⟨_, rfl, ?_⟩
                          simp only
                          rw [delE_get hSi hg2, if_neg]
                          · exact hg
                          · intro e'; rw [e', hg2] at hg; cases hg; exact hon rfl
                        · rw [if_neg e]; exact ⟨f, hfn, hg⟩
                      obtain ⟨f2, e7, e8⟩ := e7
                      have hpl := hw.k.pol
                      have HO1 : Hid (∀ V, Below W.heap.size W V → Calls Tryz.prog 132 #[P0 r, I tq, .string s2] V fun e w3 => e = .returned (.tuple #[]) ∧ Hid (w3.cell? ⟨nb n, 11, none⟩ = some (I (x.holds : Int)) ∧ w3.frozen? ⟨nb n, 11, none⟩ = false ∧ (x.holds : Int) ≤ 900 ∧ ∃ X, w3.setCell ⟨nb n, 11, none⟩ (I ((x.holds : Int) + 1)) = X ∧
                          Hid (Calls Tryz.prog 132 #[P0 r, I dir, .string s] X fun e w1 => e = .returned (.tuple #[]) ∧
                            Hid (Calls Tryz.prog 131 #[P0 r, I tq, .string s2, I n] w1 fun e w2 => e = .returned (.tuple #[]) ∧ w2.cell? ⟨nb n, 11, none⟩ = some (I ((x.holds : Int) + 1)) ∧ w2.frozen? ⟨nb n, 11, none⟩ = false ∧
                              Hid (De lo N W (w2.setCell ⟨nb n, 11, none⟩ (I (x.holds : Int))) r (((T.take tq s2).give tq s2 n).take dir s)))))) := by
                        refine hide fun V g => (out_any (h.below g) hw.k (by omega) tq old s2 i y hin hyn hto ho1 hg2 hy0 (by omega) ht).mono ?_
                        rintro e w3 ⟨rfl, ev3, h3, R3⟩
                        exact ⟨rfl, hide (shift_tail h3 (hu.take hw hin hg2 hyn hyi) ((Rx.of_below g h.bd.2.1).trans R3) T1 (by omega) e7 e8 e5 hik (by simp only; rw [delE_get hSi hg2, if_pos rfl]) e6 htn hd ht)⟩
                      rw [hm2, hmo2]
                      rw [hyi] at HC2
                      clear HR
                      generalize ((T.take tq s2).give tq s2 n).take dir s = T9 at *
                      have hq0 : (0 : Int) ≤ (x.holds : Int) := by omega
                      generalize (x.holds : Int) = hq at *
                      clear hm2 hmo2 hmo hnd T1 T2 T3 hSi e5 e6 e7 e8 hpl hev hly hyo hto hdo ho1 hy0 hyl hyi
                      cases kb with
                      | true =>
                        have hk1 : x.kind = 1 := by simpa using hkb
                        rw [hk1] at HC1
                        replace HW := hide (unhide HW rfl)
                        have q3 := hk2 true rfl
                        have q4 : (y.kind != 1) = false := by simpa using q3
                        rw [show y.kind = 1 by simpa using q3] at HC2
                        by_cases hdt : dir = tq
                        · have q5 : (dir == tq) = true := by simpa using hdt
                          have q6 : (dir != tq) = false := by simpa using hdt
                          clear hdt
                          clear h hw hl hu h16 hbad hon hkk hk2
                          go_enter Tryz.func70, Tryz.ntmps70
                          go_wp2_with fail
                          refine (unhide HD1 W B0).mono ?_
                          rintro e z1 ⟨rfl, hz1⟩
                          rw [hz1]
                          clear hz1
                          go_wp2_with fail
                          refine (unhide HD2 W B0).mono ?_
                          rintro e z1 ⟨rfl, hz1⟩
                          rw [hz1]
                          clear hz1
                          go_wp2_with fail
                          refine (unhide HQ W B0).mono ?_
                          rintro e z1 ⟨rfl, hz1⟩
                          rw [hz1]
                          clear hz1
                          go_wp2_with fail
                          refine (unhide HF1 W B0).mono ?_
                          rintro e w1 ⟨rfl, B1⟩
                          have c1 := unhide HC1 w1 B1
                          go_wp2_with fail
                          refine (unhide HG w1 B1).mono ?_
                          rintro e z1 ⟨rfl, hz1⟩
                          rw [hz1]
                          clear hz1
                          go_wp2_with fail
                          refine (unhide HA w1 B1).mono ?_
                          rintro e z1 ⟨rfl, hz1⟩
                          rw [hz1]
                          clear hz1
                          go_wp2_with fail
                          refine (unhide HW w1 B1).mono ?_
                          rintro e z1 ⟨rfl, hz1⟩
                          rw [hz1]
                          clear hz1
                          go_wp2_with fail
                          refine (unhide HF2 w1 B1).mono ?_
                          rintro e w2 ⟨rfl, B2⟩
                          obtain ⟨c2, c3⟩ := unhide HC2 w2 B2
                          go_wp2_with fail
                          refine (unhide HA2 w2 B2).mono ?_
                          rintro e z1 ⟨rfl, hz1⟩
                          rw [hz1]
                          clear hz1
                          go_wp2_with fail
                          refine (unhide HO1 w2 B2).mono ?_
                          rintro e w3 ⟨rfl, ST⟩
                          obtain ⟨st1, st2, st3, X, hX, HO⟩ := unhide ST
                          go_wp2_with fail
                          refine (unhide HO).mono ?_
                          rintro e w4 ⟨rfl, HP⟩
                          go_wp2_with fail
                          refine (unhide HP).mono ?_
                          rintro e w5 ⟨rfl, p1, p2, HE⟩
                          go_wp2_with fail
                          go_ret
                          exact ⟨rfl, unhide HE⟩
                        · have q5 : (dir == tq) = false := by simpa using hdt
                          have q6 : (dir != tq) = true := by simpa using hdt
                          clear h hw hl hu h16 hbad hon hkk hk2
                          go_enter Tryz.func70, Tryz.ntmps70
                          go_wp2_with fail
                          refine (unhide HD1 W B0).mono ?_
                          rintro e z1 ⟨rfl, hz1⟩
                          rw [hz1]
                          clear hz1
                          go_wp2_with fail
                          refine (unhide HD2 W B0).mono ?_
                          rintro e z1 ⟨rfl, hz1⟩
                          rw [hz1]
                          clear hz1
                          go_wp2_with fail
                          refine (unhide HQ W B0).mono ?_
                          rintro e z1 ⟨rfl, hz1⟩
                          rw [hz1]
                          clear hz1
                          go_wp2_with fail
                          refine (unhide HF1 W B0).mono ?_
                          rintro e w1 ⟨rfl, B1⟩
                          have c1 := unhide HC1 w1 B1
                          go_wp2_with fail
                          refine (unhide HG w1 B1).mono ?_
                          rintro e z1 ⟨rfl, hz1⟩
                          rw [hz1]
                          clear hz1
                          go_wp2_with fail
                          refine (unhide HA w1 B1).mono ?_
                          rintro e z1 ⟨rfl, hz1⟩
                          rw [hz1]
                          clear hz1
                          go_wp2_with fail
                          refine (unhide HW w1 B1).mono ?_
                          rintro e z1 ⟨rfl, hz1⟩
                          rw [hz1]
                          clear hz1
                          go_wp2_with fail
                          refine (unhide HF2 w1 B1).mono ?_
                          rintro e w2 ⟨rfl, B2⟩
                          obtain ⟨c2, c3⟩ := unhide HC2 w2 B2
                          go_wp2_with fail
                          refine (unhide HA2 w2 B2).mono ?_
                          rintro e z1 ⟨rfl, hz1⟩
                          rw [hz1]
                          clear hz1
                          go_wp2_with fail
                          refine (unhide HO1 w2 B2).mono ?_
                          rintro e w3 ⟨rfl, ST⟩
                          obtain ⟨st1, st2, st3, X, hX, HO⟩ := unhide ST
                          go_wp2_with fail
                          refine (unhide HO).mono ?_
                          rintro e w4 ⟨rfl, HP⟩
                          go_wp2_with fail
                          refine (unhide HP).mono ?_
                          rintro e w5 ⟨rfl, p1, p2, HE⟩
                          go_wp2_with fail
                          go_ret
                          exact ⟨rfl, unhide HE⟩
                      | false =>
                        have hk1 : ¬ x.kind = 1 := by simpa using hkb
                        clear HW
                        have q3 := hk2 false rfl
                        have q4 : (y.kind != 1) = true := by simpa using q3
                        skip
                        clear h hw hl hu h16 hbad hon hkk hk2
                        go_enter Tryz.func70, Tryz.ntmps70
                        go_wp2_with fail
                        refine (unhide HD1 W B0).mono ?_
                        rintro e z1 ⟨rfl, hz1⟩
                        rw [hz1]
                        clear hz1
                        go_wp2_with fail
                        refine (unhide HD2 W B0).mono ?_
                        rintro e z1 ⟨rfl, hz1⟩
                        rw [hz1]
                        clear hz1
                        go_wp2_with fail
                        refine (unhide HQ W B0).mono ?_
                        rintro e z1 ⟨rfl, hz1⟩
                        rw [hz1]
                        clear hz1
                        go_wp2_with fail
                        refine (unhide HF1 W B0).mono ?_
                        rintro e w1 ⟨rfl, B1⟩
                        have c1 := unhide HC1 w1 B1
                        go_wp2_with fail
                        refine (unhide HG w1 B1).mono ?_
                        rintro e z1 ⟨rfl, hz1⟩
                        rw [hz1]
                        clear hz1
                        go_wp2_with fail
                        refine (unhide HA w1 B1).mono ?_
                        rintro e z1 ⟨rfl, hz1⟩
                        rw [hz1]
                        clear hz1
                        go_wp2_with fail
                        refine (unhide HF2 w1 B1).mono ?_
                        rintro e w2 ⟨rfl, B2⟩
                        obtain ⟨c2, c3⟩ := unhide HC2 w2 B2
                        go_wp2_with fail
                        refine (unhide HA2 w2 B2).mono ?_
                        rintro e z1 ⟨rfl, hz1⟩
                        rw [hz1]
                        clear hz1
                        go_wp2_with fail
                        refine (unhide HO1 w2 B2).mono ?_
                        rintro e w3 ⟨rfl, ST⟩
                        obtain ⟨st1, st2, st3, X, hX, HO⟩ := unhide ST
                        go_wp2_with fail
                        refine (unhide HO).mono ?_
                        rintro e w4 ⟨rfl, HP⟩
                        go_wp2_with fail
                        refine (unhide HP).mono ?_
                        rintro e w5 ⟨rfl, p1, p2, HE⟩
                        go_wp2_with fail
                        go_ret
                        exact ⟨rfl, unhide HE⟩
              | none =>
                have e2 : T.findN tq s2 = none := by simp [Tr.findN, hy, hg2]
                rw [e2] at hf1 hn1
                subst hf1
                clear e2 hn1
                have hmo : T.moveE l dir s tq s2 = if x.kind = 1 ∧ dir ≠ tq ∧ T.links i = 16 then 44 else 0 := by
                  simp only [Tr.moveE, hx, hy, hrs, hg, hg2, hkx, if_true]
                  rw [if_neg hnm, if_neg hbad]
                have hl16 := h16 tq i hin hik
                have HL := hide (fun V (g : Below W.heap.size W V) => links_any (h.below g) hw.k (by omega) ht hin (fun _ => hik) (T.links i) rfl)
                by_cases hfl : x.kind = 1 ∧ dir ≠ tq ∧ T.links i = 16
                · rw [if_pos hfl] at hmo
                  rw [Tr.move, hmo, if_neg (by decide)]
                  obtain ⟨hk1, hdt, h44⟩ := hfl
                  rw [hk1] at HC1
                  rw [h44] at HL
                  obtain rfl : true = kb := by rw [← hkb]; simp [hk1]
                  replace HW := hide (unhide HW rfl)
                  have q5 : (dir == tq) = false := by simpa using hdt
                  have q6 : (dir != tq) = true := by simpa using hdt
                  clear h hw hl hu h16 hmo hbad hdt h44 hl16
                  go_enter Tryz.func70, Tryz.ntmps70
                  go_wp2_with fail
                  refine (unhide HD1 W B0).mono ?_
                  rintro e z1 ⟨rfl, hz1⟩
                  rw [hz1]
                  clear hz1
                  go_wp2_with fail
                  refine (unhide HD2 W B0).mono ?_
                  rintro e z1 ⟨rfl, hz1⟩
                  rw [hz1]
                  clear hz1
                  go_wp2_with fail
                  refine (unhide HQ W B0).mono ?_
                  rintro e z1 ⟨rfl, hz1⟩
                  rw [hz1]
                  clear hz1
                  go_wp2_with fail
                  refine (unhide HF1 W B0).mono ?_
                  rintro e w1 ⟨rfl, B1⟩
                  have c1 := unhide HC1 w1 B1
                  go_wp2_with fail
                  refine (unhide HG w1 B1).mono ?_
                  rintro e z1 ⟨rfl, hz1⟩
                  rw [hz1]
                  clear hz1
                  go_wp2_with fail
                  refine (unhide HA w1 B1).mono ?_
                  rintro e z1 ⟨rfl, hz1⟩
                  rw [hz1]
                  clear hz1
                  go_wp2_with fail
                  refine (unhide HW w1 B1).mono ?_
                  rintro e z1 ⟨rfl, hz1⟩
                  rw [hz1]
                  clear hz1
                  go_wp2_with fail
                  refine (unhide HF2 w1 B1).mono ?_
                  rintro e w2 ⟨rfl, B2⟩
                  go_wp2_with fail
                  refine (unhide HL w2 B2).mono ?_
                  rintro e z1 ⟨rfl, hz1⟩
                  rw [hz1]
                  clear hz1
                  go_wp2_with fail
                  go_ret
                  exact ⟨rfl, unhide HR _ B2⟩
                · rw [if_neg hfl] at hmo
                  have hm2 : T.move l dir s tq s2 = (T.give tq s2 n).take dir s := by
                    rw [Tr.move, hmo, if_pos rfl]
                    simp only [Tr.insOf, hfn, hin, hg, hg2]
                  have HST := hide (fun V (g : Below W.heap.size W V) => shift_tail (h.below g) hu (Rx.of_below g h.bd.2.1) hw (by omega) hfn hg hin hik hg2 hxn htn hd ht)
                  rw [hm2, hmo]
                  clear HR
                  generalize (T.give tq s2 n).take dir s = T9 at *
                  have hq0 : (0 : Int) ≤ (x.holds : Int) := by omega
                  generalize (x.holds : Int) = hq at *
                  clear hm2 hmo
                  cases kb with
                  | true =>
                    have hk1 : x.kind = 1 := by simpa using hkb
                    rw [hk1] at HC1
                    replace HW := hide (unhide HW rfl)
                    by_cases hdt : dir = tq
                    · have q5 : (dir == tq) = true := by simpa using hdt
                      have q6 : (dir != tq) = false := by simpa using hdt
                      clear hdt hfl HL
                      clear h hw hl hu h16 hbad hl16
                      go_enter Tryz.func70, Tryz.ntmps70
                      go_wp2_with fail
                      refine (unhide HD1 W B0).mono ?_
                      rintro e z1 ⟨rfl, hz1⟩
                      rw [hz1]
                      clear hz1
                      go_wp2_with fail
                      refine (unhide HD2 W B0).mono ?_
                      rintro e z1 ⟨rfl, hz1⟩
                      rw [hz1]
                      clear hz1
                      go_wp2_with fail
                      refine (unhide HQ W B0).mono ?_
                      rintro e z1 ⟨rfl, hz1⟩
                      rw [hz1]
                      clear hz1
                      go_wp2_with fail
                      refine (unhide HF1 W B0).mono ?_
                      rintro e w1 ⟨rfl, B1⟩
                      have c1 := unhide HC1 w1 B1
                      go_wp2_with fail
                      refine (unhide HG w1 B1).mono ?_
                      rintro e z1 ⟨rfl, hz1⟩
                      rw [hz1]
                      clear hz1
                      go_wp2_with fail
                      refine (unhide HA w1 B1).mono ?_
                      rintro e z1 ⟨rfl, hz1⟩
                      rw [hz1]
                      clear hz1
                      go_wp2_with fail
                      refine (unhide HW w1 B1).mono ?_
                      rintro e z1 ⟨rfl, hz1⟩
                      rw [hz1]
                      clear hz1
                      go_wp2_with fail
                      refine (unhide HF2 w1 B1).mono ?_
                      rintro e w2 ⟨rfl, B2⟩
                      obtain ⟨st1, st2, st3, X, hX, HO⟩ := unhide HST w2 B2
                      go_wp2_with fail
                      refine (unhide HO).mono ?_
                      rintro e w4 ⟨rfl, HP⟩
                      go_wp2_with fail
                      refine (unhide HP).mono ?_
                      rintro e w5 ⟨rfl, p1, p2, HE⟩
                      go_wp2_with fail
                      go_ret
                      exact ⟨rfl, unhide HE⟩
                    · have q5 : (dir == tq) = false := by simpa using hdt
                      have q6 : (dir != tq) = true := by simpa using hdt
                      have hne : T.links i ≠ 16 := fun e => hfl ⟨hk1, hdt, e⟩
                      generalize T.links i = lk at *
                      have g16 : ¬ (16 : Int) ≤ (lk : Int) := by omega
                      clear hdt hfl hne
                      clear h hw hl hu h16 hbad hl16
                      go_enter Tryz.func70, Tryz.ntmps70
                      go_wp2_with fail
                      refine (unhide HD1 W B0).mono ?_
                      rintro e z1 ⟨rfl, hz1⟩
                      rw [hz1]
                      clear hz1
                      go_wp2_with fail
                      refine (unhide HD2 W B0).mono ?_
                      rintro e z1 ⟨rfl, hz1⟩
                      rw [hz1]
                      clear hz1
                      go_wp2_with fail
                      refine (unhide HQ W B0).mono ?_
                      rintro e z1 ⟨rfl, hz1⟩
                      rw [hz1]
                      clear hz1
                      go_wp2_with fail
                      refine (unhide HF1 W B0).mono ?_
                      rintro e w1 ⟨rfl, B1⟩
                      have c1 := unhide HC1 w1 B1
                      go_wp2_with fail
                      refine (unhide HG w1 B1).mono ?_
                      rintro e z1 ⟨rfl, hz1⟩
                      rw [hz1]
                      clear hz1
                      go_wp2_with fail
                      refine (unhide HA w1 B1).mono ?_
                      rintro e z1 ⟨rfl, hz1⟩
                      rw [hz1]
                      clear hz1
                      go_wp2_with fail
                      refine (unhide HW w1 B1).mono ?_
                      rintro e z1 ⟨rfl, hz1⟩
                      rw [hz1]
                      clear hz1
                      go_wp2_with fail
                      refine (unhide HF2 w1 B1).mono ?_
                      rintro e w2 ⟨rfl, B2⟩
                      obtain ⟨st1, st2, st3, X, hX, HO⟩ := unhide HST w2 B2
                      go_wp2_with fail
                      refine (unhide HL w2 B2).mono ?_
                      rintro e z1 ⟨rfl, hz1⟩
                      rw [hz1]
                      clear hz1
                      go_wp2_with fail
                      refine (unhide HO).mono ?_
                      rintro e w4 ⟨rfl, HP⟩
                      go_wp2_with fail
                      refine (unhide HP).mono ?_
                      rintro e w5 ⟨rfl, p1, p2, HE⟩
                      go_wp2_with fail
                      go_ret
                      exact ⟨rfl, unhide HE⟩
                  | false =>
                    clear HW HL hfl
                    clear h hw hl hu h16 hbad hl16
                    go_enter Tryz.func70, Tryz.ntmps70
                    go_wp2_with fail
                    refine (unhide HD1 W B0).mono ?_
                    rintro e z1 ⟨rfl, hz1⟩
                    rw [hz1]
                    clear hz1
                    go_wp2_with fail
                    refine (unhide HD2 W B0).mono ?_
                    rintro e z1 ⟨rfl, hz1⟩
                    rw [hz1]
                    clear hz1
                    go_wp2_with fail
                    refine (unhide HQ W B0).mono ?_
                    rintro e z1 ⟨rfl, hz1⟩
                    rw [hz1]
                    clear hz1
                    go_wp2_with fail
                    refine (unhide HF1 W B0).mono ?_
                    rintro e w1 ⟨rfl, B1⟩
                    have c1 := unhide HC1 w1 B1
                    go_wp2_with fail
                    refine (unhide HG w1 B1).mono ?_
                    rintro e z1 ⟨rfl, hz1⟩
                    rw [hz1]
                    clear hz1
                    go_wp2_with fail
                    refine (unhide HA w1 B1).mono ?_
                    rintro e z1 ⟨rfl, hz1⟩
                    rw [hz1]
                    clear hz1
                    go_wp2_with fail
                    refine (unhide HF2 w1 B1).mono ?_
                    rintro e w2 ⟨rfl, B2⟩
                    obtain ⟨st1, st2, st3, X, hX, HO⟩ := unhide HST w2 B2
                    go_wp2_with fail
                    refine (unhide HO).mono ?_
                    rintro e w4 ⟨rfl, HP⟩
                    go_wp2_with fail
                    refine (unhide HP).mono ?_
                    rintro e w5 ⟨rfl, p1, p2, HE⟩
                    go_wp2_with fail
                    go_ret
                    exact ⟨rfl, unhide HE⟩
end
end Go.Proofs.YtlngeaacjbdmhaaGreat.Rf
