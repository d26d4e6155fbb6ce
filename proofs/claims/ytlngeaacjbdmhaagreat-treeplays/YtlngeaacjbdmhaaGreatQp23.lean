/-
  The document's own tree: Make, refused.
-/
import Derived.Test.YtlngeaacjbdmhaaGreatQp22
namespace Go.Proofs.YtlngeaacjbdmhaaGreat.Rf
open Go.RowKit Go.Maps
attribute [local go_sem ↓] Go.wp_at_zero Go.wp_at_succ
section
variable {lo N : Nat} {W W' : World} {r : Nat} {T : Tr} {p : Nat} {Lv : Value} {nb : Int → Nat} {ev : Int → Value} {uv : Int → Int} {B : Nat}
set_option maxRecDepth 100000 in
set_option maxHeartbeats 4000000 in
theorem dMake_no (h : DtI lo N W r T p Lv nb ev uv) (hw : Wf B T) (hB : B ≤ 890) (dir : Int) (s : ByteArray) (hd : (kl dir).wf = true) (hs : s.size ≤ 281474976710656) (sn kd mo ui gi li si : Int) (text : ByteArray) (q : Int) (hq : T.makeE dir s kd text = q) (hq0 : q ≠ 0) (h16 : ∀ x, T.nd dir = some x → T.links x ≤ 16) :
    Calls Tryz.prog 65 #[P0 r, I dir, .string s, .agg #[I sn, I kd, I mo, I ui, I gi, I li, I si], .string text] W fun e w' => e = .returned (.tuple #[I 0, I q]) ∧ Below W.heap.size W w' := by
  obtain ⟨V, hV, hS, hB1⟩ : ∃ V, W.alloc (.cells #[I sn, I kd, I mo, I ui, I gi, I li, I si] 33) = V ∧ V.heap[W.heap.size]? = some (.cells #[I sn, I kd, I mo, I ui, I gi, I li, I si] 33) ∧ Below W.heap.size W V := ⟨_, rfl, putAll _ _ rfl, (Below.refl _ _).alloc (Nat.le_refl _) _⟩
  obtain ⟨vd, hvd⟩ : ∃ v, dirV T nb dir = v := ⟨_, rfl⟩
  have HD := hide (dir_any (h.below hB1) hw.k (by omega) dir hd vd hvd)
  have HQ := hide (r7_any s hs V)
  obtain ⟨s0, s1, s2, s3, s4, s5, s6, sf⟩ := cells7 hS
  have HB := hide hB1
  cases hx : T.dir dir with
  | none =>
    obtain rfl : q = 1 := by rw [← hq]; simp [Tr.makeE, hx]
    rw [dirV, hx] at hvd
    subst hvd
    clear h hw hB1 hS hq
    go_enter Tryz.func65, Tryz.ntmps65
    go_wp2_with (first
      | (go_at_call 81; refine (unhide HD).mono ?_; rintro e w1 ⟨rfl, hw1⟩; rw [hw1]; clear hw1)
      | (go_at_call 126; refine (unhide HQ).mono ?_; rintro e w1 ⟨rfl, hw1⟩; rw [hw1]; clear hw1)
      | (go_at_call 127; refine (unhide HFi).mono ?_; rintro e w1 ⟨rfl, hw1⟩; rw [hw1]; clear hw1)
      | (go_at_call 128; refine (unhide HG).mono ?_; rintro e w1 ⟨rfl, hw1⟩; rw [hw1]; clear hw1)
      | (go_at_call 129; refine (unhide HK).mono ?_; rintro e w1 ⟨rfl, hw1⟩; rw [hw1]; clear hw1)
      | (go_at_call 87; refine (unhide HLf).mono ?_; rintro e w1 ⟨rfl, HB2⟩))
    go_ret2
    exact ⟨rfl, unhide HB⟩
  | some x =>
    rw [dirV, hx] at hvd
    subst hvd
    have hxn := (Tr.dir_some.1 hx).1
    have hxk := (Tr.dir_some.1 hx).2
    cases hrs : right s with
    | false =>
      obtain rfl : q = 1 := by rw [← hq]; simp [Tr.makeE, hx, hrs]
      rw [hrs] at HQ
      clear h hw hB1 hS hq
      go_enter Tryz.func65, Tryz.ntmps65
      go_wp2_with (first
        | (go_at_call 81; refine (unhide HD).mono ?_; rintro e w1 ⟨rfl, hw1⟩; rw [hw1]; clear hw1)
        | (go_at_call 126; refine (unhide HQ).mono ?_; rintro e w1 ⟨rfl, hw1⟩; rw [hw1]; clear hw1)
        | (go_at_call 127; refine (unhide HFi).mono ?_; rintro e w1 ⟨rfl, hw1⟩; rw [hw1]; clear hw1)
        | (go_at_call 128; refine (unhide HG).mono ?_; rintro e w1 ⟨rfl, hw1⟩; rw [hw1]; clear hw1)
        | (go_at_call 129; refine (unhide HK).mono ?_; rintro e w1 ⟨rfl, hw1⟩; rw [hw1]; clear hw1)
        | (go_at_call 87; refine (unhide HLf).mono ?_; rintro e w1 ⟨rfl, HB2⟩))
      go_ret2
      exact ⟨rfl, unhide HB⟩
    | true =>
      rw [hrs] at HQ
      by_cases hk1 : kd < 1
      · obtain rfl : q = 1 := by
          rw [← hq]
          have : fitsB kd text = false := by unfold fitsB; rw [if_neg (by omega)]; simp; omega
          simp [Tr.makeE, hx, hrs, this]
        clear h hw hB1 hS hq
        go_enter Tryz.func65, Tryz.ntmps65
        go_wp2_with (first
          | (go_at_call 81; refine (unhide HD).mono ?_; rintro e w1 ⟨rfl, hw1⟩; rw [hw1]; clear hw1)
          | (go_at_call 126; refine (unhide HQ).mono ?_; rintro e w1 ⟨rfl, hw1⟩; rw [hw1]; clear hw1)
          | (go_at_call 127; refine (unhide HFi).mono ?_; rintro e w1 ⟨rfl, hw1⟩; rw [hw1]; clear hw1)
          | (go_at_call 128; refine (unhide HG).mono ?_; rintro e w1 ⟨rfl, hw1⟩; rw [hw1]; clear hw1)
          | (go_at_call 129; refine (unhide HK).mono ?_; rintro e w1 ⟨rfl, hw1⟩; rw [hw1]; clear hw1)
          | (go_at_call 87; refine (unhide HLf).mono ?_; rintro e w1 ⟨rfl, HB2⟩))
        go_ret2
        exact ⟨rfl, unhide HB⟩
      · by_cases hk3 : 3 < kd
        · obtain rfl : q = 1 := by
            rw [← hq]
            have : fitsB kd text = false := by unfold fitsB; rw [if_neg (by omega)]; simp; omega
            simp [Tr.makeE, hx, hrs, this]
          clear h hw hB1 hS hq
          go_enter Tryz.func65, Tryz.ntmps65
          go_wp2_with (first
            | (go_at_call 81; refine (unhide HD).mono ?_; rintro e w1 ⟨rfl, hw1⟩; rw [hw1]; clear hw1)
            | (go_at_call 126; refine (unhide HQ).mono ?_; rintro e w1 ⟨rfl, hw1⟩; rw [hw1]; clear hw1)
            | (go_at_call 127; refine (unhide HFi).mono ?_; rintro e w1 ⟨rfl, hw1⟩; rw [hw1]; clear hw1)
            | (go_at_call 128; refine (unhide HG).mono ?_; rintro e w1 ⟨rfl, hw1⟩; rw [hw1]; clear hw1)
            | (go_at_call 129; refine (unhide HK).mono ?_; rintro e w1 ⟨rfl, hw1⟩; rw [hw1]; clear hw1)
            | (go_at_call 87; refine (unhide HLf).mono ?_; rintro e w1 ⟨rfl, HB2⟩))
          go_ret2
          exact ⟨rfl, unhide HB⟩
        · have hkk : kd = 1 ∨ kd = 2 ∨ kd = 3 := by omega
          by_cases ht : text = ⟨#[]⟩ ∨ kd = 3
          · have hfit : fitsB kd text = true := by
              unfold fitsB
              rcases hkk with rfl | rfl | rfl
              · simpa using ht
              · simpa using ht
              · simp
            have hl := (hw.k.bnd dir x hxn).2.2
            by_cases ht1 : text = ⟨#[]⟩
            · subst ht1
              have hV1 := (h.below hB1).hn dir x hxn
              cases hg : getE x.ins s with
              | some z =>
                obtain rfl : q = 35 := by rw [← hq]; simp [Tr.makeE, hx, hrs, hfit, refusesE, hg]
                have HFi := hide (find_any hV1.1 hV1.2 (hw.k.srt dir x hxn) (by omega) s (pos x.ins s : Int) (by rw [idx, hg]))
                generalize pos x.ins s = ps at *
                have g0 : (0 : Int) ≤ (ps : Int) := by omega
                clear h hw hB1 hS hq hV1
                go_enter Tryz.func65, Tryz.ntmps65
                go_wp2_with (first
                  | (go_at_call 81; refine (unhide HD).mono ?_; rintro e w1 ⟨rfl, hw1⟩; rw [hw1]; clear hw1)
                  | (go_at_call 126; refine (unhide HQ).mono ?_; rintro e w1 ⟨rfl, hw1⟩; rw [hw1]; clear hw1)
                  | (go_at_call 127; refine (unhide HFi).mono ?_; rintro e w1 ⟨rfl, hw1⟩; rw [hw1]; clear hw1)
                  | (go_at_call 128; refine (unhide HG).mono ?_; rintro e w1 ⟨rfl, hw1⟩; rw [hw1]; clear hw1)
                  | (go_at_call 129; refine (unhide HK).mono ?_; rintro e w1 ⟨rfl, hw1⟩; rw [hw1]; clear hw1)
                  | (go_at_call 87; refine (unhide HLf).mono ?_; rintro e w1 ⟨rfl, HB2⟩))
                go_ret2
                exact ⟨rfl, unhide HB⟩
              | none =>
                have HFi := hide (find_any hV1.1 hV1.2 (hw.k.srt dir x hxn) (by omega) s (-1) (by rw [idx, hg]))
                by_cases hnm : x.names = 0
                · obtain rfl : q = 32 := by rw [← hq]; simp [Tr.makeE, hx, hrs, hfit, refusesE, hg, hnm]
                  have HG := hide (gone_any (h.below hB1) hw.k (by omega) hd hxn true (by simp [hnm]))
                  clear h hw hB1 hS hq hV1
                  go_enter Tryz.func65, Tryz.ntmps65
                  go_wp2_with (first
                    | (go_at_call 81; refine (unhide HD).mono ?_; rintro e w1 ⟨rfl, hw1⟩; rw [hw1]; clear hw1)
                    | (go_at_call 126; refine (unhide HQ).mono ?_; rintro e w1 ⟨rfl, hw1⟩; rw [hw1]; clear hw1)
                    | (go_at_call 127; refine (unhide HFi).mono ?_; rintro e w1 ⟨rfl, hw1⟩; rw [hw1]; clear hw1)
                    | (go_at_call 128; refine (unhide HG).mono ?_; rintro e w1 ⟨rfl, hw1⟩; rw [hw1]; clear hw1)
                    | (go_at_call 129; refine (unhide HK).mono ?_; rintro e w1 ⟨rfl, hw1⟩; rw [hw1]; clear hw1)
                    | (go_at_call 87; refine (unhide HLf).mono ?_; rintro e w1 ⟨rfl, HB2⟩))
                  go_ret2
                  exact ⟨rfl, unhide HB⟩
                · have HG := hide (gone_any (h.below hB1) hw.k (by omega) hd hxn false (by simp [hnm]))
                  have HK := hide (links_any (h.below hB1) hw.k (by omega) hd hxn (fun _ => hxk) (T.links x) rfl)
                  have HLf := hide (dLeft_any (h.below hB1) hw.k (by omega) (by have := hw.k.mst; omega))
                  have hl16 := h16 x hxn
                  have hBs := hB1.size
                  by_cases h44 : kd = 1 ∧ T.links x = 16
                  · obtain rfl : q = 44 := by rw [← hq]; simp [Tr.makeE, hx, hrs, refusesE, hg, hnm, h44, fitsB]
                    rw [h44.2] at HK
                    have hk11 := h44.1
                    subst hk11
                    clear h hw hB1 hS hq hV1 HLf
                    go_enter Tryz.func65, Tryz.ntmps65
                    go_wp2_with (first
                      | (go_at_call 81; refine (unhide HD).mono ?_; rintro e w1 ⟨rfl, hw1⟩; rw [hw1]; clear hw1)
                      | (go_at_call 126; refine (unhide HQ).mono ?_; rintro e w1 ⟨rfl, hw1⟩; rw [hw1]; clear hw1)
                      | (go_at_call 127; refine (unhide HFi).mono ?_; rintro e w1 ⟨rfl, hw1⟩; rw [hw1]; clear hw1)
                      | (go_at_call 128; refine (unhide HG).mono ?_; rintro e w1 ⟨rfl, hw1⟩; rw [hw1]; clear hw1)
                      | (go_at_call 129; refine (unhide HK).mono ?_; rintro e w1 ⟨rfl, hw1⟩; rw [hw1]; clear hw1)
                      | (go_at_call 87; refine (unhide HLf).mono ?_; rintro e w1 ⟨rfl, HB2⟩))
                    go_ret2
                    exact ⟨rfl, unhide HB⟩
                  · have hlf : T.left = 0 := by
                      by_cases e : T.left = 0
                      · exact e
                      · exact absurd (by rw [← hq]; simp [Tr.makeE, hx, hrs, hfit, refusesE, hg, hnm, h44, e]) hq0
                    obtain rfl : q = 43 := by rw [← hq]; simp [Tr.makeE, hx, hrs, hfit, refusesE, hg, hnm, h44, hlf]
                    rw [hlf] at HLf
                    generalize T.links x = lk at *
                    by_cases hk11 : kd = 1
                    · subst hk11
                      have g16 : ¬ (16 : Int) ≤ (lk : Int) := by omega
                      clear h hw hB1 hS hq hV1
                      go_enter Tryz.func65, Tryz.ntmps65
                      go_wp2_with (first
                        | (go_at_call 81; refine (unhide HD).mono ?_; rintro e w1 ⟨rfl, hw1⟩; rw [hw1]; clear hw1)
                        | (go_at_call 126; refine (unhide HQ).mono ?_; rintro e w1 ⟨rfl, hw1⟩; rw [hw1]; clear hw1)
                        | (go_at_call 127; refine (unhide HFi).mono ?_; rintro e w1 ⟨rfl, hw1⟩; rw [hw1]; clear hw1)
                        | (go_at_call 128; refine (unhide HG).mono ?_; rintro e w1 ⟨rfl, hw1⟩; rw [hw1]; clear hw1)
                        | (go_at_call 129; refine (unhide HK).mono ?_; rintro e w1 ⟨rfl, hw1⟩; rw [hw1]; clear hw1)
                        | (go_at_call 87; refine (unhide HLf).mono ?_; rintro e w1 ⟨rfl, HB2⟩))
                      go_ret2
                      exact ⟨rfl, (unhide HB).trans (HB2.mono hBs)⟩
                    · have hk12 : (kd == 1) = false := by simpa using hk11
                      clear h hw hB1 hS hq hV1
                      go_enter Tryz.func65, Tryz.ntmps65
                      go_wp2_with (first
                        | (go_at_call 81; refine (unhide HD).mono ?_; rintro e w1 ⟨rfl, hw1⟩; rw [hw1]; clear hw1)
                        | (go_at_call 126; refine (unhide HQ).mono ?_; rintro e w1 ⟨rfl, hw1⟩; rw [hw1]; clear hw1)
                        | (go_at_call 127; refine (unhide HFi).mono ?_; rintro e w1 ⟨rfl, hw1⟩; rw [hw1]; clear hw1)
                        | (go_at_call 128; refine (unhide HG).mono ?_; rintro e w1 ⟨rfl, hw1⟩; rw [hw1]; clear hw1)
                        | (go_at_call 129; refine (unhide HK).mono ?_; rintro e w1 ⟨rfl, hw1⟩; rw [hw1]; clear hw1)
                        | (go_at_call 87; refine (unhide HLf).mono ?_; rintro e w1 ⟨rfl, HB2⟩))
                      go_ret2
                      exact ⟨rfl, (unhide HB).trans (HB2.mono hBs)⟩
            · obtain rfl : kd = 3 := ht.resolve_left ht1
              have ht5 : ¬ text.toList = [] := fun e => by
                rw [ByteArray.toList_eq] at e
                exact ht1 (ByteArray.ext (Array.ext' e))
              have ht4 : (text.toList == ([] : List UInt8)) = false := by rw [beq_eq_false_iff_ne]; exact ht5
              have ht6 : (text.toList != ([] : List UInt8)) = true := by rw [bne_iff_ne]; exact ht5
              have ht7 : text.toList.isEmpty = false := by simpa using ht5
              have hV1 := (h.below hB1).hn dir x hxn
              cases hg : getE x.ins s with
              | some z =>
                obtain rfl : q = 35 := by rw [← hq]; simp [Tr.makeE, hx, hrs, hfit, refusesE, hg]
                have HFi := hide (find_any hV1.1 hV1.2 (hw.k.srt dir x hxn) (by omega) s (pos x.ins s : Int) (by rw [idx, hg]))
                generalize pos x.ins s = ps at *
                have g0 : (0 : Int) ≤ (ps : Int) := by omega
                clear h hw hB1 hS hq hV1
                go_enter Tryz.func65, Tryz.ntmps65
                go_wp2_with (first
                  | (go_at_call 81; refine (unhide HD).mono ?_; rintro e w1 ⟨rfl, hw1⟩; rw [hw1]; clear hw1)
                  | (go_at_call 126; refine (unhide HQ).mono ?_; rintro e w1 ⟨rfl, hw1⟩; rw [hw1]; clear hw1)
                  | (go_at_call 127; refine (unhide HFi).mono ?_; rintro e w1 ⟨rfl, hw1⟩; rw [hw1]; clear hw1)
                  | (go_at_call 128; refine (unhide HG).mono ?_; rintro e w1 ⟨rfl, hw1⟩; rw [hw1]; clear hw1)
                  | (go_at_call 129; refine (unhide HK).mono ?_; rintro e w1 ⟨rfl, hw1⟩; rw [hw1]; clear hw1)
                  | (go_at_call 87; refine (unhide HLf).mono ?_; rintro e w1 ⟨rfl, HB2⟩))
                go_ret2
                exact ⟨rfl, unhide HB⟩
              | none =>
                have HFi := hide (find_any hV1.1 hV1.2 (hw.k.srt dir x hxn) (by omega) s (-1) (by rw [idx, hg]))
                by_cases hnm : x.names = 0
                · obtain rfl : q = 32 := by rw [← hq]; simp [Tr.makeE, hx, hrs, hfit, refusesE, hg, hnm]
                  have HG := hide (gone_any (h.below hB1) hw.k (by omega) hd hxn true (by simp [hnm]))
                  clear h hw hB1 hS hq hV1
                  go_enter Tryz.func65, Tryz.ntmps65
                  go_wp2_with (first
                    | (go_at_call 81; refine (unhide HD).mono ?_; rintro e w1 ⟨rfl, hw1⟩; rw [hw1]; clear hw1)
                    | (go_at_call 126; refine (unhide HQ).mono ?_; rintro e w1 ⟨rfl, hw1⟩; rw [hw1]; clear hw1)
                    | (go_at_call 127; refine (unhide HFi).mono ?_; rintro e w1 ⟨rfl, hw1⟩; rw [hw1]; clear hw1)
                    | (go_at_call 128; refine (unhide HG).mono ?_; rintro e w1 ⟨rfl, hw1⟩; rw [hw1]; clear hw1)
                    | (go_at_call 129; refine (unhide HK).mono ?_; rintro e w1 ⟨rfl, hw1⟩; rw [hw1]; clear hw1)
                    | (go_at_call 87; refine (unhide HLf).mono ?_; rintro e w1 ⟨rfl, HB2⟩))
                  go_ret2
                  exact ⟨rfl, unhide HB⟩
                · have HG := hide (gone_any (h.below hB1) hw.k (by omega) hd hxn false (by simp [hnm]))
                  have HK := hide (links_any (h.below hB1) hw.k (by omega) hd hxn (fun _ => hxk) (T.links x) rfl)
                  have HLf := hide (dLeft_any (h.below hB1) hw.k (by omega) (by have := hw.k.mst; omega))
                  have hl16 := h16 x hxn
                  have hBs := hB1.size
                  by_cases h44 : (3 : Int) = 1 ∧ T.links x = 16
                  · exact absurd h44.1 (by decide)
                  · have hlf : T.left = 0 := by
                      by_cases e : T.left = 0
                      · exact e
                      · exact absurd (by rw [← hq]; simp [Tr.makeE, hx, hrs, hfit, refusesE, hg, hnm, e]) hq0
                    obtain rfl : q = 43 := by rw [← hq]; simp [Tr.makeE, hx, hrs, hfit, refusesE, hg, hnm, hlf]
                    rw [hlf] at HLf
                    generalize T.links x = lk at *
                    clear h hw hB1 hS hq hV1
                    go_enter Tryz.func65, Tryz.ntmps65
                    go_wp2_with (first
                      | (go_at_call 81; refine (unhide HD).mono ?_; rintro e w1 ⟨rfl, hw1⟩; rw [hw1]; clear hw1)
                      | (go_at_call 126; refine (unhide HQ).mono ?_; rintro e w1 ⟨rfl, hw1⟩; rw [hw1]; clear hw1)
                      | (go_at_call 127; refine (unhide HFi).mono ?_; rintro e w1 ⟨rfl, hw1⟩; rw [hw1]; clear hw1)
                      | (go_at_call 128; refine (unhide HG).mono ?_; rintro e w1 ⟨rfl, hw1⟩; rw [hw1]; clear hw1)
                      | (go_at_call 129; refine (unhide HK).mono ?_; rintro e w1 ⟨rfl, hw1⟩; rw [hw1]; clear hw1)
                      | (go_at_call 87; refine (unhide HLf).mono ?_; rintro e w1 ⟨rfl, HB2⟩))
                    go_ret2
                    exact ⟨rfl, (unhide HB).trans (HB2.mono hBs)⟩
          · obtain rfl : q = 1 := by
              rw [← hq]
              have : fitsB kd text = false := by
                unfold fitsB
                rw [if_pos (by omega)]
                simpa using fun e => ht (.inl e)
              simp [Tr.makeE, hx, hrs, this]
            have ht1 : ¬ text = ⟨#[]⟩ := fun e => ht (.inl e)
            have ht2 : ¬ kd = 3 := fun e => ht (.inr e)
            have ht3 : (kd != 3) = true := by simpa using ht2
            have ht5 : ¬ text.toList = [] := fun e => by
              rw [ByteArray.toList_eq] at e
              exact ht1 (ByteArray.ext (Array.ext' e))
            have ht4 : (text.toList == ([] : List UInt8)) = false := by rw [beq_eq_false_iff_ne]; exact ht5
            have ht6 : (text.toList != ([] : List UInt8)) = true := by rw [bne_iff_ne]; exact ht5
            have ht7 : text.toList.isEmpty = false := by simpa using ht5
            clear h hw hB1 hS hq
            go_enter Tryz.func65, Tryz.ntmps65
            go_wp2_with (first
              | (go_at_call 81; refine (unhide HD).mono ?_; rintro e w1 ⟨rfl, hw1⟩; rw [hw1]; clear hw1)
              | (go_at_call 126; refine (unhide HQ).mono ?_; rintro e w1 ⟨rfl, hw1⟩; rw [hw1]; clear hw1)
              | (go_at_call 127; refine (unhide HFi).mono ?_; rintro e w1 ⟨rfl, hw1⟩; rw [hw1]; clear hw1)
              | (go_at_call 128; refine (unhide HG).mono ?_; rintro e w1 ⟨rfl, hw1⟩; rw [hw1]; clear hw1)
              | (go_at_call 129; refine (unhide HK).mono ?_; rintro e w1 ⟨rfl, hw1⟩; rw [hw1]; clear hw1)
              | (go_at_call 87; refine (unhide HLf).mono ?_; rintro e w1 ⟨rfl, HB2⟩))
            go_ret2
            exact ⟨rfl, unhide HB⟩
end
end Go.Proofs.YtlngeaacjbdmhaaGreat.Rf

namespace Go.Proofs.YtlngeaacjbdmhaaGreat.Rf
open Go.RowKit Go.Maps
attribute [local go_sem ↓] Go.wp_at_zero Go.wp_at_succ
theorem infoPR : (Tryz.prog.info? 136).map (fun i => (i.zero, i.size, i.bytes)) = some (some (.pointer none), 1, 8) := by kernel_rfl
set_option maxRecDepth 100000 in
set_option maxHeartbeats 1000000 in
theorem dNew_any (nodes blocks : Nat) (hn : 1 ≤ nodes ∧ nodes ≤ 64) (hb : blocks ≤ 256) (w : World) :
    Calls Tryz.prog 17 #[I (nodes : Int), I (blocks : Int)] w fun e w' => ∃ r, e = .returned (.tuple #[P0 r, I 0]) ∧ Dq w.heap.size blocks w' r (Tr.new nodes blocks) ∧ Below w.heap.size w w' := by
  have HP := hide (fun w => Rb.rnew_any blocks blocks w)
  have k1 : ¬ ((nodes : Int) < 1) := by omega
  have k2 : ¬ ((64 : Int) < (nodes : Int)) := by omega
  have k3 : ¬ ((blocks : Int) < 0) := by omega
  have k4 : ¬ ((256 : Int) < (blocks : Int)) := by omega
  go_enter Tryz.func17, Tryz.ntmps17
  go_wp2_with fail
  refine (unhide HP w).mono ?_
  rintro e w1 ⟨rfl, hq, hbl⟩
  obtain ⟨A, hA, hAs, hA1, hAB⟩ : ∃ A, w1.alloc (.cells #[I (nodes : Int), P0 w.heap.size, .slice none 0 0] 135) = A ∧ A.heap.size = w1.heap.size + 1 ∧ A.heap[w1.heap.size]? = some (.cells #[I (nodes : Int), P0 w.heap.size, .slice none 0 0] 135) ∧ Below w1.heap.size w1 A := ⟨_, rfl, by simp, putAll _ _ rfl, (Below.refl _ _).alloc (Nat.le_refl _) _⟩
  obtain ⟨D, hD, hDs, hD1, hDB⟩ : ∃ D, A.alloc (.cells #[.int .i64 1, .int .i64 1, .int .i64 493, .int .i64 0, .int .i64 0, .int .i64 0, .int .i64 0, .string ⟨#[]⟩, .slice none 0 0, .int .i64 1, .int .i64 0, .int .i64 0, .int .i64 0] 139) = D ∧ D.heap.size = A.heap.size + 1 ∧ D.heap[A.heap.size]? = some (.cells #[.int .i64 1, .int .i64 1, .int .i64 493, .int .i64 0, .int .i64 0, .int .i64 0, .int .i64 0, .string ⟨#[]⟩, .slice none 0 0, .int .i64 1, .int .i64 0, .int .i64 0, .int .i64 0] 139) ∧ Below A.heap.size A D := ⟨_, rfl, by simp, putAll _ _ rfl, (Below.refl _ _).alloc (Nat.le_refl _) _⟩
  obtain ⟨i0, hi, hz0, hz1, hz2⟩ := info_parts infoPR
  obtain ⟨v', X, hrun, own1, hgr, -, -⟩ := run_append_own_at (P := Tryz.prog) (D.alloc (.cells #[P0 A.heap.size] 136)) w1.heap.size 133 133 136 i0 (.pointer none) 1 8 Tryz.underlying133 hi hz0 hz1 hz2 rfl (by decide) (.slice none 0 0) 0 [] (World.ownsRow_nil _ _ _ _) ⟨D.heap.size, 0, none⟩ 1 1 [P0 A.heap.size] rfl (Nm.cell_one_new D _ _) (by intro u hu; simp at hu; subst hu; rfl) (by unfold maxLen; omega) (by omega) (by simp; omega)
  have hXB : Below D.heap.size D X := ((Below.refl _ D).alloc (Nat.le_refl _) _).trans ⟨hgr.os, hgr.tape, hgr.output, hgr.size, fun j hj => hgr.block j (by simp; omega) (by simp [Value.ownBlock])⟩
  have hX1 : X.heap[w1.heap.size]? = some (.cells #[I (nodes : Int), P0 w.heap.size, .slice none 0 0] 135) := ((hXB.block _ (by omega)).trans (hDB.block _ (by omega))).trans hA1
  have x2 : X.cell? ⟨w1.heap.size, 2, none⟩ = some (.slice none 0 0) := by rw [cell_of hX1]; rfl
  have xf : X.frozen? ⟨w1.heap.size, 2, none⟩ = false := frozen_of hX1 2
  have a2 : A.cell? ⟨w1.heap.size, 2, none⟩ = some (.slice none 0 0) := by rw [cell_of hA1]; rfl
  have HF : Hid (Dq w.heap.size blocks (X.setCell ⟨w1.heap.size, 2, none⟩ v') w1.heap.size (Tr.new nodes blocks) ∧ Below w.heap.size w (X.setCell ⟨w1.heap.size, 2, none⟩ v')) := by
    have hsz := hbl.size
    have hB1 : Below w1.heap.size w1 X := (hAB.trans (hDB.mono (by omega))).trans (hXB.mono (by omega))
    have hset : ∀ j, j ≠ w1.heap.size → (X.setCell ⟨w1.heap.size, 2, none⟩ v').heap[j]? = X.heap[j]? := fun j hj => Below.heap_setCell _ _ _ _ hj
    have hBl : Below w1.heap.size w1 (X.setCell ⟨w1.heap.size, 2, none⟩ v') := hB1.setCell (p := ⟨w1.heap.size, 2, none⟩) (Nat.le_refl _) _
    have hnd : ∀ k x, (Tr.new nodes blocks).nd k = some x → k = 1 ∧ x = ⟨1, 493, 0, 0, 1, 0, 1, [], 0, ⟨#[]⟩⟩ := fun k x hk => by
      simp only [Tr.new] at hk
      split at hk
      · cases hk
        exact ⟨by assumption, rfl⟩
      · cases hk
    refine ⟨⟨w.heap.size, v', fun _ => A.heap.size, fun _ => .slice none 0 0, fun _ => 1, ⟨by rw [heap_set hX1]; rfl, ?_, fun k x hk => ?_, fun j k x y hj hk hjk => absurd ((hnd j x hj).1.trans (hnd k y hk).1.symm) hjk, ?_, ⟨hsz, Nat.le_trans hsz hBl.size, fun k x _ => by omega⟩⟩, fun k x hk => ?_⟩, hbl.trans (hBl.mono hsz)⟩
    · have e : dptrs (Tr.new nodes blocks) (fun _ => A.heap.size) = [P0 A.heap.size] := rfl
      rw [e]
      refine own_base (own_keep (s := 1) (n := 1) own1 fun j cur hc => hset j ?_) hsz
      rintro rfl
      rw [hX1] at hc
      simp at hc
    · obtain ⟨rfl, rfl⟩ := hnd k x hk
      refine ⟨?_, World.ownsRow_nil _ _ _ _⟩
      rw [hset _ (by omega), hXB.block _ (by omega), hD1]
      rfl
    · obtain ⟨L, fb, bv, hp⟩ := hq
      exact Rb.Rq.mono ⟨L, fb, bv, hp.keep hBl.size fun b cs ty f e _ => hBl.block b (lt_of_heap e)⟩ hBl.size (Nat.le_refl _)
    · obtain ⟨rfl, -⟩ := hnd k x (Tr.dir_some.1 hk).1
      rfl
  obtain ⟨a', c', hv'⟩ := own_form own1
  subst hv'
  have HA := hide hAs
  clear hq hbl hAs hA1 hAB hDs hD1 hDB own1 hgr hXB hX1
  go_wp2_with (at_builtin; refine wpList_append_eq rfl _ _ 133 rfl 133 rfl _ _ rfl rfl _ _ hrun ?_)
  go_ret2
  exact ⟨_, rfl, unhide HF⟩
end Go.Proofs.YtlngeaacjbdmhaaGreat.Rf

namespace Go.Proofs.YtlngeaacjbdmhaaGreat.Rf
open Go.RowKit Go.Maps
section
variable {lo N : Nat} {W W' : World} {r : Nat} {T : Tr} {p : Nat} {Lv : Value} {nb : Int → Nat} {ev : Int → Value} {uv : Int → Int} {B : Nat}
def Tr.more (T : Tr) (x : Nd) : Tr := { T with made := T.made + 1, nd := fun k => if k = (T.made : Int) + 1 then some x else T.nd k }
theorem DtI.more (h : DtI lo N W r T p Lv nb ev uv) (hw : Wk B T) {x : Nd} {c : Nat} {u : Int} {cv : Value} (hc : W.heap[c]? = some (.cells (dnC ((T.made : Int) + 1) x u cv) 139)) (hcl : lo ≤ c) (hcn : ∀ k y, T.nd k = some y → nb k ≠ c) (hcv : Dr lo W cv x.ins)
    {v' : Value} {X : World} {o : Obj} (own1 : X.ownsRow lo 136 1 v' (T.made + 1) (dptrs T nb ++ [P0 c])) (hgr : (W.alloc o).grownBy X Lv.ownBlock) :
    DtI lo N (X.setCell ⟨r, 2, none⟩ v') r (Tr.more T x) p v' (fun k => if k = (T.made : Int) + 1 then c else nb k) (fun k => if k = (T.made : Int) + 1 then cv else ev k) (fun k => if k = (T.made : Int) + 1 then u else uv k) ∧ Rx lo W (X.setCell ⟨r, 2, none⟩ v') := by
  have hLb : ∀ g, Lv.ownBlock = some g → lo ≤ g ∧ ∃ cur, W.heap[g]? = some (.cells cur 136) := fun g hg => Rb.own_blk h.hL hg
  have hsz : W.heap.size ≤ X.heap.size := by have := hgr.size; simp at this; omega
  have hX : ∀ (b : Nat) (cs : Array Value) (t : TypeId) (f : Nat × Nat), W.heap[b]? = some (.cells cs t f) → t ≠ 136 → X.heap[b]? = W.heap[b]? := fun b cs t f e ht => by
    have hb := lt_of_heap e
    rw [hgr.block b (by simp; omega) (fun e2 => by
      obtain ⟨-, cur, e3⟩ := hLb b e2.symm
      rw [e] at e3
      cases e3
      exact ht rfl), Below.heap_alloc _ _ _ hb]
  have hS : ∀ (b : Nat) (cs : Array Value) (t : TypeId) (f : Nat × Nat), W.heap[b]? = some (.cells cs t f) → t ≠ 136 → t ≠ 135 → (X.setCell ⟨r, 2, none⟩ v').heap[b]? = W.heap[b]? := fun b cs t f e ht ht2 => by
    rw [Below.heap_setCell _ _ _ _ (show b ≠ r by
      rintro rfl
      rw [h.ht] at e
      cases e
      exact ht2 rfl)]
    exact hX b cs t f e ht
  have hrX := (hX _ _ _ _ h.ht (by decide)).trans h.ht
  have hsz2 : W.heap.size ≤ (X.setCell ⟨r, 2, none⟩ v').heap.size := by simpa [World.setCell] using hsz
  have hkey : ∀ k y, T.nd k = some y → k ≠ (T.made : Int) + 1 := fun k y hk => by have := hw.key k y hk; omega
  refine ⟨⟨by rw [heap_set hrX]; rfl, ?_, fun k y hk => ?_, fun j k y z hj hk hjk => ?_, ?_, ⟨h.bd.1, Nat.le_trans h.bd.2.1 hsz2, fun k y hk => ?_⟩⟩, ?_⟩
  · have e : dptrs (Tr.more T x) (fun k => if k = (T.made : Int) + 1 then c else nb k) = dptrs T nb ++ [P0 c] := by
      unfold dptrs
      show (List.range (T.made + 1)).map _ = _
      rw [List.range_succ, List.map_append]
      congr 1
      · refine List.map_congr_left fun i hi => ?_
        have hi2 := List.mem_range.1 hi
        have ne : ¬ (i : Int) + 1 = (T.made : Int) + 1 := by omega
        simp [ptrV, Tr.more, ne]
      · simp [ptrV, Tr.more]
    rw [e]
    refine own_keep own1 fun b cur e2 => Below.heap_setCell _ _ _ _ ?_
    rintro rfl
    rw [hrX] at e2
    simp at e2
  · simp only [Tr.more] at hk
    by_cases e : k = (T.made : Int) + 1
    · rw [if_pos e] at hk
      cases hk
      simp only [if_pos e]
      subst e
      exact ⟨(hS _ _ _ _ hc (by decide) (by decide)).trans hc, hcv.keep fun b cur e2 => hS _ _ _ _ e2 (by decide) (by decide)⟩
    · rw [if_neg e] at hk
      simp only [if_neg e]
      obtain ⟨g1, g2⟩ := h.hn k y hk
      exact ⟨(hS _ _ _ _ g1 (by decide) (by decide)).trans g1, g2.keep fun b cur e2 => hS _ _ _ _ e2 (by decide) (by decide)⟩
  · simp only [Tr.more] at hj hk
    by_cases e : j = (T.made : Int) + 1
    · have e2 : ¬ k = (T.made : Int) + 1 := fun e2 => hjk (e.trans e2.symm)
      rw [if_neg e2] at hk
      simp only [if_pos e, if_neg e2]
      exact fun e3 => hcn k z hk e3.symm
    · rw [if_neg e] at hj
      simp only [if_neg e]
      by_cases e2 : k = (T.made : Int) + 1
      · simp only [if_pos e2]
        exact hcn j y hj
      · rw [if_neg e2] at hk
        simp only [if_neg e2]
        exact h.dn j k y z hj hk hjk
  · obtain ⟨L, fb, bv, hp⟩ := h.pl
    refine Rb.Rq.mono ⟨L, fb, bv, hp.keep hsz2 fun b cs t f e ht => hS b cs t f e ?_ ?_⟩ hsz2 (Nat.le_refl _) <;> (rcases ht with rfl | rfl | rfl | rfl <;> decide)
  · simp only [Tr.more] at hk
    by_cases e : k = (T.made : Int) + 1
    · simp only [if_pos e]; exact hcl
    · rw [if_neg e] at hk
      simp only [if_neg e]
      exact h.bd.2.2 k y hk
  · refine ⟨⟨hgr.os, hgr.tape, hgr.output, hsz2, fun b hb => ?_⟩, fun b cs t f e ht => hS b cs t f e (fun e2 => ht (by simp [rty, e2])) (fun e2 => ht (by simp [rty, e2])), fun b es k e => ?_⟩
    · have hb2 : b < W.heap.size := Nat.lt_of_lt_of_le hb h.bd.2.1
      rw [Below.heap_setCell _ _ _ _ (show b ≠ r by have := h.bd.1; omega), hgr.block b (by simp; omega) (fun e2 => by have := (hLb b e2.symm).1; omega), Below.heap_alloc _ _ _ hb2]
    · have hb2 := lt_of_heap e
      rw [Below.heap_setCell _ _ _ _ (show b ≠ r by rintro rfl; rw [h.ht] at e; cases e), hgr.block b (by simp; omega) (fun e2 => by
        obtain ⟨-, cur, e3⟩ := hLb b e2.symm
        rw [e] at e3
        cases e3), Below.heap_alloc _ _ _ hb2]
end
end Go.Proofs.YtlngeaacjbdmhaaGreat.Rf

namespace Go.Proofs.YtlngeaacjbdmhaaGreat.Rf
open Go.RowKit Go.Maps
attribute [local go_sem ↓] Go.wp_at_zero Go.wp_at_succ
section
variable {lo N : Nat} {W W' : World} {r : Nat} {T : Tr} {p : Nat} {Lv : Value} {nb : Int → Nat} {ev : Int → Value} {uv : Int → Int} {B : Nat}
def nd0 (kd mo ui gi : Int) (text : ByteArray) (f : Int) : Nd := ⟨kd, bits .and .i64 mo 4095, ui, gi, 0, 0, 0, [], f, text⟩
theorem add_more (kd mo ui gi : Int) (text : ByteArray) : T.add kd mo ui gi text = Tr.more { T with pool := if kd = 2 then T.pool.add else T.pool } (nd0 kd mo ui gi text (if kd = 2 then (T.pool.fs.length : Int) + 1 else 0)) := rfl
theorem Uq.make (hu : Uq T uv) (hw : Wf B T) {dir : Int} {s : ByteArray} {kd mo ui gi : Int} {text : ByteArray} (h : T.makeE dir s kd text = 0) (g : Int → Int) (g1 : kd = 1 → g ((T.made : Int) + 1) = dir) (g2 : ∀ k, k ≠ (T.made : Int) + 1 → g k = uv k) : Uq (T.make dir s kd mo ui gi text) g := by
  obtain ⟨d, hd, hdk, hg, hdn, hr, hkk, _⟩ := Tr.makeE0 h
  have hnd := fun k => Tr.make_nd (mode := mo) (uid := ui) (gid := gi) hw.k h hd k
  intro k z hz
  obtain ⟨z1, z2⟩ := Tr.dir_some.1 hz
  rw [Tr.up_dir z1 z2]
  rw [hnd] at z1
  by_cases e : k = (T.made : Int) + 1
  · rw [if_pos e] at z1
    cases z1
    rw [e, g1 z2]
    have z3 : kd = 1 := z2
    simp [z3]
  · rw [if_neg e] at z1
    rw [g2 k e]
    by_cases e2 : k = dir
    · rw [if_pos e2] at z1
      cases z1
      rw [hu k d (Tr.dir_some.2 ⟨by rw [e2]; exact hd, z2⟩), Tr.up_dir (by rw [e2]; exact hd) hdk]
    · rw [if_neg e2] at z1
      rw [hu k z (Tr.dir_some.2 ⟨z1, z2⟩), Tr.up_dir z1 z2]
theorem DtI.off (h : DtI lo N W r T p Lv nb ev uv) {c : Nat} {cs : Array Value} (hc : W.heap[c]? = some (.cells cs 139)) (hcl : lo ≤ c) (hcn : ∀ k y, T.nd k = some y → nb k ≠ c) (F : Fr [c] W W') : DtI lo N W' r T p Lv nb ev uv ∧ Rx lo W W' := by
  have hk : ∀ (b : Nat) (cs' : Array Value) (t : TypeId) (f : Nat × Nat), W.heap[b]? = some (.cells cs' t f) → t ≠ 139 → W'.heap[b]? = W.heap[b]? := fun b cs' t f e ht => F.blk b (lt_of_heap e) (by
    simp
    rintro rfl
    rw [hc] at e
    cases e
    exact ht rfl)
  refine ⟨⟨(hk _ _ _ _ h.ht (by decide)).trans h.ht, own_keep h.hL fun b cur e => hk _ _ _ _ e (by decide), fun k x hx => ⟨(F.blk _ (lt_of_heap (h.hn k x hx).1) (by simp; exact hcn k x hx)).trans (h.hn k x hx).1, (h.hn k x hx).2.keep fun b cur e => hk _ _ _ _ e (by decide)⟩, h.dn, ?_, h.bd.1, Nat.le_trans h.bd.2.1 F.size, h.bd.2.2⟩, Rx.of_fr F h.bd.2.1 fun b hb => ?_⟩
  · obtain ⟨L, fb, bv, hp⟩ := h.pl
    exact Rb.Rq.mono ⟨L, fb, bv, hp.keep F.size fun b cs t f e ht => hk b cs t f e (by rcases ht with rfl | rfl | rfl | rfl <;> decide)⟩ F.size (Nat.le_refl _)
  · simp at hb
    subst hb
    exact ⟨hcl, _, _, _, hc, by simp [rty]⟩
def AppPut (lo N : Nat) (W0 W : World) (r c : Nat) (T' : Tr) (n : Int) (Lv : Value) (dir : Int) (s : ByteArray) : Prop :=
  ∃ (v' : Value) (X : World), (Builtin.append_ #[133, 133] 133 #[Lv, .slice (some ⟨W.heap.size, 0, none⟩) 1 1]).run Tryz.prog (W.alloc (.cells #[P0 c] 136)) = .ok v' X ∧ W.cell? ⟨r, 2, none⟩ = some Lv ∧ X.cell? ⟨r, 2, none⟩ = some Lv ∧ X.frozen? ⟨r, 2, none⟩ = false ∧ (∃ a m cap, v' = .slice a m cap) ∧
    Hid (Calls Tryz.prog 131 #[P0 r, I dir, .string s, I n] (X.setCell ⟨r, 2, none⟩ v') fun e w' => e = .returned (.tuple #[]) ∧ De lo N W0 w' r T')
theorem more_put {W0 : World} {T' : Tr} {dir : Int} {s : ByteArray} {x d : Nd} {c : Nat} (h : DtI lo N W r T p Lv nb ev uv) (hR : Rx lo W0 W) (hw : Wk B T) (hB : B ≤ 880) (hw1 : Wk (B + 1) (Tr.more T x)) (hT : (Tr.more T x).give dir s ((T.made : Int) + 1) = T') (hU : ∀ g : Int → Int, (x.kind = 1 → g ((T.made : Int) + 1) = dir) → (∀ k, k ≠ (T.made : Int) + 1 → g k = uv k) → Uq T' g)
    (hc : W.heap[c]? = some (.cells (dnC ((T.made : Int) + 1) x 0 (.slice none 0 0)) 139)) (hx : x.ins = []) (hcl : lo ≤ c) (hcn : ∀ k y, T.nd k = some y → nb k ≠ c) (hd : T.nd dir = some d) (hg : getE d.ins s = none) (hdw : (kl dir).wf = true) :
    AppPut lo N W0 W r c T' ((T.made : Int) + 1) Lv dir s := by
  obtain ⟨i0, hi, hz0, hz1, hz2⟩ := info_parts infoPR
  have hm := hw.made
  have hkd := hw.key dir d hd
  have own0 : (W.alloc (.cells #[P0 c] 136)).ownsRow lo 136 1 Lv T.made (dptrs T nb) := own_keep h.hL fun b cur e => Below.heap_alloc _ _ _ (lt_of_heap e)
  obtain ⟨v', X, hrun, own1, hgr, -, -⟩ := run_append_own_at (P := Tryz.prog) (W.alloc (.cells #[P0 c] 136)) lo 133 133 136 i0 (.pointer none) 1 8 Tryz.underlying133 hi hz0 hz1 hz2 rfl (by decide) Lv T.made (dptrs T nb) own0 ⟨W.heap.size, 0, none⟩ 1 1 [P0 c] rfl (Nm.cell_one_new W _ _) (by intro u hu; simp at hu; subst hu; rfl) (by unfold maxLen; omega) (by omega) (by have := h.bd.2.1; simp; omega)
  obtain ⟨h1, R1⟩ := h.more hw hc hcl hcn (by rw [hx]; exact World.ownsRow_nil _ _ _ _) own1 hgr
  have hd1 : (Tr.more T x).nd dir = some d := by simp only [Tr.more]; rw [if_neg (by omega)]; exact hd
  have hn1 : (Tr.more T x).nd ((T.made : Int) + 1) = some x := by simp [Tr.more]
  have hrX : X.heap[r]? = W.heap[r]? := by
    have hb := lt_of_heap h.ht
    rw [hgr.block r (by simp; omega) (fun e2 => by
      obtain ⟨-, cur, e3⟩ := Rb.own_blk h.hL e2.symm
      rw [h.ht] at e3
      simp at e3), Below.heap_alloc _ _ _ hb]
  have hrc : X.heap[r]? = some (.cells #[I (T.most : Int), P0 p, Lv] 135) := hrX.trans h.ht
  refine ⟨v', X, hrun, h.cells.2.2.1, by rw [cell_of hrc]; rfl, frozen_of hrc 2, ?_, hide ((put_any h1 hw1 (by omega) dir ((T.made : Int) + 1) s d x hd1 hn1 (by omega) hg hdw).mono ?_)⟩
  · obtain ⟨a, cp, e⟩ := own_form own1
    exact ⟨a, _, cp, e⟩
  · rintro e w' ⟨h2, ev', h3, R2⟩
    rw [hT] at h3
    exact ⟨h2, ⟨p, v', _, ev', _, h3, hU _ (fun hk => by simp [hk]) (fun k hk => by simp [hk])⟩, (hR.trans R1).trans R2⟩
theorem make_tail (h : DtI lo N W r T p Lv nb ev uv) (hu : Uq T uv) (hw : Wf B T) (hB : B ≤ 875) {dir : Int} {s : ByteArray} (hdw : (kl dir).wf = true) {sn kd mo ui gi li si : Int} {text : ByteArray} (hq : T.makeE dir s kd text = 0) (ht : text.size ≤ 281474976710656) {V : World} (hV : Below W.heap.size W V) (hS : V.heap[W.heap.size]? = some (.cells #[I sn, I kd, I mo, I ui, I gi, I li, I si] 33)) :
    ∃ D, V.alloc (.cells #[I ((T.made : Int) + 1), I kd, I (bits .and .i64 mo 4095), I ui, I gi, I 0, I 0, .string text, .slice none 0 0, I 0, I 0, I 0, I 0] 139) = D ∧
      V.cell? ⟨r, 2, none⟩ = some Lv ∧ D.cell? ⟨r, 1, none⟩ = some (P0 p) ∧ D.cell? ⟨W.heap.size, 1, none⟩ = some (I kd) ∧
      (V.cell? ⟨W.heap.size, 1, none⟩ = some (I kd) ∧ V.cell? ⟨W.heap.size, 2, none⟩ = some (I mo) ∧ V.cell? ⟨W.heap.size, 3, none⟩ = some (I ui) ∧ V.cell? ⟨W.heap.size, 4, none⟩ = some (I gi)) ∧ (D.cell? ⟨W.heap.size, 2, none⟩ = some (I mo) ∧ D.cell? ⟨W.heap.size, 3, none⟩ = some (I ui) ∧ D.cell? ⟨W.heap.size, 4, none⟩ = some (I gi)) ∧
      Hid (kd ≠ 2 → AppPut lo N W D r V.heap.size (T.make dir s kd mo ui gi text) ((T.made : Int) + 1) Lv dir s) ∧
      Hid (kd = 2 → Calls Tryz.prog 130 #[P0 p] D fun e w' => e = .returned (I ((T.pool.fs.length + 1 : Nat) : Int)) ∧ w'.cell? ⟨V.heap.size, 12, none⟩ = some (I 0) ∧ w'.frozen? ⟨V.heap.size, 12, none⟩ = false ∧ ∃ Y, w'.setCell ⟨V.heap.size, 12, none⟩ (I ((T.pool.fs.length + 1 : Nat) : Int)) = Y ∧ AppPut lo N W Y r V.heap.size (T.make dir s kd mo ui gi text) ((T.made : Int) + 1) Lv dir s) := by
  obtain ⟨d, hd, hdk, hg, hdn, hr, hkk, -⟩ := Tr.makeE0 hq
  obtain ⟨D, hD, hD1, hDB⟩ : ∃ D, V.alloc (.cells #[I ((T.made : Int) + 1), I kd, I (bits .and .i64 mo 4095), I ui, I gi, I 0, I 0, .string text, .slice none 0 0, I 0, I 0, I 0, I 0] 139) = D ∧ D.heap[V.heap.size]? = some (.cells #[I ((T.made : Int) + 1), I kd, I (bits .and .i64 mo 4095), I ui, I gi, I 0, I 0, .string text, .slice none 0 0, I 0, I 0, I 0, I 0] 139) ∧ Below V.heap.size V D := ⟨_, rfl, putAll _ _ rfl, (Below.refl _ _).alloc (Nat.le_refl _) _⟩
  have hVs := hV.size
  have hsl := lt_of_heap hS
  have hV1 := h.below hV
  have hDW : Below W.heap.size W D := hV.trans (hDB.mono hVs)
  have hD2 := h.below hDW
  have hm1 := hw.made1
  have hkn : nm1 ((T.made : Int) + 1) (nd0 kd mo ui gi text 0) = 0 := by simp [nm1, nd0]; omega
  have hkf : ∀ f, dnC ((T.made : Int) + 1) (nd0 kd mo ui gi text f) 0 (.slice none 0 0) = #[I ((T.made : Int) + 1), I kd, I (bits .and .i64 mo 4095), I ui, I gi, I 0, I 0, .string text, .slice none 0 0, I 0, I 0, I 0, I f] := fun f => by
    have e : nm1 ((T.made : Int) + 1) (nd0 kd mo ui gi text f) = 0 := by simp [nm1, nd0]; omega
    simp only [dnC, e]
    rfl
  have hcn : ∀ k y, T.nd k = some y → nb k ≠ V.heap.size := fun k y hk => by
    have := lt_of_heap (h.hn k y hk).1
    omega
  have hcl : lo ≤ V.heap.size := by have := h.bd.2.1; omega
  have hwa := hw.k.add hm1 mo ui gi text hkk ht
  rw [add_more] at hwa
  have hmk : T.make dir s kd mo ui gi text = (T.add kd mo ui gi text).give dir s ((T.made : Int) + 1) := by rw [Tr.make, if_pos hq]
  obtain ⟨s0, s1, s2, s3, s4, s5, s6, sf⟩ := cells7 hS
  obtain ⟨-, t1, t2, t3, t4, -, -, -⟩ := cells7 ((hDB.block _ hsl).trans hS)
  refine ⟨D, hD, hV1.cells.2.2.1, hD2.cells.2.1, t1, ⟨s1, s2, s3, s4⟩, ⟨t2, t3, t4⟩, hide fun hk2 => ?_, hide fun hk2 => ?_⟩
  · refine more_put (x := nd0 kd mo ui gi text 0) hD2 (Rx.of_below hDW h.bd.2.1) hw.k (by omega) (by simpa [hk2] using hwa) (by rw [hmk, add_more]; simp [hk2]) (fun g g1 g2 => hu.make hw hq g (fun e => g1 e) g2) (by rw [hkf]; exact hD1) rfl hcl hcn hd hg hdw
  · have hpl := hw.k.pol
    refine (Rb.rmake_any hD2.pl (by omega)).mono ?_
    rintro e w' ⟨rfl, hq2, F⟩
    obtain ⟨h3, R3⟩ := hD2.pool hq2 F
    have hc3 := (F.oth _ _ _ _ hD1 (by decide) (by decide) (by decide) (by decide)).trans hD1
    have hF : Fr [V.heap.size] w' (w'.setCell ⟨V.heap.size, 12, none⟩ (I ((T.pool.fs.length + 1 : Nat) : Int))) := (Fr.refl _ w').set (a := ⟨V.heap.size, 12, none⟩) (by simp) _
    obtain ⟨h4, R4⟩ := h3.off hc3 hcl hcn hF
    refine ⟨rfl, by rw [cell_of hc3]; rfl, frozen_of hc3 12, _, rfl, ?_⟩
    refine more_put (T := { T with pool := T.pool.add }) (x := nd0 kd mo ui gi text ((T.pool.fs.length : Int) + 1)) h4 (((Rx.of_below hDW h.bd.2.1).trans R3).trans R4) (B := B + 1) ?_ (by omega) ?_ (by rw [hmk, add_more]; simp [hk2]) (fun g g1 g2 => hu.make hw hq g (fun e => g1 e) g2) (by rw [hkf, heap_set hc3]; rfl) rfl hcl hcn hd hg hdw
    · have k := hw.k.mono (Nat.le_succ B)
      exact ⟨k.key, k.srt, k.liv, k.made, k.bnd, k.nam, k.txt, k.fil, k.knd, k.upw, k.num, by simp [S.add]; omega, k.mst⟩
    · have := hwa.mono (Nat.le_succ _)
      simpa [hk2] using this
end
end Go.Proofs.YtlngeaacjbdmhaaGreat.Rf
