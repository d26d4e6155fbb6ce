/-
  The contract of Unbind.
-/
import Derived.Test.YthmpplcaomgdoaaMDelF
namespace Go.Proofs.Ythmpplcaomgdoaa.Mt
open Go.RowKit
attribute [local go_sem ↓] Go.wp_at_zero Go.wp_at_succ

/-- Numbers rise. -/
def Rise (es : Ents) : Prop := es.Pairwise fun p q => p.n < q.n
def unb (es : Ents) (m : Int) : Ents := es.filter fun p => !isN m p
theorem any_iff {es : Ents} {P : Ld → Bool} : any es P = true ↔ ∃ p ∈ es, P p = true := by
  rw [any, List.find?_isSome]
theorem any_false {es : Ents} {P : Ld → Bool} : any es P = false ↔ ∀ p ∈ es, P p = false := by
  rw [← Bool.not_eq_true, any_iff]
  simp
theorem one_gone : ∀ {es : Ents} {m : Int}, Rise es → any es (isN m) = true → (unb es m).length + 1 = es.length
  | [], m, _, h => by simp [any] at h
  | p :: es, m, hr, h => by
    obtain ⟨h1, h2⟩ := List.pairwise_cons.1 hr
    by_cases e : p.n = m
    · have hne : ∀ q ∈ es, (!isN m q) = true := by
        intro q hq
        have := h1 q hq
        simp [isN]
        omega
      rw [unb, List.filter_cons_of_neg (by simp [isN, e]), List.filter_eq_self.2 hne]
      simp
    · have ha : any es (isN m) = true := by
        obtain ⟨q, hq, hm⟩ := any_iff.1 h
        rcases List.mem_cons.1 hq with rfl | hq
        · simp [isN] at hm; exact absurd hm e
        · exact any_iff.2 ⟨q, hq, hm⟩
      have ih := one_gone h2 ha
      rw [unb, List.filter_cons_of_pos (by simp [isN, e])]
      simp only [unb] at ih
      simp
      omega
/-- With which number Unbind refuses (0: it is done). -/
def unbE (es : Ents) (m : Int) : Int := if any es (isN m) = false then 1 else if any es (isM m) = true then 15 else 0
theorem unbind_no (base b : Nat) (rt md m k : Int) (es : Ents) (w : World) (hG : Ls base w b rt md es) (hes : es.length ≤ 1000) (hk : unbE es m = k) (h0 : k ≠ 0) :
    Calls Try.prog 9 #[.pointer (some ⟨b, 0, none⟩), I m] w fun e w' => e = .returned (I k) ∧ Below w.heap.size w w' := by
  obtain ⟨V, hV, hs, hx, hb⟩ : ∃ V, w.alloc (.cells #[I m] 3) = V ∧ V.heap.size = w.heap.size + 1 ∧ V.heap[w.heap.size]? = some (.cells #[I m] 3) ∧ Below w.heap.size w V := ⟨_, rfl, by simp, putAll _ _ rfl, below_alloc _ _⟩
  have v0 : V.cell? ⟨w.heap.size, 0, none⟩ = some (I m) := by rw [cell_of hx]; rfl
  have H1 := hide (numbered_any base b rt md m es V (hG.below hb) hes)
  have H2 := hide (fun W (hB : Below V.heap.size V W) => first_any base b rt md es 31 w.heap.size (isM m) W ((hG.below hb).below hB) hes (enters_of Try.func31 (by kernel_rfl) rfl)
    (fun p X hX => un1_any p _ m X (by rw [World.cell?_of_block (hX.block w.heap.size (by have := hB.size; omega)), World.cell?_of_block (hB.block w.heap.size (by omega))]; exact v0)))
  unfold unbE at hk
  generalize fst es (isN m) = x1 at *
  generalize any es (isN m) = y1 at *
  generalize fst es (isM m) = x2 at *
  generalize any es (isM m) = y2 at *
  have HB := hide hb
  clear hG hb hx
  go_enter Try.func9, Try.ntmps9
  go_wp2_with fail
  refine (unhide H1).mono ?_
  rintro e w1 ⟨rfl, hB⟩
  have hE := hide ((unhide HB).trans (hB.mono (by omega)))
  have hB1 := hB.alloc hB.size (.cells #[I x1.n, I x1.top, I x1.am, I x1.an] 59)
  cases y1 with
  | false =>
    obtain rfl : 1 = k := by simpa using hk
    clear hB hB1 HB H1 H2 hV h0 hk v0
    unfold lv
    go_wp2_with fail
    go_ret
    exact ⟨rfl, (unhide hE).alloc (unhide hE).size _⟩
  | true =>
    obtain rfl : y2 = true := by
      cases y2 with
      | true => rfl
      | false => exact absurd (by simpa using hk.symm) h0
    obtain rfl : 15 = k := by simpa using hk
    have H2' := hide (unhide H2 _ hB1)
    have hE1 := hide ((unhide HB).trans (hB1.mono (by omega)))
    clear hB hB1 H1 H2 hV h0 hk v0 hE HB
    unfold lv
    go_wp2_with fail
    refine (unhide H2').mono ?_
    rintro e w2 ⟨rfl, hB2⟩
    have hE2 := hide ((unhide hE1).trans (hB2.mono (unhide hE1).size))
    clear hB2 hE1 H2'
    unfold lv
    go_wp2_with fail
    go_ret
    exact ⟨rfl, (unhide hE2).alloc (unhide hE2).size _⟩
set_option maxHeartbeats 1000000 in
theorem unbind_yes (base b : Nat) (rt md m : Int) (es : Ents) (w : World) (hG : Ls base w b rt md es) (hes : es.length ≤ 1000) (hr : Rise es) (hk : unbE es m = 0) :
    Calls Try.prog 9 #[.pointer (some ⟨b, 0, none⟩), I m] w fun e w' => e = .returned (I 0) ∧ Ls base w' b rt md (unb es m) ∧ Fm base b w w' := by
  obtain ⟨V, hV, hs, hx, hb⟩ : ∃ V, w.alloc (.cells #[I m] 3) = V ∧ V.heap.size = w.heap.size + 1 ∧ V.heap[w.heap.size]? = some (.cells #[I m] 3) ∧ Below w.heap.size w V := ⟨_, rfl, by simp, putAll _ _ rfl, below_alloc _ _⟩
  have v0 : V.cell? ⟨w.heap.size, 0, none⟩ = some (I m) := by rw [cell_of hx]; rfl
  have hbase := hG.base_le
  have hbl := hG.lt
  have H1 := hide (numbered_any base b rt md m es V (hG.below hb) hes)
  have H2 := hide (fun W (hB : Below V.heap.size V W) => first_any base b rt md es 31 w.heap.size (isM m) W ((hG.below hb).below hB) hes (enters_of Try.func31 (by kernel_rfl) rfl)
    (fun p X hX => un1_any p _ m X (by rw [World.cell?_of_block (hX.block w.heap.size (by have := hB.size; omega)), World.cell?_of_block (hB.block w.heap.size (by omega))]; exact v0)))
  have hya : any es (isN m) = true := by
    cases h : any es (isN m) with
    | true => rfl
    | false => simp [unbE, h] at hk
  have hyb : any es (isM m) = false := by
    cases h : any es (isM m) with
    | false => rfl
    | true => simp [unbE, h, hya] at hk
  have hone := one_gone hr hya
  have hidx : es.findIdx (isN m) < es.length := List.findIdx_lt_length.2 (any_iff.1 hya)
  have hkept : kept es (isN m) es.length = unb es m := by rw [kept, List.take_length]; rfl
  -- the row's own block, and DeleteFunc
  have H3 : Hid (∀ W, Below V.heap.size V W → ∃ g cap, (W.cell? ⟨b, 2, none⟩ = some (.slice (some ⟨g, 0, none⟩) es.length cap) ∧ W.frozen? ⟨b, 2, none⟩ = false) ∧
      Calls Try.prog 32 #[.slice (some ⟨g, 0, none⟩) es.length cap, .func (.func 33) #[] #[.pointer (some ⟨w.heap.size, 0, none⟩)]] W fun e w' => e = .returned (.slice (some ⟨g, 0, none⟩) (es.length - 1) cap) ∧
        (w'.cell? ⟨b, 2, none⟩ = some (.slice (some ⟨g, 0, none⟩) es.length cap) ∧ w'.frozen? ⟨b, 2, none⟩ = false) ∧ Ls base (w'.setCell ⟨b, 2, none⟩ (.slice (some ⟨g, 0, none⟩) (es.length - 1) cap)) b rt md (unb es m) ∧ Fm base b w (w'.setCell ⟨b, 2, none⟩ (.slice (some ⟨g, 0, none⟩) (es.length - 1) cap))) := by
    intro W hB
    have GW := (hG.below hb).below hB
    obtain ⟨a, cap, c0, c1, c2, cf, own⟩ := GW.cells
    obtain ⟨g, ⟨_, hz, _⟩ | rfl⟩ := own_addr own
    · omega
    have hgw : g < w.heap.size := by
      obtain ⟨a', cap', _, _, d2, _, own'⟩ := hG.cells
      have hbW := (hB.block b (by omega)).trans (hb.block b hbl)
      rw [World.cell?_of_block (a := ⟨b, 2, none⟩) hbW, d2] at c2
      simp only [Option.some.injEq, Value.slice.injEq] at c2
      obtain ⟨rfl, -, rfl⟩ := c2
      obtain ⟨g', _, cur, e1, _, hg, _⟩ := own_open own' (by omega)
      simp only [Value.slice.injEq, Option.some.injEq, Addr.mk.injEq] at e1
      rw [e1.1.1]
      exact lt_of_heap hg
    have hB0 := hb.trans (hB.mono (by omega))
    refine ⟨g, cap, ⟨c2, cf 2⟩, (delF_any base g es.length cap es 33 w.heap.size (isN m) W rfl own hes (by omega) (by have := hB.size; omega) (by rw [hkept]; exact hone) hidx (enters_of Try.func33 (by kernel_rfl) rfl)
      (fun p X hX => un2_any p _ m X (by rw [World.cell?_of_block hX, World.cell?_of_block (hB.block w.heap.size (by omega))]; exact v0))).mono ?_⟩
    rintro e w' ⟨rfl, own2, hfr⟩
    rw [hkept] at own2
    have hgB : base ≤ g ∧ ∃ cur, W.heap[g]? = some (.cells cur 59) := by
      obtain ⟨g', _, cur, e1, h1, hg, _⟩ := own_open own (by omega)
      simp only [Value.slice.injEq, Option.some.injEq, Addr.mk.injEq] at e1
      rw [e1.1.1]
      exact ⟨h1, cur, hg⟩
    obtain ⟨hgb, cur, hgc⟩ := hgB
    obtain ⟨a0, cap0, hbW, _⟩ := GW.hb
    have hbg : b ≠ g := by
      rintro rfl
      rw [hbW] at hgc
      simp at hgc
    have hbw' : w'.heap[b]? = some (.cells #[I rt, I md, .slice a0 es.length cap0] 57) := (hfr.blk b GW.lt (by simpa using hbg)).trans hbW
    have ec : w'.cell? ⟨b, 2, none⟩ = some (.slice (some ⟨g, 0, none⟩) es.length cap) := (World.cell?_of_block (hfr.blk b GW.lt (by simpa using hbg))).trans c2
    refine ⟨rfl, ⟨ec, frozen_of hbw' 2⟩, ⟨⟨some ⟨g, 0, none⟩, cap, ?_, ?_⟩, hG.kb⟩, ?_⟩
    · rw [heap_set hbw', show (unb es m).length = es.length - 1 by omega]; simp
    · rw [show (unb es m).length = es.length - 1 by omega]
      refine own_keep own2 fun k cur hc => Below.heap_setCell _ _ _ _ ?_
      rintro rfl
      rw [hbw'] at hc
      simp at hc
    · refine (Fm.of_below hB0 hbase).trans ((⟨hfr.os, hfr.tape, hfr.output, hfr.size, fun k hk => hfr.blk k (by have := hB0.size; omega) (by simp; omega), fun k o h1 h2 h3 => (hfr.blk k (lt_of_heap h1) ?_).trans h1⟩ : Fm base b W w').set (p := ⟨b, 2, none⟩) rfl hG.kb _)
      simp
      rintro rfl
      rw [hgc] at h1
      exact h3 _ (Option.some.inj h1).symm
  rw [hyb] at H2
  rw [hya] at H1
  generalize fst es (isN m) = x1 at *
  generalize fst es (isM m) = x2 at *
  clear hG hb hx hya hyb hidx hkept hk hr
  have hlen : 1 ≤ es.length := by omega
  obtain ⟨n, hn⟩ : ∃ n, n = es.length := ⟨_, rfl⟩
  rw [← hn] at H3 hlen
  clear hone hes hn
  go_enter Try.func9, Try.ntmps9
  go_wp2_with fail
  refine (unhide H1).mono ?_
  rintro e w1 ⟨rfl, hB⟩
  have hB1 := hB.alloc hB.size (.cells #[I x1.n, I x1.top, I x1.am, I x1.an] 59)
  have H2' := hide (unhide H2 _ hB1)
  have HB1 := hide hB1
  clear hB hB1 H1 H2 hV v0
  unfold lv
  go_wp2_with fail
  refine (unhide H2').mono ?_
  rintro e w2 ⟨rfl, hB2⟩
  have hB3 := (unhide HB1).trans (hB2.mono (unhide HB1).size)
  have hB4 := hB3.alloc hB3.size (.cells #[I x2.n, I x2.top, I x2.am, I x2.an] 59)
  obtain ⟨g, cap, ⟨c2, cf⟩, HD⟩ := unhide H3 _ hB4
  have HD' := hide HD
  clear hB2 hB3 hB4 HB1 H2' H3 HD
  unfold lv
  go_wp2_with fail
  refine (unhide HD').mono ?_
  rintro e w3 ⟨rfl, ⟨d2, df⟩, hL, hF⟩
  have HL := hide hL
  have HF := hide hF
  clear hL hF HD' c2 cf
  generalize n - 1 = n1 at *
  go_wp2_with fail
  go_ret
  exact ⟨rfl, unhide HL, unhide HF⟩
end Go.Proofs.Ythmpplcaomgdoaa.Mt
