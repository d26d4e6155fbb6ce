/-
  The contract of Move.
-/
import Derived.Test.YtlngeaacjbdmhaaGreatQp11
import Derived.Test.YtlngeaacjbdmhaaGreatQp13
namespace Go.Proofs.YtlngeaacjbdmhaaGreat
open Go.RowKit Go.Maps
section
variable {lo N : Nat} {W W' : World} {t : Nat} {T : Tr} {q p : Nat} {nb : Int → Nat} {ev : Int → Value} {B : Nat}
theorem shift_calls (h : TrI lo N W t T q p nb ev) (hw : Wf B T) (hB : B ≤ 880) {dir to n : Int} {d i x : Nd} {s s2 : ByteArray} (hd : T.nd dir = some d) (hg : getE d.ins s = some n) (hi : T.nd to = some i) (hs2 : getE i.ins s2 = none) (hz : s2.size ≤ 255) (hx : T.nd n = some x) (htn : to ≠ n) :
    Calls Tryz.prog 124 #[P0 t, I to, .string s2, I n] W fun e w1 => e = .returned (.tuple #[]) ∧ Hid (Calls Tryz.prog 125 #[P0 t, P0 (nb dir), .string s] w1 fun e w2 => e = .returned (.tuple #[]) ∧ Hid (Tp lo N w2 t ((T.give to s2 n).take dir s) ∧ Tx lo W w2)) := by
  have hmem := getE_some hg
  have hdn : dir ≠ n := fun e => by subst e; exact hw.noself hd hmem
  have hSi := hw.k.srt to i hi
  have hgn := Tr.give_nd hi hx s2
  have hx1 : (T.give to s2 n).nd n = some (x.named to) := by rw [hgn, if_pos rfl]
  have hd1 : (T.give to s2 n).nd dir = some { d with ins := if dir = to then putE d.ins s2 n else d.ins } := by
    rw [hgn, if_neg hdn]
    by_cases e : dir = to
    · rw [if_pos e, if_pos e]
      rw [e, hi] at hd; cases hd; rfl
    · rw [if_neg e, if_neg e]; exact hd
  have hss : dir = to → s ≠ s2 := fun e e2 => by
    rw [e, hi] at hd; cases hd; rw [e2, hs2] at hg; cases hg
  have hg1 : getE (if dir = to then putE d.ins s2 n else d.ins) s = some n := by
    by_cases e : dir = to
    · have hs' := hss e
      rw [if_pos e]
      rw [e, hi] at hd; cases hd
      rw [putE_get hSi hs2, if_neg hs']
      exact hg
    · rw [if_neg e]; exact hg
  have hW1 := hw.k.give hi hx htn hs2 hz
  refine (give_any h (hw.k.wf (by omega) hi) (hw.k.wf (by omega) hx) hi hx htn hSi (by have := (hw.k.bnd to i hi).2.2; omega) (by have := (hw.k.bnd n x hx).1; omega) s2 (by omega)).mono ?_
  rintro e w1 ⟨rfl, ev1, h1, X1⟩
  refine ⟨rfl, ?_⟩
  refine (take_any (B := B + 1) h1 (by omega) (hw.k.wf (by omega) hx) hd1 hx1 hdn (hW1.srt dir _ hd1) (by have := (hW1.bnd dir _ hd1).2.2; omega) ⟨by simp only [Nd.named]; omega, by have := (hW1.bnd n _ hx1).1; omega⟩ ⟨(hW1.fil n _ hx1).1, (hW1.fil n _ hx1).2.1⟩ s hg1).mono ?_
  rintro e w2 ⟨rfl, ev2, h2, X2⟩
  exact ⟨rfl, ⟨q, p, nb, ev2, h2⟩, X1.trans X2⟩
theorem over_calls (h : TrI lo N W t T q p nb ev) (hw : Wf B T) (hB : B ≤ 880) {dir to n old : Int} {d i x y : Nd} {s s2 : ByteArray} (hd : T.nd dir = some d) (hg : getE d.ins s = some n) (hi : T.nd to = some i) (ho : getE i.ins s2 = some old) (hy : T.nd old = some y) (hyi : y.ins = []) (hon : old ≠ n) (hz : s2.size ≤ 255) (hx : T.nd n = some x) (htn : to ≠ n) :
    Calls Tryz.prog 125 #[P0 t, P0 (nb to), .string s2] W fun e w0 => e = .returned (.tuple #[]) ∧ Hid (Calls Tryz.prog 124 #[P0 t, I to, .string s2, I n] w0 fun e w1 => e = .returned (.tuple #[]) ∧ Hid (Calls Tryz.prog 125 #[P0 t, P0 (nb dir), .string s] w1 fun e w2 => e = .returned (.tuple #[]) ∧ Hid (Tp lo N w2 t (((T.take to s2).give to s2 n).take dir s) ∧ Tx lo W w2))) := by
  have hto : to ≠ old := fun e => by subst e; exact hw.noself hi (getE_some ho)
  have hdo : dir ≠ old := fun e => by
    rw [← e, hd] at hy; cases hy
    have := getE_some hg
    rw [hyi] at this; simp at this
  have hnd := Tr.take_nd hi ho hy hto
  obtain ⟨T1, T2, T3⟩ := hw.take hi ho hy hyi
  have hSi := hw.k.srt to i hi
  have e1 : (T.take to s2).nd to = some { i with ins := delE i.ins s2 } := by rw [hnd, if_neg hto, if_pos rfl]
  have e2 : (T.take to s2).nd n = some x := by rw [hnd, if_neg (Ne.symm hon), if_neg (Ne.symm htn)]; exact hx
  have e3 : ∃ f1, (T.take to s2).nd dir = some f1 ∧ getE f1.ins s = some n := by
    rw [hnd, if_neg hdo]
    by_cases e : dir = to
    · rw [if_pos e]
      rw [e, hi] at hd; cases hd
      refine ⟨_, rfl, ?_⟩
      simp only
      rw [delE_get hSi ho, if_neg]
      · exact hg
      · intro e'; rw [e', ho] at hg; cases hg; exact hon rfl
    · rw [if_neg e]; exact ⟨d, hd, hg⟩
  obtain ⟨f1, e3, e4⟩ := e3
  have hy0 : 0 < y.names := by
    have h1 := cntE_pos hw.k hi (getE_some ho)
    have h2 := hw.k.num old y hy
    simp only at h1
    omega
  refine (take_any (B := B) h (by omega) (hw.k.wf (by omega) hy) hi hy hto hSi (by have := (hw.k.bnd to i hi).2.2; omega) ⟨hy0, by have := (hw.k.bnd old y hy).1; omega⟩ ⟨(hw.k.fil old y hy).1, (hw.k.fil old y hy).2.1⟩ s2 ho).mono ?_
  rintro e w0 ⟨rfl, ev0, h0, X0⟩
  refine ⟨rfl, ?_⟩
  refine (shift_calls h0 T1 hB e3 e4 e1 (by simp only; rw [delE_get hSi ho, if_pos rfl]) hz e2 htn).mono ?_
  rintro e w1 ⟨rfl, h1⟩
  refine ⟨rfl, (unhide h1).mono ?_⟩
  rintro e w2 ⟨rfl, h2, X2⟩
  exact ⟨rfl, h2, X0.trans X2⟩
set_option maxRecDepth 100000 in
set_option maxHeartbeats 4000000 in
theorem move_deep (h : TrI lo N W t T q p nb ev) (hw : Wf B T) (hB : B ≤ 880) {dir to n : Int} (hto : (kl to).wf = true) {s s2 : ByteArray} {l : List Int} (hl : Ab T to l) {d i x : Nd} (hx : T.dir dir = some d) (hd : T.nd dir = some d) (hy : T.dir to = some i) (hi : T.nd to = some i) (hk2 : i.kind = 1) (hr : right s2 = true) (hg : getE d.ins s = some n) (hxn : T.nd n = some x) (hi0 : ¬ i.names = 0)
    (HD1 : Hid (∀ w, Below W.heap.size W w → Calls Tryz.prog 116 #[P0 t, I dir] w fun e w' => e = .returned (.tuple #[P0 (nb dir), .bool true]) ∧ Hid (Below W.heap.size W w')))
    (HD2 : Hid (∀ w, Below W.heap.size W w → Calls Tryz.prog 116 #[P0 t, I to] w fun e w' => e = .returned (.tuple #[P0 (nb to), .bool true]) ∧ Hid (Below W.heap.size W w')))
    (HR : Hid (∀ w, Calls Tryz.prog 121 #[.string s2] w fun e w' => e = .returned (.bool true) ∧ w' = w))
    (HF1 : Hid (∀ w, Below W.heap.size W w → Calls Tryz.prog 117 #[P0 (nb dir), .string s] w fun e w' => e = .returned (.tuple #[I n, .bool true]) ∧ Hid (Below W.heap.size W w')))
    (HF2 : Hid (∀ w, Below W.heap.size W w → Calls Tryz.prog 117 #[P0 (nb to), .string s2] w fun e w' => e = .returned (.tuple #[I ((getE i.ins s2).getD 0), .bool (getE i.ins s2).isSome]) ∧ Hid (Below W.heap.size W w')))
    (HI : Hid (∀ w, Below W.heap.size W w → w.cell? ⟨nb to, 4, none⟩ = some (I (i.names : Nat))))
    (HLK : Hid (∀ w, Below W.heap.size W w → Calls Tryz.prog 108 #[P0 t, P0 (nb to)] w fun e w' => e = .returned (I (T.links i : Nat)) ∧ Hid (Below W.heap.size W w'))) :
    Calls Tryz.prog 69 #[P0 t, I dir, .string s, I to, .string s2] W fun e w' => e = .returned (I (T.moveE l dir s to s2)) ∧ Tp lo N w' t (T.move l dir s to s2) ∧ Tx lo W w' := by
  have hlo := h.bd.2.2.1
  have HTp : Hid (∀ w, Below W.heap.size W w → Tp lo N w t T ∧ Tx lo W w) := fun w hb => ⟨⟨q, p, nb, ev, h.below hb⟩, .of_below hb hlo⟩
  have hb0 := hide (Below.refl W.heap.size W)
  have no : T.moveE l dir s to s2 ≠ 0 → T.move l dir s to s2 = T := fun hE => by rw [Tr.move, if_neg hE]
  have hwn := hw.k.wf (by omega) hxn
  have HC : Hid (∀ w, Below W.heap.size W w → w.cell? ⟨t, 2, none⟩ = some (.map (some q)) ∧ (Instr.lookup 123 (.map (some q)) (I n) false).run Tryz.prog w = .ok (P0 (nb n)) w ∧ w.cell? ⟨nb n, 0, none⟩ = some (I x.kind)) := fun w hb => by
    have h1 := h.below hb
    have hlk := h1.look hwn
    rw [hxn] at hlk
    simp only [Option.isSome_some, if_true] at hlk
    obtain ⟨d0, -⟩ := ndcells (h1.hn n x hxn).1
    exact ⟨h1.cells.2.2.1, hlk, d0⟩
  have HWI : Hid (∀ w, Below W.heap.size W w → Calls Tryz.prog 20 #[P0 t, I to, I n] w fun e w' => e = .returned (.bool (decide (n ∈ l))) ∧ Hid (Below W.heap.size W w')) := fun w hb =>
    (twithin_any (h.below hb) hw.k (by omega) hto hl).mono fun e w' ⟨h1, h2⟩ => ⟨h1, hb.trans (h2.mono hb.size)⟩
  have hkx : T.kindOf n = x.kind := by simp [Tr.kindOf, hxn]
  have hfd : getE (T.insOf dir) s = some n := by simp [Tr.insOf, hd, hg]
  have hio : T.insOf to = i.ins := by simp [Tr.insOf, hi]
  have hz := right_size hr
  have hdn : dir ≠ n := fun e => by subst e; exact hw.noself hd (getE_some hg)
  have hE : T.moveE l dir s to s2 = if x.kind = 1 ∧ (to = n ∨ n ∈ l) then 39 else match getE i.ins s2 with
      | some old => if old = n then 0 else T.yieldsE old (decide (x.kind = 1))
      | none => if x.kind = 1 ∧ dir ≠ to ∧ T.links i = 16 then 44 else 0 := by simp [Tr.moveE, hx, hy, hr, hg, hi0, hkx]; rfl
  have hni : (((i.names : Nat) : Int) == 0) = false := by simpa using hi0
  obtain ⟨ni, hnn⟩ : ∃ ni : Nat, ni = i.names := ⟨_, rfl⟩
  rw [← hnn] at HI hni
  cases ho : getE i.ins s2 with
  | none =>
    rw [ho] at HF2 hE
    simp only [Option.getD_none, Option.isSome_none] at HF2 hE
    have hmv : T.moveE l dir s to s2 = 0 → T.move l dir s to s2 = (T.give to s2 n).take dir s := fun e => by rw [Tr.move, if_pos e]; simp only [hfd, hio, ho]
    have HG : Hid (to ≠ n → ∀ w, Below W.heap.size W w → Calls Tryz.prog 124 #[P0 t, I to, .string s2, I n] w fun e w1 => e = .returned (.tuple #[]) ∧ Hid (Calls Tryz.prog 125 #[P0 t, P0 (nb dir), .string s] w1 fun e w2 => e = .returned (.tuple #[]) ∧ Hid (Tp lo N w2 t ((T.give to s2 n).take dir s) ∧ Tx lo W w2))) := fun htn w hb => by
      refine (shift_calls (h.below hb) hw hB hd hg hi ho hz hxn htn).mono ?_
      rintro e w1 ⟨rfl, h1⟩
      refine ⟨rfl, (unhide h1).mono ?_⟩
      rintro e w2 ⟨rfl, h2, X2⟩
      exact ⟨rfl, h2, (Tx.of_below hb hlo).trans X2⟩
    have htk : x.kind ≠ 1 → to ≠ n := fun hk e => by rw [← e, hi] at hxn; cases hxn; exact hk hk2
    obtain ⟨b, hbb⟩ : ∃ b, b = nb dir := ⟨_, rfl⟩
    obtain ⟨b2, hbt⟩ : ∃ b, b = nb to := ⟨_, rfl⟩
    obtain ⟨bn, hbn⟩ : ∃ b, b = nb n := ⟨_, rfl⟩
    obtain ⟨lk, hlk⟩ : ∃ lk, lk = T.links i := ⟨_, rfl⟩
    obtain ⟨E, hEE⟩ : ∃ E, E = T.moveE l dir s to s2 := ⟨_, rfl⟩
    obtain ⟨kd, hkd⟩ : ∃ kd, kd = x.kind := ⟨_, rfl⟩
    rw [← hbb] at HD1 HF1 HG
    rw [← hbt] at HD2 HF2 HI HLK
    rw [← hbn] at HC
    rw [← hlk] at HLK hE
    rw [← hEE] at hE no hmv ⊢
    rw [← hkd] at HC hE htk
    clear h hw hl hx hd hy hi hk2 hr hg hxn hi0 hwn hkx hfd hio hz hnn ho hbb hbt hbn hlk hEE hkd
    by_cases k1 : kd = 1
    · subst k1
      by_cases k2 : to = n
      · rw [if_pos ⟨rfl, .inl k2⟩] at hE
        subst hE
        rw [no (by decide)]
        have t1 : (to == n) = true := by simpa using k2
        clear k2 HG hmv no htk
        go_enter Tryz.func69, Tryz.ntmps69
        go_wp2_with fail
        refine (unhide HD1 _ (unhide hb0)).mono ?_
        rintro e w1 ⟨rfl, hb1⟩
        go_wp2_with fail
        refine (unhide HD2 _ (unhide hb1)).mono ?_
        rintro e w2 ⟨rfl, hb2⟩
        go_wp2_with fail
        refine (unhide HR _).mono ?_
        rintro e w' ⟨rfl, rfl⟩
        go_wp2_with fail
        refine (unhide HF1 _ (unhide hb2)).mono ?_
        rintro e w3 ⟨rfl, hb3⟩
        have g4 := unhide HI w3 (unhide hb3)
        obtain ⟨f1, f2, f3⟩ := unhide HC w3 (unhide hb3)
        go_wp2_with fail
        refine (unhide HF2 _ (unhide hb3)).mono ?_
        rintro e w4 ⟨rfl, hb4⟩
        go_wp2_with fail
        go_ret
        exact ⟨rfl, unhide HTp _ (unhide hb4)⟩
      · have t1 : (to == n) = false := by simpa using k2
        by_cases k3 : n ∈ l
        · rw [if_pos ⟨rfl, .inr k3⟩] at hE
          subst hE
          rw [no (by decide)]
          rw [decide_eq_true k3] at HWI
          clear HG hmv no htk
          go_enter Tryz.func69, Tryz.ntmps69
          go_wp2_with fail
          refine (unhide HD1 _ (unhide hb0)).mono ?_
          rintro e w1 ⟨rfl, hb1⟩
          go_wp2_with fail
          refine (unhide HD2 _ (unhide hb1)).mono ?_
          rintro e w2 ⟨rfl, hb2⟩
          go_wp2_with fail
          refine (unhide HR _).mono ?_
          rintro e w' ⟨rfl, rfl⟩
          go_wp2_with fail
          refine (unhide HF1 _ (unhide hb2)).mono ?_
          rintro e w3 ⟨rfl, hb3⟩
          have g4 := unhide HI w3 (unhide hb3)
          obtain ⟨f1, f2, f3⟩ := unhide HC w3 (unhide hb3)
          go_wp2_with fail
          refine (unhide HF2 _ (unhide hb3)).mono ?_
          rintro e w4 ⟨rfl, hb4⟩
          go_wp2_with fail
          refine (unhide HWI _ (unhide hb4)).mono ?_
          rintro e w5 ⟨rfl, hb5⟩
          go_wp2_with fail
          go_ret
          exact ⟨rfl, unhide HTp _ (unhide hb5)⟩
        · rw [if_neg (by rintro ⟨_, h1 | h1⟩; exact k2 h1; exact k3 h1)] at hE
          rw [decide_eq_false k3] at HWI
          by_cases k4 : dir = to
          · rw [if_neg (by rintro ⟨_, h1, _⟩; exact h1 k4)] at hE
            subst hE
            rw [hmv rfl]
            have t2 : (dir != to) = false := by simpa using k4
            have HG2 := hide (unhide HG k2)
            clear k4 HG hmv no htk
            go_enter Tryz.func69, Tryz.ntmps69
            go_wp2_with fail
            refine (unhide HD1 _ (unhide hb0)).mono ?_
            rintro e w1 ⟨rfl, hb1⟩
            go_wp2_with fail
            refine (unhide HD2 _ (unhide hb1)).mono ?_
            rintro e w2 ⟨rfl, hb2⟩
            go_wp2_with fail
            refine (unhide HR _).mono ?_
            rintro e w' ⟨rfl, rfl⟩
            go_wp2_with fail
            refine (unhide HF1 _ (unhide hb2)).mono ?_
            rintro e w3 ⟨rfl, hb3⟩
            have g4 := unhide HI w3 (unhide hb3)
            obtain ⟨f1, f2, f3⟩ := unhide HC w3 (unhide hb3)
            go_wp2_with fail
            refine (unhide HF2 _ (unhide hb3)).mono ?_
            rintro e w4 ⟨rfl, hb4⟩
            go_wp2_with fail
            refine (unhide HWI _ (unhide hb4)).mono ?_
            rintro e w5 ⟨rfl, hb5⟩
            go_wp2_with fail
            refine (unhide HG2 _ (unhide hb5)).mono ?_
            rintro e w7 ⟨rfl, HT7⟩
            go_wp2_with fail
            refine (unhide HT7).mono ?_
            rintro e w8 ⟨rfl, FF⟩
            go_wp2_with fail
            go_ret
            exact ⟨rfl, unhide FF⟩
          · have t2 : (dir != to) = true := by simpa using k4
            by_cases k5 : lk = 16
            · rw [if_pos ⟨rfl, k4, k5⟩] at hE
              subst hE
              subst k5
              rw [no (by decide)]
              clear HG hmv no htk
              go_enter Tryz.func69, Tryz.ntmps69
              go_wp2_with fail
              refine (unhide HD1 _ (unhide hb0)).mono ?_
              rintro e w1 ⟨rfl, hb1⟩
              go_wp2_with fail
              refine (unhide HD2 _ (unhide hb1)).mono ?_
              rintro e w2 ⟨rfl, hb2⟩
              go_wp2_with fail
              refine (unhide HR _).mono ?_
              rintro e w' ⟨rfl, rfl⟩
              go_wp2_with fail
              refine (unhide HF1 _ (unhide hb2)).mono ?_
              rintro e w3 ⟨rfl, hb3⟩
              have g4 := unhide HI w3 (unhide hb3)
              obtain ⟨f1, f2, f3⟩ := unhide HC w3 (unhide hb3)
              go_wp2_with fail
              refine (unhide HF2 _ (unhide hb3)).mono ?_
              rintro e w4 ⟨rfl, hb4⟩
              go_wp2_with fail
              refine (unhide HWI _ (unhide hb4)).mono ?_
              rintro e w5 ⟨rfl, hb5⟩
              go_wp2_with fail
              refine (unhide HLK _ (unhide hb5)).mono ?_
              rintro e w6 ⟨rfl, hb6⟩
              go_wp2_with fail
              go_ret
              exact ⟨rfl, unhide HTp _ (unhide hb6)⟩
            · rw [if_neg (by rintro ⟨_, _, h1⟩; exact k5 h1)] at hE
              subst hE
              rw [hmv rfl]
              have h5i : ¬ ((lk : Int) = 16) := by omega
              have HG2 := hide (unhide HG k2)
              clear HG hmv no htk
              go_enter Tryz.func69, Tryz.ntmps69
              go_wp2_with fail
              refine (unhide HD1 _ (unhide hb0)).mono ?_
              rintro e w1 ⟨rfl, hb1⟩
              go_wp2_with fail
              refine (unhide HD2 _ (unhide hb1)).mono ?_
              rintro e w2 ⟨rfl, hb2⟩
              go_wp2_with fail
              refine (unhide HR _).mono ?_
              rintro e w' ⟨rfl, rfl⟩
              go_wp2_with fail
              refine (unhide HF1 _ (unhide hb2)).mono ?_
              rintro e w3 ⟨rfl, hb3⟩
              have g4 := unhide HI w3 (unhide hb3)
              obtain ⟨f1, f2, f3⟩ := unhide HC w3 (unhide hb3)
              go_wp2_with fail
              refine (unhide HF2 _ (unhide hb3)).mono ?_
              rintro e w4 ⟨rfl, hb4⟩
              go_wp2_with fail
              refine (unhide HWI _ (unhide hb4)).mono ?_
              rintro e w5 ⟨rfl, hb5⟩
              go_wp2_with fail
              refine (unhide HLK _ (unhide hb5)).mono ?_
              rintro e w6 ⟨rfl, hb6⟩
              go_wp2_with fail
              refine (unhide HG2 _ (unhide hb6)).mono ?_
              rintro e w7 ⟨rfl, HT7⟩
              go_wp2_with fail
              refine (unhide HT7).mono ?_
              rintro e w8 ⟨rfl, FF⟩
              go_wp2_with fail
              go_ret
              exact ⟨rfl, unhide FF⟩
    · rw [if_neg (by rintro ⟨h1, _⟩; exact k1 h1), if_neg (by rintro ⟨h1, _⟩; exact k1 h1)] at hE
      subst hE
      rw [hmv rfl]
      have HG2 := hide (unhide HG (htk k1))
      clear HG hmv no htk
      go_enter Tryz.func69, Tryz.ntmps69
      go_wp2_with fail
      refine (unhide HD1 _ (unhide hb0)).mono ?_
      rintro e w1 ⟨rfl, hb1⟩
      go_wp2_with fail
      refine (unhide HD2 _ (unhide hb1)).mono ?_
      rintro e w2 ⟨rfl, hb2⟩
      go_wp2_with fail
      refine (unhide HR _).mono ?_
      rintro e w' ⟨rfl, rfl⟩
      go_wp2_with fail
      refine (unhide HF1 _ (unhide hb2)).mono ?_
      rintro e w3 ⟨rfl, hb3⟩
      have g4 := unhide HI w3 (unhide hb3)
      obtain ⟨f1, f2, f3⟩ := unhide HC w3 (unhide hb3)
      go_wp2_with fail
      refine (unhide HF2 _ (unhide hb3)).mono ?_
      rintro e w4 ⟨rfl, hb4⟩
      go_wp2_with fail
      refine (unhide HG2 _ (unhide hb4)).mono ?_
      rintro e w7 ⟨rfl, HT7⟩
      go_wp2_with fail
      refine (unhide HT7).mono ?_
      rintro e w8 ⟨rfl, FF⟩
      go_wp2_with fail
      go_ret
      exact ⟨rfl, unhide FF⟩
  | some old =>
    rw [ho] at HF2 hE
    simp only [Option.getD_some, Option.isSome_some] at HF2 hE
    obtain ⟨y, hyo, -⟩ := hw.k.at hi ho
    have hmv : T.moveE l dir s to s2 = 0 → T.move l dir s to s2 = if old = n then T else ((T.take to s2).give to s2 n).take dir s := fun e => by rw [Tr.move, if_pos e]; simp only [hfd, hio, ho]
    have HY : Hid (∀ w, Below W.heap.size W w → Calls Tryz.prog 133 #[P0 t, I old, .bool (decide (x.kind = 1))] w fun e w' => e = .returned (I (T.yieldsE old (decide (x.kind = 1)))) ∧ w' = w) := fun w hb => yields_any h (hw.k.wf (by omega) hyo) hyo _ w hb
    have HG : Hid (to ≠ n → old ≠ n → T.yieldsE old (decide (x.kind = 1)) = 0 → ∀ w, Below W.heap.size W w → Calls Tryz.prog 125 #[P0 t, P0 (nb to), .string s2] w fun e w0 => e = .returned (.tuple #[]) ∧ Hid (Calls Tryz.prog 124 #[P0 t, I to, .string s2, I n] w0 fun e w1 => e = .returned (.tuple #[]) ∧ Hid (Calls Tryz.prog 125 #[P0 t, P0 (nb dir), .string s] w1 fun e w2 => e = .returned (.tuple #[]) ∧ Hid (Tp lo N w2 t (((T.take to s2).give to s2 n).take dir s) ∧ Tx lo W w2)))) := fun htn hon hyl w hb => by
      have hyi : y.ins = [] := by have := Tr.yields0 hyl; simpa [Tr.insOf, hyo] using this
      refine (over_calls (h.below hb) hw hB hd hg hi ho hyo hyi hon hz hxn htn).mono ?_
      rintro e w0 ⟨rfl, h0⟩
      refine ⟨rfl, (unhide h0).mono ?_⟩
      rintro e w1 ⟨rfl, h1⟩
      refine ⟨rfl, (unhide h1).mono ?_⟩
      rintro e w2 ⟨rfl, h2, X2⟩
      exact ⟨rfl, h2, (Tx.of_below hb hlo).trans X2⟩
    have htk : x.kind ≠ 1 → to ≠ n := fun hk e => by rw [← e, hi] at hxn; cases hxn; exact hk hk2
    obtain ⟨b, hbb⟩ : ∃ b, b = nb dir := ⟨_, rfl⟩
    obtain ⟨b2, hbt⟩ : ∃ b, b = nb to := ⟨_, rfl⟩
    obtain ⟨bn, hbn⟩ : ∃ b, b = nb n := ⟨_, rfl⟩
    obtain ⟨E, hEE⟩ : ∃ E, E = T.moveE l dir s to s2 := ⟨_, rfl⟩
    obtain ⟨yl, hyl⟩ : ∃ yl, yl = T.yieldsE old (decide (x.kind = 1)) := ⟨_, rfl⟩
    rw [← hyl] at HY hE HG
    obtain ⟨kd, hkd⟩ : ∃ kd, kd = x.kind := ⟨_, rfl⟩
    rw [← hbb] at HD1 HF1 HG
    rw [← hbt] at HD2 HF2 HI HG
    rw [← hbn] at HC
    rw [← hEE] at hE no hmv ⊢
    rw [← hkd] at HC hE htk HY
    clear h hw hl hx hd hy hi hk2 hr hg hxn hi0 hwn hkx hfd hio hz hnn ho hbb hbt hbn hEE hkd hyl hyo HLK
    by_cases k1 : kd = 1
    · subst k1
      rw [show decide ((1 : Int) = 1) = true from rfl] at HY
      by_cases k2 : to = n
      · rw [if_pos ⟨rfl, .inl k2⟩] at hE
        subst hE
        rw [no (by decide)]
        have t1 : (to == n) = true := by simpa using k2
        clear k2 HG hmv no htk HY
        go_enter Tryz.func69, Tryz.ntmps69
        go_wp2_with fail
        refine (unhide HD1 _ (unhide hb0)).mono ?_
        rintro e w1 ⟨rfl, hb1⟩
        go_wp2_with fail
        refine (unhide HD2 _ (unhide hb1)).mono ?_
        rintro e w2 ⟨rfl, hb2⟩
        go_wp2_with fail
        refine (unhide HR _).mono ?_
        rintro e w' ⟨rfl, rfl⟩
        go_wp2_with fail
        refine (unhide HF1 _ (unhide hb2)).mono ?_
        rintro e w3 ⟨rfl, hb3⟩
        have g4 := unhide HI w3 (unhide hb3)
        obtain ⟨f1, f2, f3⟩ := unhide HC w3 (unhide hb3)
        go_wp2_with fail
        refine (unhide HF2 _ (unhide hb3)).mono ?_
        rintro e w4 ⟨rfl, hb4⟩
        go_wp2_with fail
        go_ret
        exact ⟨rfl, unhide HTp _ (unhide hb4)⟩
      · have t1 : (to == n) = false := by simpa using k2
        by_cases k3 : n ∈ l
        · rw [if_pos ⟨rfl, .inr k3⟩] at hE
          subst hE
          rw [no (by decide)]
          rw [decide_eq_true k3] at HWI
          clear HG hmv no htk HY
          go_enter Tryz.func69, Tryz.ntmps69
          go_wp2_with fail
          refine (unhide HD1 _ (unhide hb0)).mono ?_
          rintro e w1 ⟨rfl, hb1⟩
          go_wp2_with fail
          refine (unhide HD2 _ (unhide hb1)).mono ?_
          rintro e w2 ⟨rfl, hb2⟩
          go_wp2_with fail
          refine (unhide HR _).mono ?_
          rintro e w' ⟨rfl, rfl⟩
          go_wp2_with fail
          refine (unhide HF1 _ (unhide hb2)).mono ?_
          rintro e w3 ⟨rfl, hb3⟩
          have g4 := unhide HI w3 (unhide hb3)
          obtain ⟨f1, f2, f3⟩ := unhide HC w3 (unhide hb3)
          go_wp2_with fail
          refine (unhide HF2 _ (unhide hb3)).mono ?_
          rintro e w4 ⟨rfl, hb4⟩
          go_wp2_with fail
          refine (unhide HWI _ (unhide hb4)).mono ?_
          rintro e w5 ⟨rfl, hb5⟩
          go_wp2_with fail
          go_ret
          exact ⟨rfl, unhide HTp _ (unhide hb5)⟩
        · rw [if_neg (by rintro ⟨_, h1 | h1⟩; exact k2 h1; exact k3 h1)] at hE
          rw [decide_eq_false k3] at HWI
          by_cases k4 : old = n
          · rw [if_pos k4] at hE hmv
            subst hE
            rw [hmv rfl]
            have t2 : (old == n) = true := by simpa using k4
            clear k4 HG hmv no htk HY
            go_enter Tryz.func69, Tryz.ntmps69
            go_wp2_with fail
            refine (unhide HD1 _ (unhide hb0)).mono ?_
            rintro e w1 ⟨rfl, hb1⟩
            go_wp2_with fail
            refine (unhide HD2 _ (unhide hb1)).mono ?_
            rintro e w2 ⟨rfl, hb2⟩
            go_wp2_with fail
            refine (unhide HR _).mono ?_
            rintro e w' ⟨rfl, rfl⟩
            go_wp2_with fail
            refine (unhide HF1 _ (unhide hb2)).mono ?_
            rintro e w3 ⟨rfl, hb3⟩
            have g4 := unhide HI w3 (unhide hb3)
            obtain ⟨f1, f2, f3⟩ := unhide HC w3 (unhide hb3)
            go_wp2_with fail
            refine (unhide HF2 _ (unhide hb3)).mono ?_
            rintro e w4 ⟨rfl, hb4⟩
            go_wp2_with fail
            refine (unhide HWI _ (unhide hb4)).mono ?_
            rintro e w5 ⟨rfl, hb5⟩
            go_wp2_with fail
            go_ret
            exact ⟨rfl, unhide HTp _ (unhide hb5)⟩
          · rw [if_neg k4] at hE hmv
            have t2 : (old == n) = false := by simpa using k4
            by_cases k5 : yl = 0
            · subst k5
              subst hE
              rw [hmv rfl]
              have HG2 := hide (unhide HG k2 k4 rfl)
              clear HG hmv no htk
              go_enter Tryz.func69, Tryz.ntmps69
              go_wp2_with fail
              refine (unhide HD1 _ (unhide hb0)).mono ?_
              rintro e w1 ⟨rfl, hb1⟩
              go_wp2_with fail
              refine (unhide HD2 _ (unhide hb1)).mono ?_
              rintro e w2 ⟨rfl, hb2⟩
              go_wp2_with fail
              refine (unhide HR _).mono ?_
              rintro e w' ⟨rfl, rfl⟩
              go_wp2_with fail
              refine (unhide HF1 _ (unhide hb2)).mono ?_
              rintro e w3 ⟨rfl, hb3⟩
              have g4 := unhide HI w3 (unhide hb3)
              obtain ⟨f1, f2, f3⟩ := unhide HC w3 (unhide hb3)
              go_wp2_with fail
              refine (unhide HF2 _ (unhide hb3)).mono ?_
              rintro e w4 ⟨rfl, hb4⟩
              go_wp2_with fail
              refine (unhide HWI _ (unhide hb4)).mono ?_
              rintro e w5 ⟨rfl, hb5⟩
              go_wp2_with fail
              refine (unhide HY _ (unhide hb5)).mono ?_
              rintro e w' ⟨rfl, rfl⟩
              go_wp2_with fail
              refine (unhide HG2 _ (unhide hb5)).mono ?_
              rintro e w7 ⟨rfl, HT7⟩
              go_wp2_with fail
              refine (unhide HT7).mono ?_
              rintro e w8 ⟨rfl, HT8⟩
              go_wp2_with fail
              refine (unhide HT8).mono ?_
              rintro e w9 ⟨rfl, FF⟩
              go_wp2_with fail
              go_ret
              exact ⟨rfl, unhide FF⟩
            · subst hE
              rw [no k5]
              have t3 : (E != 0) = true := by simpa using k5
              clear HG hmv no htk
              go_enter Tryz.func69, Tryz.ntmps69
              go_wp2_with fail
              refine (unhide HD1 _ (unhide hb0)).mono ?_
              rintro e w1 ⟨rfl, hb1⟩
              go_wp2_with fail
              refine (unhide HD2 _ (unhide hb1)).mono ?_
              rintro e w2 ⟨rfl, hb2⟩
              go_wp2_with fail
              refine (unhide HR _).mono ?_
              rintro e w' ⟨rfl, rfl⟩
              go_wp2_with fail
              refine (unhide HF1 _ (unhide hb2)).mono ?_
              rintro e w3 ⟨rfl, hb3⟩
              have g4 := unhide HI w3 (unhide hb3)
              obtain ⟨f1, f2, f3⟩ := unhide HC w3 (unhide hb3)
              go_wp2_with fail
              refine (unhide HF2 _ (unhide hb3)).mono ?_
              rintro e w4 ⟨rfl, hb4⟩
              go_wp2_with fail
              refine (unhide HWI _ (unhide hb4)).mono ?_
              rintro e w5 ⟨rfl, hb5⟩
              go_wp2_with fail
              refine (unhide HY _ (unhide hb5)).mono ?_
              rintro e w' ⟨rfl, rfl⟩
              go_wp2_with fail
              go_ret
              exact ⟨rfl, unhide HTp _ (unhide hb5)⟩
    · rw [if_neg (by rintro ⟨h1, _⟩; exact k1 h1)] at hE
      rw [decide_eq_false k1] at HY
      have t0 : (kd == 1) = false := by simpa using k1
      by_cases k4 : old = n
      · rw [if_pos k4] at hE hmv
        subst hE
        rw [hmv rfl]
        have t2 : (old == n) = true := by simpa using k4
        clear k4 HG hmv no htk HY
        go_enter Tryz.func69, Tryz.ntmps69
        go_wp2_with fail
        refine (unhide HD1 _ (unhide hb0)).mono ?_
        rintro e w1 ⟨rfl, hb1⟩
        go_wp2_with fail
        refine (unhide HD2 _ (unhide hb1)).mono ?_
        rintro e w2 ⟨rfl, hb2⟩
        go_wp2_with fail
        refine (unhide HR _).mono ?_
        rintro e w' ⟨rfl, rfl⟩
        go_wp2_with fail
        refine (unhide HF1 _ (unhide hb2)).mono ?_
        rintro e w3 ⟨rfl, hb3⟩
        have g4 := unhide HI w3 (unhide hb3)
        obtain ⟨f1, f2, f3⟩ := unhide HC w3 (unhide hb3)
        go_wp2_with fail
        refine (unhide HF2 _ (unhide hb3)).mono ?_
        rintro e w4 ⟨rfl, hb4⟩
        go_wp2_with fail
        go_ret
        exact ⟨rfl, unhide HTp _ (unhide hb4)⟩
      · rw [if_neg k4] at hE hmv
        have t2 : (old == n) = false := by simpa using k4
        by_cases k5 : yl = 0
        · subst k5
          subst hE
          rw [hmv rfl]
          have HG2 := hide (unhide HG (htk k1) k4 rfl)
          clear HG hmv no htk
          go_enter Tryz.func69, Tryz.ntmps69
          go_wp2_with fail
          refine (unhide HD1 _ (unhide hb0)).mono ?_
          rintro e w1 ⟨rfl, hb1⟩
          go_wp2_with fail
          refine (unhide HD2 _ (unhide hb1)).mono ?_
          rintro e w2 ⟨rfl, hb2⟩
          go_wp2_with fail
          refine (unhide HR _).mono ?_
          rintro e w' ⟨rfl, rfl⟩
          go_wp2_with fail
          refine (unhide HF1 _ (unhide hb2)).mono ?_
          rintro e w3 ⟨rfl, hb3⟩
          have g4 := unhide HI w3 (unhide hb3)
          obtain ⟨f1, f2, f3⟩ := unhide HC w3 (unhide hb3)
          go_wp2_with fail
          refine (unhide HF2 _ (unhide hb3)).mono ?_
          rintro e w4 ⟨rfl, hb4⟩
          go_wp2_with fail
          try rw [t0]
          refine (unhide HY _ (unhide hb4)).mono ?_
          rintro e w' ⟨rfl, rfl⟩
          go_wp2_with fail
          refine (unhide HG2 _ (unhide hb4)).mono ?_
          rintro e w7 ⟨rfl, HT7⟩
          go_wp2_with fail
          refine (unhide HT7).mono ?_
          rintro e w8 ⟨rfl, HT8⟩
          go_wp2_with fail
          refine (unhide HT8).mono ?_
          rintro e w9 ⟨rfl, FF⟩
          go_wp2_with fail
          go_ret
          exact ⟨rfl, unhide FF⟩
        · subst hE
          rw [no k5]
          have t3 : (E != 0) = true := by simpa using k5
          clear HG hmv no htk
          go_enter Tryz.func69, Tryz.ntmps69
          go_wp2_with fail
          refine (unhide HD1 _ (unhide hb0)).mono ?_
          rintro e w1 ⟨rfl, hb1⟩
          go_wp2_with fail
          refine (unhide HD2 _ (unhide hb1)).mono ?_
          rintro e w2 ⟨rfl, hb2⟩
          go_wp2_with fail
          refine (unhide HR _).mono ?_
          rintro e w' ⟨rfl, rfl⟩
          go_wp2_with fail
          refine (unhide HF1 _ (unhide hb2)).mono ?_
          rintro e w3 ⟨rfl, hb3⟩
          have g4 := unhide HI w3 (unhide hb3)
          obtain ⟨f1, f2, f3⟩ := unhide HC w3 (unhide hb3)
          go_wp2_with fail
          refine (unhide HF2 _ (unhide hb3)).mono ?_
          rintro e w4 ⟨rfl, hb4⟩
          go_wp2_with fail
          try rw [t0]
          refine (unhide HY _ (unhide hb4)).mono ?_
          rintro e w' ⟨rfl, rfl⟩
          go_wp2_with fail
          go_ret
          exact ⟨rfl, unhide HTp _ (unhide hb4)⟩
set_option maxRecDepth 100000 in
set_option maxHeartbeats 2000000 in
theorem move_any (h : TrI lo N W t T q p nb ev) (hw : Wf B T) (hB : B ≤ 880) {dir to : Int} (hn : (kl dir).wf = true) (hto : (kl to).wf = true) (s s2 : ByteArray) {l : List Int} (hl : Ab T to l) :
    Calls Tryz.prog 69 #[P0 t, I dir, .string s, I to, .string s2] W fun e w' => e = .returned (I (T.moveE l dir s to s2)) ∧ Tp lo N w' t (T.move l dir s to s2) ∧ Tx lo W w' := by
  have hlo := h.bd.2.2.1
  have HTp : Hid (∀ w, Below W.heap.size W w → Tp lo N w t T ∧ Tx lo W w) := fun w hb => ⟨⟨q, p, nb, ev, h.below hb⟩, .of_below hb hlo⟩
  have HD1 := hide (dirB h hn)
  have HD2 := hide (dirB h hto)
  have HR := hide (right_any s2)
  have hb0 := hide (Below.refl W.heap.size W)
  have no : T.moveE l dir s to s2 ≠ 0 → T.move l dir s to s2 = T := fun hE => by rw [Tr.move, if_neg hE]
  by_cases hdt : dir = to ∧ T.dir dir = none
  · obtain ⟨rfl, hx⟩ := hdt
    have e1 : T.moveE l dir s dir s2 = 1 := by simp [Tr.moveE, hx]
    rw [no (by rw [e1]; decide), e1]
    rw [hx] at HD1
    obtain ⟨pv, hpv⟩ : ∃ pv, pv = (if (T.nd dir).isSome = true then P0 (nb dir) else Value.pointer none) := ⟨_, rfl⟩
    rw [← hpv] at HD1
    clear h hw hx e1 hpv no HD2 hl HR
    go_enter Tryz.func69, Tryz.ntmps69
    go_wp2_with fail
    refine (unhide HD1 _ (unhide hb0)).mono ?_
    rintro e w1 ⟨rfl, hb1⟩
    go_wp2_with fail
    refine (unhide HD1 _ (unhide hb1)).mono ?_
    rintro e w2 ⟨rfl, hb2⟩
    go_wp2_with fail
    go_ret
    exact ⟨rfl, unhide HTp _ (unhide hb2)⟩
  cases hx : T.dir dir with
  | none =>
    have e1 : T.moveE l dir s to s2 = 1 := by simp [Tr.moveE, hx]
    rw [no (by rw [e1]; decide), e1]
    rw [hx] at HD1
    obtain ⟨pv, hpv⟩ : ∃ pv, pv = (if (T.nd dir).isSome = true then P0 (nb dir) else Value.pointer none) := ⟨_, rfl⟩
    obtain ⟨p2, hp2⟩ : ∃ pv, pv = (if (T.nd to).isSome = true then P0 (nb to) else Value.pointer none) := ⟨_, rfl⟩
    obtain ⟨b2, hb2⟩ : ∃ b2, b2 = (T.dir to).isSome := ⟨_, rfl⟩
    rw [← hpv] at HD1
    rw [← hp2, ← hb2] at HD2
    clear h hw hx e1 hpv no hp2 hb2 hl HR hdt
    go_enter Tryz.func69, Tryz.ntmps69
    go_wp2_with fail
    refine (unhide HD1 _ (unhide hb0)).mono ?_
    rintro e w1 ⟨rfl, hb1⟩
    go_wp2_with fail
    refine (unhide HD2 _ (unhide hb1)).mono ?_
    rintro e w2 ⟨rfl, hb2⟩
    go_wp2_with fail
    go_ret
    exact ⟨rfl, unhide HTp _ (unhide hb2)⟩
  | some d =>
    obtain ⟨hd, hk1⟩ := Tr.dir_some.1 hx
    rw [hx, hd] at HD1
    simp only [Option.isSome_some, if_true] at HD1
    cases hy : T.dir to with
    | none =>
      have e1 : T.moveE l dir s to s2 = 1 := by simp [Tr.moveE, hx, hy]
      rw [no (by rw [e1]; decide), e1]
      obtain ⟨p2, hp2⟩ : ∃ pv, pv = (if (T.nd to).isSome = true then P0 (nb to) else Value.pointer none) := ⟨_, rfl⟩
      obtain ⟨b, hbb⟩ : ∃ b, b = nb dir := ⟨_, rfl⟩
      rw [hy, ← hp2] at HD2
      rw [← hbb] at HD1
      clear h hw hx e1 no hp2 hl HR hdt hd hk1 hy hbb
      go_enter Tryz.func69, Tryz.ntmps69
      go_wp2_with fail
      refine (unhide HD1 _ (unhide hb0)).mono ?_
      rintro e w1 ⟨rfl, hb1⟩
      go_wp2_with fail
      refine (unhide HD2 _ (unhide hb1)).mono ?_
      rintro e w2 ⟨rfl, hb2⟩
      go_wp2_with fail
      go_ret
      exact ⟨rfl, unhide HTp _ (unhide hb2)⟩
    | some i =>
      obtain ⟨hi, hk2⟩ := Tr.dir_some.1 hy
      rw [hy, hi] at HD2
      simp only [Option.isSome_some, if_true] at HD2
      have HF1 := hide (findB h hw.k (by omega) hd s)
      have HF2 := hide (findB h hw.k (by omega) hi s2)
      have HI : Hid (∀ w, Below W.heap.size W w → w.cell? ⟨nb to, 4, none⟩ = some (I (i.names : Nat))) := fun w hb => by
        obtain ⟨-, -, -, -, d4, -⟩ := ndcells ((h.below hb).hn to i hi).1
        exact d4
      have HLK : Hid (∀ w, Below W.heap.size W w → Calls Tryz.prog 108 #[P0 t, P0 (nb to)] w fun e w' => e = .returned (I (T.links i : Nat)) ∧ Hid (Below W.heap.size W w')) := fun w hb =>
        (links_any (h.below hb) hw.k (by omega) hi).mono fun e w' ⟨h1, h2⟩ => ⟨h1, hb.trans (h2.mono hb.size)⟩
      by_cases hr : right s2 = true
      · rw [hr] at HR
        cases hg : getE d.ins s with
        | none =>
          have e1 : T.moveE l dir s to s2 = 32 := by simp [Tr.moveE, hx, hy, hr, hg]
          rw [no (by rw [e1]; decide), e1]
          rw [hg] at HF1
          obtain ⟨b, hbb⟩ : ∃ b, b = nb dir := ⟨_, rfl⟩
          obtain ⟨b2, hbt⟩ : ∃ b, b = nb to := ⟨_, rfl⟩
          rw [← hbb] at HD1 HF1
          rw [← hbt] at HD2
          clear h hw hx e1 no hl hdt hd hk1 hy hbb hbt hi hk2 HF2 HI HLK hr hg
          go_enter Tryz.func69, Tryz.ntmps69
          go_wp2_with fail
          refine (unhide HD1 _ (unhide hb0)).mono ?_
          rintro e w1 ⟨rfl, hb1⟩
          go_wp2_with fail
          refine (unhide HD2 _ (unhide hb1)).mono ?_
          rintro e w2 ⟨rfl, hb2⟩
          go_wp2_with fail
          refine (unhide HR _).mono ?_
          rintro e w' ⟨rfl, rfl⟩
          go_wp2_with fail
          refine (unhide HF1 _ (unhide hb2)).mono ?_
          rintro e w3 ⟨rfl, hb3⟩
          go_wp2_with fail
          go_ret
          exact ⟨rfl, unhide HTp _ (unhide hb3)⟩
        | some n =>
          obtain ⟨x, hxn, hx0⟩ := hw.k.at hd hg
          rw [hg] at HF1
          simp only [Option.getD_some, Option.isSome_some] at HF1
          by_cases hi0 : i.names = 0
          · have e1 : T.moveE l dir s to s2 = 32 := by simp [Tr.moveE, hx, hy, hr, hg, hi0]
            rw [no (by rw [e1]; decide), e1]
            rw [hi0] at HI
            obtain ⟨b, hbb⟩ : ∃ b, b = nb dir := ⟨_, rfl⟩
            obtain ⟨b2, hbt⟩ : ∃ b, b = nb to := ⟨_, rfl⟩
            rw [← hbb] at HD1 HF1
            rw [← hbt] at HD2 HI
            clear h hw hx e1 no hl hdt hd hk1 hy hbb hbt hi hk2 HF2 HLK hr hg hxn hx0 hi0
            go_enter Tryz.func69, Tryz.ntmps69
            go_wp2_with fail
            refine (unhide HD1 _ (unhide hb0)).mono ?_
            rintro e w1 ⟨rfl, hb1⟩
            go_wp2_with fail
            refine (unhide HD2 _ (unhide hb1)).mono ?_
            rintro e w2 ⟨rfl, hb2⟩
            go_wp2_with fail
            refine (unhide HR _).mono ?_
            rintro e w' ⟨rfl, rfl⟩
            go_wp2_with fail
            refine (unhide HF1 _ (unhide hb2)).mono ?_
            rintro e w3 ⟨rfl, hb3⟩
            have g4 := unhide HI w3 (unhide hb3)
            go_wp2_with fail
            go_ret
            exact ⟨rfl, unhide HTp _ (unhide hb3)⟩
          · exact move_deep h hw hB hto hl hx hd hy hi hk2 hr hg hxn hi0 HD1 HD2 HR HF1 HF2 HI HLK
      · have hr2 : right s2 = false := by simpa using hr
        rw [hr2] at HR
        have e1 : T.moveE l dir s to s2 = 1 := by simp [Tr.moveE, hx, hy, hr]
        rw [no (by rw [e1]; decide), e1]
        obtain ⟨b, hbb⟩ : ∃ b, b = nb dir := ⟨_, rfl⟩
        obtain ⟨b2, hbt⟩ : ∃ b, b = nb to := ⟨_, rfl⟩
        rw [← hbb] at HD1
        rw [← hbt] at HD2
        clear h hw hx e1 no hl hdt hd hk1 hy hbb hbt hi hk2 HF1 HF2 HI HLK hr hr2
        go_enter Tryz.func69, Tryz.ntmps69
        go_wp2_with fail
        refine (unhide HD1 _ (unhide hb0)).mono ?_
        rintro e w1 ⟨rfl, hb1⟩
        go_wp2_with fail
        refine (unhide HD2 _ (unhide hb1)).mono ?_
        rintro e w2 ⟨rfl, hb2⟩
        go_wp2_with fail
        refine (unhide HR _).mono ?_
        rintro e w' ⟨rfl, rfl⟩
        go_wp2_with fail
        go_ret
        exact ⟨rfl, unhide HTp _ (unhide hb2)⟩
end
end Go.Proofs.YtlngeaacjbdmhaaGreat
