/-
  The document's own Encode.
-/
import Derived.Test.YtcopjhidijhlaaaSI
import Derived.Test.YtcopjhidijhlaaaEEnc
import Derived.Test.YtcopjhidijhlaaaSERd
namespace Go.Proofs.Ytcopjhidijhlaaa.Cl
open Go.RowKit
attribute [local go_sem ↓] Go.wp_at_zero Go.wp_at_succ

theorem step_app' {P : Program} {w : World} {ops : Array Oper} {o : Oper} {a : Act} {K : Act → World → Prop} {Q : Exit → Act → World → Prop} {E : Prop} (hgd : o.guard = none) (s x : Operand) (t t2 : TypeId)
    (ho : o.op = .call { callee := .builtin .append, args := #[s, x], argTypes := #[t, t2] }) (ty : TypeId) (hty : o.type = ty) (vs vx : Value) (hs : a.eval s = vs) (hx : a.eval x = vx) (v' : Value) (w' : World)
    (hrun : (Builtin.append_ #[t, t2] ty #[vs, vx]).run P w = .ok v' w') (h : K (a.put o.dst v') w') :
    if Region.wanted o (yielded ops a.tmps) = true then Oper.wp P o a w K Q else E := by
  have hw : Region.wanted o (yielded ops a.tmps) = true := by simp [Region.wanted, hgd]
  rw [if_pos hw]
  unfold Oper.wp execOp
  simp only [ho, resolve, invoke, builtin, Sem.run_bind, Sem.run_pure, Result.andThen_ok, List.map_toArray, List.map_cons, List.map_nil, hs, hx, hty, hrun]
  exact h
theorem Bw.drew {W : World} {B : Nat} {v : Value} {l : List UInt8} (h : Bw W B v l) : Bw W.drew B v l := h.keep fun _ _ _ => rfl
set_option maxRecDepth 100000 in
set_option maxHeartbeats 4000000 in
theorem fencode_any (ps : List Ip) (a : Option Addr) (n cap : Nat) (hn : n = ps.length) (w : World) (hI : Ips w w.heap.size a ps) :
    Calls Try.prog 13 #[.slice a n cap] w fun e w' => ∃ v, e = .returned (.tuple #[v, I (encR (fsts ps))]) ∧ Bw w' w.heap.size v (eb (fsts ps)) ∧ Below w.heap.size w w' := by
  have hln : (fsts ps).length = n := by simp [hn]
  by_cases h0 : 1024 < n
  · have hR : encR (fsts ps) = 4 := by unfold encR; rw [if_pos (by omega)]
    rw [hR, eb_no (by rw [hR]; decide)]
    have h1 : (1024 : Int) < (n : Int) := by omega
    clear hn hI
    go_enter Try.func13, Try.ntmps13
    go_wp2_with fail
    go_ret2
    exact ⟨_, rfl, Bw.nil _ _, Below.refl _ _⟩
  · have hR : encR (fsts ps) = whys (fsts ps) := by unfold encR; rw [if_neg (by omega)]
    have h1 : ¬ (1024 : Int) < (n : Int) := by omega
    have HR := hide hR
    have HI := hide hI
    have HN := hide hn
    have HL := hide hln
    have H0 := hide h0
    clear hI hn hR hln h0
    go_enter Try.func13, Try.ntmps13
    go_wp2_with fail
    go_loopw [4, 5] (fun v i wr => ∃ (k : Nat) (v' : Value), k ≤ n ∧ i = .int .i64 k ∧ v' = v ∧ Bw wr w.heap.size v' (encs ((fsts ps).take k)) ∧ Kp w.heap.size w wr ∧ ∀ j y, j < k → (fsts ps)[j]? = some y → y.right = 0) (fun _ i _ => n - (intOf i).toNat)
    case atStart => exact ⟨0, .slice none 0 0, by omega, rfl, rfl, by simpa [encs] using Bw.nil w w.heap.size, Kp.refl _ _, fun j y hj => by omega⟩
    case round =>
      obtain ⟨k, v', hk, rfl, rfl, hw, hK, hall⟩ := hrel
      by_cases hkn : k < n
      · have j1 : (k : Int) < (n : Int) := by omega
        have j0 : (0 : Int) ≤ (k : Int) := by omega
        obtain ⟨p, hp⟩ : ∃ p, ps[k]? = some p := ⟨_, List.getElem?_eq_getElem (by have := unhide HN; omega)⟩
        obtain ⟨g, off, ha⟩ : ∃ g off, a = some ⟨g, off, none⟩ := by
          obtain ⟨g, off, e, -⟩ := unhide HI k p hp
          exact ⟨g, off, e⟩
        subst ha
        have HIk := hide (fun W' (hB : Below w.heap.size w W') => ((unhide HI).below hB).at' hp)
        obtain ⟨hrow, hdu⟩ := unhide HIk _ hK.be
        have hf := fsts_get hp
        obtain ⟨x, d⟩ := p
        obtain ⟨da, dc, hde, hby, hdc, hdm⟩ := hdu
        simp only at hrow hf hby hdc hde HIk
        subst hde
        obtain ⟨r0, r1, r2, r3, r4, r5, r6, r7, r8, r9, r10, r11⟩ := row12 hrow
        have hB : w.heap.size ≤ wr.heap.size := hK.be.size
        have HC := hide (fright_any x da _ dc rfl wr)
        have HX := hide (⟨hw, hK, hall, hf⟩ : _ ∧ _ ∧ _ ∧ _)
        unfold It.cs at HC
        clear hw hK hall hf hby hrow hp
        go_wp2_with fail
        refine (unhide HC).mono ?_
        rintro e W4 ⟨rfl, be4⟩
        obtain ⟨hw, hK, hall, hf⟩ := unhide HX
        have hw4 := hw.below be4
        have hK4 := hK.trans (Kp.of_below be4 hB)
        have hB4 : w.heap.size ≤ W4.heap.size := hK4.be.size
        obtain ⟨hrow, hdu⟩ := unhide HIk _ hK4.be
        clear HX HC be4 hw hK r0 r1 r2 r3 r4 r5 r6 r7 r8 r9 r10 r11 hdu
        obtain ⟨r0, r1, r2, r3, r4, r5, r6, r7, r8, r9, r10, r11⟩ := row12 hrow
        clear hrow
        by_cases hx : x.right = 0
        · have hx2 : (x.right == 0) = true := by simpa using hx
          have hx3 : (x.right != 0) = false := by simp [hx]
          have hlen := encs_len (l := (fsts ps).take k) (fun y hy => by
            obtain ⟨j, hj⟩ := List.mem_iff_getElem?.1 hy
            rw [List.getElem?_take] at hj
            split at hj
            · exact hall j y (by assumption) hj
            · cases hj)
          rw [List.length_take] at hlen
          have hlen2 : (encs ((fsts ps).take k)).length ≤ 140737488000000 := by omega
          have hnext : ∀ (v5 : Value) (W5 : World), Bw W5 w.heap.size v5 (encs ((fsts ps).take k) ++ x.enc) → Kp w.heap.size W4 W5 → (Bw W5 w.heap.size v5 (encs ((fsts ps).take (k + 1))) ∧ Kp w.heap.size w W5 ∧ ∀ j y, j < k + 1 → (fsts ps)[j]? = some y → y.right = 0) := fun v5 W5 h5 k5 => ⟨by rw [encs_take hf]; exact h5, hK4.trans k5, fun j y hj hy => (show y.right = 0 from by
            rcases Nat.lt_or_ge j k with h | h
            · exact hall j y h hy
            · obtain rfl : j = k := by omega
              rw [hf] at hy
              rw [← Option.some.inj hy]
              exact hx)⟩
          have HNX := hide hnext
          have HK4 := hide hK4
          obtain ⟨h2, h3, hcase⟩ := It.right_ok hx
          obtain ⟨v5, W5, hrun1, hw5, hK5⟩ := hw4.new hB4 22 (be 1 x.kind) 1 rfl #[.int .u8 (x.kind % 256)] (by simp [Lib.byteCells, be, byt_val]) (by simp [be]; omega)
          obtain ⟨a5, n5, c5, rfl⟩ := hw5.sl
          have hB5 : w.heap.size ≤ W5.heap.size := Nat.le_trans hB4 hK5.be.size
          obtain ⟨hrow, hdu⟩ := unhide HIk _ (hK4.trans hK5).be
          obtain ⟨da', dc', hde', hby5, -⟩ := hdu
          simp only [Value.slice.injEq] at hde' hby5
          obtain ⟨rfl, -, rfl⟩ := hde'
          obtain ⟨s0, s1, s2, s3, s4, s5, s6, s7, s8, s9, s10, s11⟩ := row12 hrow
          clear hnext hall hf hx hK4 hw4 hlen hrow
          rcases hcase with ⟨hk1, hn0, hcr⟩ | ⟨hk1, ht0, -⟩
          · have hk2 : (x.kind == 1) = true := by simpa using hk1
            have henc : x.enc = be 1 x.kind ++ (be 1 x.thread ++ x.c.enc) := by unfold It.enc; rw [if_pos hk1]
            obtain ⟨-, -, l1, l2, l3⟩ := Cc.right_ok hcr
            have hcl := x.c.enc_len
            have HE := hide (eenc_yes x.c da _ dc rfl hcr W5 (hby5.mono hB5))
            have HX5 := hide (⟨hw5, hK5, hB5, henc⟩ : _ ∧ _ ∧ _ ∧ _)
            clear hw5 hK5 hB5 henc hby5 hk1 hn0 hcr
            go_wp2_with (at_builtin; refine wpList_app rfl _ _ 22 22 rfl 22 rfl _ _ (by rfl) (by rfl) _ _ hrun1 ?_; clear hrun1)
            refine (unhide HE).mono ?_
            rintro e W6 ⟨v6, rfl, rw6, be6⟩
            obtain ⟨hw5, hK5, hB5, henc⟩ := unhide HX5
            have hB6 : w.heap.size ≤ W6.heap.size := Nat.le_trans hB5 be6.size
            obtain ⟨v7, W7, hrun3, hw7, hK7, hG7⟩ := bwNewG (hw5.below be6) hB6 22 (be 1 x.thread) 1 rfl #[.int .u8 (x.thread)] (by
              have e : x.thread % 256 = x.thread := by omega
              simp [Lib.byteCells, be, byt_val, e]) (by simp [be]; omega)
            obtain ⟨a7, n7, c7, rfl⟩ := hw7.sl
            have rw7 := rw6.keep (W' := W7) fun k h1 h2 => hG7 k h2 (fun e => by have := bwOwnB hw5 e; omega)
            obtain ⟨a6, c6, rfl, by7, -, -⟩ := rw7.form
            have hB7 : w.heap.size ≤ W7.heap.size := Nat.le_trans hB6 hK7.be.size
            obtain ⟨v8, W8, hrun4, hw8, hK8⟩ := hw7.app hB7 22 a6 x.c.enc x.c.enc.length c6 rfl by7 (by simp [be]; omega)
            obtain ⟨q0, q1, q2, q3, q4, q5, q6, q7, q8, q9, q10, q11⟩ := row12 (unhide HIk _ (((unhide HK4).trans hK5).trans (Kp.of_below be6 hB5)).be).1
            have HFIN := hide (unhide HNX v8 W8 (by rw [henc]; simpa using hw8) (((hK5.trans (Kp.of_below be6 hB5)).trans hK7).trans hK8))
            have ht1 : (0 : Int) ≤ x.thread := h2.1
            have ht2 : x.thread ≤ 255 := h2.2
            clear HX5 HE hw5 hK5 hB5 henc be6 hB6 hw7 hK7 hG7 rw6 rw7 by7 hB7 hw8 hK8 HNX s0 s1 s2 s3 s4 s5 s6 s7 s8 s9 s10 s11 r0 r1 r2 r3 r4 r5 r6 r7 r8 r9 r10 r11 l1 l2 l3 hcl h2 h3 hlen2
            go_wp2_with (first | (at_builtin; refine wpList_app rfl _ _ 22 22 rfl 22 rfl _ _ (by rfl) (by rfl) _ _ hrun3 ?_; clear hrun3) | (at_builtin; refine wpList_app rfl _ _ 22 22 rfl 22 rfl _ _ (by rfl) (by rfl) _ _ hrun4 ?_; clear hrun4))
            exact ⟨⟨k + 1, v8, by omega, by go_num, rfl, (unhide HFIN).1, (unhide HFIN).2.1, (unhide HFIN).2.2⟩, by simp [intOf]; omega⟩
          · have hk2 : (x.kind == 1) = false := by simp; omega
            have henc : x.enc = be 1 x.kind ++ be 2 x.n := by unfold It.enc; rw [if_neg (by omega)]
            obtain ⟨v7, W7, hrun3, hw7, hK7⟩ := (Bw.drew hw5).new (show w.heap.size ≤ W5.drew.heap.size from hB5) 22 (be 2 x.n) 2 rfl #[.int .u8 (IntKind.u8.wrap (x.n / 256)), .int .u8 (IntKind.u8.wrap x.n)] (by simp [Lib.byteCells, be, byt_val, IntKind.wrap_u8]) (by simp [be]; omega)
            have hrun5 : (Builtin.append_ #[22, 22] 22 #[.slice a5 n5 c5, .slice (some ⟨W5.heap.size, 0, none⟩) 2 2]).run Try.prog (W5.alloc (.cells #[.int .u8 (IntKind.u8.wrap (x.n / 256)), .int .u8 (IntKind.u8.wrap x.n)] 5)).drew = .ok v7 W7 := hrun3
            clear hrun3
            have HFIN := hide (unhide HNX v7 W7 (by rw [henc]; simpa using hw7) ((hK5.drew).trans hK7))
            have hn1 : (0 : Int) ≤ x.n := h3.1
            have hn2 : x.n ≤ 65535 := h3.2
            clear hw5 hK5 hB5 henc hby5 hk1 ht0 hw7 hK7 HNX h2 h3 hlen2 r1 r2 r3 r4 r5 r6 r7 r8 r9 r10 r11
            go_wp2_with (at_builtin; refine wpList_app rfl _ _ 22 22 rfl 22 rfl _ _ (by rfl) (by rfl) _ _ hrun1 ?_; clear hrun1)
            go_region_law (refine step_app' (by rfl) _ _ 22 22 (by rfl) 22 (by rfl) _ _ (by rfl) (by rfl) _ _ hrun5 ?_)
            all_goals go_wp2_with fail
            all_goals exact ⟨⟨k + 1, v7, by omega, by go_num, rfl, (unhide HFIN).1, (unhide HFIN).2.1, (unhide HFIN).2.2⟩, by simp [intOf]; omega⟩
        · have hx2 : (x.right == 0) = false := by simpa using hx
          have hx3 : (x.right != 0) = true := by simpa using hx
          have hwy := whys_at hf hall hx
          have HF := hide (⟨hwy, hK4.be⟩ : _ ∧ _)
          have HX0 := hide hx
          clear hw4 hK4 hall hf hx hB4 hB hwy
          go_wp2_with fail
          go_ret2
          refine ⟨.slice none 0 0, by rw [unhide HR, (unhide HF).1]; rfl, ?_, (unhide HF).2⟩
          rw [eb_no (by rw [unhide HR, (unhide HF).1]; exact unhide HX0)]
          exact Bw.nil _ _
      · obtain rfl : k = n := by omega
        have j1 : ¬ (k : Int) < (k : Int) := by omega
        have hz : whys (fsts ps) = 0 := whys_of fun y hy => by
          obtain ⟨j, hj⟩ := List.mem_iff_getElem?.1 hy
          exact hall j y (by have := (List.getElem?_eq_some_iff.1 hj).1; have := unhide HL; omega) hj
        have HF := hide (⟨hw, hK, hz⟩ : _ ∧ _ ∧ _)
        clear hw hK hall hz
        go_wp2_with fail
        go_ret2
        obtain ⟨h1, h2, h3⟩ := unhide HF
        refine ⟨v', by rw [unhide HR, h3]; rfl, ?_, h2.be⟩
        rw [eb_yes (by rw [unhide HR, h3])]
        rw [List.take_of_length_le (by rw [unhide HL]; omega)] at h1
        exact h1
end Go.Proofs.Ytcopjhidijhlaaa.Cl
