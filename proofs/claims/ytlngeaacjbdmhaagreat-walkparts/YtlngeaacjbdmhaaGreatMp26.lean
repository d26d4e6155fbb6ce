/-
  The contracts of a walker's small calls: refusal, find, missing, end.
-/
import Derived.Test.YtlngeaacjbdmhaaGreatMp25
import Derived.Test.YtlngeaacjbdmhaaGreatMp23
set_option maxRecDepth 100000
namespace Go.Proofs.YtlngeaacjbdmhaaGreat.Wl
open Go.RowKit
attribute [local go_sem ↓] Go.wp_at_zero Go.wp_at_succ
section
variable {lo N mb : Nat} {W W' : World} {t m b : Nat} {E : En} {am an : Int} {s : Nat}
theorem Wd.lo_le (h : Wd lo N mb W t m E) : lo ≤ W.heap.size := h.tp.lo_le
theorem kind_wf {n : Int} (hn : E.T.kindOf n = 1) : ∃ x, E.T.nd n = some x ∧ x.kind = 1 := by
  unfold Tr.kindOf at hn
  cases e : E.T.nd n with
  | none => rw [e] at hn; simp at hn
  | some x => rw [e] at hn; exact ⟨x, rfl, hn⟩
set_option maxHeartbeats 1000000 in
theorem refusal_any (D : Wd lo N mb W t m E) (hw : Wn W b t m E am an s) (hn : (kl an).wf = true) :
    Calls Tryz.prog 232 #[P0 b] W fun e w' => e = .returned (I (E.refusal an)) ∧ Below W.heap.size W w' := by
  obtain ⟨a, mo, u, g, l, z, hst, hxx⟩ := stat_shape E.T an
  obtain ⟨f, hf⟩ : ∃ f, (E.T.nd an).isSome = f := ⟨_, rfl⟩
  obtain ⟨K, hK⟩ : ∃ K, K = E.T.kindOf an := ⟨_, rfl⟩
  rw [← hK] at hst
  obtain ⟨R, hR⟩ : ∃ R, R = E.refusal an := ⟨_, rfl⟩
  rw [← hR]
  have HR := hide hR
  have HX := hide hxx
  have HK := hide hK
  obtain ⟨v0, -, w2c, w3c, -, -, -, v7, -, -⟩ := hw.cells
  have H1 := hide (stat_ahead D hn hst hf W (Below.refl _ W))
  have H2 := hide (stat_behind D hn hst hf W (Below.refl _ W))
  have hbl := hw.lt
  have n1 : b ≠ W.heap.size := by omega
  have n3 : W.heap.size ≠ b := by omega
  clear D hw hst hf hK hn hxx hR
  unfold zst at H1
  go_enter Tryz.func232, Tryz.ntmps232
  go_wp2_with fail
  go_region_held3 (fun w' => w'.cell? ⟨b, 0, none⟩ = some (P0 t) ∧ w'.cell? ⟨b, 7, none⟩ = some (I an)) (go_keep)
    (first
      | (go_at_call 37; refine (unhide H1).mono ?_; rintro e w2 ⟨rfl, HB2, hz⟩; obtain ⟨r0, r1, r2, r3, r4, r5, r6, rf⟩ := cells7 hz; have HZ := hide hz; clear hz; have q0 := cell_be v0 (unhide HB2); have q1 := cell_be v7 (unhide HB2))
      | (go_at_call 37; refine (unhide H2).mono ?_; rintro e w2 ⟨rfl, HB2⟩; have q0 := cell_be v0 (unhide HB2); have q1 := cell_be v7 (unhide HB2)))
  · rename_i hHeld
    clear hHeld
    obtain ⟨Y, hY, hYb, hYB⟩ : ∃ Y, w2.alloc (.cells #[I a, I K, I mo, I u, I g, I l, I z] 33) = Y ∧ Y.heap[w2.heap.size]? = some (.cells #[I a, I K, I mo, I u, I g, I l, I z] 33) ∧ Below W.heap.size W Y := ⟨_, rfl, heap_alloc_new _ _, (unhide HB2).alloc (unhide HB2).size _⟩
    rw [hY]
    obtain ⟨e0, e1, e2, e3, e4, e5, e6, -⟩ := cells7 hYb
    have d2 := cell_be w2c hYB
    have d3 := cell_be w3c hYB
    have HY := hide hYB
    clear hY hYb hYB q0 q1 v0 v7 H1 H2 w2c w3c
    generalize w2.heap.size = y at *
    clear HB2
    by_cases hk : K = 1
    · have er : R = if (Kr.may E.cu E.cg mo u g 1) = true then 0 else 34 := by
        obtain ⟨x, hx, hx1⟩ := kind_wf ((unhide HK).symm.trans hk)
        obtain ⟨rfl, rfl, rfl⟩ := unhide HX x hx
        rw [unhide HR]
        unfold En.refusal En.may
        rw [← unhide HK, if_pos hk, hx]
      replace er := hide er
      have hk1 : (K == 1) = true := by simpa using hk
      obtain ⟨M, hM⟩ : ∃ M, Kr.may E.cu E.cg mo u g 1 = M := ⟨_, rfl⟩
      have HM := hide (fun w => Kr.may_any E.cu E.cg a K mo u g l z 1 w)
      rw [hM] at HM er
      clear hM
      rw [hk] at HM e1
      clear hk hk1
      go_wp2_with fail
      go_region_held3 (fun w' => w'.cell? ⟨b, 2, none⟩ = some (I E.cu) ∧ w'.cell? ⟨b, 3, none⟩ = some (I E.cg) ∧ w'.cell? ⟨y, 0, none⟩ = some (I a) ∧ w'.cell? ⟨y, 1, none⟩ = some (I 1) ∧ w'.cell? ⟨y, 2, none⟩ = some (I mo) ∧ w'.cell? ⟨y, 3, none⟩ = some (I u) ∧ w'.cell? ⟨y, 4, none⟩ = some (I g) ∧ w'.cell? ⟨y, 5, none⟩ = some (I l) ∧ w'.cell? ⟨y, 6, none⟩ = some (I z)) (go_keep)
        (first
          | (go_at_call 257; refine (unhide HM _).mono ?_; rintro e w3 ⟨rfl, hB3⟩; have HB3 := hide hB3; clear hB3; have p2 := cell_be (W := Y.drew) d2 (unhide HB3); have p3 := cell_be (W := Y.drew) d3 (unhide HB3); have s0 := cell_be (W := Y.drew) e0 (unhide HB3); have s1 := cell_be (W := Y.drew) e1 (unhide HB3); have s2 := cell_be (W := Y.drew) e2 (unhide HB3); have s3 := cell_be (W := Y.drew) e3 (unhide HB3); have s4 := cell_be (W := Y.drew) e4 (unhide HB3); have s5 := cell_be (W := Y.drew) e5 (unhide HB3); have s6 := cell_be (W := Y.drew) e6 (unhide HB3)))
      clear d2 d3 e0 e1 e2 e3 e4 e5 e6 p2 p3 s0 s1 s2 s3 s4 s5 s6
      have HZZ := hide ((unhide HY).trans ((below_drew (Below.refl Y.heap.size Y)).trans (unhide HB3) |>.mono (unhide HY).size))
      clear HB3 HY
      cases M with
      | true =>
        go_wp2_with fail
        go_ret
        exact ⟨by rw [unhide er]; rfl, unhide HZZ⟩
      | false =>
        go_wp2_with fail
        go_ret
        exact ⟨by rw [unhide er]; rfl, unhide HZZ⟩
    · have er : R = 37 := by
        rw [unhide HR]
        unfold En.refusal
        rw [← unhide HK, if_neg hk]
      replace er := hide er
      go_wp2_with fail
      go_ret
      exact ⟨by rw [unhide er]; rfl, unhide HY⟩
  · rename_i hHeld
    clear hHeld
    obtain ⟨Y, hY, hYb, hYB0⟩ := set7 (unhide HZ) (I a) (I K) (I mo) (I u) (I g) (I l) (I z)
    rw [hY]
    have hYB := hYB0 _ _ (unhide HB2) (Nat.le_refl _)
    obtain ⟨e0, e1, e2, e3, e4, e5, e6, -⟩ := cells7 hYb
    have d2 := cell_be w2c hYB
    have d3 := cell_be w3c hYB
    have HY := hide hYB
    clear hY hYb hYB hYB0 q0 q1 v0 v7 H1 H2 w2c w3c r0 r1 r2 r3 r4 r5 r6 rf HZ HB2
    obtain ⟨y, hy⟩ : ∃ y, y = W.heap.size := ⟨_, rfl⟩
    rw [← hy] at e0 e1 e2 e3 e4 e5 e6 n1 n3 ⊢
    replace hy := hide hy
    by_cases hk : K = 1
    · have er : R = if (Kr.may E.cu E.cg mo u g 1) = true then 0 else 34 := by
        obtain ⟨x, hx, hx1⟩ := kind_wf ((unhide HK).symm.trans hk)
        obtain ⟨rfl, rfl, rfl⟩ := unhide HX x hx
        rw [unhide HR]
        unfold En.refusal En.may
        rw [← unhide HK, if_pos hk, hx]
      replace er := hide er
      have hk1 : (K == 1) = true := by simpa using hk
      obtain ⟨M, hM⟩ : ∃ M, Kr.may E.cu E.cg mo u g 1 = M := ⟨_, rfl⟩
      have HM := hide (fun w => Kr.may_any E.cu E.cg a K mo u g l z 1 w)
      rw [hM] at HM er
      clear hM
      rw [hk] at HM e1
      clear hk hk1
      go_wp2_with fail
      go_region_held3 (fun w' => w'.cell? ⟨b, 2, none⟩ = some (I E.cu) ∧ w'.cell? ⟨b, 3, none⟩ = some (I E.cg) ∧ w'.cell? ⟨y, 0, none⟩ = some (I a) ∧ w'.cell? ⟨y, 1, none⟩ = some (I 1) ∧ w'.cell? ⟨y, 2, none⟩ = some (I mo) ∧ w'.cell? ⟨y, 3, none⟩ = some (I u) ∧ w'.cell? ⟨y, 4, none⟩ = some (I g) ∧ w'.cell? ⟨y, 5, none⟩ = some (I l) ∧ w'.cell? ⟨y, 6, none⟩ = some (I z)) (go_keep)
        (first
          | (go_at_call 257; refine (unhide HM _).mono ?_; rintro e w3 ⟨rfl, hB3⟩; have HB3 := hide hB3; clear hB3; have p2 := cell_be (W := Y.drew) d2 (unhide HB3); have p3 := cell_be (W := Y.drew) d3 (unhide HB3); have s0 := cell_be (W := Y.drew) e0 (unhide HB3); have s1 := cell_be (W := Y.drew) e1 (unhide HB3); have s2 := cell_be (W := Y.drew) e2 (unhide HB3); have s3 := cell_be (W := Y.drew) e3 (unhide HB3); have s4 := cell_be (W := Y.drew) e4 (unhide HB3); have s5 := cell_be (W := Y.drew) e5 (unhide HB3); have s6 := cell_be (W := Y.drew) e6 (unhide HB3)))
      clear d2 d3 e0 e1 e2 e3 e4 e5 e6 p2 p3 s0 s1 s2 s3 s4 s5 s6
      have HZZ := hide ((unhide HY).trans ((below_drew (Below.refl Y.heap.size Y)).trans (unhide HB3) |>.mono (unhide HY).size))
      clear HB3 HY
      cases M with
      | true =>
        go_wp2_with fail
        go_ret
        exact ⟨by rw [unhide er]; rfl, unhide HZZ⟩
      | false =>
        go_wp2_with fail
        go_ret
        exact ⟨by rw [unhide er]; rfl, unhide HZZ⟩
    · have er : R = 37 := by
        rw [unhide HR]
        unfold En.refusal
        rw [← unhide HK, if_neg hk]
      replace er := hide er
      go_wp2_with fail
      go_ret
      exact ⟨by rw [unhide er]; rfl, unhide HY⟩
end
end Go.Proofs.YtlngeaacjbdmhaaGreat.Wl

namespace Go.Proofs.YtlngeaacjbdmhaaGreat.Wl
open Go.RowKit
attribute [local go_sem ↓] Go.wp_at_zero Go.wp_at_succ
section
variable {lo N mb : Nat} {W W' : World} {t m b : Nat} {E : En} {am an : Int} {s : Nat}
theorem down_W (D : Wd lo N mb W t m E) (x y : Int) {p q : Int} (hp : (E.down x y).1 = p) (hq : (E.down x y).2 = q) (V : World) (g : Below W.heap.size W V) :
    Calls Tryz.prog 38 #[P0 m, .agg #[I x, I y]] V fun e w' => e = .returned (.agg #[I p, I q]) ∧ Hid (Below V.heap.size V w') := by
  rw [← hp, ← hq]
  exact Mt.down_any mb m E.rt E.md x y E.es V (D.ls.below g) D.le D.el
theorem up_W (D : Wd lo N mb W t m E) (x y : Int) {p q : Int} {f : Bool} (hp : Mt.upM E.es x y = p) (hq : Mt.upN E.es x y = q) (hf : Mt.upIs E.es x y = f) (V : World) (g : Below W.heap.size W V) :
    Calls Tryz.prog 272 #[P0 m, .agg #[I x, I y]] V fun e w' => e = .returned (.tuple #[.agg #[I p, I q], .bool f]) ∧ Hid (Below V.heap.size V w') := by
  rw [← hp, ← hq, ← hf]
  exact Mt.up_any mb m E.rt E.md x y E.es V (D.ls.below g) D.le
theorem find_W (D : Wd lo N mb W t m E) {n : Int} (hn : (kl n).wf = true) (p : Bytes) {x : Int} {f : Bool} (hx : (E.T.findN n (bs p)).getD 0 = x) (hf : (E.T.findN n (bs p)).isSome = f) (V : World) (g : Below W.heap.size W V) :
    Calls Tryz.prog 55 #[P0 t, I n, .string (bs p)] V fun e w' => e = .returned (.tuple #[I x, .bool f]) ∧ Hid (Below V.heap.size V w') := by
  obtain ⟨q, pp, nb, ev, h1⟩ := D.tp
  rw [← hx, ← hf]
  exact tfind_any (h1.below g) D.wk (by omega) hn (bs p)
theorem text_W (D : Wd lo N mb W t m E) {n : Int} (hn : (kl n).wf = true) {l : Bytes} (hl : E.text n = l) (V : World) (g : Below W.heap.size W V) :
    Calls Tryz.prog 58 #[P0 t, I n] V fun e w' => e = .returned (.string (bs l)) ∧ Hid (Below V.heap.size V w') := by
  obtain ⟨q, pp, nb, ev, h1⟩ := D.tp
  rw [← hl]
  exact text_any (h1.below g) D.wk hn
theorem tup_W (D : Wd lo N mb W t m E) {n : Int} (hn : (kl n).wf = true) {y : Int} (hy : E.T.up n = y) (V : World) (g : Below W.heap.size W V) :
    Calls Tryz.prog 89 #[P0 t, I n] V fun e w' => e = .returned (I y) ∧ Hid (Below V.heap.size V w') := by
  obtain ⟨q, pp, nb, ev, h1⟩ := D.tp
  rw [← hy]
  refine (up_any (h1.below g) hn).mono ?_
  rintro e w' ⟨rfl, k, rfl⟩
  exact ⟨rfl, below_n _ k⟩
theorem ans2 {V w3 : World} {R : Nat} {a0 a1 : Value} {ty : TypeId} (hR : V.heap[R]? = some (.cells #[a0, a1] ty)) (hB : Below V.heap.size V w3) (v0 v1 : Value) :
    ∃ X1 X2 : World, (w3.setCell ⟨R, 0, none⟩ v0 = X1 ∧ X1.setCell ⟨R, 1, none⟩ v1 = X2) ∧ (w3.cell? ⟨R, 0, none⟩ = some a0 ∧ X1.cell? ⟨R, 1, none⟩ = some a1) ∧ (w3.frozen? ⟨R, 0, none⟩ = false ∧ X1.frozen? ⟨R, 1, none⟩ = false) ∧
      X2.heap[R]? = some (.cells #[v0, v1] ty) ∧ (∀ k, k ≠ R → k < V.heap.size → X2.heap[k]? = V.heap[k]?) ∧ (∀ B u, Below B u w3 → B ≤ R → Below B u X2) ∧ X2.heap.size = w3.heap.size := by
  obtain ⟨X1, X2, h1, h2, h3, h4, h5, h6⟩ := Mt.store2 ((hB.block R (lt_of_heap hR)).trans hR) v0 v1
  refine ⟨X1, X2, h1, h2, h3, h4, fun k hk hl => (h5.blk k (Nat.lt_of_lt_of_le hl hB.size) (by simpa using hk)).trans (hB.block k hl), fun B u hu hb => hu.trans (h5.base ?_ (by simpa using hb)), h6⟩
  have := lt_of_heap hR
  have := hB.size
  omega
theorem cell_kp {V X : World} {k i : Nat} {v : Value} (h : V.cell? ⟨k, i, none⟩ = some v) (g : X.heap[k]? = V.heap[k]?) : X.cell? ⟨k, i, none⟩ = some v := by
  rw [← h]
  exact World.cell?_of_block g
set_option maxHeartbeats 1000000 in
theorem find_any (D : Wd lo N mb W t m E) (hw : Wn W b t m E am an s) (hn : (kl an).wf = true) (p : Bytes) (x y : Int) (f : Bool) (hx : ((E.find p am an).getD (0, 0)).1 = x) (hy : ((E.find p am an).getD (0, 0)).2 = y) (hf : (E.find p am an).isSome = f) :
    Calls Tryz.prog 234 #[P0 b, .string (bs p)] W fun e w' => e = .returned (.tuple #[.agg #[I x, I y], .bool f]) ∧ Below W.heap.size W w' := by
  obtain ⟨k, hk⟩ : ∃ k, (E.T.findN an (bs p)).getD 0 = k := ⟨_, rfl⟩
  have hf' : (E.T.findN an (bs p)).isSome = f := by rw [← hf]; simp [En.find]
  obtain ⟨V, hV, g1, hB⟩ : ∃ V, W.alloc (.cells #[I 0, I 0] 50) = V ∧ V.heap[W.heap.size]? = some (.cells #[I 0, I 0] 50) ∧ Below W.heap.size W V := ⟨_, rfl, heap_alloc_new W _, (Below.refl _ W).alloc (Nat.le_refl _) _⟩
  have hbl := hw.lt
  have hVl := lt_of_heap g1
  obtain ⟨v0, -, -, -, -, -, -, v7, -, -⟩ := (hw.below hB).cells
  have H1 := hide (find_W D hn p hk hf' V.drew (below_drew hB))
  have HD := hide D
  have HB := hide hB
  have HG := hide g1
  have Hw := hide hw
  have n1 : b ≠ W.heap.size := by omega
  have n3 : W.heap.size ≠ b := by omega
  cases f with
  | false =>
    have hfn : E.find p am an = none := by simpa using hf
    rw [hfn] at hx hy
    obtain rfl : (0 : Int) = x := hx
    obtain rfl : (0 : Int) = y := hy
    clear hfn hf hf' hk D hw hn hB g1 HD
    go_enter Tryz.func234, Tryz.ntmps234
    go_wp2_with fail
    go_region_held3 (fun w' => w'.cell? ⟨b, 0, none⟩ = some (P0 t) ∧ w'.cell? ⟨b, 7, none⟩ = some (I an)) (go_keep)
      (first
        | (go_at_call 55; refine (unhide H1).mono ?_; rintro e w3 ⟨rfl, HB3⟩; have q0 := cell_be (W := V.drew) v0 (unhide HB3); have q7 := cell_be (W := V.drew) v7 (unhide HB3)))
    obtain ⟨X1, X2, ⟨x1, x2⟩, ⟨y0, y1⟩, ⟨f0, f1⟩, hX, -, hXB, -⟩ := ans2 (unhide HG) ((below_drew (Below.refl _ V)).trans (unhide HB3)) (I 0) (I 0)
    have HX := hide (hXB _ _ ((unhide HB).trans (((below_drew (Below.refl _ V)).trans (unhide HB3)).mono (Nat.le_of_lt hVl))) (Nat.le_refl _))
    have z0 : X2.cell? ⟨W.heap.size, 0, none⟩ = some (I 0) := by rw [cell_of hX]; rfl
    have z1 : X2.cell? ⟨W.heap.size, 1, none⟩ = some (I 0) := by rw [cell_of hX]; rfl
    clear hX hXB H1 v0 v7 q0 q7 HB3
    go_wp2_with fail
    refine bodyPost_ret (v := .tuple #[.agg #[I 0, I 0], .bool false]) (by simp [results, Tryz.results234, go_sem, z0, z1]) rfl ?_
    exact ⟨rfl, unhide HX⟩
  | true =>
    obtain ⟨k', hk'⟩ := Option.isSome_iff_exists.1 hf'
    have hfn : E.find p am an = some (E.down am k') := by rw [En.find, hk']; rfl
    rw [hk'] at hk
    obtain rfl : k' = k := hk
    rw [hfn] at hx hy
    have hx' : (E.down am k').1 = x := hx
    have hy' : (E.down am k').2 = y := hy
    clear hfn hf hf' hk' D hw hn hB g1 hx hy
    go_enter Tryz.func234, Tryz.ntmps234
    go_wp2_with fail
    go_region_held3 (fun w' => w'.cell? ⟨b, 0, none⟩ = some (P0 t) ∧ w'.cell? ⟨b, 7, none⟩ = some (I an)) (go_keep)
      (first
        | (go_at_call 55; refine (unhide H1).mono ?_; rintro e w3 ⟨rfl, HB3⟩; have q0 := cell_be (W := V.drew) v0 (unhide HB3); have q7 := cell_be (W := V.drew) v7 (unhide HB3)))
    have hBV : Below V.heap.size V w3.drew := below_drew ((below_drew (Below.refl _ V)).trans (unhide HB3))
    have hBW : Below W.heap.size W w3.drew := (unhide HB).trans (hBV.mono (Nat.le_of_lt hVl))
    obtain ⟨-, p1, -, -, -, -, p6, -, -, -⟩ := ((unhide Hw).below hBW).cells
    have p1' : w3.cell? ⟨b, 1, none⟩ = some (P0 m) := p1
    have p6' : w3.cell? ⟨b, 6, none⟩ = some (I am) := p6
    have H3 := hide (down_W (unhide HD) am k' hx' hy' w3.drew hBW)
    have HG3 : Hid (w3.drew.heap[W.heap.size]? = some (.cells #[I 0, I 0] 50)) := (hBV.block _ hVl).trans (unhide HG)
    have HBW := hide hBW
    have hls : b < w3.drew.heap.size := Nat.lt_of_lt_of_le hbl hBW.size
    rename_i hHeld
    clear H1 v0 v7 q0 q7 HB3 hBV hBW HG hHeld hx' hy' p1 p6
    go_wp2_with fail
    go_region_held3 (fun w' => w'.cell? ⟨b, 1, none⟩ = some (P0 m) ∧ w'.cell? ⟨b, 6, none⟩ = some (I am)) (go_keep)
      (first
        | (go_at_call 38; refine (unhide H3).mono ?_; rintro e w4 ⟨rfl, HB4⟩; have q1 := cell_be (W := w3.drew) p1' (unhide HB4); have q6 := cell_be (W := w3.drew) p6' (unhide HB4); obtain ⟨X1, X2, ⟨x1, x2⟩, ⟨y0, y1⟩, ⟨f0, f1⟩, hX, hXk, hXB, hXs⟩ := ans2 (unhide HG3) (unhide HB4) (I x) (I y); have s1 : X2.cell? ⟨b, 1, none⟩ = some (P0 m) := cell_kp (V := w3.drew) p1' (hXk b n1 hls); have s6 : X2.cell? ⟨b, 6, none⟩ = some (I am) := cell_kp (V := w3.drew) p6' (hXk b n1 hls); have HXf := hide hX; have HXB := hide hXB; clear hX hXk hXB hXs))
    have hX := unhide HXf
    have HX := hide (unhide HXB _ _ ((unhide HBW).trans ((unhide HB4).mono (unhide HBW).size)) (Nat.le_refl _))
    have z0 : X2.cell? ⟨W.heap.size, 0, none⟩ = some (I x) := by rw [cell_of hX]; rfl
    have z1 : X2.cell? ⟨W.heap.size, 1, none⟩ = some (I y) := by rw [cell_of hX]; rfl
    clear hX HXf HXB H3
    go_wp2_with fail
    refine bodyPost_ret (v := .tuple #[.agg #[I x, I y], .bool true]) (by simp [results, Tryz.results234, go_sem, z0, z1]) rfl ?_
    exact ⟨rfl, unhide HX⟩
end
end Go.Proofs.YtlngeaacjbdmhaaGreat.Wl

namespace Go.Proofs.YtlngeaacjbdmhaaGreat.Wl
open Go.RowKit
attribute [local go_sem ↓] Go.wp_at_zero Go.wp_at_succ
section
variable {lo N mb : Nat} {W W' : World} {t m b : Nat} {E : En} {am an : Int} {s : Nat}
def zfd : Obj := .cells #[I 0, I 0, .string ⟨#[]⟩, I 0, I 0, .bool false, .bool false] 59
theorem two_new (W : World) (o1 o2 : Obj) : ∃ V, (W.alloc o1).alloc o2 = V ∧ V.heap[W.heap.size]? = some o1 ∧ V.heap[W.heap.size + 1]? = some o2 ∧ Below W.heap.size W V ∧ V.heap.size = W.heap.size + 2 := by
  refine ⟨_, rfl, ?_, ?_, ((Below.refl _ W).alloc (Nat.le_refl _) _).alloc (by simp) _, by simp⟩
  · rw [Below.heap_alloc _ _ _ (by simp)]; exact heap_alloc_new W o1
  · have := heap_alloc_new (W.alloc o1) o2
    simpa using this
theorem set7d {X : World} {b : Nat} {t : TypeId} {a0 a1 a2 a3 a4 a5 a6 : Value} (h : X.heap[b]? = some (.cells #[a0, a1, a2, a3, a4, a5, a6] t)) (v0 v1 v2 v3 v4 v5 v6 : Value) :
    ∃ Y, (((((((X.setCell ⟨b, 0, none⟩ v0).setCell ⟨b, 1, none⟩ v1).setCell ⟨b, 2, none⟩ v2).setCell ⟨b, 3, none⟩ v3).setCell ⟨b, 4, none⟩ v4).setCell ⟨b, 5, none⟩ v5).setCell ⟨b, 6, none⟩ v6).drew = Y ∧ Y.heap[b]? = some (.cells #[v0, v1, v2, v3, v4, v5, v6] t) ∧ ∀ B u, Below B u X → B ≤ b → Below B u Y := by
  obtain ⟨Y, hY, h1, h2⟩ := set7 h v0 v1 v2 v3 v4 v5 v6
  exact ⟨Y.drew, by rw [hY], h1, fun B u hu hb => below_drew (h2 B u hu hb)⟩
set_option maxHeartbeats 1000000 in
theorem missing_any (hw : Wn W b t m E am an s) (p : Bytes) (rest : List Bytes) (r sl : Bool) (a : Option Addr) (cap : Nat) (hr : rest.length ≤ 100000) :
    Calls Tryz.prog 235 #[P0 b, .string (bs p), .agg #[.bool r, .bool sl, .slice a rest.length cap]] W fun e w' => e = .returned (.tuple #[(missF p rest sl am an).v, I (missE rest)]) ∧ Below W.heap.size W w' := by
  obtain ⟨V, hV, g1, g2, hB, hs⟩ := two_new W (.cells #[.bool r, .bool sl, .slice a rest.length cap] 234) zfd
  unfold zfd at hV g2
  have hbl := hw.lt
  obtain ⟨-, -, -, -, -, -, v6, v7, -, -⟩ := (hw.below hB).cells
  have p1 : V.cell? ⟨W.heap.size, 1, none⟩ = some (.bool sl) := by rw [cell_of g1]; rfl
  have p2 : V.cell? ⟨W.heap.size, 2, none⟩ = some (.slice a rest.length cap) := by rw [cell_of g1]; rfl
  obtain ⟨r0, r1, r2, r3, r4, r5, r6, rf⟩ := cells7 g2
  have n1 : b ≠ W.heap.size + 1 := by omega
  have n2 : W.heap.size ≠ W.heap.size + 1 := by omega
  have n3 : W.heap.size + 1 ≠ b := by omega
  cases rest with
  | nil =>
    obtain ⟨Y, hY, hYb, hYB⟩ := set7d g2 (I am) (I an) (.string (bs p)) (I 0) (I 0) (.bool false) (.bool sl)
    obtain ⟨z0, z1, z2, z3, z4, z5, z6, -⟩ := cells7 hYb
    have HY := hide (hYB _ _ hB (by omega))
    have HYe := hide hY
    clear hYb hYB hY hw hB g1 g2 hs
    show Calls _ _ _ _ fun e w' => e = .returned (.tuple #[.agg #[I am, I an, .string (bs p), I 0, I 0, .bool false, .bool sl], I 0]) ∧ _
    simp only [List.length_nil] at p2 hV ⊢
    go_enter Tryz.func235, Tryz.ntmps235
    go_wp2_with fail
    go_region_held3 (fun w' => w'.cell? ⟨b, 6, none⟩ = some (I am) ∧ w'.cell? ⟨b, 7, none⟩ = some (I an) ∧ w'.cell? ⟨W.heap.size, 1, none⟩ = some (.bool sl)) (go_keep) (fail)
    rw [unhide HYe]
    go_wp2_with fail
    refine bodyPost_ret (v := .tuple #[.agg #[I am, I an, .string (bs p), I 0, I 0, .bool false, .bool sl], I 0]) (by simp [results, Tryz.results235, go_sem, z0, z1, z2, z3, z4, z5, z6]) rfl ?_
    exact ⟨rfl, unhide HY⟩
  | cons q rest =>
    obtain ⟨Y, hY, hYb, hYB⟩ := set7 g2 (I 0) (I 0) (.string ⟨#[]⟩) (I 0) (I 0) (.bool false) (.bool false)
    obtain ⟨z0, z1, z2, z3, z4, z5, z6, -⟩ := cells7 hYb
    have HY := hide (hYB _ _ hB (by omega))
    have HYe := hide hY
    have hl : (0 : Int) < ((q :: rest).length : Int) := by simp
    clear hYb hYB hY hw hB g1 g2 hs
    show Calls _ _ _ _ fun e w' => e = .returned (.tuple #[.agg #[I 0, I 0, .string (bs []), I 0, I 0, .bool false, .bool false], I 32]) ∧ _
    generalize (q :: rest).length = n at *
    go_enter Tryz.func235, Tryz.ntmps235
    go_wp2_with fail
    rw [unhide HYe]
    refine bodyPost_ret (v := .tuple #[.agg #[I 0, I 0, .string (bs []), I 0, I 0, .bool false, .bool false], I 32]) (by simp [results, Tryz.results235, go_sem, z0, z1, z2, z3, z4, z5, z6]) rfl ?_
    exact ⟨rfl, unhide HY⟩
set_option maxHeartbeats 1000000 in
theorem end_any (D : Wd lo N mb W t m E) (hw : Wn W b t m E am an s) (hn : (kl an).wf = true) (dm dn : Int) (last : Bytes) (sl : Bool) :
    Calls Tryz.prog 238 #[P0 b, .agg #[I dm, I dn], .string (bs last), .bool sl] W fun e w' => e = .returned (.tuple #[(E.endF dm dn last am an sl).v, I (E.endE an sl)]) ∧ Below W.heap.size W w' := by
  obtain ⟨V, hV, g1, g2, hB, hs⟩ := two_new W (.cells #[I dm, I dn] 50) zfd
  unfold zfd at hV g2
  have hbl := hw.lt
  have hwV := hw.below hB
  obtain ⟨-, -, -, -, -, -, v6, v7, -, -⟩ := hwV.cells
  have p0 : V.cell? ⟨W.heap.size, 0, none⟩ = some (I dm) := by rw [cell_of g1]; rfl
  have p1 : V.cell? ⟨W.heap.size, 1, none⟩ = some (I dn) := by rw [cell_of g1]; rfl
  have pf := frozen_of g1
  obtain ⟨r0, r1, r2, r3, r4, r5, r6, rf⟩ := cells7 g2
  have n1 : b ≠ W.heap.size + 1 := by omega
  have n2 : W.heap.size ≠ W.heap.size + 1 := by omega
  have n3 : W.heap.size + 1 ≠ b := by omega
  have n4 : W.heap.size + 1 ≠ W.heap.size := by omega
  have n5 : b ≠ W.heap.size := by omega
  have n6 : W.heap.size ≠ b := by omega
  obtain ⟨K, hK⟩ : ∃ K, K = E.T.kindOf an := ⟨_, rfl⟩
  have HKd := hide (kind_any (D.below hB) hwV am an hn)
  rw [← hK] at HKd
  obtain ⟨bad, hbad⟩ : ∃ bad, bad = decide (sl = true ∧ E.T.kindOf an ≠ 1) := ⟨_, rfl⟩
  -- what is answered
  cases bad with
  | true =>
    have hb := of_decide_eq_true hbad.symm
    obtain ⟨rfl, hk1⟩ := hb
    have e1 : (E.endF dm dn last am an true) = Fd.none := by rw [En.endF, if_pos ⟨rfl, hk1⟩]
    have e2 : E.endE an true = 37 := by rw [En.endE, if_pos ⟨rfl, hk1⟩]
    rw [e1, e2]
    rw [← hK] at hk1
    have HH := hide (⟨g2, hB⟩ : _ ∧ _)
    clear e1 e2 hbad D hw hwV g1 g2 hB hK
    show Calls _ _ _ _ fun e w' => e = .returned (.tuple #[.agg #[I 0, I 0, .string (bs []), I 0, I 0, .bool false, .bool false], I 37]) ∧ _
    go_enter Tryz.func238, Tryz.ntmps238
    go_wp2_with fail
    refine (unhide HKd).mono ?_
    rintro e w3 ⟨rfl, hB3⟩
    obtain ⟨g2, hB⟩ := unhide HH
    have g3 := (hB3.block _ (by omega)).trans g2
    obtain ⟨Y, hY, hYb, hYB⟩ := set7 g3 (I 0) (I 0) (.string ⟨#[]⟩) (I 0) (I 0) (.bool false) (.bool false)
    obtain ⟨z0, z1, z2, z3, z4, z5, z6, -⟩ := cells7 hYb
    obtain ⟨s0, s1, s2, s3, s4, s5, s6, sf⟩ := cells7 g3
    have HY := hide (hYB _ _ (hB.trans (hB3.mono (by omega))) (by omega))
    have HYe := hide hY
    clear hYb hYB hY hB hB3 g2 g3 HKd r0 r1 r2 r3 r4 r5 r6 rf p0 p1 pf v6 v7
    go_wp2_with fail
    rw [unhide HYe]
    refine bodyPost_ret (v := .tuple #[.agg #[I 0, I 0, .string (bs []), I 0, I 0, .bool false, .bool false], I 37]) (by simp [results, Tryz.results238, go_sem, z0, z1, z2, z3, z4, z5, z6]) rfl ?_
    exact ⟨rfl, unhide HY⟩
  | false =>
    have hb := of_decide_eq_false hbad.symm
    have e2 : E.endE an sl = 0 := by rw [En.endE, if_neg hb]
    have e1 : E.endF dm dn last am an sl = if last = [] then ⟨am, an, last, am, an, true, sl⟩ else ⟨dm, dn, last, am, an, true, sl⟩ := by rw [En.endF, if_neg hb]
    rw [e2]
    have hk1 : sl = true → K = 1 := fun h => by
      rw [hK]
      exact Decidable.not_not.1 fun h2 => hb ⟨h, h2⟩
    clear e2 hbad hb
    cases sl with
    | true =>
      cases last with
      | nil =>
        have ef : E.endF dm dn [] am an true = ⟨am, an, [], am, an, true, true⟩ := by rw [e1]; simp
        rw [ef]
        clear e1 ef
        have hk2 : K = 1 := hk1 rfl
        clear hk1
        have HH := hide (⟨g1, g2, hB, hwV⟩ : _ ∧ _ ∧ _ ∧ _)
        clear D hw hwV g1 g2 hB hK
        show Calls _ _ _ _ fun e w' => e = .returned (.tuple #[.agg #[I am, I an, .string (bs []), I am, I an, .bool true, .bool true], I 0]) ∧ _
        rw [hk2] at HKd
        clear hk2
        go_enter Tryz.func238, Tryz.ntmps238
        go_wp2_with fail
        refine (unhide HKd).mono ?_
        rintro e w3 ⟨rfl, hB3⟩
        obtain ⟨g1, g2, hB, hwV⟩ := unhide HH
        have hw3n := hwV.below hB3
        obtain ⟨-, -, -, -, -, -, u6, u7, -, -⟩ := hw3n.cells
        have k1 := (hB3.block _ (by omega)).trans g1
        have k2 := (hB3.block _ (by omega)).trans g2
        have hBW := hB.trans (hB3.mono (by omega))
        obtain ⟨X1, X2, ⟨x1, x2⟩, ⟨y0, y1⟩, ⟨f0, f1⟩, hXb, hfr, hXs⟩ := Mt.store2 k1 (I am) (I an)
        have j0 : X2.cell? ⟨W.heap.size, 0, none⟩ = some (I am) := by rw [cell_of hXb]; rfl
        have j1 : X2.cell? ⟨W.heap.size, 1, none⟩ = some (I an) := by rw [cell_of hXb]; rfl
        have hs3 : W.heap.size + 2 ≤ w3.heap.size := by have := hB3.size; omega
        have t6 : X2.cell? ⟨b, 6, none⟩ = some (I am) := cell_kp u6 (hfr.blk b (by omega) (by simp; omega))
        have t7 : X2.cell? ⟨b, 7, none⟩ = some (I an) := cell_kp u7 (hfr.blk b (by omega) (by simp; omega))
        have k3 := (hfr.blk (W.heap.size + 1) (by omega) (by simp)).trans k2
        have hBX : Below W.heap.size W X2 := hBW.trans (hfr.base (by omega) (by simp))
        obtain ⟨Y, hY, hYb, hYB⟩ := set7d k3 (I am) (I an) (.string (bs [])) (I am) (I an) (.bool true) (.bool true)
        obtain ⟨z0, z1, z2, z3, z4, z5, z6, -⟩ := cells7 hYb
        obtain ⟨s0, s1, s2, s3, s4, s5, s6, sf⟩ := cells7 k3
        have HY := hide (hYB _ _ hBX (by omega))
        have HYe := hide hY
        clear hfr hXs hXb
        clear hYb hYB hY hB hB3 g1 g2 k1 k2 k3 hw3n hwV hBW hBX HH HKd hs
        clear r0 r1 r2 r3 r4 r5 r6 rf p0 p1 pf v6 v7
        go_wp2_with fail
        go_region_held3 (fun w' => w'.cell? ⟨b, 6, none⟩ = some (I am) ∧ w'.cell? ⟨b, 7, none⟩ = some (I an) ∧ w'.cell? ⟨W.heap.size, 0, none⟩ = some (I am) ∧ w'.cell? ⟨W.heap.size, 1, none⟩ = some (I an)) (go_keep) (fail)
        rw [unhide HYe]
        go_wp2_with fail
        refine bodyPost_ret (v := .tuple #[.agg #[I am, I an, .string (bs []), I am, I an, .bool true, .bool true], I 0]) (by simp [results, Tryz.results238, go_sem, z0, z1, z2, z3, z4, z5, z6]) rfl ?_
        exact ⟨rfl, unhide HY⟩
      | cons c l =>
        have ef : E.endF dm dn (c :: l) am an true = ⟨dm, dn, (c :: l), am, an, true, true⟩ := by rw [e1]; simp
        rw [ef]
        clear e1 ef
        have hk2 : K = 1 := hk1 rfl
        clear hk1
        have HH := hide (⟨g1, g2, hB, hwV⟩ : _ ∧ _ ∧ _ ∧ _)
        clear D hw hwV g1 g2 hB hK
        show Calls _ _ _ _ fun e w' => e = .returned (.tuple #[.agg #[I dm, I dn, .string (bs (c :: l)), I am, I an, .bool true, .bool true], I 0]) ∧ _
        rw [hk2] at HKd
        clear hk2
        go_enter Tryz.func238, Tryz.ntmps238
        go_wp2_with fail
        refine (unhide HKd).mono ?_
        rintro e w3 ⟨rfl, hB3⟩
        obtain ⟨g1, g2, hB, hwV⟩ := unhide HH
        have hw3n := hwV.below hB3
        obtain ⟨-, -, -, -, -, -, u6, u7, -, -⟩ := hw3n.cells
        have k1 := (hB3.block _ (by omega)).trans g1
        have k2 := (hB3.block _ (by omega)).trans g2
        have hBW := hB.trans (hB3.mono (by omega))
        obtain ⟨X2, hX2⟩ : ∃ X2, w3 = X2 := ⟨_, rfl⟩
        have j0 : X2.cell? ⟨W.heap.size, 0, none⟩ = some (I dm) := by rw [← hX2, cell_of k1]; rfl
        have j1 : X2.cell? ⟨W.heap.size, 1, none⟩ = some (I dn) := by rw [← hX2, cell_of k1]; rfl
        have t6 : X2.cell? ⟨b, 6, none⟩ = some (I am) := by rw [← hX2]; exact u6
        have t7 : X2.cell? ⟨b, 7, none⟩ = some (I an) := by rw [← hX2]; exact u7
        have k3 := k2
        rw [hX2] at k3
        have hBX : Below W.heap.size W X2 := by rw [← hX2]; exact hBW
        obtain ⟨Y, hY, hYb, hYB⟩ := set7d k3 (I dm) (I dn) (.string (bs (c :: l))) (I am) (I an) (.bool true) (.bool true)
        obtain ⟨z0, z1, z2, z3, z4, z5, z6, -⟩ := cells7 hYb
        obtain ⟨s0, s1, s2, s3, s4, s5, s6, sf⟩ := cells7 k3
        have HY := hide (hYB _ _ hBX (by omega))
        have HYe := hide hY
        clear hYb hYB hY hB hB3 g1 g2 k1 k2 k3 hw3n hwV hBW hBX HH HKd hs
        clear r0 r1 r2 r3 r4 r5 r6 rf p0 p1 pf v6 v7
        subst hX2
        go_wp2_with fail
        go_region_held3 (fun w' => w'.cell? ⟨b, 6, none⟩ = some (I am) ∧ w'.cell? ⟨b, 7, none⟩ = some (I an) ∧ w'.cell? ⟨W.heap.size, 0, none⟩ = some (I dm) ∧ w'.cell? ⟨W.heap.size, 1, none⟩ = some (I dn)) (go_keep) (fail)
        rw [unhide HYe]
        go_wp2_with fail
        refine bodyPost_ret (v := .tuple #[.agg #[I dm, I dn, .string (bs (c :: l)), I am, I an, .bool true, .bool true], I 0]) (by simp [results, Tryz.results238, go_sem, z0, z1, z2, z3, z4, z5, z6]) rfl ?_
        exact ⟨rfl, unhide HY⟩
    | false =>
      cases last with
      | nil =>
        have ef : E.endF dm dn [] am an false = ⟨am, an, [], am, an, true, false⟩ := by rw [e1]; simp
        rw [ef]
        clear e1 ef
        clear hk1
        have HH := hide (⟨g1, g2, hB, hwV⟩ : _ ∧ _ ∧ _ ∧ _)
        clear D hw hwV g1 g2 hB hK
        show Calls _ _ _ _ fun e w' => e = .returned (.tuple #[.agg #[I am, I an, .string (bs []), I am, I an, .bool true, .bool false], I 0]) ∧ _
        obtain ⟨w3, hw3⟩ : ∃ w3, V = w3 := ⟨_, rfl⟩
        have hB3 : Below V.heap.size V w3 := by rw [hw3]; exact Below.refl _ _
        obtain ⟨g1, g2, hB, hwV⟩ := unhide HH
        have hw3n := hwV.below hB3
        obtain ⟨-, -, -, -, -, -, u6, u7, -, -⟩ := hw3n.cells
        have k1 := (hB3.block _ (by omega)).trans g1
        have k2 := (hB3.block _ (by omega)).trans g2
        have hBW := hB.trans (hB3.mono (by omega))
        obtain ⟨X1, X2, ⟨x1, x2⟩, ⟨y0, y1⟩, ⟨f0, f1⟩, hXb, hfr, hXs⟩ := Mt.store2 k1 (I am) (I an)
        have j0 : X2.cell? ⟨W.heap.size, 0, none⟩ = some (I am) := by rw [cell_of hXb]; rfl
        have j1 : X2.cell? ⟨W.heap.size, 1, none⟩ = some (I an) := by rw [cell_of hXb]; rfl
        have hs3 : W.heap.size + 2 ≤ w3.heap.size := by have := hB3.size; omega
        have t6 : X2.cell? ⟨b, 6, none⟩ = some (I am) := cell_kp u6 (hfr.blk b (by omega) (by simp; omega))
        have t7 : X2.cell? ⟨b, 7, none⟩ = some (I an) := cell_kp u7 (hfr.blk b (by omega) (by simp; omega))
        have k3 := (hfr.blk (W.heap.size + 1) (by omega) (by simp)).trans k2
        have hBX : Below W.heap.size W X2 := hBW.trans (hfr.base (by omega) (by simp))
        obtain ⟨Y, hY, hYb, hYB⟩ := set7d k3 (I am) (I an) (.string (bs [])) (I am) (I an) (.bool true) (.bool false)
        obtain ⟨z0, z1, z2, z3, z4, z5, z6, -⟩ := cells7 hYb
        obtain ⟨s0, s1, s2, s3, s4, s5, s6, sf⟩ := cells7 k3
        have HY := hide (hYB _ _ hBX (by omega))
        have HYe := hide hY
        clear hfr hXs hXb
        clear hYb hYB hY hB hB3 g1 g2 k1 k2 k3 hw3n hwV hBW hBX HH HKd hs
        clear r0 r1 r2 r3 r4 r5 r6 rf p0 p1 pf v6 v7
        subst hw3
        go_enter Tryz.func238, Tryz.ntmps238
        go_wp2_with fail
        go_region_held3 (fun w' => w'.cell? ⟨b, 6, none⟩ = some (I am) ∧ w'.cell? ⟨b, 7, none⟩ = some (I an) ∧ w'.cell? ⟨W.heap.size, 0, none⟩ = some (I am) ∧ w'.cell? ⟨W.heap.size, 1, none⟩ = some (I an)) (go_keep) (fail)
        rw [unhide HYe]
        go_wp2_with fail
        refine bodyPost_ret (v := .tuple #[.agg #[I am, I an, .string (bs []), I am, I an, .bool true, .bool false], I 0]) (by simp [results, Tryz.results238, go_sem, z0, z1, z2, z3, z4, z5, z6]) rfl ?_
        exact ⟨rfl, unhide HY⟩
      | cons c l =>
        have ef : E.endF dm dn (c :: l) am an false = ⟨dm, dn, (c :: l), am, an, true, false⟩ := by rw [e1]; simp
        rw [ef]
        clear e1 ef
        clear hk1
        have HH := hide (⟨g1, g2, hB, hwV⟩ : _ ∧ _ ∧ _ ∧ _)
        clear D hw hwV g1 g2 hB hK
        show Calls _ _ _ _ fun e w' => e = .returned (.tuple #[.agg #[I dm, I dn, .string (bs (c :: l)), I am, I an, .bool true, .bool false], I 0]) ∧ _
        obtain ⟨w3, hw3⟩ : ∃ w3, V = w3 := ⟨_, rfl⟩
        have hB3 : Below V.heap.size V w3 := by rw [hw3]; exact Below.refl _ _
        obtain ⟨g1, g2, hB, hwV⟩ := unhide HH
        have hw3n := hwV.below hB3
        obtain ⟨-, -, -, -, -, -, u6, u7, -, -⟩ := hw3n.cells
        have k1 := (hB3.block _ (by omega)).trans g1
        have k2 := (hB3.block _ (by omega)).trans g2
        have hBW := hB.trans (hB3.mono (by omega))
        obtain ⟨X2, hX2⟩ : ∃ X2, w3 = X2 := ⟨_, rfl⟩
        have j0 : X2.cell? ⟨W.heap.size, 0, none⟩ = some (I dm) := by rw [← hX2, cell_of k1]; rfl
        have j1 : X2.cell? ⟨W.heap.size, 1, none⟩ = some (I dn) := by rw [← hX2, cell_of k1]; rfl
        have t6 : X2.cell? ⟨b, 6, none⟩ = some (I am) := by rw [← hX2]; exact u6
        have t7 : X2.cell? ⟨b, 7, none⟩ = some (I an) := by rw [← hX2]; exact u7
        have k3 := k2
        rw [hX2] at k3
        have hBX : Below W.heap.size W X2 := by rw [← hX2]; exact hBW
        obtain ⟨Y, hY, hYb, hYB⟩ := set7d k3 (I dm) (I dn) (.string (bs (c :: l))) (I am) (I an) (.bool true) (.bool false)
        obtain ⟨z0, z1, z2, z3, z4, z5, z6, -⟩ := cells7 hYb
        obtain ⟨s0, s1, s2, s3, s4, s5, s6, sf⟩ := cells7 k3
        have HY := hide (hYB _ _ hBX (by omega))
        have HYe := hide hY
        clear hYb hYB hY hB hB3 g1 g2 k1 k2 k3 hw3n hwV hBW hBX HH HKd hs
        clear r0 r1 r2 r3 r4 r5 r6 rf p0 p1 pf v6 v7
        subst hw3
        subst hX2
        go_enter Tryz.func238, Tryz.ntmps238
        go_wp2_with fail
        go_region_held3 (fun w' => w'.cell? ⟨b, 6, none⟩ = some (I am) ∧ w'.cell? ⟨b, 7, none⟩ = some (I an) ∧ w'.cell? ⟨W.heap.size, 0, none⟩ = some (I dm) ∧ w'.cell? ⟨W.heap.size, 1, none⟩ = some (I dn)) (go_keep) (fail)
        rw [unhide HYe]
        go_wp2_with fail
        refine bodyPost_ret (v := .tuple #[.agg #[I dm, I dn, .string (bs (c :: l)), I am, I an, .bool true, .bool false], I 0]) (by simp [results, Tryz.results238, go_sem, z0, z1, z2, z3, z4, z5, z6]) rfl ?_
        exact ⟨rfl, unhide HY⟩
end
end Go.Proofs.YtlngeaacjbdmhaaGreat.Wl
