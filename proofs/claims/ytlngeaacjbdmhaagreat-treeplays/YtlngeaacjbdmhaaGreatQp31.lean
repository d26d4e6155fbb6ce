/-
  The contract of a walker's dots.
-/
import Derived.Test.YtlngeaacjbdmhaaGreatQp30
import Derived.Deep.CutBlock
import Derived.Test.YtlngeaacjbdmhaaGreatQp10
namespace Go.Proofs.YtlngeaacjbdmhaaGreat.Wl
open Go.RowKit
attribute [local go_sem ↓] Go.wp_at_zero Go.wp_at_succ
section
variable {lo N mb : Nat} {W W' : World} {t m b : Nat} {E : En} {am an : Int} {s : Nat}
def intAt (W : World) (b : Nat) : Int := match W.cell? ⟨b, 0, none⟩ with | some (.int _ n) => n | _ => 0
structure DJ (E : En) (W wr : World) (am an : Int) (P u : Nat) (x y : Int) : Prop where
  cp : wr.heap[P]? = some (.cells #[I x, I y] 50)
  cu : wr.heap[u]? = some (.cells #[I (Mt.upM E.es x y), I (Mt.upN E.es x y)] 50)
  be : Below W.heap.size W wr
  eq : up E.es x y = up E.es am an
  wf : (kl y).wf = true
  hP : W.heap.size < P
  hu : W.heap.size < u
  ne : P ≠ u
  r : wr.heap[W.heap.size]? = some (.cells #[I 0, I 0] 50)
theorem upN_wf (h : ∀ p ∈ E.es, (kl p.top).wf = true ∧ (kl p.an).wf = true) {x y : Int} (hy : (kl y).wf = true) : (kl (Mt.upN E.es x y)).wf = true := by
  unfold Mt.upN
  split
  · rename_i hu
    unfold Mt.upIs at hu
    simp at hu
    exact (h _ (Mt.fst_mem hu.1).1).2
  · exact hy
set_option maxRecDepth 100000 in
set_option maxHeartbeats 1000000 in
theorem dots_here (hw : Wn W b t m E am an s) :
    Calls Tryz.prog 233 #[P0 b, .string ⟨#[46]⟩] W fun e w' => e = .returned (.agg #[I am, I an]) ∧ Below W.heap.size W w' := by
  obtain ⟨V, hV, g1, hB⟩ : ∃ V, W.alloc (.cells #[I 0, I 0] 50) = V ∧ V.heap[W.heap.size]? = some (.cells #[I 0, I 0] 50) ∧ Below W.heap.size W V := ⟨_, rfl, heap_alloc_new W _, (Below.refl _ W).alloc (Nat.le_refl _) _⟩
  obtain ⟨-, -, -, -, -, -, v6, v7, -, -⟩ := (hw.below hB).cells
  have HH := hide (⟨g1, hB⟩ : _ ∧ _)
  have hbl := hw.lt
  have n1 : b ≠ W.heap.size := by omega
  have n2 : W.heap.size ≠ b := by omega
  clear g1 hB hw
  go_enter Tryz.func233, Tryz.ntmps233
  go_wp2_with fail
  go_quiet (fail)
  obtain ⟨g1, hB⟩ := unhide HH
  obtain ⟨X1, X2, ⟨x1, x2⟩, ⟨y0, y1⟩, ⟨f0, f1⟩, hX, -, hXB, -⟩ := ans2 (V := V) (w3 := V.drewN nq) g1 (below_n V nq) (I am) (I an)
  have z0 : X2.cell? ⟨W.heap.size, 0, none⟩ = some (I am) := by rw [cell_of hX]; rfl
  have z1 : X2.cell? ⟨W.heap.size, 1, none⟩ = some (I an) := by rw [cell_of hX]; rfl
  have HX := hide (hXB _ _ (below_dn hB nq) (Nat.le_refl _))
  clear hX hXB g1 hB HH
  go_wp2_with fail
  refine bodyPost_ret (v := .agg #[I am, I an]) (by simp [results, Tryz.results233, go_sem, z0, z1]) rfl ?_
  exact ⟨rfl, unhide HX⟩
set_option maxRecDepth 100000 in
set_option maxHeartbeats 1000000 in
theorem dots_root (hw : Wn W b t m E am an s) (hr : am = E.rm ∧ an = E.rn) :
    Calls Tryz.prog 233 #[P0 b, .string ⟨#[46, 46]⟩] W fun e w' => e = .returned (.agg #[I am, I an]) ∧ Below W.heap.size W w' := by
  obtain ⟨V, hV, g1, hB⟩ : ∃ V, W.alloc (.cells #[I 0, I 0] 50) = V ∧ V.heap[W.heap.size]? = some (.cells #[I 0, I 0] 50) ∧ Below W.heap.size W V := ⟨_, rfl, heap_alloc_new W _, (Below.refl _ W).alloc (Nat.le_refl _) _⟩
  obtain ⟨-, -, -, -, v4, v5, v6, v7, -, -⟩ := (hw.below hB).cells
  rw [← hr.1] at v4
  rw [← hr.2] at v5
  have HH := hide (⟨g1, hB⟩ : _ ∧ _)
  have hbl := hw.lt
  have n1 : b ≠ W.heap.size := by omega
  have n2 : W.heap.size ≠ b := by omega
  clear g1 hB hw hr
  go_enter Tryz.func233, Tryz.ntmps233
  go_wp2_with fail
  go_quiet (fail)
  obtain ⟨g1, hB⟩ := unhide HH
  obtain ⟨X1, X2, ⟨x1, x2⟩, ⟨y0, y1⟩, ⟨f0, f1⟩, hX, -, hXB, -⟩ := ans2 (V := V) (w3 := V.drewN nq) g1 (below_n V nq) (I am) (I an)
  have z0 : X2.cell? ⟨W.heap.size, 0, none⟩ = some (I am) := by rw [cell_of hX]; rfl
  have z1 : X2.cell? ⟨W.heap.size, 1, none⟩ = some (I an) := by rw [cell_of hX]; rfl
  have HX := hide (hXB _ _ (below_dn hB nq) (Nat.le_refl _))
  clear hX hXB g1 hB HH
  go_wp2_with fail
  refine bodyPost_ret (v := .agg #[I am, I an]) (by simp [results, Tryz.results233, go_sem, z0, z1]) rfl ?_
  exact ⟨rfl, unhide HX⟩
theorem DJ.start (hn : (kl an).wf = true) {V w3 : World} (g1 : V.heap[W.heap.size]? = some (.cells #[I 0, I 0] 50)) (g2 : V.heap[W.heap.size + 1]? = some (.cells #[I am, I an] 50)) (hB : Below W.heap.size W V) (hs : V.heap.size = W.heap.size + 2) (h3 : Below V.heap.size V w3) {u : Nat} (hu : V.heap.size ≤ u) (gu : w3.heap[u]? = some (.cells #[I (Mt.upM E.es am an), I (Mt.upN E.es am an)] 50)) :
    DJ E W w3 am an (W.heap.size + 1) u am an :=
  ⟨(h3.block _ (by omega)).trans g2, gu, hB.trans (h3.mono (by omega)), rfl, hn, by omega, by omega, by omega, (h3.block _ (by omega)).trans g1⟩
theorem two_ahead (V : World) : ∃ X, X = (V.alloc (.cells #[I 0, I 0] 50)).drew ∧ Below V.heap.size V X ∧ X.heap[V.heap.size]? = some (.cells #[I 0, I 0] 50) ∧ V.heap.size < X.heap.size :=
  ⟨_, rfl, below_drew ((Below.refl _ V).alloc (Nat.le_refl _) _), heap_alloc_new V _, by show V.heap.size < (V.alloc _).heap.size; simp⟩
set_option maxRecDepth 100000 in
set_option maxHeartbeats 1000000 in
theorem dots_up (D : Wd lo N mb W t m E) (hw : Wn W b t m E am an s) (hn : (kl an).wf = true) (hr : ¬ (am = E.rm ∧ an = E.rn)) (p q : Int) (hp : (E.down (up E.es am an).1 (E.T.up (up E.es am an).2)).1 = p) (hq : (E.down (up E.es am an).1 (E.T.up (up E.es am an).2)).2 = q) :
    Calls Tryz.prog 233 #[P0 b, .string ⟨#[46, 46]⟩] W fun e w' => e = .returned (.agg #[I p, I q]) ∧ Below W.heap.size W w' := by
  obtain ⟨V0, hV0, g0, hB0⟩ : ∃ V, W.alloc (.cells #[I 0, I 0] 50) = V ∧ V.heap[W.heap.size]? = some (.cells #[I 0, I 0] 50) ∧ Below W.heap.size W V := ⟨_, rfl, heap_alloc_new W _, (Below.refl _ W).alloc (Nat.le_refl _) _⟩
  obtain ⟨-, -, -, -, v4, v5, v6, v7, -, -⟩ := (hw.below hB0).cells
  have hs0 : V0.heap.size = W.heap.size + 1 := by rw [← hV0]; simp
  have hbl := hw.lt
  have HH := hide (⟨D, hw, g0, hB0, hs0⟩ : _ ∧ _ ∧ _ ∧ _ ∧ _)
  have n1 : b ≠ W.heap.size := by omega
  clear D hw g0 hB0 hs0
  go_enter Tryz.func233, Tryz.ntmps233
  go_upto_region 1 with fail
  go_cut [20] from 8 to 19 (fun s20 wc => s20 = .bool false ∧ ∃ k, wc = V0.drewN k)
  case first =>
    by_cases h1 : am = E.rm
    · have h2 : ¬ an = E.rn := fun h => hr ⟨h1, h⟩
      rw [← h1] at v4
      clear hr h1
      go_quiet (fail)
      go_wp2_with fail
      go_meet
      case rel => exact ⟨rfl, _, rfl⟩
    · clear hr
      go_quiet (fail)
      go_wp2_with fail
      go_meet
      case rel => exact ⟨rfl, _, rfl⟩
  case rest =>
    obtain ⟨rfl, k, rfl⟩ := hcut
    obtain ⟨D, hw, g0, hB0, hs0⟩ := unhide HH
    clear v4 v5 HH hr
    obtain ⟨V, hV, gV, hBV, hsV⟩ : ∃ V, (V0.drewN k).alloc (.cells #[I am, I an] 50) = V ∧ V.heap[W.heap.size + 1]? = some (.cells #[I am, I an] 50) ∧ Below V0.heap.size V0 V ∧ V.heap.size = W.heap.size + 2 := by
      refine ⟨_, rfl, ?_, (below_n V0 k).alloc (Nat.le_refl _) _, ?_⟩
      · rw [← hs0]; exact heap_alloc_new (V0.drewN k) _
      · show ((V0.drewN k).alloc _).heap.size = _
        simp [World.drewN]
        omega
    have g1V := (hBV.block _ (by omega)).trans g0
    have hBW : Below W.heap.size W V := hB0.trans (hBV.mono (by omega))
    obtain ⟨w0, w1, -⟩ := (hw.below hBW).cells
    have p0 : V.cell? ⟨W.heap.size + 1, 0, none⟩ = some (I am) := by rw [cell_of gV]; rfl
    have p1 : V.cell? ⟨W.heap.size + 1, 1, none⟩ = some (I an) := by rw [cell_of gV]; rfl
    have HD := hide D
    have Hw := hide hw
    have HG := hide (⟨g1V, gV, hBW, hsV⟩ : _ ∧ _ ∧ _ ∧ _)
    have HU := hide (fun x y p q f => up_W (p := p) (q := q) (f := f) D x y)
    have hbV : b < V.heap.size := by omega
    have nb1 : b ≠ W.heap.size + 1 := by omega
    have HS0 := hide hs0
    clear D hw g0 hB0 g1V gV hBW hBV
    go_wp2_with fail
    go_cut [6, 7] from 29 to 37 (fun s6 s7 wc => ∃ u, s6 = P0 u ∧ s7 = .bool (Mt.upIs E.es am an) ∧ DJ E W wc am an (W.heap.size + 1) u am an)
    case first =>
      obtain ⟨g1V, gV, hBW, _⟩ := unhide HG
      obtain ⟨x, hx⟩ : ∃ x, Mt.upM E.es am an = x := ⟨_, rfl⟩
      obtain ⟨y, hy⟩ : ∃ y, Mt.upN E.es am an = y := ⟨_, rfl⟩
      obtain ⟨f, hf⟩ : ∃ f, Mt.upIs E.es am an = f := ⟨_, rfl⟩
      obtain ⟨X, hX, hBX, gX, hlX⟩ := two_ahead V
      have H1 := hide (unhide HU am an x y f hx hy hf X (hBW.trans (hBX.mono hBW.size)))
      have H2 := hide (unhide HU am an x y f hx hy hf V.drew (below_drew hBW))
      rw [hX] at H1 hBX gX hlX
      have HX := hide (⟨hBX, gX, hlX⟩ : _ ∧ _ ∧ _)
      have HXY := hide (⟨hx, hy, hf⟩ : _ ∧ _ ∧ _)
      have nb3 : b ≠ W.heap.size + 2 := by omega
      clear hX hBX gX hlX X g1V gV hBW hx hy hf HU HD Hw hV0 hV v6 v7 hs0
      go_region_held3 (fun w' => w'.cell? ⟨b, 1, none⟩ = some (P0 m) ∧ w'.cell? ⟨W.heap.size + 1, 0, none⟩ = some (I am) ∧ w'.cell? ⟨W.heap.size + 1, 1, none⟩ = some (I an)) (go_keep)
        (first
          | (go_at_call 272; refine (unhide H1).mono ?_; rintro e w3 ⟨rfl, HB3⟩; obtain ⟨hBX, gX, hlX⟩ := unhide HX; obtain ⟨X1, X2, ⟨x1, x2⟩, ⟨y0, y1⟩, ⟨f0, f1⟩, hX2, hXk, hXB, hXs⟩ := ans2 gX (unhide HB3) (I x) (I y); have hB3V := hBX.trans ((unhide HB3).mono (Nat.le_of_lt hlX)); have q1 := cell_be w1 hB3V; have q2 := cell_be p0 hB3V; have q3 := cell_be p1 hB3V; have hB4V := hXB _ _ hB3V (Nat.le_refl _); have s1 := cell_be w1 hB4V; have s2 := cell_be p0 hB4V; have s3 := cell_be p1 hB4V; have HE := hide (⟨hB4V, hX2⟩ : _ ∧ _); clear hX2 hXk hXB hXs hB3V hB4V hBX gX hlX; rw [hsV] at x1 x2 y0 y1 f0 f1)
          | (go_at_call 272; refine (unhide H2).mono ?_; rintro e w3 ⟨rfl, HB3⟩; have hB3V := (below_drew (Below.refl V.heap.size V)).trans (unhide HB3); have q1 := cell_be w1 hB3V; have q2 := cell_be p0 hB3V; have q3 := cell_be p1 hB3V; have HE := hide hB3V; clear hB3V))
      · rename_i hHeld
        have hBe := (unhide HE).alloc (unhide HE).size (.cells #[I x, I y] 50)
        have hgu := heap_alloc_new w3 (.cells #[I x, I y] 50)
        have hsu := (unhide HE).size
        have HF := hide (⟨hBe, hgu, hsu⟩ : _ ∧ _ ∧ _)
        clear hHeld hBe hgu hsu q1 q2 q3 H1 H2
        go_wp2_with fail
        go_meet
        case rel =>
          obtain ⟨g1V, gV, hBW, hsV'⟩ := unhide HG
          obtain ⟨hBe, hgu, hsu⟩ := unhide HF
          obtain ⟨hx, hy, hf⟩ := unhide HXY
          refine ⟨w3.heap.size, rfl, by rw [hf], DJ.start hn g1V gV hBW hsV' hBe (by omega) ?_⟩
          rw [hx, hy]
          exact hgu
      · rename_i hHeld
        clear hHeld q1 q2 q3 H1 H2 x1 x2 y0 y1 f0 f1 s1 s2 s3
        go_wp2_with fail
        go_meet
        case rel =>
          obtain ⟨g1V, gV, hBW, hsV'⟩ := unhide HG
          obtain ⟨hBe, hgu⟩ := unhide HE
          obtain ⟨hx, hy, hf⟩ := unhide HXY
          refine ⟨W.heap.size + 2, rfl, by rw [hf], DJ.start hn g1V gV hBW hsV' hBe (by omega) ?_⟩
          rw [hx, hy, ← hsV']
          exact hgu
    case rest =>
      obtain ⟨u, rfl, rfl, J⟩ := hcut
      have HJ := hide J
      clear J w0 w1 p0 p1 HG hsV hbV hV0 hV v6 v7 hs0 HS0
      go_wp2_with fail
      go_loopw [6, 7] (fun s6 s7 wr => ∃ u x y, s6 = P0 u ∧ s7 = .bool (Mt.upIs E.es x y) ∧ Hid (DJ E W wr am an (W.heap.size + 1) u x y)) (fun _ _ wr => upK E.es (intAt wr (W.heap.size + 1)))
      case atStart => exact ⟨u, am, an, rfl, rfl, HJ⟩
      case round =>
        obtain ⟨u, x, y, rfl, rfl, J⟩ := hrel
        cases hf : Mt.upIs E.es x y with
        | true =>
          obtain ⟨x', hx'⟩ : ∃ x', x' = Mt.upM E.es x y := ⟨_, rfl⟩
          obtain ⟨y', hy'⟩ : ∃ y', y' = Mt.upN E.es x y := ⟨_, rfl⟩
          obtain ⟨jp, ju, jb, je, jw, jP, jU, jn, jr⟩ := unhide J
          rw [← hx', ← hy'] at ju
          have hlu := lt_of_heap ju
          have hlp := lt_of_heap jp
          have hWr := jb.size
          obtain ⟨X1, X2, ⟨x1, x2⟩, ⟨y0, y1⟩, ⟨f0, f1⟩, hXb, hfr, hXs⟩ := Mt.store2 jp (I x') (I y')
          have ku := (hfr.blk u hlu (by simp; omega)).trans ju
          have u0 : wr.cell? ⟨u, 0, none⟩ = some (I x') := by rw [cell_of ju]; rfl
          have u1 : wr.cell? ⟨u, 1, none⟩ = some (I y') := by rw [cell_of ju]; rfl
          have t0 : X2.cell? ⟨u, 0, none⟩ = some (I x') := by rw [cell_of ku]; rfl
          have t1 : X2.cell? ⟨u, 1, none⟩ = some (I y') := by rw [cell_of ku]; rfl
          obtain ⟨Z, hZ, gZ, hBZ, hsZ⟩ : ∃ Z, X2.alloc (.cells #[I x', I y'] 50) = Z ∧ Z.heap[X2.heap.size]? = some (.cells #[I x', I y'] 50) ∧ Below X2.heap.size X2 Z ∧ Z.heap.size = X2.heap.size + 1 := ⟨_, rfl, heap_alloc_new _ _, (Below.refl _ _).alloc (Nat.le_refl _) _, by simp⟩
          have hBX : Below W.heap.size W X2 := jb.trans (hfr.base (by omega) (by simp))
          have hBW : Below W.heap.size W Z := hBX.trans (hBZ.mono (by omega))
          have kP := (hBZ.block _ (by omega)).trans hXb
          have kR := (hBZ.block _ (by omega)).trans ((hfr.blk W.heap.size (by omega) (by simp)).trans jr)
          obtain ⟨-, w1, -⟩ := ((unhide Hw).below hBW).cells
          have p0 : Z.cell? ⟨W.heap.size + 1, 0, none⟩ = some (I x') := by rw [cell_of kP]; rfl
          have p1 : Z.cell? ⟨W.heap.size + 1, 1, none⟩ = some (I y') := by rw [cell_of kP]; rfl
          obtain ⟨x2', hx2⟩ : ∃ z, Mt.upM E.es x' y' = z := ⟨_, rfl⟩
          obtain ⟨y2', hy2⟩ : ∃ z, Mt.upN E.es x' y' = z := ⟨_, rfl⟩
          obtain ⟨f2, hf2⟩ : ∃ z, Mt.upIs E.es x' y' = z := ⟨_, rfl⟩
          have H2 := hide (unhide HU x' y' x2' y2' f2 hx2 hy2 hf2 Z.drew (below_drew hBW))
          have nb4 : b ≠ X2.heap.size := by omega
          have nb5 : W.heap.size + 1 ≠ X2.heap.size := by omega
          have hm1 : intAt wr (W.heap.size + 1) = x := by unfold intAt; rw [cell_of jp]; rfl
          have hless := (up_less (unhide HD).el hf).2
          have hstep := up_step (unhide HD).el hf
          rw [← hx'] at hless
          rw [← hx', ← hy', je] at hstep
          have HK := hide (⟨hm1, hless, hstep, upN_wf (unhide HD).wf (x := x) jw⟩ : _ ∧ _ ∧ _ ∧ _)
          rw [← hy'] at HK
          have HM := hide (⟨hBW, kP, kR, gZ, hsZ, hXs, hWr, hx2, hy2, hf2⟩ : _ ∧ _ ∧ _ ∧ _ ∧ _ ∧ _ ∧ _ ∧ _ ∧ _ ∧ _)
          have hbZ : b < Z.heap.size := by omega
          have hPZ : W.heap.size + 1 < Z.heap.size := by omega
          clear J jp ju jb je jw jP jU jr hx' hy' hfr hXs hXb ku gZ hBZ hsZ hBX hBW kP kR hx2 hy2 hf2 hm1 hless hstep hlu hlp hWr HU HD Hw hn hp hq
          clear hf
          go_wp2_with fail
          go_region_held3 (fun w' => w'.cell? ⟨b, 1, none⟩ = some (P0 m) ∧ w'.cell? ⟨W.heap.size + 1, 0, none⟩ = some (I x') ∧ w'.cell? ⟨W.heap.size + 1, 1, none⟩ = some (I y')) (go_keep)
            (first
              | (go_at_call 272; refine (unhide H2).mono ?_; rintro e w3 ⟨rfl, HB3⟩; have q1 := cell_be (W := Z.drew) w1 (unhide HB3); have q2 := cell_be (W := Z.drew) p0 (unhide HB3); have q3 := cell_be (W := Z.drew) p1 (unhide HB3); obtain ⟨Y1, Y2, ⟨i1, i2⟩, ⟨k0, k1⟩, ⟨l0, l1⟩, hY2, hYk, hYB, hYs⟩ := ans2 (V := Z.drew) (unhide HM).2.2.2.1 (unhide HB3) (I x2') (I y2'); have s1 : Y2.cell? ⟨b, 1, none⟩ = some (P0 m) := cell_kp (V := Z.drew) w1 (hYk b nb4 hbZ); have s2 : Y2.cell? ⟨W.heap.size + 1, 0, none⟩ = some (I x') := cell_kp (V := Z.drew) p0 (hYk _ nb5 hPZ); have s3 : Y2.cell? ⟨W.heap.size + 1, 1, none⟩ = some (I y') := cell_kp (V := Z.drew) p1 (hYk _ nb5 hPZ); have HY := hide (⟨hY2, hYk, hYB, hYs⟩ : _ ∧ _ ∧ _ ∧ _); clear hY2 hYk hYB hYs))
          rename_i hHeld
          clear hHeld q1 q2 q3 i1 i2 k0 k1 l0 l1 H2 w1 p0 p1 s1
          go_wp2_with fail
          obtain ⟨hBW, kP, kR, gZ, hsZ, hXs, hWr, hx2, hy2, hf2⟩ := unhide HM
          obtain ⟨hY2, hYk, hYB, hYs⟩ := unhide HY
          obtain ⟨hm1, hless, hstep, hwf⟩ := unhide HK
          refine ⟨⟨X2.heap.size, x', y', rfl, by rw [hf2], hide ⟨(hYk _ nb5 hPZ).trans kP, by rw [hx2, hy2]; exact hY2, ?_, hstep.symm, hwf, by omega, by omega, by omega, (hYk _ (by omega) (by show W.heap.size < Z.heap.size; omega)).trans kR⟩⟩, ?_⟩
          · exact hYB _ _ (hBW.trans ((below_drew (Below.refl Z.heap.size Z)).trans (unhide HB3) |>.mono hBW.size)) (by omega)
          · have hm2 : intAt Y2 (W.heap.size + 1) = x' := by unfold intAt; rw [s2]
            rw [hm1, hm2]
            exact hless
        | false =>
          obtain ⟨jp, ju, jb, je, jw, jP, jU, jn, jr⟩ := unhide J
          obtain ⟨w0, w1, -⟩ := ((unhide Hw).below jb).cells
          have p0 : wr.cell? ⟨W.heap.size + 1, 0, none⟩ = some (I x) := by rw [cell_of jp]; rfl
          have p1 : wr.cell? ⟨W.heap.size + 1, 1, none⟩ = some (I y) := by rw [cell_of jp]; rfl
          have hlp := lt_of_heap jp
          have hup : up E.es am an = (x, y) := by rw [← je, up_end hf]
          rw [hup] at hp hq
          obtain ⟨z, hz⟩ : ∃ z, E.T.up y = z := ⟨_, rfl⟩
          simp only [hz] at hp hq
          have H1 := hide (tup_W (unhide HD) jw hz wr.drew (below_drew jb))
          have H2 := hide (fun V => down_W (unhide HD) x z hp hq V)
          have HM := hide (⟨jb, jr⟩ : _ ∧ _)
          have hbl2 : b < wr.heap.size := by have := jb.size; omega
          clear J jp ju jb je jw jP jU jr hup hz HU HD Hw hn hp hq
          go_wp2_with fail
          go_region_held3 (fun w' => w'.cell? ⟨b, 0, none⟩ = some (P0 t) ∧ w'.cell? ⟨b, 1, none⟩ = some (P0 m) ∧ w'.cell? ⟨W.heap.size + 1, 0, none⟩ = some (I x) ∧ w'.cell? ⟨W.heap.size + 1, 1, none⟩ = some (I y)) (go_keep)
            (first
              | (go_at_call 89; refine (unhide H1).mono ?_; rintro e w3 ⟨rfl, HB3⟩; have q0 := cell_be (W := wr.drew) w0 (unhide HB3); have q1 := cell_be (W := wr.drew) w1 (unhide HB3); have q2 := cell_be (W := wr.drew) p0 (unhide HB3); have q3 := cell_be (W := wr.drew) p1 (unhide HB3); have HB5 := hide ((below_drew (Below.refl wr.heap.size wr)).trans (unhide HB3)); have H3 := hide (unhide H2 w3 ((unhide HM).1.trans ((unhide HB5).mono (unhide HM).1.size))))
              | (go_at_call 38; refine (unhide H3).mono ?_; rintro e w4 ⟨rfl, HB4⟩; have hB6 := (unhide HB5).trans ((unhide HB4).mono (unhide HB5).size); have o0 := cell_be w0 hB6; have o1 := cell_be w1 hB6; have o2 := cell_be p0 hB6; have o3 := cell_be p1 hB6; obtain ⟨Y1, Y2, ⟨i1, i2⟩, ⟨k0, k1⟩, ⟨l0, l1⟩, hY2, hYk, hYB, hYs⟩ := ans2 (unhide HM).2 hB6 (I p) (I q); have s0 : Y2.cell? ⟨b, 0, none⟩ = some (P0 t) := cell_kp w0 (hYk b n1 hbl2); have s1 : Y2.cell? ⟨b, 1, none⟩ = some (P0 m) := cell_kp w1 (hYk b n1 hbl2); have s2 : Y2.cell? ⟨W.heap.size + 1, 0, none⟩ = some (I x) := cell_kp p0 (hYk _ (by omega) hlp); have s3 : Y2.cell? ⟨W.heap.size + 1, 1, none⟩ = some (I y) := cell_kp p1 (hYk _ (by omega) hlp); have HY := hide (⟨hY2, hYB _ _ ((unhide HM).1.trans (hB6.mono (unhide HM).1.size)) (Nat.le_refl _)⟩ : _ ∧ _); clear hY2 hYk hYB hYs hB6))
          rename_i hHeld
          clear hHeld q0 q1 q2 q3 o0 o1 o2 o3 i1 i2 k0 k1 l0 l1 H1 H2 H3 w0 w1 p0 p1 s0 s1 s2 s3 HB3 HB4 HB5
          obtain ⟨hY2, hYB⟩ := unhide HY
          have z0 : Y2.cell? ⟨W.heap.size, 0, none⟩ = some (I p) := by rw [cell_of hY2]; rfl
          have z1 : Y2.cell? ⟨W.heap.size, 1, none⟩ = some (I q) := by rw [cell_of hY2]; rfl
          have HYB := hide hYB
          clear hYB hY2 HY
          go_wp2_with fail
          refine bodyPost_ret (v := .agg #[I p, I q]) (by simp [results, Tryz.results233, go_sem, z0, z1]) rfl ?_
          exact ⟨rfl, unhide HYB⟩
theorem dots_any (D : Wd lo N mb W t m E) (hw : Wn W b t m E am an s) (hn : (kl an).wf = true) (p : Bytes) (hp : isDots p = true) (x y : Int) (hx : (E.dots p am an).1 = x) (hy : (E.dots p am an).2 = y) :
    Calls Tryz.prog 233 #[P0 b, .string (bs p)] W fun e w' => e = .returned (.agg #[I x, I y]) ∧ Below W.heap.size W w' := by
  simp only [isDots, Bool.or_eq_true, beq_iff_eq] at hp
  rcases hp with rfl | rfl
  · have e : E.dots [46] am an = (am, an) := by rw [En.dots, if_pos (.inl rfl)]
    rw [e] at hx hy
    obtain rfl : am = x := hx
    obtain rfl : an = y := hy
    exact dots_here hw
  · by_cases hr : am = E.rm ∧ an = E.rn
    · have e : E.dots [46, 46] am an = (am, an) := by rw [En.dots, if_pos (.inr hr)]
      rw [e] at hx hy
      obtain rfl : am = x := hx
      obtain rfl : an = y := hy
      exact dots_root hw hr
    · have e : E.dots [46, 46] am an = E.down (up E.es am an).1 (E.T.up (up E.es am an).2) := by rw [En.dots, if_neg (fun h => h.elim (fun h => by simp at h) hr)]
      rw [e] at hx hy
      exact dots_up D hw hn hr x y hx hy
end
end Go.Proofs.YtlngeaacjbdmhaaGreat.Wl

namespace Go.Proofs.YtlngeaacjbdmhaaGreat.Wl
open Go.RowKit
attribute [local go_sem ↓] Go.wp_at_zero Go.wp_at_succ
theorem set3 {X : World} {b : Nat} {t : TypeId} {a0 a1 a2 : Value} (h : X.heap[b]? = some (.cells #[a0, a1, a2] t)) (v0 v1 v2 : Value) :
    ∃ X1 X2 Y, (X.setCell ⟨b, 0, none⟩ v0 = X1 ∧ X1.setCell ⟨b, 1, none⟩ v1 = X2 ∧ X2.setCell ⟨b, 2, none⟩ v2 = Y) ∧ (X.cell? ⟨b, 0, none⟩ = some a0 ∧ X1.cell? ⟨b, 1, none⟩ = some a1 ∧ X2.cell? ⟨b, 2, none⟩ = some a2) ∧ (X.frozen? ⟨b, 0, none⟩ = false ∧ X1.frozen? ⟨b, 1, none⟩ = false ∧ X2.frozen? ⟨b, 2, none⟩ = false) ∧
      Y.heap[b]? = some (.cells #[v0, v1, v2] t) ∧ (∀ B u, Below B u X → B ≤ b → Below B u Y) ∧ (∀ k, k ≠ b → Y.heap[k]? = X.heap[k]?) ∧ Y.heap.size = X.heap.size := by
  have h1 := heap_set h 0 v0
  have h2 := heap_set h1 1 v1
  have h3 := heap_set h2 2 v2
  refine ⟨_, _, _, ⟨rfl, rfl, rfl⟩, ⟨?_, ?_, ?_⟩, ⟨frozen_of h _, frozen_of h1 _, frozen_of h2 _⟩, h3, fun B u hu hb => ((hu.setCell (p := ⟨b, 0, none⟩) hb _).setCell (p := ⟨b, 1, none⟩) hb _).setCell (p := ⟨b, 2, none⟩) hb _, fun k hk => ?_, by simp [World.setCell]⟩
  · rw [cell_of h]; rfl
  · rw [cell_of h1]; rfl
  · rw [cell_of h2]; rfl
  · rw [Below.heap_setCell _ _ _ _ hk, Below.heap_setCell _ _ _ _ hk, Below.heap_setCell _ _ _ _ hk]
theorem cells3 {W : World} {b : Nat} {t : TypeId} {a0 a1 a2 : Value} (h : W.heap[b]? = some (.cells #[a0, a1, a2] t)) : W.cell? ⟨b, 0, none⟩ = some a0 ∧ W.cell? ⟨b, 1, none⟩ = some a1 ∧ W.cell? ⟨b, 2, none⟩ = some a2 ∧ ∀ i, W.frozen? ⟨b, i, none⟩ = false := by
  refine ⟨?_, ?_, ?_, frozen_of h⟩ <;> rw [cell_of h] <;> rfl
section
variable {W : World} {n : Nat}
end
end Go.Proofs.YtlngeaacjbdmhaaGreat.Wl

namespace Go.Proofs.YtlngeaacjbdmhaaGreat.Wl
open Go.RowKit
attribute [local go_sem ↓] Go.wp_at_zero Go.wp_at_succ
section
variable {W : World} {n : Nat}
end
end Go.Proofs.YtlngeaacjbdmhaaGreat.Wl

namespace Go.Proofs.YtlngeaacjbdmhaaGreat.Wl
open Go.RowKit
attribute [local go_sem ↓] Go.wp_at_zero Go.wp_at_succ
section
variable {lo N mb : Nat} {W W' : World} {t m b : Nat} {E : En} {am an : Int} {s : Nat}
theorem Wd.fr (h : Wd lo N mb W t m E) (hb : Wn W b t m E am an s) (F : Fr [b] W W') : Wd lo N mb W' t m E := by
  refine ⟨h.tp.keep F.size (fun k es c e => F.blk k (lt_of_heap e) ?_) (fun k cs ty f e ht => F.blk k (lt_of_heap e) ?_), h.wk, h.ls.keep fun k cur ty hc ht => F.blk k (lt_of_heap hc) ?_, h.el, h.le, h.wf⟩
  · simp
    rintro rfl
    rw [hb] at e
    cases e
  · simp
    rintro rfl
    rw [hb] at e
    cases e
    rcases ht with h1 | h1 | h1 | h1 | h1 <;> simp at h1
  · simp
    rintro rfl
    rw [hb] at hc
    simp at hc
    rcases ht with h1 | h1
    · obtain ⟨a, cap, h2, _⟩ := h.ls.hb
      subst h1
      rw [hb] at h2
      simp at h2
    · rw [h1] at hc
      simp at hc
theorem Wn.step (h : Wn W b t m E am an s) : ∃ X : World, W.setCell ⟨b, 8, none⟩ (I ((s : Int) + 1)) = X ∧ Wn X b t m E am an (s + 1) ∧ Fr [b] W X ∧ X.heap.size = W.heap.size := by
  have h1 := heap_set h 8 (I ((s : Int) + 1))
  refine ⟨_, rfl, ?_, (Fr.refl [b] W).set (a := ⟨b, 8, none⟩) (by simp) _, by simp [World.setCell]⟩
  rw [Wn, h1]
  simp [wkC]
def Rw (W : World) (a : Option Addr) (ps : List Bytes) : Prop := ps = [] ∨ ∃ bb oo cur, a = some ⟨bb, oo, none⟩ ∧ W.heap[bb]? = some (.cells cur 9) ∧ ∀ (j : Nat) (q : Bytes), ps[j]? = some q → cur[oo + j]? = some (Nm.S q)
theorem Rw.keep {a : Option Addr} {ps : List Bytes} (h : Rw W a ps) (hk : ∀ (k : Nat) (cur : Array Value), W.heap[k]? = some (.cells cur 9) → W'.heap[k]? = W.heap[k]?) : Rw W' a ps := by
  rcases h with h | ⟨bb, oo, cur, h1, h2, h3⟩
  · exact .inl h
  · exact .inr ⟨bb, oo, cur, h1, (hk bb cur h2).trans h2, h3⟩
theorem Rw.row {a : Option Addr} {ps : List Bytes} (h : Rw W a ps) : Nm.RowO W a ps := by
  intro k q hk
  rcases h with h | ⟨bb, oo, cur, h1, h2, h3⟩
  · rw [h] at hk; simp at hk
  · exact ⟨bb, oo, h1, lt_of_heap h2, by rw [cell_of h2]; exact h3 k q hk⟩
theorem Rw.rest {a : Option Addr} {ps : List Bytes} (h : Rw W a ps) {i : Nat} (hi : i < ps.length) {cap : Nat} (hc : ps.length ≤ cap) : ∃ bb oo pp, a = some ⟨bb, oo, none⟩ ∧ W.cell? ⟨bb, oo + i, none⟩ = (ps[i]?).map Nm.S ∧ (if cap = i + 1 then some (⟨bb, oo, none⟩ : Addr) else some ⟨bb, oo + (i + 1), none⟩) = some ⟨bb, pp, none⟩ ∧ Nm.RowO W (some ⟨bb, pp, none⟩) (ps.drop (i + 1)) := by
  rcases h with h | ⟨bb, oo, cur, h1, h2, h3⟩
  · rw [h] at hi; simp at hi
  · have hq : ∃ q, ps[i]? = some q := ⟨_, List.getElem?_eq_getElem hi⟩
    obtain ⟨q, hq⟩ := hq
    by_cases hcp : cap = i + 1
    · refine ⟨bb, oo, oo, h1, by rw [cell_of h2, h3 i q hq, hq]; rfl, by rw [if_pos hcp], fun k z hz => ?_⟩
      rw [List.drop_eq_nil_of_le (by omega)] at hz
      simp at hz
    · refine ⟨bb, oo, oo + (i + 1), h1, by rw [cell_of h2, h3 i q hq, hq]; rfl, by rw [if_neg hcp], fun k z hz => ⟨bb, oo + (i + 1), rfl, lt_of_heap h2, ?_⟩⟩
      rw [List.getElem?_drop] at hz
      rw [cell_of h2, Nat.add_assoc]
      exact h3 _ z hz
structure AL (E : En) (W wr : World) (b t m : Nat) (am an : Int) (s : Nat) (p : Pa) (a : Option Addr) (cap : Nat) : Prop where
  wn : Wn wr b t m E am an s
  pa : wr.heap[W.heap.size]? = some (.cells #[.bool p.root, .bool p.slash, .slice a p.parts.length cap] 234)
  fd : wr.heap[W.heap.size + 1]? = some zfd
  row : Rw wr a p.parts
  le : p.parts.length ≤ cap
  mx : cap ≤ maxLen
  fr : Fr [b] W wr
  bw : b < W.heap.size
  wf : (kl an).wf = true
  wt : Nm.wt p.parts ≤ 5000
variable {wr wr' : World} {p : Pa} {a : Option Addr} {cap : Nat}
theorem AL.below (h : AL E W wr b t m am an s p a cap) (g : Below wr.heap.size wr wr') : AL E W wr' b t m am an s p a cap :=
  ⟨h.wn.below g, (g.block _ (lt_of_heap h.pa)).trans h.pa, (g.block _ (lt_of_heap h.fd)).trans h.fd, h.row.keep fun k _ e => g.block k (lt_of_heap e), h.le, h.mx, h.fr.trans (Fr.of_below g), h.bw, h.wf, h.wt⟩
theorem AL.turn (h : AL E W wr b t m am an s p a cap) {dd : Nat} {cs : Array Value} (hdd : wr.heap[dd]? = some (.cells cs 50)) (hd : W.heap.size + 2 ≤ dd) {am' an' : Int} {s' : Nat} (hw : Wn wr' b t m E am' an' s') (F : Fr [b, dd] wr wr') (hwf : (kl an').wf = true) : AL E W wr' b t m am' an' s' p a cap := by
  have hb := h.bw
  refine ⟨hw, (F.blk _ (lt_of_heap h.pa) (by simp; omega)).trans h.pa, (F.blk _ (lt_of_heap h.fd) (by simp; omega)).trans h.fd, h.row.keep fun k cur e => F.blk k (lt_of_heap e) ?_, h.le, h.mx, h.fr.step F (by simp; omega), hb, hwf, h.wt⟩
  simp
  refine ⟨?_, ?_⟩
  · rintro rfl
    have := h.wn
    rw [Wn, e] at this
    simp at this
  · rintro rfl
    rw [hdd] at e
    simp at e
theorem AL.walk (h : AL E W wr b t m am an s p a cap) {am' an' : Int} {s' : Nat} (hw : Wn wr' b t m E am' an' s') (F : Fr [b] wr wr') (hwf : (kl an').wf = true) : AL E W wr' b t m am' an' s' p a cap := by
  have hb := h.bw
  refine ⟨hw, (F.blk _ (lt_of_heap h.pa) (by simp; omega)).trans h.pa, (F.blk _ (lt_of_heap h.fd) (by simp; omega)).trans h.fd, h.row.keep fun k cur e => F.blk k (lt_of_heap e) ?_, h.le, h.mx, h.fr.trans F, hb, hwf, h.wt⟩
  simp
  rintro rfl
  have := h.wn
  rw [Wn, e] at this
  simp at this
theorem AL.d (h : AL E W wr b t m am an s p a cap) (D : Wd lo N mb W t m E) {am0 an0 : Int} {s0 : Nat} (hw0 : Wn W b t m E am0 an0 s0) : Wd lo N mb wr t m E := D.fr hw0 h.fr
theorem AL.fin (h : AL E W wr b t m am an s p a cap) {w3 Y : World} (hB : Below wr.heap.size wr w3) (hY : Below (W.heap.size + 1) w3 Y) : Wn Y b t m E am an s ∧ Fr [b] W Y := by
  have hb := h.bw
  have h1 := h.below hB
  have hl := lt_of_heap h1.fd
  refine ⟨(hY.block b (by omega)).trans h1.wn, ⟨hY.os.trans h1.fr.os, hY.tape.trans h1.fr.tape, hY.output.trans h1.fr.output, Nat.le_trans h1.fr.size hY.size, fun k hk hn => (hY.block k (by omega)).trans (h1.fr.blk k hk hn)⟩⟩
structure On (wc Y : World) (bn : Nat) (ro ns : Bool) (a7 : Option Addr) (k7 c7 : Nat) (x0 : Int) (q : Pa) : Prop where
  g : Y.heap[bn]? = some (.cells #[.bool ro, .bool ns, .slice a7 k7 c7] 234)
  be : Below wc.heap.size wc Y
  le : wc.heap.size ≤ bn
  ok : x0 = 0 → ro = q.root ∧ ns = q.slash ∧ k7 = q.parts.length ∧ Y.ownsRow wc.heap.size 9 1 (.slice a7 k7 c7) q.parts.length (Nm.strs q.parts)
theorem On.ahead {wc V w7 : World} {bn : Nat} {ro ns : Bool} {a7 : Option Addr} {k7 c7 : Nat} {x0 : Int} {q : Pa} (hB : Below wc.heap.size wc V) (g : V.heap[bn]? = some (.cells #[.bool false, .bool false, .slice none 0 0] 234)) (hl : wc.heap.size ≤ bn) (h7 : Below V.heap.size V w7) (hx : x0 = 0 → ro = q.root ∧ ns = q.slash ∧ k7 = q.parts.length ∧ w7.ownsRow V.heap.size 9 1 (.slice a7 k7 c7) q.parts.length (Nm.strs q.parts)) :
    ∃ X1 X2 Y, (w7.setCell ⟨bn, 0, none⟩ (.bool ro) = X1 ∧ X1.setCell ⟨bn, 1, none⟩ (.bool ns) = X2 ∧ X2.setCell ⟨bn, 2, none⟩ (.slice a7 k7 c7) = Y) ∧ (w7.cell? ⟨bn, 0, none⟩ = some (.bool false) ∧ X1.cell? ⟨bn, 1, none⟩ = some (.bool false) ∧ X2.cell? ⟨bn, 2, none⟩ = some (.slice none 0 0)) ∧ (w7.frozen? ⟨bn, 0, none⟩ = false ∧ X1.frozen? ⟨bn, 1, none⟩ = false ∧ X2.frozen? ⟨bn, 2, none⟩ = false) ∧
      Hid (On wc Y bn ro ns a7 k7 c7 x0 q) ∧ (∀ k, k < wc.heap.size → Y.heap[k]? = wc.heap[k]?) ∧ Below wc.heap.size wc w7 := by
  have g7 := (h7.block _ (lt_of_heap g)).trans g
  have hBw := hB.trans (h7.mono hB.size)
  obtain ⟨X1, X2, Y, h1, h2, h3, hYb, hYB, hYk, hYs⟩ := set3 g7 (.bool ro) (.bool ns) (.slice a7 k7 c7)
  refine ⟨X1, X2, Y, h1, h2, h3, ⟨hYb, hYB _ _ hBw hl, hl, fun h0 => ?_⟩, fun k hk => (hYk k (by omega)).trans (hBw.block k hk), hBw⟩
  obtain ⟨e1, e2, e3, own⟩ := hx h0
  refine ⟨e1, e2, e3, Nm.own_keep (Nm.own_base own hB.size) fun k cur hc => hYk k ?_⟩
  rintro rfl
  rw [g7] at hc
  simp at hc
theorem On.behind {wc V w7 : World} {ro ns : Bool} {a7 : Option Addr} {k7 c7 : Nat} {x0 : Int} {q : Pa} (hB : Below wc.heap.size wc V) (h7 : Below V.heap.size V w7) (hx : x0 = 0 → ro = q.root ∧ ns = q.slash ∧ k7 = q.parts.length ∧ w7.ownsRow V.heap.size 9 1 (.slice a7 k7 c7) q.parts.length (Nm.strs q.parts)) :
    Hid (On wc (w7.alloc (.cells #[.bool ro, .bool ns, .slice a7 k7 c7] 234)) w7.heap.size ro ns a7 k7 c7 x0 q) ∧ Below wc.heap.size wc w7 := by
  have hBw := hB.trans (h7.mono hB.size)
  refine ⟨⟨heap_alloc_new _ _, hBw.alloc hBw.size _, hBw.size, fun h0 => ?_⟩, hBw⟩
  obtain ⟨e1, e2, e3, own⟩ := hx h0
  exact ⟨e1, e2, e3, Nm.own_keep (Nm.own_base own hB.size) fun k cur hc => Below.heap_alloc _ _ _ (lt_of_heap hc)⟩
end
end Go.Proofs.YtlngeaacjbdmhaaGreat.Wl

namespace Go.Proofs.YtlngeaacjbdmhaaGreat.Wl
open Go.RowKit
attribute [local go_sem ↓] Go.wp_at_zero Go.wp_at_succ
section
variable {lo N mb : Nat} {W : World} {t m b : Nat} {E : En} {am an : Int} {s : Nat} {p : Pa} {a : Option Addr} {cap : Nat}
end
end Go.Proofs.YtlngeaacjbdmhaaGreat.Wl

namespace Go.Proofs.YtlngeaacjbdmhaaGreat.Wl
open Go.RowKit
attribute [local go_sem ↓] Go.wp_at_zero Go.wp_at_succ
def En.downed (E : En) : En := { E with rm := (E.down E.rm E.rn).1, rn := (E.down E.rm E.rn).2 }
def En.walk (E : En) (fm fn : Int) (path : Bytes) : Re :=
  if (E.place E.rm E.rn && E.place fm fn) = true then
    if Nm.err path = 0 then E.downed.run 40 ⟨Nm.rt path, Nm.sl path, Nm.ps path⟩ (E.down fm fn).1 (E.down fm fn).2 0
    else ⟨none, Fd.none, Nm.err path, 0, 0, 0⟩
  else ⟨none, Fd.none, 1, 0, 0, 0⟩
section
variable {lo N mb : Nat} {W : World} {t m b : Nat} {E : En} {am an : Int} {s : Nat} {p : Pa} {a : Option Addr} {cap : Nat}
theorem Wd.downed (D : Wd lo N mb W t m E) : Wd lo N mb W t m E.downed := ⟨D.tp, D.wk, D.ls, D.el, D.le, D.wf⟩
theorem root_W (D : Wd lo N mb W t m E) (x : Int) {v : Int} {f : Bool} (hv : Mt.rootTop E.rt E.es x = v) (hf : Mt.rootIs E.es x = f) (V : World) (g : Below W.heap.size W V) :
    Calls Tryz.prog 105 #[P0 m, I x] V fun e w' => e = .returned (.tuple #[I v, .bool f]) ∧ Hid (Below V.heap.size V w') := by
  rw [← hv, ← hf]
  exact Mt.root_any mb m E.rt E.md x E.es V (D.ls.below g) D.le
set_option maxRecDepth 100000 in
set_option maxHeartbeats 1000000 in
theorem place_any (D : Wd lo N mb W t m E) (x y : Int) (hn : (kl y).wf = true) (r : Bool) (hr : E.place x y = r) :
    Calls Tryz.prog 32 #[P0 t, P0 m, .agg #[I x, I y]] W fun e w' => e = .returned (.bool r) ∧ Below W.heap.size W w' := by
  obtain ⟨a, mo, u, g, l, z, hst, -⟩ := stat_shape E.T y
  obtain ⟨f, hf⟩ : ∃ f, (E.T.nd y).isSome = f := ⟨_, rfl⟩
  obtain ⟨K, hK⟩ : ∃ K, K = E.T.kindOf y := ⟨_, rfl⟩
  rw [← hK] at hst
  obtain ⟨f2, hf2⟩ : ∃ f, Mt.rootIs E.es x = f := ⟨_, rfl⟩
  obtain ⟨V, hV, g1, hB⟩ : ∃ V, W.alloc (.cells #[I x, I y] 50) = V ∧ V.heap[W.heap.size]? = some (.cells #[I x, I y] 50) ∧ Below W.heap.size W V := ⟨_, rfl, heap_alloc_new W _, (Below.refl _ W).alloc (Nat.le_refl _) _⟩
  have v0 : V.cell? ⟨W.heap.size, 0, none⟩ = some (I x) := by rw [cell_of g1]; rfl
  have v1 : V.cell? ⟨W.heap.size, 1, none⟩ = some (I y) := by rw [cell_of g1]; rfl
  have HS := hide (stat_W D hn hst hf V hB)
  have HR := hide (fun V' g' => root_W D x rfl hf2 V' g')
  have HB := hide hB
  have hl := lt_of_heap g1
  have er : r = (f && f2) := by rw [← hr, En.place, hf, hf2]
  have Her := hide er
  clear D hst hf hK hn hB g1 hf2 hr er
  generalize Mt.rootTop E.rt E.es x = tp at *
  go_enter Tryz.func32, Tryz.ntmps32
  go_wp2_with fail
  refine (unhide HS).mono ?_
  rintro e w2 ⟨rfl, HB2⟩
  obtain ⟨Z, hZ, hBZ⟩ : ∃ Z, w2.alloc (.cells #[I a, I K, I mo, I u, I g, I l, I z] 33) = Z ∧ Below V.heap.size V Z := ⟨_, rfl, (unhide HB2).alloc (unhide HB2).size _⟩
  have u0 := cell_be v0 hBZ
  have HBW := hide ((unhide HB).trans (hBZ.mono (Nat.le_of_lt hl)))
  have HR2 := hide (unhide HR Z (unhide HBW))
  clear v0 v1 HS HB2 hBZ HR
  go_wp2_with fail
  refine (unhide HR2).mono ?_
  rintro e w3 ⟨rfl, HB3⟩
  have HF := hide ((unhide HBW).trans ((unhide HB3).mono (unhide HBW).size))
  clear HR2 HB3 HBW u0 hZ
  cases f with
  | true =>
    go_wp2_with fail
    go_ret
    exact ⟨by rw [unhide Her]; simp, unhide HF⟩
  | false =>
    go_wp2_with fail
    go_ret
    exact ⟨by rw [unhide Her]; simp, unhide HF⟩
end
end Go.Proofs.YtlngeaacjbdmhaaGreat.Wl

namespace Go.Proofs.YtlngeaacjbdmhaaGreat.Wl
open Go.RowKit
attribute [local go_sem ↓] Go.wp_at_zero Go.wp_at_succ
theorem cells9 {W : World} {b : Nat} {t : TypeId} {a0 a1 a2 a3 a4 a5 a6 a7 a8 : Value} (h : W.heap[b]? = some (.cells #[a0, a1, a2, a3, a4, a5, a6, a7, a8] t)) : W.cell? ⟨b, 0, none⟩ = some a0 ∧ W.cell? ⟨b, 1, none⟩ = some a1 ∧ W.cell? ⟨b, 2, none⟩ = some a2 ∧ W.cell? ⟨b, 3, none⟩ = some a3 ∧ W.cell? ⟨b, 4, none⟩ = some a4 ∧ W.cell? ⟨b, 5, none⟩ = some a5 ∧ W.cell? ⟨b, 6, none⟩ = some a6 ∧ W.cell? ⟨b, 7, none⟩ = some a7 ∧ W.cell? ⟨b, 8, none⟩ = some a8 ∧ ∀ i, W.frozen? ⟨b, i, none⟩ = false := by
  refine ⟨?_, ?_, ?_, ?_, ?_, ?_, ?_, ?_, ?_, frozen_of h⟩ <;> rw [cell_of h] <;> rfl
section
variable {lo N mb : Nat} {W : World} {t m b : Nat} {E : En} {s : Nat}
end
end Go.Proofs.YtlngeaacjbdmhaaGreat.Wl

namespace Go.Proofs.YtlngeaacjbdmhaaGreat.Wl
open Go.RowKit
attribute [local go_sem ↓] Go.wp_at_zero Go.wp_at_succ
section
variable {lo N mb : Nat} {W : World} {t m b : Nat} {E : En} {s : Nat}
end
end Go.Proofs.YtlngeaacjbdmhaaGreat.Wl

namespace Go.Proofs.YtlngeaacjbdmhaaGreat.Wl
open Go.RowKit
attribute [local go_sem ↓] Go.wp_at_zero Go.wp_at_succ
section
variable {lo N mb : Nat} {W : World} {t m : Nat} {E : En}
end
end Go.Proofs.YtlngeaacjbdmhaaGreat.Wl

namespace Go.Proofs.YtlngeaacjbdmhaaGreat.Wl
open Go.RowKit
def E0 (T : Tr) : En := ⟨T, 1, 0, [], 0, 0, 0, 1, true⟩
def T9 : Tr := Tr.new 9 0
theorem Wd.of {lo N mb : Nat} {W : World} {t m : Nat} {T : Tr} {B : Nat} (h : Tq lo N W t T B) (hB : B ≤ 880) (ls : Mt.Ls mb W m 1 0 []) : Wd lo N mb W t m (E0 T) :=
  ⟨h.p, h.f.k.mono hB, ls, fun p hp => by simp [E0] at hp, by simp [E0], fun p hp => by simp [E0] at hp⟩
end Go.Proofs.YtlngeaacjbdmhaaGreat.Wl
