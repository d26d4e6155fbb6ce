/-
  The contract of line: the head, and behind it each part that says something.
-/
import Derived.Test.YtnkkfomekdipiaaDoorCTold
namespace Go.Proofs.YtnkkfomekdipiaaDoor.Cl
open Go.RowKit Go.Shelf
attribute [local go_sem] Oper.semAt_some

def Pa.out (p : Pa) : List UInt8 := if p.says = true then 32 :: (p.word ++ p.t) else []
/-- What the parts tell. -/
def outs (ps : List Pa) : List UInt8 := ps.flatMap Pa.out
theorem outs_take {ps : List Pa} {k : Nat} {p : Pa} (h : ps[k]? = some p) : outs (ps.take (k + 1)) = outs (ps.take k) ++ p.out := by
  rw [List.take_add_one, h]
  simp [outs]
theorem outs_len {ps : List Pa} (k : Nat) : (outs (ps.take k)).length ≤ (outs ps).length := by
  have : outs ps = outs (ps.take k) ++ outs (ps.drop k) := by
    unfold outs
    rw [← List.flatMap_append, List.take_append_drop]
  rw [this, List.length_append]
  omega
/-- A text as bytes of its own. -/
theorem conv_str (l : List UInt8) (hl : l.length ≤ 140737488355328) (W : World) : ∃ a n c W', (convert 9 22 (S l)).run Tryd.prog W = .ok (.slice a n c) W' ∧ Bw W' W.heap.size (.slice a n c) l ∧ Below W.heap.size W W' ∧ W'.heap.size = W.heap.size + 1 := by
  have hsz : (bs l).size = l.length := by simp [ByteArray.size]
  have h := Lib.run_convert_string_bytes (P := Tryd.prog) W 9 22 5 (bs l) Tryd.underlying9 Tryd.underlying22 Tryd.underlying5
  rw [hsz] at h
  have hge := grownCap_ge W l.length 0 5
  have hmx : (281474976710656 : Nat) ≤ maxLen := by decide
  have hcm : grownCap W l.length 0 5 ≤ maxLen := grownCap_le_maxLen W l.length 0 5 (by omega)
  have hsize : (Lib.bytesCells W 5 (bs l)).size = grownCap W l.length 0 5 := by
    simp [Lib.bytesCells, hsz]
    omega
  refine ⟨_, _, _, _, h, .inr ⟨W.heap.size, _, _, _, rfl, Nat.le_refl _, Lib.bytesWorld_at_new W 5 (bs l), .inr (Nat.le_refl _), hge, hcm, hsize, ?_⟩, ⟨rfl, rfl, rfl, by rw [Lib.bytesWorld_size]; omega, fun k hk => Lib.bytesWorld_at_old W 5 (bs l) k hk⟩, Lib.bytesWorld_size _ _ _⟩
  have e : (Lib.bytesCells W 5 (bs l)).toList = bc l ++ List.replicate (grownCap W l.length 0 5 - l.length) (.int .u8 0) := by
    simp [Lib.bytesCells, hsz, Lib.byteCells]
  rw [e, List.take_left' (bc_len l)]
/-- What lies while a line is written. -/
structure Lj (w W : World) (r : Loop) (h : Nat) (v : Value) (l : List UInt8) : Prop where
  be : Below h w W
  b : W.heap[h + 1]? = some (.cells #[v] 22)
  row : Bw W h v l
  dd : W.heap[h + 2]? = some (.deferred (some []))
  ll : W.heap[h + 3]? = some (.loop r)
section
variable {w W W' : World} {r r' : Loop} {h : Nat} {v v' : Value} {l l' : List UInt8}
theorem Lj.put (J : Lj w W r h v l) (r' : Loop) : Lj w (W.putObj (h + 3) (.loop r')) r' h v l :=
  ⟨below_put J.be (by omega) _, (World.putObj_heap_other (by omega)).trans J.b, J.row.putO J.ll (by simp) _, (World.putObj_heap_other (by omega)).trans J.dd, World.putObj_heap_same (lt_of_heap J.ll)⟩
theorem Lj.below (J : Lj w W r h v l) (g : Below W.heap.size W W') : Lj w W' r h v l :=
  ⟨J.be.trans (g.mono (by have := lt_of_heap J.b; omega)), (g.block _ (lt_of_heap J.b)).trans J.b, J.row.below g, (g.block _ (lt_of_heap J.dd)).trans J.dd, (g.block _ (lt_of_heap J.ll)).trans J.ll⟩
theorem Lj.call (J : Lj w W r h v l) (k : Kp h W W') (row : Bw W' h v' l') : W'.cell? ⟨h + 1, 0, none⟩ = some v ∧ W'.frozen? ⟨h + 1, 0, none⟩ = false ∧ Lj w (W'.setCell ⟨h + 1, 0, none⟩ v') r h v' l' := by
  have b' := k.keep J.b (by decide)
  exact ⟨by rw [cell_of b']; rfl, frozen_of b' 0, (J.be.trans k.be).setCell (p := ⟨h + 1, 0, none⟩) (by simp) _, by rw [heap_set b']; simp, row.set b' (by decide) v', (Below.heap_setCell _ _ _ _ (by simp)).trans (k.keepO J.dd (by simp)), (Below.heap_setCell _ _ _ _ (by simp)).trans (k.keepO J.ll (by simp))⟩
theorem Lj.cell (J : Lj w W r h v l) : W.cell? ⟨h + 1, 0, none⟩ = some v ∧ h ≤ W.heap.size := ⟨by rw [cell_of J.b]; rfl, by have := lt_of_heap J.b; omega⟩
end

set_option maxRecDepth 100000 in
set_option maxHeartbeats 1000000 in
theorem line_in (hd : List UInt8) (ps : List Pa) (hn : ps.length ≤ 1000) (x g : Nat) (w : World) (hx : w.cell? ⟨x, 0, none⟩ = some (.slice (some ⟨g, 0, none⟩) ps.length ps.length)) (hxl : x < w.heap.size) (hg : w.heap[g]? = some (.cells (prow ps).toArray 71))
    (hby : ∀ p ∈ ps, By w w.heap.size p.a p.t) (hl : hd.length + (outs ps).length ≤ 140737488350000) :
    CallsIn Fence.wide 5 Tryd.prog 30 #[S hd, .func (.func 50) #[] #[Pt x 0]] w fun e w' => e = .returned (S (hd ++ outs ps)) ∧ Below w.heap.size w w' := by
  have hro : Fence.wide.round = none := rfl
  obtain ⟨a1, n1, c1, W1, hcv, r1, be1, hs1⟩ := conv_str hd (by omega) w
  refine callsIn_of_wp_marks Tryd.func30 rfl trivial ?_ hro
  simp only [Tryd.ntmps30, List.size_toArray, List.length_cons, List.length_nil, Nat.reduceAdd, Nat.reduceSub, Array.replicate_succ, Array.replicate_zero, List.push_toArray, List.append_toArray, List.nil_append, List.cons_append]
  obtain ⟨V, hV, hsV, gV, hBV⟩ := alloc1 W1 (.cells #[.slice none 0 0] 22)
  rw [hs1] at gV
  have cV : V.cell? ⟨W1.heap.size, 0, none⟩ = some (.slice none 0 0) := by rw [hs1, cell_of gV]; rfl
  have fV : V.frozen? ⟨W1.heap.size, 0, none⟩ = false := by rw [hs1]; exact frozen_of gV 0
  obtain ⟨W2, hW2⟩ : ∃ X, V.setCell ⟨W1.heap.size, 0, none⟩ (.slice a1 n1 c1) = X := ⟨_, rfl⟩
  have b2 : W2.heap[w.heap.size + 1]? = some (.cells #[.slice a1 n1 c1] 22) := by rw [← hW2, hs1, heap_set gV]; simp
  have row2 : Bw W2 w.heap.size (.slice a1 n1 c1) hd := by rw [← hW2, hs1]; exact (r1.below hBV).set gV (by decide) _
  have be2 : Below w.heap.size w W2 := by rw [← hW2]; exact (be1.trans (hBV.mono (by omega))).setCell (p := ⟨W1.heap.size, 0, none⟩) (by simp; omega) _
  have hs2 : W2.heap.size = w.heap.size + 2 := by rw [← hW2]; simp [hsV, hs1]
  have HI := hide (⟨hx, hxl, hg, hby, hl, b2, row2, be2, hs2, hs1⟩ : _ ∧ _ ∧ _ ∧ _ ∧ _ ∧ _ ∧ _ ∧ _ ∧ _ ∧ _)
  clear hx hxl hg hby hl b2 row2 be2 hs2 r1 be1 hs1 hsV gV hBV
  gi_wp2_with fail
  obtain ⟨hx, hxl, hg, hby, hl, b2, row2, be2, hs2, hs1⟩ := unhide HI
  clear HI hcv hV cV fV hW2
  rw [hs1]
  clear hs1
  generalize hh : w.heap.size = h at *
  refine wpIn_range_own hro (by omega) (gf := 50) (lb := #[Pt x 0]) rfl trivial (enters_of Tryd.func50 (by kernel_rfl) rfl) ?_
  intro r hF hst hpe htm hps has hbo
  obtain ⟨L1, D1, hB2, hs6⟩ := setup W2 r
  rw [hs2] at L1 D1 hs6 ⊢
  have J0 : Lj w ((W2.alloc (.deferred (some []))).alloc (.loop r)) r h (.slice a1 n1 c1) hd :=
    ⟨be2.trans (hB2.mono (by omega)), (hB2.block _ (by omega)).trans b2, row2.below hB2, D1, L1⟩
  have hx6 : ((W2.alloc (.deferred (some []))).alloc (.loop r)).cell? ⟨x, 0, none⟩ = some (.slice (some ⟨g, 0, none⟩) ps.length ps.length) := (World.cell?_of_block (J0.be.block x hxl)).trans hx
  generalize ((W2.alloc (.deferred (some []))).alloc (.loop r)) = W6 at *
  have hgl := lt_of_heap hg
  rw [hh] at hgl
  clear L1 D1 hB2 b2 row2 be2
  refine (told_iter (h + 3) x g ps hn W6 (fun i W => ∃ v, Lj w W r h v (hd ++ outs (ps.take i))) hx6 ⟨_, by simpa [outs] using J0⟩ (fun i W' ⟨v, J⟩ => (J.be.block g hgl).trans hg) (fun i W' W2 ⟨v, J⟩ gB => ⟨v, J.below gB⟩) ?_ ?_).mono ?_
  · rintro i p W' hp hp1 ⟨v, J⟩
    refine ⟨v, ?_⟩
    rw [outs_take hp, Pa.out, if_neg (by rw [hp1]; simp), List.append_nil]
    exact J
  · rintro i ⟨sy, wd, pt, pa, pc⟩ W8 hp hp1 ⟨v, J⟩
    simp only at hp1
    subst hp1
    have hmem := hby _ (List.mem_of_getElem? hp)
    have hol := outs_len (ps := ps) (i + 1)
    rw [outs_take hp] at hol
    have HE : Hid (hd ++ outs (ps.take (i + 1)) = hd ++ outs (ps.take i) ++ [32] ++ wd ++ pt) := hide (by rw [outs_take hp]; simp [Pa.out])
    simp [Pa.out] at hol
    generalize hd ++ outs (ps.take (i + 1)) = L2 at *
    have hLL : (hd ++ outs (ps.take i)).length + 1 + wd.length + pt.length ≤ 140737488350000 := by rw [List.length_append]; omega
    generalize hd ++ outs (ps.take i) = L at *
    refine yield_own hF hst hpe htm hps has hbo rfl J.ll ?_
    clear htm hps has hbo hst hpe J0 hx6 hol hp
    intro rb
    gi_wp2
    obtain ⟨V8, hV8, hs8, g8, hB8⟩ := alloc1 W8 (.cells #[.bool true, S wd, .slice pa pt.length pc] 71)
    rw [hV8]
    have Ja := J.below hB8
    refine ⟨Ja.ll, ?_⟩
    have J10 := Ja.put rb
    have hpp : h + 3 < W8.heap.size := lt_of_heap J.ll
    have gX := (World.putObj_heap_other (o := .loop rb) (show W8.heap.size ≠ h + 3 by omega)).trans g8
    obtain ⟨av, nv, cv, rfl⟩ := J.row.sl
    clear hV8 g8 hB8 hs8 Ja J
    generalize V8.putObj (h + 3) (.loop rb) = X3 at *
    generalize W8.heap.size = pp at *
    obtain ⟨b0, hle⟩ := J10.cell
    obtain ⟨v11, W11, hrun1, r11, k11⟩ := J10.row.new hle 22 [32] 1 rfl #[.int .u8 32] rfl (by simp; omega)
    obtain ⟨a11, n11, c11, rfl⟩ := r11.sl
    obtain ⟨p1, p2, J11⟩ := J10.call k11 r11
    have g11 := (Below.heap_setCell W11 ⟨h + 1, 0, none⟩ (.slice a11 n11 c11) _ (by simp; omega)).trans (k11.keep gX (by decide))
    obtain ⟨Y1, hY1⟩ : ∃ X, W11.setCell ⟨h + 1, 0, none⟩ (.slice a11 n11 c11) = X := ⟨_, rfl⟩
    rw [hY1] at J11 g11
    obtain ⟨b1, hle1⟩ := J11.cell
    have w1 : Y1.cell? ⟨pp, 1, none⟩ = some (S wd) := by rw [cell_of g11]; rfl
    obtain ⟨v12, W12, hrun2, r12, k12⟩ := J11.row.str hle1 22 wd (by simp; omega)
    obtain ⟨a12, n12, c12, rfl⟩ := r12.sl
    obtain ⟨p3, p4, J12⟩ := J11.call k12 r12
    have g12 := (Below.heap_setCell W12 ⟨h + 1, 0, none⟩ (.slice a12 n12 c12) _ (by simp; omega)).trans (k12.keep g11 (by decide))
    obtain ⟨Y2, hY2⟩ : ∃ X, W12.setCell ⟨h + 1, 0, none⟩ (.slice a12 n12 c12) = X := ⟨_, rfl⟩
    rw [hY2] at J12 g12
    obtain ⟨b2, hle2⟩ := J12.cell
    have w2 : Y2.cell? ⟨pp, 2, none⟩ = some (.slice pa pt.length pc) := by rw [cell_of g12]; rfl
    obtain ⟨v13, W13, hrun3, r13, k13⟩ := J12.row.app hle2 22 pa pt pt.length pc rfl ((hmem.below J12.be).mono hle2) (by simp; omega)
    obtain ⟨a13, n13, c13, rfl⟩ := r13.sl
    obtain ⟨p5, p6, J13⟩ := J12.call k13 r13
    obtain ⟨Y3, hY3⟩ : ∃ X, W13.setCell ⟨h + 1, 0, none⟩ (.slice a13 n13 c13) = X := ⟨_, rfl⟩
    rw [hY3] at J13
    have HJ := hide J13
    clear J10 J11 J12 J13 k11 k12 k13 r11 r12 r13 gX hle hle1 hle2 hmem g11 g12 hg hby hpp hLL hl hs6 hxl hx hgl
    gi_wp2_with (first | (gi_at_builtin; refine wpListIn_app rfl _ _ 22 22 rfl 22 rfl _ _ (by rfl) (by rfl) _ _ hrun1 ?_; clear hrun1) | (gi_at_builtin; refine wpListIn_app rfl _ _ 22 9 rfl 22 rfl _ _ (by rfl) (by rfl) _ _ hrun2 ?_; clear hrun2) | (gi_at_builtin; refine wpListIn_app rfl _ _ 22 22 rfl 22 rfl _ _ (by rfl) (by rfl) _ _ hrun3 ?_; clear hrun3))
    refine ⟨(unhide HJ).ll, .slice a13 n13 c13, ?_⟩
    rw [unhide HE]
    exact (unhide HJ).put r
  · rintro e W7 ⟨rfl, v, J⟩
    refine ⟨⟨_, rfl⟩, J.ll, ?_⟩
    have J8 := J.put { r with state := .exhausted }
    obtain ⟨av, nv, cv, rfl⟩ := J.row.sl
    generalize W7.putObj (h + 3) (.loop { r with state := .exhausted }) = W8 at *
    obtain ⟨b0, -⟩ := J8.cell
    rw [List.take_length] at J8
    obtain ⟨a9, c9, e9, by9, -⟩ := J8.row.form
    have hcv := conv_by by9 _ c9 rfl
    rw [← e9] at hcv
    have HJ := hide J8
    clear J J8 htm hps has hbo hst hpe J0 hx6 e9 by9 hg hby hl hx hxl hgl hs6
    gi_wp2_with fail
    refine ⟨by simp, .inl ⟨_, _, rfl, run_takeDeferred (unhide HJ).dd, ?_⟩⟩
    refine ⟨S (hd ++ outs ps), by simp [results, Tryd.results30, go_sem], rfl, ?_⟩
    have b10 := below_put (unhide HJ).be (L := h + 2) (by omega) (.deferred none)
    first | exact b10 | (rw [hh]; exact b10)
/-- line. -/
theorem line_any (hd : List UInt8) (ps : List Pa) (hn : ps.length ≤ 1000) (x g : Nat) (w : World) (hx : w.cell? ⟨x, 0, none⟩ = some (.slice (some ⟨g, 0, none⟩) ps.length ps.length)) (hxl : x < w.heap.size) (hg : w.heap[g]? = some (.cells (prow ps).toArray 71))
    (hby : ∀ p ∈ ps, By w w.heap.size p.a p.t) (hl : hd.length + (outs ps).length ≤ 140737488350000) :
    Calls Tryd.prog 30 #[S hd, .func (.func 50) #[] #[Pt x 0]] w fun e w' => e = .returned (S (hd ++ outs ps)) ∧ Below w.heap.size w w' := callsIn_wide.1 (line_in hd ps hn x g w hx hxl hg hby hl)
end Go.Proofs.YtnkkfomekdipiaaDoor.Cl
