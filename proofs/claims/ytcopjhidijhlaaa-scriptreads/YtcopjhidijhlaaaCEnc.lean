/-
  The contract of Encode.
-/
import Derived.Test.YtcopjhidijhlaaaCRight
import Derived.Test.YtcopjhidijhlaaaCFlyR
namespace Go.Proofs.Ytcopjhidijhlaaa.Cl
open Go.RowKit Go.Shelf
attribute [local go_sem] Oper.semAt_some

def txt (t : List UInt8) : List UInt8 := be 2 t.length ++ t
def Cc.head (x : Cc) : List UInt8 := be 1 x.op ++ txt x.path ++ txt x.dst
def Cc.mid (x : Cc) : Nat → List UInt8
  | 0 => []
  | k + 1 => x.mid k ++ be 4 (x.num k)
/-- A call's bytes. -/
def Cc.enc (x : Cc) : List UInt8 := x.head ++ x.mid 5 ++ txt x.data
theorem txt_len (t : List UInt8) : (txt t).length = t.length + 2 := by simp [txt, be_len]; omega
theorem Cc.head_len (x : Cc) : x.head.length = 5 + x.path.length + x.dst.length := by simp [Cc.head, txt_len, be_len]; omega
theorem Cc.mid_len (x : Cc) (k : Nat) : (x.mid k).length = 4 * k := by
  induction k with
  | zero => rfl
  | succ k ih => simp [Cc.mid, ih, be_len]; omega
theorem Cc.enc_len (x : Cc) : x.enc.length = 27 + x.path.length + x.dst.length + x.data.length := by simp [Cc.enc, Cc.head_len, Cc.mid_len, txt_len]; omega
theorem Cc.right_ok {x : Cc} (h : x.right = 0) : (1 ≤ x.op ∧ x.op ≤ 20) ∧ x.okNs = true ∧ x.path.length ≤ 5000 ∧ x.dst.length ≤ 5000 ∧ x.data.length ≤ 2000 := by
  unfold Cc.right at h
  split at h
  · omega
  · split at h
    · omega
    · split at h
      · omega
      · rename_i h1 h2 h3
        exact ⟨by omega, by simpa using h2, by omega, by omega, by omega⟩
/-- What stays while the numbers are written. -/
abbrev eks (x : Cc) (d v : Value) (h p q : Nat) : List (Nat × Obj) := [(h, .cells (x.cs d) 27), (p, .cells #[v] 22), (q, .cells #[Pt h 0] 62), (q + 1, .deferred (some [])), (q + 3, .cells (five h) 63)]
set_option maxRecDepth 100000 in
set_option maxHeartbeats 1000000 in
theorem encode_no (x : Cc) (a : Option Addr) (k cap : Nat) (hk : k = x.data.length) (hr : x.right ≠ 0) (w : World) :
    CallsIn Fence.wide 5 Try.prog 30 #[.agg (x.cs (.slice a k cap))] w fun e w' => e = .returned (.tuple #[.slice none 0 0, I x.right]) ∧ Below w.heap.size w w' := by
  have hro : Fence.wide.round = none := rfl
  subst hk
  refine callsIn_of_wp_marks Try.func30 rfl trivial ?_ hro
  simp only [Try.ntmps30, List.size_toArray, List.length_cons, List.length_nil, Nat.reduceAdd, Nat.reduceSub, Array.replicate_succ, Array.replicate_zero, List.push_toArray, List.append_toArray, List.nil_append, List.cons_append]
  gi_wp2_with fail
  refine ⟨trivial, (callsIn_wide.2 (right_any x a _ cap rfl _)).mono ?_⟩
  rintro e w' ⟨rfl, hB⟩
  have HB := hide (((Below.refl w.heap.size w).alloc (Nat.le_refl _) (.cells (x.cs (.slice a x.data.length cap)) 27)).trans (hB.mono (by simp)))
  have hr2 : (x.right == 0) = false := by simpa using hr
  have hr3 : (x.right != 0) = true := by simpa using hr
  clear hB
  gi_wp2_with fail
  exact ⟨.tuple #[.slice none 0 0, I x.right], by simp [results, Try.results30, go_sem], rfl, unhide HB⟩
theorem Bw.sl {W : World} {B : Nat} {v : Value} {l : List UInt8} (h : Bw W B v l) : ∃ a n c, v = .slice a n c := by
  obtain ⟨a, c, e, -⟩ := h.form
  exact ⟨a, _, c, e⟩
/-- What lies while a call is written: the call, the box of the row, the row. -/
structure En (w W : World) (x : Cc) (d : Value) (h p : Nat) (v : Value) (l : List UInt8) : Prop where
  be : Below h w W
  c : W.heap[h]? = some (.cells (x.cs d) 27)
  b : W.heap[p]? = some (.cells #[v] 22)
  row : Bw W h v l
  hp : h < p
theorem En.cell {w W : World} {x : Cc} {d v : Value} {h p : Nat} {l : List UInt8} (E : En w W x d h p v l) : W.cell? ⟨p, 0, none⟩ = some v ∧ W.cell? ⟨h, 1, none⟩ = some (S x.path) ∧ W.cell? ⟨h, 2, none⟩ = some (S x.dst) ∧ W.cell? ⟨h, 8, none⟩ = some d ∧ h ≤ W.heap.size :=
  ⟨by rw [cell_of E.b]; rfl, by rw [cell_of E.c]; rfl, by rw [cell_of E.c]; rfl, by rw [cell_of E.c]; rfl, Nat.le_of_lt (lt_of_heap E.c)⟩
theorem En.call {w W W' : World} {x : Cc} {d v v' : Value} {h p : Nat} {l l' : List UInt8} (E : En w W x d h p v l) (k : Kp h W W') (r : Bw W' h v' l') : W'.cell? ⟨p, 0, none⟩ = some v ∧ W'.frozen? ⟨p, 0, none⟩ = false ∧ En w (W'.setCell ⟨p, 0, none⟩ v') x d h p v' l' := by
  have b' := k.keep E.b (by decide)
  have c' := k.keep E.c (by decide)
  have hp := E.hp
  exact ⟨by rw [cell_of b']; rfl, frozen_of b' 0, (E.be.trans k.be).setCell (p := ⟨p, 0, none⟩) (Nat.le_of_lt hp) _, (Below.heap_setCell _ _ _ _ (by simp; omega)).trans c', by rw [heap_set b']; simp, r.set b' (by decide) v', hp⟩
theorem En.below {w W W' : World} {x : Cc} {d v : Value} {h p : Nat} {l : List UInt8} (E : En w W x d h p v l) (k : Below W.heap.size W W') : En w W' x d h p v l :=
  ⟨E.be.trans (k.mono (Nat.le_of_lt (lt_of_heap E.c))), (k.block _ (lt_of_heap E.c)).trans E.c, (k.block _ (lt_of_heap E.b)).trans E.b, E.row.below k, E.hp⟩
theorem En.putO {w W : World} {x : Cc} {d v : Value} {h p L : Nat} {l : List UInt8} (E : En w W x d h p v l) {o : Obj} (hL : W.heap[L]? = some o) (ho : ∀ c t f, o ≠ .cells c t f) (hh : h ≤ L) (o' : Obj) : En w (W.putObj L o') x d h p v l := by
  have n1 : h ≠ L := by rintro rfl; rw [E.c] at hL; exact ho _ _ _ (Option.some.inj hL).symm
  have n2 : p ≠ L := by rintro rfl; rw [E.b] at hL; exact ho _ _ _ (Option.some.inj hL).symm
  exact ⟨below_put E.be hh _, (World.putObj_heap_other n1).trans E.c, (World.putObj_heap_other n2).trans E.b, E.row.putO hL (fun c f => ho c 5 f) _, E.hp⟩
theorem En.drew {w W : World} {x : Cc} {d v : Value} {h p : Nat} {l : List UInt8} (E : En w W x d h p v l) : En w W.drew x d h p v l := ⟨below_drew E.be, E.c, E.b, E.row, E.hp⟩
/-- What lies while the numbers are gone over. -/
structure Ej (w W : World) (r : Loop) (x : Cc) (d v : Value) (h p q i : Nat) : Prop where
  l : W.heap[q + 2]? = some (.loop r)
  dd : W.heap[q + 1]? = some (.deferred (some []))
  xx : W.heap[q]? = some (.cells #[Pt h 0] 62)
  ff : W.heap[q + 3]? = some (.cells (five h) 63)
  en : En w W x d h p v (x.head ++ x.mid i)
  pq : p < q
theorem Ej.put {w W : World} {r : Loop} {x : Cc} {d v : Value} {h p q i : Nat} (J : Ej w W r x d v h p q i) (r' : Loop) : Ej w (W.putObj (q + 2) (.loop r')) r' x d v h p q i :=
  ⟨World.putObj_heap_same (lt_of_heap J.l), (World.putObj_heap_other (by omega)).trans J.dd, (World.putObj_heap_other (by omega)).trans J.xx, (World.putObj_heap_other (by omega)).trans J.ff, J.en.putO J.l (by simp) (by have := J.en.hp; have := J.pq; omega) _, J.pq⟩
theorem Ej.drew {w W : World} {r : Loop} {x : Cc} {d v : Value} {h p q i : Nat} (J : Ej w W r x d v h p q i) : Ej w W.drew r x d v h p q i := ⟨J.l, J.dd, J.xx, J.ff, J.en.drew, J.pq⟩
theorem Ej.call {w W W' : World} {r : Loop} {x : Cc} {d v v' : Value} {h p q i : Nat} (J : Ej w W r x d v h p q i) (k : Kp h W W') (row : Bw W' h v' (x.head ++ x.mid i ++ be 4 (x.num i))) : W'.cell? ⟨p, 0, none⟩ = some v ∧ W'.frozen? ⟨p, 0, none⟩ = false ∧ Ej w (W'.setCell ⟨p, 0, none⟩ v') r x d v' h p q (i + 1) := by
  obtain ⟨h1, h2, h3⟩ := J.en.call k row
  have hp := J.en.hp
  have hq := J.pq
  refine ⟨h1, h2, ⟨(Below.heap_setCell _ _ _ _ (by simp; omega)).trans (k.keepO J.l (by simp)), (Below.heap_setCell _ _ _ _ (by simp; omega)).trans (k.keepO J.dd (by simp)), (Below.heap_setCell _ _ _ _ (by simp; omega)).trans (k.keep J.xx (by decide)), (Below.heap_setCell _ _ _ _ (by simp; omega)).trans (k.keep J.ff (by decide)), ?_, hq⟩⟩
  rw [List.append_assoc] at h3
  exact h3
set_option maxRecDepth 100000 in
set_option maxHeartbeats 1000000 in
theorem encode_yes (x : Cc) (a : Option Addr) (k cap : Nat) (hk : k = x.data.length) (hr : x.right = 0) (w : World) (hdat : By w w.heap.size a x.data) :
    CallsIn Fence.wide 5 Try.prog 30 #[.agg (x.cs (.slice a k cap))] w fun e w' => ∃ v, e = .returned (.tuple #[v, I 0]) ∧ Bw w' w.heap.size v x.enc ∧ Below w.heap.size w w' := by
  have hro : Fence.wide.round = none := rfl
  subst hk
  obtain ⟨-, -, hl1, hl2, hl3⟩ := Cc.right_ok hr
  refine callsIn_of_wp_marks Try.func30 rfl trivial ?_ hro
  simp only [Try.ntmps30, List.size_toArray, List.length_cons, List.length_nil, Nat.reduceAdd, Nat.reduceSub, Array.replicate_succ, Array.replicate_zero, List.push_toArray, List.append_toArray, List.nil_append, List.cons_append]
  gi_wp2_with fail
  refine ⟨trivial, (callsIn_wide.2 (right_any x a _ cap rfl _)).mono ?_⟩
  rintro e w1 ⟨rfl, hB⟩
  obtain ⟨d, hd⟩ : ∃ d : Value, d = .slice a x.data.length cap := ⟨_, rfl⟩
  rw [← hd] at hB ⊢
  replace hd := hide hd
  obtain ⟨V, hV, hsz, g0, hB1⟩ := alloc1 w (.cells (x.cs d) 27)
  rw [hV] at hB
  rw [hr]
  have K1 : Kp w.heap.size w w1 := Kp.of_below (hB1.trans (hB.mono (by omega))) (Nat.le_refl _)
  have k1 := (hB.block _ (by omega)).trans g0
  have hs1 : w.heap.size < w1.heap.size := by have := hB.size; omega
  have Hdat := hide hdat
  clear hB hB1 hV hsz g0 hdat
  generalize hh : w.heap.size = h at *
  have c0 : w1.cell? ⟨h, 0, none⟩ = some (I x.op) := by rw [cell_of k1]; rfl
  gi_wp2_with fail
  refine ⟨trivial, (callsIn_wide.2 (putN_any h _ [] x.op 1 (by omega) _ (Bw.nil _ _) (by omega) (by simp))).mono ?_⟩
  rintro e w2 ⟨v2, rfl, h2, kk2⟩
  obtain ⟨a2, n2, x2, rfl⟩ := h2.sl
  rw [List.nil_append] at h2
  have K2 := K1.trans kk2
  have k2 := kk2.keep k1 (by decide)
  have hs2 : h < w2.heap.size := lt_of_heap k2
  clear k1 kk2 K1 c0 hs1
  obtain ⟨X, hX, hsX, gX, hBX⟩ := alloc1 w2 (.cells #[.slice none 0 0] 22)
  have E1 : En w (X.setCell ⟨w2.heap.size, 0, none⟩ (.slice a2 n2 x2)) x d h w2.heap.size (.slice a2 n2 x2) (be 1 x.op) :=
    ⟨(K2.be.trans (hBX.mono (by omega))).setCell (p := ⟨w2.heap.size, 0, none⟩) (by show h ≤ w2.heap.size; omega) _, (Below.heap_setCell _ _ _ _ (by simp; omega)).trans ((hBX.block _ (by omega)).trans k2), by rw [heap_set gX]; simp, (h2.below hBX).set gX (by decide) _, hs2⟩
  have cX : X.cell? ⟨w2.heap.size, 0, none⟩ = some (.slice none 0 0) := by rw [cell_of gX]; rfl
  have fX : X.frozen? ⟨w2.heap.size, 0, none⟩ = false := frozen_of gX 0
  generalize hp : w2.heap.size = p at *
  obtain ⟨b0, c1, -⟩ := E1.cell
  have HE1 := hide E1
  clear K2 k2 h2 E1 hBX gX hs2 hsX
  gi_wp2_with fail
  generalize X.setCell ⟨p, 0, none⟩ (.slice a2 n2 x2) = W2 at *
  refine ⟨trivial, (callsIn_wide.2 (putS_any h _ (be 1 x.op) x.path _ (unhide HE1).row (unhide HE1).cell.2.2.2.2 (by rw [be_len]; omega))).mono ?_⟩
  rintro e w3 ⟨v3, rfl, h3, kk3⟩
  obtain ⟨a3, n3, x3, rfl⟩ := h3.sl
  obtain ⟨cX, fX, E1⟩ := (unhide HE1).call kk3 h3
  obtain ⟨b0, -, c2, -⟩ := E1.cell
  have HE2 := hide E1
  clear HE1 kk3 h3 E1 c1
  gi_wp2_with fail
  generalize w3.setCell ⟨p, 0, none⟩ (.slice a3 n3 x3) = W3 at *
  refine ⟨trivial, (callsIn_wide.2 (putS_any h _ (be 1 x.op ++ (be 2 x.path.length ++ x.path)) x.dst _ (unhide HE2).row (unhide HE2).cell.2.2.2.2 (by simp [be_len]; omega))).mono ?_⟩
  rintro e w4 ⟨v4, rfl, h4, kk4⟩
  obtain ⟨a4, n4, x4, rfl⟩ := h4.sl
  obtain ⟨cX, fX, E1⟩ := (unhide HE2).call kk4 h4
  have HE3 : Hid (En w (w4.setCell ⟨p, 0, none⟩ (.slice a4 n4 x4)) x d h p (.slice a4 n4 x4) x.head) := hide E1
  clear HE2 kk4 h4 E1 c2
  gi_wp2_with fail
  generalize w4.setCell ⟨p, 0, none⟩ (.slice a4 n4 x4) = W4 at *
  refine ⟨trivial, (callsIn_wide.2 (numbers_any h _ _ rfl)).mono ?_⟩
  rintro e w' ⟨rfl, rfl⟩
  obtain ⟨W5, hW5, hs5, g5, hB5⟩ := alloc1 W4 (.cells #[Pt h 0] 62)
  rw [hW5]
  have HE4 := hide ((unhide HE3).below hB5)
  have hq : p < W4.heap.size := lt_of_heap (unhide HE3).b
  have hhp := (unhide HE3).hp
  clear HE3 hW5 hB5
  generalize W4.heap.size = q at *
  gi_wp2_with fail
  refine wpIn_range_own hro (by omega) (gf := 44) (lb := #[Pt q 0]) rfl trivial (enters_of Try.func44 (by kernel_rfl) rfl) ?_
  intro r hF hst hpe htm hps has hbo
  obtain ⟨L1, D1, hB2, hs6⟩ := setup W5 r
  rw [hs5] at L1 D1 hs6 ⊢
  have E5 := (unhide HE4).below hB2
  have q5 := (hB2.block q (by omega)).trans g5
  generalize ((W5.alloc (.deferred (some []))).alloc (.loop r)) = W6 at *
  clear HE4 hB2 g5
  have J0 : ∀ W, Below W6.heap.size W6 W → W.heap[q + 3]? = some (.cells (five h) 63) → Ej w W r x d (.slice a4 n4 x4) h p q 0 := fun W g hf =>
    ⟨(g.block _ (by omega)).trans L1, (g.block _ (by omega)).trans D1, (g.block _ (by omega)).trans q5, hf, by simpa [Cc.mid] using E5.below g, hq⟩
  have hx0 : W6.cell? ⟨q, 0, none⟩ = some (Pt h 0) := by rw [cell_of q5]; rfl
  clear E5 q5 L1 D1
  refine (nums_iter (q + 2) q h W6 (fun i W => ∃ v, Ej w W r x d v h p q i) (fun _ => False) hx0 ?_ (fun i W' ⟨v, J⟩ => by rw [show W6.heap.size = q + 3 by omega]; exact J.ff) ?_).mono ?_
  · obtain ⟨V2, hV2, hsV, gV, hBV⟩ := alloc1 W6 (.cells (five h) 63)
    rw [hV2]
    rw [show W6.heap.size = q + 3 by omega] at gV
    exact ⟨_, (J0 V2 hBV gV).drew⟩
  · rintro i W7 hi ⟨v, J⟩
    refine yield_own hF hst hpe htm hps has hbo rfl J.l ?_
    clear htm hps has hbo hst hpe J0
    intro rb
    gi_wp2
    refine ⟨J.l, ?_⟩
    have J4 := (J.put rb).drew
    obtain ⟨av, nv, xv, rfl⟩ := J.en.row.sl
    generalize W7.putObj (q + 2) (.loop rb) = W8 at *
    gi_wp2_with fail
    refine wpIn_region_round (by kernel_rfl) (by kernel_rfl) ?_
    generalize W8.drew = X8 at *
    have c0 : X8.cell? ⟨h, 3 + i, none⟩ = some (I (x.num i)) := by rw [cell_of J4.en.c]; exact x.num_get d hi
    have b0 := J4.en.cell.1
    have HJ := hide J4
    clear J J4 hx0
    refine wpAnyIn_take (i := 1) (v := ?_) rfl rfl (by kernel_rfl) (by kernel_rfl) (by kernel_rfl) (fun _ _ _ h => h) ⟨Or.inl ⟨by rfl, ?hy⟩, fun _ => rfl⟩ ?_
    case hy => intro w; go_simp; all_goals with_reducible rfl
    refine wpAnyIn_take (i := 2) (v := ?_) rfl rfl (by kernel_rfl) (by kernel_rfl) (by kernel_rfl) (fun _ _ _ h => h) ⟨Or.inl ⟨by rfl, ?hy⟩, fun _ => rfl⟩ ?_
    case hy => intro w; go_simp; all_goals with_reducible rfl
    refine wpAnyIn_ready (rs := [0, 3]) (by kernel_rfl) (by simp) ?_
    refine AllReadyIn.cons rfl (fun K hK => ?_) ?_
    · go_simp
      refine hK _ _ ?_
      clear hK K
      refine wpAnyIn_ready (rs := [3]) (by kernel_rfl) (by simp) ?_
      refine AllReadyIn.cons rfl (fun K hK => ?_) ?_
      · go_simp
        refine hK _ _ ?_
        clear hK K
        refine wpAnyIn_ready (rs := [4]) (by kernel_rfl) (by simp) ?_
        refine AllReadyIn.cons rfl (fun K hK => ?_) ?_
        · go_simp
          refine ⟨trivial, (callsIn_wide.2 (putN_any h _ (x.head ++ x.mid i) (x.num i) 4 (by omega) _ (unhide HJ).en.row (unhide HJ).en.cell.2.2.2.2 (by simp [Cc.head_len, Cc.mid_len]; omega))).mono ?_⟩
          rintro e w7 ⟨v7, rfl, h7, kk7⟩
          obtain ⟨a7, n7, x7, rfl⟩ := h7.sl
          obtain ⟨c7, f7, J7⟩ := (unhide HJ).call kk7 h7
          have HJ7 := hide J7
          clear kk7 h7 J7
          refine hK _ _ ?_
          clear hK K
          refine wpAnyIn_ready (rs := [5]) (by kernel_rfl) (by simp) ?_
          refine AllReadyIn.cons rfl (fun K hK => ?_) ?_
          · go_simp
            refine hK _ _ ?_
            clear hK K
            refine wpAnyIn_done (by kernel_rfl) ?_ _
            go_simp
            exact ⟨rfl, (unhide HJ7).l, .inl ⟨trivial, _, (unhide HJ7).put r⟩⟩
          exact AllReadyIn.nil
        exact AllReadyIn.nil
      exact AllReadyIn.nil
    refine AllReadyIn.cons rfl (fun K hK => ?_) ?_
    · go_simp
      refine hK _ _ ?_
      clear hK K
      refine wpAnyIn_ready (rs := [0]) (by kernel_rfl) (by simp) ?_
      refine AllReadyIn.cons rfl (fun K hK => ?_) ?_
      · go_simp
        refine hK _ _ ?_
        clear hK K
        refine wpAnyIn_ready (rs := [4]) (by kernel_rfl) (by simp) ?_
        refine AllReadyIn.cons rfl (fun K hK => ?_) ?_
        · go_simp
          refine ⟨trivial, (callsIn_wide.2 (putN_any h _ (x.head ++ x.mid i) (x.num i) 4 (by omega) _ (unhide HJ).en.row (unhide HJ).en.cell.2.2.2.2 (by simp [Cc.head_len, Cc.mid_len]; omega))).mono ?_⟩
          rintro e w7 ⟨v7, rfl, h7, kk7⟩
          obtain ⟨a7, n7, x7, rfl⟩ := h7.sl
          obtain ⟨c7, f7, J7⟩ := (unhide HJ).call kk7 h7
          have HJ7 := hide J7
          clear kk7 h7 J7
          refine hK _ _ ?_
          clear hK K
          refine wpAnyIn_ready (rs := [5]) (by kernel_rfl) (by simp) ?_
          refine AllReadyIn.cons rfl (fun K hK => ?_) ?_
          · go_simp
            refine hK _ _ ?_
            clear hK K
            refine wpAnyIn_done (by kernel_rfl) ?_ _
            go_simp
            exact ⟨rfl, (unhide HJ7).l, .inl ⟨trivial, _, (unhide HJ7).put r⟩⟩
          exact AllReadyIn.nil
        exact AllReadyIn.nil
      exact AllReadyIn.nil
    exact AllReadyIn.nil
  · rintro e W7 ⟨rfl, ⟨v, J⟩ | hno⟩
    · refine ⟨⟨_, rfl⟩, J.l, ?_⟩
      have J8 := J.put { r with state := .exhausted }
      obtain ⟨av, nv, xv, rfl⟩ := J.en.row.sl
      generalize W7.putObj (q + 2) (.loop { r with state := .exhausted }) = W8 at *
      obtain ⟨b0, -, -, c8, hle⟩ := J8.en.cell
      rw [unhide hd] at c8
      have HJ := hide J8
      clear J J8 htm hps has hbo hst hpe J0 hx0
      gi_wp2_with fail
      refine ⟨trivial, (callsIn_wide.2 (putB_any h _ (x.head ++ x.mid 5) x.data a _ cap rfl _ (unhide HJ).en.row hle ((unhide Hdat).below (unhide HJ).en.be) (by simp [Cc.head_len, Cc.mid_len]; omega))).mono ?_⟩
      rintro e w9 ⟨v9, rfl, h9, kk9⟩
      have d9 := kk9.keepO (unhide HJ).dd (by simp)
      have be9 := (unhide HJ).en.be.trans kk9.be
      have r9 : Bw w9 h v9 x.enc := by simpa [Cc.enc, txt] using h9
      clear kk9 h9 HJ
      gi_wp2_with fail
      refine ⟨by simp, .inl ⟨_, _, rfl, run_takeDeferred d9, ?_⟩⟩
      refine ⟨.tuple #[v9, I 0], by simp [results, Try.results30, go_sem], v9, rfl, ?_, ?_⟩
      · have r10 := r9.putO d9 (by simp) (.deferred none)
        first | exact r10 | (rw [hh]; exact r10)
      · have b10 := below_put be9 (L := q + 1) (by omega) (.deferred none)
        first | exact b10 | (rw [hh]; exact b10)
    · exact hno.elim
/-- Encode. -/
theorem encode_n (x : Cc) (a : Option Addr) (k cap : Nat) (hk : k = x.data.length) (hr : x.right ≠ 0) (w : World) :
    Calls Try.prog 30 #[.agg (x.cs (.slice a k cap))] w fun e w' => e = .returned (.tuple #[.slice none 0 0, I x.right]) ∧ Below w.heap.size w w' := callsIn_wide.1 (encode_no x a k cap hk hr w)
theorem encode_y (x : Cc) (a : Option Addr) (k cap : Nat) (hk : k = x.data.length) (hr : x.right = 0) (w : World) (hdat : By w w.heap.size a x.data) :
    Calls Try.prog 30 #[.agg (x.cs (.slice a k cap))] w fun e w' => ∃ v, e = .returned (.tuple #[v, I 0]) ∧ Bw w' w.heap.size v x.enc ∧ Below w.heap.size w w' := callsIn_wide.1 (encode_yes x a k cap hk hr w hdat)
end Go.Proofs.Ytcopjhidijhlaaa.Cl
