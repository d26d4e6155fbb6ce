/-
  The document's own tree: Read, Write and Cut.
-/
import Derived.Test.YtlngeaacjbdmhaaGreatQp22
import Derived.Test.YtlngeaacjbdmhaaGreatQp34
import Derived.Test.YtlngeaacjbdmhaaGreatQp15
import Derived.Test.YtlngeaacjbdmhaaGreatQp19
import Derived.Test.YtlngeaacjbdmhaaGreatQp32
namespace Go.Proofs.YtlngeaacjbdmhaaGreat.Rf
open Go.RowKit Go.Maps
attribute [local go_sem ↓] Go.wp_at_zero Go.wp_at_succ
section
variable {lo N : Nat} {W W' : World} {r : Nat} {T : Tr} {p : Nat} {Lv : Value} {nb : Int → Nat} {ev : Int → Value} {uv : Int → Int} {B : Nat}
theorem file_wf (hw : Wk B T) (hB : B ≤ 900) (n : Int) : (kl (T.fileOf n)).wf = true := by
  simp only [Tr.fileOf]
  cases hx : T.nd n with
  | none => exact wf_of (by simp)
  | some x => exact wf_of (by have := hw.fil n x hx; simp only; omega)
set_option maxRecDepth 100000 in
set_option maxHeartbeats 1000000 in
theorem dfile_any (h : DtI lo N W r T p Lv nb ev uv) (hw : Wk B T) (hB : B ≤ 900) (n : Int) (hn : (kl n).wf = true) :
    Calls Tryz.prog 139 #[P0 r, I n] W fun e w' => e = .returned (I (T.fileOf n)) ∧ w' = W := by
  cases hx : T.nd n with
  | none =>
    have e : T.fileOf n = 0 := by simp [Tr.fileOf, hx]
    rw [e]
    have HA := hide (at_any h hw hB n hn (.pointer none) (by rw [atV, hx]))
    clear h hw hx e
    go_enter Tryz.func139, Tryz.ntmps139
    go_wp2_with fail
    refine (unhide HA).mono ?_
    rintro e w1 ⟨rfl, rfl⟩
    go_wp2_with fail
    go_ret
    exact ⟨rfl, rfl⟩
  | some x =>
    have e : T.fileOf n = x.file := by simp [Tr.fileOf, hx]
    rw [e]
    have HA := hide (at_any h hw hB n hn (P0 (nb n)) (by rw [atV, hx]))
    obtain ⟨-, c1, -, -, -, -, -, -, -, -, -, -, c12, -⟩ := dcells (h.hn n x hx).1
    have hf := (hw.fil n x hx).2.2
    generalize nb n = b at *
    obtain ⟨K, hK⟩ : ∃ K, K = x.kind := ⟨_, rfl⟩
    obtain ⟨F, hF⟩ : ∃ F, F = x.file := ⟨_, rfl⟩
    rw [← hK] at c1 hf
    rw [← hF] at c12 hf ⊢
    clear h hw hx e hK hF
    by_cases hk : K = 2
    · subst hk
      clear hf
      go_enter Tryz.func139, Tryz.ntmps139
      go_wp2_with fail
      refine (unhide HA).mono ?_
      rintro e w1 ⟨rfl, rfl⟩
      go_wp2_with fail
      go_ret
      exact ⟨rfl, rfl⟩
    · have h0 := hf hk
      subst h0
      clear hf
      have hk1 : (K == 2) = false := by simpa using hk
      have hk2 : (K != 2) = true := by simpa using hk
      go_enter Tryz.func139, Tryz.ntmps139
      go_wp2_with fail
      refine (unhide HA).mono ?_
      rintro e w1 ⟨rfl, rfl⟩
      go_wp2_with fail
      go_ret
      exact ⟨rfl, rfl⟩
set_option maxRecDepth 100000 in
set_option maxHeartbeats 1000000 in
theorem dWrite_D (hq : Dq lo N W r T) (hw : Wk B T) (hB : B ≤ 900) (ht : T.pool.left + total T.pool.fs = N) (hN : N ≤ 256) (n : Int) (hn : (kl n).wf = true) (a : Int) {u : World} (ad : Option Addr) (m cap : Nat) (g : Nat → Int) (hin : In u ad m cap g) (hu0 : lo = u.heap.size) (hbl : Below lo u W) (hm : m ≤ 1100) :
    Calls Tryz.prog 77 #[P0 r, I n, I a, .slice ad m cap] W fun e w' => e = .returned (I (writeE T.pool (T.fileOf n) a m)) ∧ De lo N W w' r { T with pool := writeS T.pool (T.fileOf n) a m g } := by
  obtain ⟨p, Lv, nb, ev, uv, h, hu⟩ := hq
  obtain ⟨-, c1, -, cf⟩ := h.cells
  have hfw := file_wf hw hB n
  have hpl : T.pool.fs.length ≤ 1000000 := by have := hw.pol; omega
  have HW : Hid (∀ k, Calls Tryz.prog 138 #[P0 p, I (T.fileOf n), I a, .slice ad m cap] (W.drewN k) fun e w' => e = .returned (I (writeE T.pool (T.fileOf n) a m)) ∧ Hid (De lo N W w' r { T with pool := writeS T.pool (T.fileOf n) a m g })) := fun k => by
    have hk := h.below (below_n W k)
    refine (Rb.rwrite_any hk.pl ht hN (T.fileOf n) a hfw hpl ad m cap g hin hu0 (below_dn hbl k) hm).mono ?_
    rintro e w' ⟨e1, P1, nx⟩
    obtain ⟨T1, X1⟩ := hk.pool P1 nx
    exact ⟨e1, ⟨p, Lv, nb, ev, uv, T1, hu⟩, (Rx.of_below (below_n W k) h.bd.2.1).trans X1⟩
  have HF : Hid (∀ k, Calls Tryz.prog 139 #[P0 r, I n] (W.drewN k) fun e w' => e = .returned (I (T.fileOf n)) ∧ ∃ j, w' = W.drewN j) := fun k => (dfile_any (h.below (below_n W k)) hw hB n hn).mono fun e w' ⟨e1, e2⟩ => ⟨e1, k, e2⟩
  obtain ⟨fl, hfl⟩ : ∃ fl, fl = T.fileOf n := ⟨_, rfl⟩
  obtain ⟨E, hE⟩ : ∃ E, E = writeE T.pool (T.fileOf n) a m := ⟨_, rfl⟩
  rw [← hE] at HW ⊢
  rw [← hfl] at HW HF ⊢
  clear h hu hw hfl hE hin hfw hpl ht hu0 hbl
  go_enter Tryz.func77, Tryz.ntmps77
  go_wp2_with fail
  go_region_with (first
    | (go_at_call 139; refine (unhide HF 1).mono ?_; rintro e w1 ⟨rfl, j, rfl⟩)
    | (go_at_call 138; refine (unhide HW _).mono ?_; rintro e w2 ⟨rfl, F1⟩))
  all_goals
    go_wp2_with fail
    go_ret
    exact ⟨rfl, unhide F1⟩
set_option maxRecDepth 100000 in
set_option maxHeartbeats 1000000 in
theorem dCut_D (hq : Dq lo N W r T) (hw : Wk B T) (hB : B ≤ 900) (n : Int) (hn : (kl n).wf = true) (a : Int) :
    Calls Tryz.prog 79 #[P0 r, I n, I a] W fun e w' => e = .returned (I (cutE (T.pool.get (T.fileOf n)) a)) ∧ De lo N W w' r { T with pool := cutS T.pool (T.fileOf n) a } := by
  obtain ⟨p, Lv, nb, ev, uv, h, hu⟩ := hq
  obtain ⟨-, c1, -, cf⟩ := h.cells
  have hfw := file_wf hw hB n
  have hpl : T.pool.fs.length ≤ 1000000 := by have := hw.pol; omega
  have HW : Hid (∀ k, Calls Tryz.prog 141 #[P0 p, I (T.fileOf n), I a] (W.drewN k) fun e w' => e = .returned (I (cutE (T.pool.get (T.fileOf n)) a)) ∧ Hid (De lo N W w' r { T with pool := cutS T.pool (T.fileOf n) a })) := fun k => by
    have hk := h.below (below_n W k)
    refine (Rb.rcut_any hk.pl (T.fileOf n) a hfw hpl).mono ?_
    rintro e w' ⟨e1, P1, nx⟩
    obtain ⟨T1, X1⟩ := hk.pool P1 nx
    exact ⟨e1, ⟨p, Lv, nb, ev, uv, T1, hu⟩, (Rx.of_below (below_n W k) h.bd.2.1).trans X1⟩
  have HF : Hid (∀ k, Calls Tryz.prog 139 #[P0 r, I n] (W.drewN k) fun e w' => e = .returned (I (T.fileOf n)) ∧ ∃ j, w' = W.drewN j) := fun k => (dfile_any (h.below (below_n W k)) hw hB n hn).mono fun e w' ⟨e1, e2⟩ => ⟨e1, k, e2⟩
  obtain ⟨fl, hfl⟩ : ∃ fl, fl = T.fileOf n := ⟨_, rfl⟩
  rw [← hfl] at HW HF ⊢
  obtain ⟨E, hE⟩ : ∃ E, E = cutE (T.pool.get fl) a := ⟨_, rfl⟩
  rw [← hE] at HW ⊢
  clear h hu hw hfl hE hfw hpl
  go_enter Tryz.func79, Tryz.ntmps79
  go_wp2_with fail
  go_region_with (first
    | (go_at_call 139; refine (unhide HF 1).mono ?_; rintro e w1 ⟨rfl, j, rfl⟩)
    | (go_at_call 141; refine (unhide HW _).mono ?_; rintro e w2 ⟨rfl, F1⟩))
  all_goals
    go_wp2_with fail
    go_ret
    exact ⟨rfl, unhide F1⟩
set_option maxRecDepth 100000 in
set_option maxHeartbeats 1000000 in
theorem dRead_D (hq : Dq lo N W r T) (hw : Wk B T) (hB : B ≤ 900) (n : Int) (hn : (kl n).wf = true) (a k : Int) :
    Calls Tryz.prog 95 #[P0 r, I n, I a, I k] W fun e w' => ∃ v, e = .returned (.tuple #[v, I (readE (T.pool.get (T.fileOf n)) a k)]) ∧ Hid ((convert 34 9 v).run Tryz.prog w' = .ok (.string (str (byteO (T.pool.get (T.fileOf n))) a.toNat (readM (T.pool.get (T.fileOf n)) a k))) w') ∧ Hid (Below W.heap.size W w') := by
  obtain ⟨p, Lv, nb, ev, uv, h, hu⟩ := hq
  obtain ⟨-, c1, -, cf⟩ := h.cells
  have hfw := file_wf hw hB n
  have hpl : T.pool.fs.length ≤ 1000000 := by have := hw.pol; omega
  have HW : Hid (∀ j, Calls Tryz.prog 147 #[P0 p, I (T.fileOf n), I a, I k] (W.drewN j) fun e w' => ∃ v, e = .returned (.tuple #[v, I (readE (T.pool.get (T.fileOf n)) a k)]) ∧ Hid ((convert 34 9 v).run Tryz.prog w' = .ok (.string (str (byteO (T.pool.get (T.fileOf n))) a.toNat (readM (T.pool.get (T.fileOf n)) a k))) w') ∧ Hid (Below W.heap.size W w')) := fun j => by
    have hk := h.below (below_n W j)
    refine (Rb.rread_any hk.pl (T.fileOf n) a k hfw hpl _ rfl _ rfl).mono ?_
    rintro e w' ⟨v, e1, S1, B1⟩
    exact ⟨v, e1, S1, (below_n W j).trans (unhide B1)⟩
  have HF : Hid (∀ k, Calls Tryz.prog 139 #[P0 r, I n] (W.drewN k) fun e w' => e = .returned (I (T.fileOf n)) ∧ ∃ j, w' = W.drewN j) := fun k => (dfile_any (h.below (below_n W k)) hw hB n hn).mono fun e w' ⟨e1, e2⟩ => ⟨e1, k, e2⟩
  obtain ⟨fl, hfl⟩ : ∃ fl, fl = T.fileOf n := ⟨_, rfl⟩
  rw [← hfl] at HW HF ⊢
  obtain ⟨E, hE⟩ : ∃ E, E = readE (T.pool.get fl) a k := ⟨_, rfl⟩
  obtain ⟨tx, htx⟩ : ∃ tx, tx = str (byteO (T.pool.get fl)) a.toNat (readM (T.pool.get fl) a k) := ⟨_, rfl⟩
  rw [← hE, ← htx] at HW ⊢
  clear h hu hw hfl hE htx hfw hpl
  go_enter Tryz.func95, Tryz.ntmps95
  go_wp2_with fail
  go_region_with (first
    | (go_at_call 139; refine (unhide HF 1).mono ?_; rintro e w1 ⟨rfl, j, rfl⟩)
    | (go_at_call 147; refine (unhide HW _).mono ?_; rintro e w2 ⟨v, rfl, F1, F2⟩))
  all_goals
    go_wp2_with fail
    go_ret2
    exact ⟨v, rfl, F1, F2⟩
end
end Go.Proofs.YtlngeaacjbdmhaaGreat.Rf

namespace Go.Proofs.YtlngeaacjbdmhaaGreat.Rf
open Go.RowKit Go.Maps
attribute [local go_sem ↓] Go.wp_at_zero Go.wp_at_succ
section
variable {lo N : Nat} {W W' : World} {r : Nat} {T : Tr} {p : Nat} {Lv : Value} {nb : Int → Nat} {ev : Int → Value} {uv : Int → Int} {B : Nat}
theorem Uq.leave (hu : Uq T uv) (n : Int) : Uq (T.leave n) uv := by
  unfold Tr.leave
  split
  · split
    · exact hu
    · intro k z hz
      obtain ⟨z1, z2⟩ := Tr.dir_some.1 hz
      by_cases e : k = n
      · subst e
        have z1' : (T.set k none).nd k = some z := z1
        rw [Tr.set_same] at z1'
        cases z1'
      · have z1' : (T.set n none).nd k = some z := z1
        rw [Tr.set_other _ _ e] at z1'
        have h2 : T.dir k = some z := Tr.dir_some.2 ⟨z1', z2⟩
        rw [hu k z h2, Tr.up, Tr.up, hz, h2]
  · exact hu
set_option maxRecDepth 100000 in
set_option maxHeartbeats 1000000 in
theorem dLoose_D (hq : Dq lo N W r T) (hw : Wf B T) (hB : B ≤ 890) (n : Int) (hn : (kl n).wf = true) :
    Calls Tryz.prog 73 #[P0 r, I n] W fun e w' => e = .returned (I (T.looseE n)) ∧ De lo N W w' r (T.loose n) := by
  have hq' := hq.de
  obtain ⟨p, Lv, nb, ev, uv, h, hu⟩ := hq
  cases hx : T.nd n with
  | none =>
    have HA := hide (at_any h hw.k (by omega) n hn (.pointer none) (by rw [atV, hx]))
    have HR := hide hq'
    have e1 : T.looseE n = 1 := by rw [Tr.looseE, hx]
    have e2 : T.loose n = T := by rw [Tr.loose, hx]
    rw [e1, e2]
    clear h hw hx e1 e2 hq' hu
    go_enter Tryz.func73, Tryz.ntmps73
    go_wp2_with fail
    refine (unhide HA).mono ?_
    rintro e w1 ⟨rfl, hw1⟩
    rw [hw1]
    clear hw1
    go_wp2_with fail
    go_ret
    exact ⟨rfl, unhide HR⟩
  | some x =>
    have HA := hide (at_any h hw.k (by omega) n hn (P0 (nb n)) (by rw [atV, hx]))
    obtain ⟨-, -, -, -, -, -, -, -, -, -, -, c11, -, cf⟩ := dcells (h.hn n x hx).1
    by_cases h0 : x.holds = 0
    · have HR := hide hq'
      have e1 : T.looseE n = 16 := by rw [Tr.looseE, hx]; simp [h0]
      have e2 : T.loose n = T := by rw [Tr.loose, hx]; simp [h0]
      rw [e1, e2]
      rw [h0] at c11
      generalize nb n = b at *
      clear h hw hx e1 e2 hq' hu h0 cf
      go_enter Tryz.func73, Tryz.ntmps73
      go_wp2_with fail
      refine (unhide HA).mono ?_
      rintro e w1 ⟨rfl, hw1⟩
      rw [hw1]
      clear hw1
      go_wp2_with fail
      go_ret
      exact ⟨rfl, unhide HR⟩
    · have hb := hw.k.bnd n x hx
      obtain ⟨L, hL⟩ : ∃ L, L = x.holds - 1 := ⟨_, rfl⟩
      have hH : x.holds = L + 1 := by omega
      obtain ⟨D1, R1⟩ := h.store (y := { x with holds := L }) hx 11 (I (L : Int)) (by simp [dnC, nm1]) rfl
      have e1 : T.looseE n = 0 := by rw [Tr.looseE, hx]; simp [h0]
      have e2 : T.loose n = (T.set n (some { x with holds := L })).leave n := by rw [Tr.loose, hx, hL]; simp [h0]
      rw [e1, e2]
      obtain ⟨X, hX⟩ : ∃ X, W.setCell ⟨nb n, 11, none⟩ (I (L : Int)) = X := ⟨_, rfl⟩
      rw [hX] at D1 R1
      have hkey := hw.k.key n x hx
      have hroot : n = 1 → 0 < x.names := by
        intro e
        obtain ⟨x', hx', -, hn1, -⟩ := hw.root
        rw [e] at hx
        rw [hx] at hx'
        cases hx'
        omega
      have HRe := hide (reap_any D1 (n := n) (x := { x with holds := L }) (Tr.set_same _ _ _) hkey.1 hkey.2 (by have := hw.k.made; show T.made ≤ 900; omega) hroot ⟨by simp only; omega, by simp only; omega⟩ (by have := hw.k.fil n x hx; simp only; omega) (by have := hw.k.pol; show T.pool.fs.length ≤ 1000000; omega))
      have HU := hide (⟨R1, (hu.node (y := { x with holds := L }) hx rfl rfl rfl).leave n⟩ : _ ∧ _)
      have cf11 := cf 11
      obtain ⟨H, hH2⟩ : ∃ H, H = x.holds := ⟨_, rfl⟩
      rw [← hH2] at c11
      have k1 : (H : Int) - 1 = (L : Int) := by omega
      have k2 : IntKind.i64.wrap ((H : Int) - 1) = (L : Int) := by rw [k1, IntKind.wrap_i64]; omega
      have k3 : (H : Int) ≤ 900 := by omega
      have k4 : (1 : Int) ≤ (H : Int) := by omega
      have k5 : ((H : Int) == 0) = false := by simp; omega
      have k6 : ¬ (H : Int) = 0 := by omega
      obtain ⟨b, hbb⟩ : ∃ b, b = nb n := ⟨_, rfl⟩
      rw [← hbb] at HA c11 cf11 hX
      clear h hw hx e1 e2 hq' hu h0 cf hb hL hH D1 R1 hkey hroot hH2 hbb
      go_enter Tryz.func73, Tryz.ntmps73
      go_wp2_with fail
      refine (unhide HA).mono ?_
      rintro e w1 ⟨rfl, hw1⟩
      rw [hw1]
      clear hw1
      go_wp2_with fail
      refine (unhide HRe).mono ?_
      rintro e w2 ⟨rfl, D2, R2⟩
      have HE := hide (⟨D2, R2⟩ : _ ∧ _)
      clear D2 R2 HRe
      go_wp2_with fail
      go_ret
      obtain ⟨D2, R2⟩ := unhide HE
      obtain ⟨R1, hu2⟩ := unhide HU
      exact ⟨rfl, ⟨p, Lv, nb, ev, uv, D2, hu2⟩, R1.trans R2⟩
end
end Go.Proofs.YtlngeaacjbdmhaaGreat.Rf

namespace Go.Proofs.YtlngeaacjbdmhaaGreat.Rf
open Go.RowKit Go.Maps
attribute [local go_sem ↓] Go.wp_at_zero Go.wp_at_succ
section
variable {lo N : Nat} {W W' : World} {r : Nat} {T : Tr} {p : Nat} {Lv : Value} {nb : Int → Nat} {ev : Int → Value} {uv : Int → Int} {B : Nat}
set_option maxRecDepth 100000 in
set_option maxHeartbeats 1000000 in
theorem dNames_D (hq : Dq lo N W r T) (hw : Wk B T) (hB : B ≤ 900) (n : Int) (hn : (kl n).wf = true) :
    Calls Tryz.prog 92 #[P0 r, I n] W fun e w' => ∃ v, e = .returned v ∧ Hid (Rs W.heap.size w' v (T.names n)) ∧ Hid (Below W.heap.size W w') := by
  obtain ⟨p, Lv, nb, ev, uv, h, hu⟩ := hq
  cases hx : T.dir n with
  | none =>
    have HA := hide (dir_any h hw hB n hn (.pointer none) (by rw [dirV, hx]))
    have e1 : T.names n = [] := by rw [Tr.names, hx]
    rw [e1]
    clear h hw hx e1 hu
    go_enter Tryz.func92, Tryz.ntmps92
    go_wp2_with fail
    refine (unhide HA).mono ?_
    rintro e w1 ⟨rfl, hw1⟩
    rw [hw1]
    clear hw1
    go_wp2_with fail
    go_ret
    exact ⟨_, rfl, hide (World.ownsRow_nil _ _ _ _), hide (Below.refl _ _)⟩
  | some d =>
    obtain ⟨hd1, hd2⟩ := Tr.dir_some.1 hx
    have HA := hide (dir_any h hw hB n hn (P0 (nb n)) (by rw [dirV, hx]))
    obtain ⟨-, -, -, -, -, -, -, -, c8, -⟩ := dcells (h.hn n d hd1).1
    have hbl := lt_of_heap (h.hn n d hd1).1
    obtain ⟨a, cap, hev, hcap, hce⟩ := Dr.open' (h.hn n d hd1).2
    have e1 : T.names n = d.ins.map (·.1) := by rw [Tr.names, hx]
    rw [e1]
    obtain ⟨M, hM⟩ : ∃ M, M = d.ins.length := ⟨_, rfl⟩
    have hMb : M ≤ 900 := by have := (hw.bnd n d hd1).2.2; omega
    rw [hev, ← hM] at c8
    obtain ⟨ns, hns⟩ : ∃ ns, ns = d.ins.map (·.1) := ⟨_, rfl⟩
    have hnl : ns.length = M := by rw [hns, hM]; simp
    have hcs : ∀ k, k < M → ∃ g s, a = some ⟨g, 0, none⟩ ∧ ns[k]? = some s ∧ g < W.heap.size ∧ W.cell? ⟨g, k * 2, none⟩ = some (.string s) := by
      intro k hk
      obtain ⟨⟨s, i⟩, hsi⟩ : ∃ q, d.ins[k]? = some q := ⟨_, List.getElem?_eq_getElem (by omega)⟩
      obtain ⟨g, hg1, hg2, -⟩ := hce k s i hsi
      refine ⟨g, s, hg1, by rw [hns, List.getElem?_map, hsi]; rfl, ?_, ?_⟩
      · exact lt_of_cell hg2
      · exact hg2
    rw [← hns]
    obtain ⟨i0, hi, hz0, hz1, hz2⟩ := info_parts info9
    obtain ⟨b, hbb⟩ : ∃ b, b = nb n := ⟨_, rfl⟩
    rw [← hbb] at HA c8 hbl
    have HC := hide hcs
    clear h hw hx e1 hu hd1 hd2 hev hcap hce hM hns hcs hbb
    go_enter Tryz.func92, Tryz.ntmps92
    go_wp2_with fail
    refine (unhide HA).mono ?_
    rintro e w1 ⟨rfl, hw1⟩
    rw [hw1]
    clear hw1
    go_wp2_with fail
    go_loopw [6, 7] (fun vo v wr => ∃ k : Nat, v = I k ∧ k ≤ M ∧ wr.ownsRow W.heap.size 9 1 vo k (strV (ns.take k)) ∧ Below W.heap.size W wr) (fun _ v _ => M - (intOf v).toNat)
    case atStart => exact ⟨0, rfl, by omega, by simp [strV]; exact World.ownsRow_nil _ _ _ _, Below.refl _ _⟩
    case round =>
      obtain ⟨k, rfl, hk, own, hbr⟩ := hrel
      have b2 : wr.cell? ⟨b, 8, none⟩ = some (.slice a M cap) := (World.cell?_of_block (a := ⟨b, 8, none⟩) (hbr.block b hbl)).trans c8
      have hs4 := hbr.size
      by_cases hkn : k < M
      · obtain ⟨g, s, rfl, hns, hgl, hcl⟩ := unhide HC k hkn
        have bc : wr.cell? ⟨g, k * 2, none⟩ = some (.string s) := (World.cell?_of_block (a := ⟨g, k * 2, none⟩) (hbr.block g hgl)).trans hcl
        have j1 : (k : Int) < (M : Int) := by omega
        have j0 : (0 : Int) ≤ (k : Int) := by omega
        have j9 : (k : Int) ≤ 900 := by omega
        have own5 := own_keep (W' := wr.alloc (.cells #[.string s] 9)) own (fun k cur hc => Below.heap_alloc wr _ _ (lt_of_heap hc))
        obtain ⟨v', W5, hrun, own6, hgr, -, -⟩ := run_append_own_at (P := Tryz.prog) (wr.alloc (.cells #[.string s] 9)) W.heap.size 55 55 9 i0 (.string ByteArray.empty) 1 16 Tryz.underlying55 hi hz0 hz1 hz2 rfl (by decide) _ _ _ own5 ⟨wr.heap.size, 0, none⟩ 1 1 [.string s] rfl
          (by
            intro j u hj
            match j, hj with
            | 0, hj =>
              simp at hj
              subst hj
              show (wr.alloc (.cells #[.string s] 9)).cell? ⟨wr.heap.size, 0, none⟩ = _
              rw [cell_of (heap_alloc_new wr _)]; rfl)
          (by intro u hu; simp at hu; subst hu; rfl) (by unfold maxLen; omega) (by omega) (by simp; omega)
        have hb5 := below_grown (hbr.alloc hbr.size _) own5 hgr (by simp; omega)
        have htk : ns.take (k + 1) = ns.take k ++ [s] := by rw [List.take_add_one, hns]; rfl
        have HREL := hide (⟨k + 1, by go_num, by omega, by rw [htk, strV, List.map_append]; simpa [strV] using own6, hb5⟩ : ∃ k' : Nat, I ((k : Int) + 1) = I (k' : Int) ∧ k' ≤ M ∧ W5.ownsRow W.heap.size 9 1 v' k' (strV (ns.take k')) ∧ Below W.heap.size W W5)
        obtain ⟨q', cp, rfl⟩ := own_form own6
        have ownf := own_form own
        obtain ⟨q0, cp0, rfl⟩ := ownf
        clear own own5 own6 hgr hb5 hcl hns htk
        go_wp2_with (at_builtin; refine wpList_append_eq rfl _ _ 55 rfl 55 rfl _ _ (by rfl) (by rfl) _ _ hrun ?_)
        go_roundw
        case rel => exact unhide HREL
        case measure => simp [intOf]; omega
      · obtain rfl : k = M := by omega
        have hta : ns.take k = ns := List.take_of_length_le (by omega)
        rw [hta] at own
        have HO : Hid (Rs W.heap.size wr _ ns) := hide (by unfold Rs; rw [hnl]; exact own)
        have HB := hide hbr
        clear own hbr
        go_wp2_with fail
        go_ret
        exact ⟨_, rfl, HO, HB⟩
end
end Go.Proofs.YtlngeaacjbdmhaaGreat.Rf

namespace Go.Proofs.YtlngeaacjbdmhaaGreat.Bo
open Go.RowKit Bt
structure Bo (t r l0 l1 N : Nat) (B : Nat) (w W : World) (T T2 : Tr) : Prop where
  q : Tq l0 N W t T B
  d : Rf.Dq l1 N W r T2
  f : Wf B T2
  l : L16 T2
  be : Below w.heap.size w W
  le : w.heap.size ≤ l0 ∧ w.heap.size ≤ l1
section
variable {t r l0 l1 N B B' : Nat} {w W W' : World} {T T' T2 : Tr}
theorem Bo.below (s : Bo t r l0 l1 N B w W T T2) (g : Below W.heap.size W W') : Bo t r l0 l1 N B w W' T T2 := ⟨s.q.below g, s.d.below g, s.f, s.l, s.be.trans (g.mono s.be.size), s.le⟩
theorem Bo.drew (s : Bo t r l0 l1 N B w W T T2) : Bo t r l0 l1 N B w W.drew T T2 := s.below ⟨rfl, rfl, rfl, Nat.le_refl _, fun _ _ => rfl⟩
theorem Bo.mono (s : Bo t r l0 l1 N B w W T T2) (h : B ≤ B') : Bo t r l0 l1 N B' w W T T2 := ⟨s.q.mono h, s.d, s.f.mono h, s.l, s.be, s.le⟩
theorem Bo.tx (s : Bo t r l0 l1 N B w W T T2) (h : Tq l0 N W' t T' B') (g : Tx l0 W W') (hb : B ≤ B') : Bo t r l0 l1 N B' w W' T' T2 ∧ Kp W W' :=
  ⟨⟨h, Dq_ke s.d (Ke.tx g) (flip AB), s.f.mono hb, s.l, s.be.trans (g.bel.mono s.le.1), s.le⟩, .of (Ke.tx g) oA⟩
theorem Bo.rx (s : Bo t r l0 l1 N B w W T T2) (h : Rf.De l1 N W W' r T') (hf : Wf B' T') (hl : L16 T') (hb : B ≤ B') : Bo t r l0 l1 N B' w W' T T' ∧ Kp W W' :=
  ⟨⟨(Tq_ke s.q (Ke.rx h.2) h.2.mps AB).mono hb, h.1, hf, hl, s.be.trans (h.2.bel.mono s.le.2), s.le⟩, .of (Ke.rx h.2) oB⟩
theorem Bo.tot (s : Bo t r l0 l1 N B w W T T2) : T.pool.left + total T.pool.fs = N ∧ N ≤ 256 := by
  obtain ⟨⟨q, p, nb, ev, h⟩, -⟩ := s.q
  obtain ⟨fb, cb, mb, hp⟩ := h.pl
  exact ⟨hp.tot, hp.nn⟩
/-! The calls, told of both. -/
theorem tMake (s : Bo t r l0 l1 N B w W T T2) (hB : B ≤ 860) {dir : Int} (hn : (kl dir).wf = true) (z : ByteArray) (a kind mode uid gid f g : Int) (text : ByteArray) (hz : text.size ≤ 281474976710656) :
    Calls Tryz.prog 62 #[P0 t, I dir, .string z, .agg #[I a, I kind, I mode, I uid, I gid, I f, I g], .string text] W fun e w' => e = .returned (.tuple #[I (T.makeN dir z kind text), I (T.makeE dir z kind text)]) ∧ Hid (Bo t r l0 l1 N (B + 2) w w' (T.make dir z kind mode uid gid text) T2 ∧ Kp W w') := by
  refine (make_Q s.q (by omega) hn z a kind mode uid gid f g text hz _ _ _ rfl rfl rfl).mono ?_
  rintro e w' ⟨rfl, h1, h2⟩
  exact ⟨rfl, hide (s.tx (unhide h1) (unhide h2) (by omega))⟩
theorem dMake (s : Bo t r l0 l1 N B w W T T2) (hB : B ≤ 860) {dir : Int} (hn : (kl dir).wf = true) (z : ByteArray) (hs : z.size ≤ 281474976710656) (a kind mode uid gid f g : Int) (text : ByteArray) (hz : text.size ≤ 281474976710656) :
    Calls Tryz.prog 65 #[P0 r, I dir, .string z, .agg #[I a, I kind, I mode, I uid, I gid, I f, I g], .string text] W fun e w' => e = .returned (.tuple #[I (T2.makeN dir z kind text), I (T2.makeE dir z kind text)]) ∧ Hid (Bo t r l0 l1 N (B + 2) w w' T (T2.make dir z kind mode uid gid text) ∧ Kp W w') := by
  refine (Rf.dMake_D s.d s.f (by omega) dir z hn hs a kind mode uid gid f g text hz s.l).mono ?_
  rintro e w' ⟨rfl, h1⟩
  exact ⟨rfl, hide (s.rx h1 (s.f.make dir z kind mode uid gid text hz) (s.l.make s.f dir z kind mode uid gid text) (by omega))⟩
theorem tJoin (s : Bo t r l0 l1 N B w W T T2) (hB : B ≤ 860) {dir n : Int} (hn : (kl dir).wf = true) (hnn : (kl n).wf = true) (z : ByteArray) :
    Calls Tryz.prog 66 #[P0 t, I dir, .string z, I n] W fun e w' => e = .returned (I (T.joinE dir z n)) ∧ Hid (Bo t r l0 l1 N (B + 2) w w' (T.join dir z n) T2 ∧ Kp W w') := by
  refine (join_Q s.q (by omega) hn hnn z _ _ rfl rfl).mono ?_
  rintro e w' ⟨rfl, h1, h2⟩
  exact ⟨rfl, hide (s.tx ((unhide h1).mono (by omega)) (unhide h2) (by omega))⟩
theorem dJoin (s : Bo t r l0 l1 N B w W T T2) (hB : B ≤ 860) {dir n : Int} (hn : (kl dir).wf = true) (hnn : (kl n).wf = true) (z : ByteArray) (hs : z.size ≤ 281474976710656) :
    Calls Tryz.prog 67 #[P0 r, I dir, .string z, I n] W fun e w' => e = .returned (I (T2.joinE dir z n)) ∧ Hid (Bo t r l0 l1 N (B + 2) w w' T (T2.join dir z n) ∧ Kp W w') := by
  refine (Rf.dJoin_D s.d s.f (by omega) dir n z hn hnn hs (fun y hy hk => s.l.names hy hk)).mono ?_
  rintro e w' ⟨rfl, h1⟩
  exact ⟨rfl, hide (s.rx h1 ((s.f.join dir z n).mono (by omega)) (s.l.join s.f dir z n) (by omega))⟩
theorem tPart (s : Bo t r l0 l1 N B w W T T2) (hB : B ≤ 860) {dir : Int} (hn : (kl dir).wf = true) (z : ByteArray) :
    Calls Tryz.prog 64 #[P0 t, I dir, .string z] W fun e w' => e = .returned (I (T.partE dir z)) ∧ Hid (Bo t r l0 l1 N (B + 2) w w' (T.part dir z) T2 ∧ Kp W w') := by
  refine (part_Q s.q (by omega) hn z _ _ rfl rfl).mono ?_
  rintro e w' ⟨rfl, h1, h2⟩
  exact ⟨rfl, hide (s.tx ((unhide h1).mono (by omega)) (unhide h2) (by omega))⟩
theorem dPart (s : Bo t r l0 l1 N B w W T T2) (hB : B ≤ 860) {dir : Int} (hn : (kl dir).wf = true) (z : ByteArray) :
    Calls Tryz.prog 68 #[P0 r, I dir, .string z] W fun e w' => e = .returned (I (T2.partE dir z)) ∧ Hid (Bo t r l0 l1 N (B + 2) w w' T (T2.part dir z) ∧ Kp W w') := by
  refine (Rf.dPart_any s.d s.f (by omega) dir z hn).mono ?_
  rintro e w' ⟨rfl, h1⟩
  exact ⟨rfl, hide (s.rx h1 ((s.f.part dir z).mono (by omega)) (s.l.part s.f dir z) (by omega))⟩
theorem tMove (s : Bo t r l0 l1 N B w W T T2) (hB : B ≤ 860) {dir tq : Int} (hn : (kl dir).wf = true) (hnn : (kl tq).wf = true) (z z2 : ByteArray) {l : List Int} (hl : Ab T tq l) :
    Calls Tryz.prog 69 #[P0 t, I dir, .string z, I tq, .string z2] W fun e w' => e = .returned (I (T.moveE l dir z tq z2)) ∧ Hid (Bo t r l0 l1 N (B + 2) w w' (T.move l dir z tq z2) T2 ∧ Kp W w') := by
  refine (move_Q s.q (by omega) hn hnn z z2 hl _ _ rfl rfl).mono ?_
  rintro e w' ⟨rfl, h1, h2⟩
  exact ⟨rfl, hide (s.tx ((unhide h1).mono (by omega)) (unhide h2) (by omega))⟩
theorem dMove (s : Bo t r l0 l1 N B w W T T2) (hB : B ≤ 860) {dir tq : Int} (hn : (kl dir).wf = true) (hnn : (kl tq).wf = true) (z z2 : ByteArray) (hs : z2.size ≤ 281474976710656) {l : List Int} (hl : Ab T2 tq l) :
    Calls Tryz.prog 70 #[P0 r, I dir, .string z, I tq, .string z2] W fun e w' => e = .returned (I (T2.moveE l dir z tq z2)) ∧ Hid (Bo t r l0 l1 N (B + 2) w w' T (T2.move l dir z tq z2) ∧ Kp W w') := by
  refine (Rf.dMove_D s.d s.f (by omega) dir z tq z2 l hl hn hnn hs s.l.dirs).mono ?_
  rintro e w' ⟨rfl, h1⟩
  exact ⟨rfl, hide (s.rx h1 ((s.f.move dir z tq z2 hl).mono (by omega)) (s.l.move s.f dir z tq z2) (by omega))⟩
theorem dSetMode (s : Bo t r l0 l1 N B w W T T2) (hB : B ≤ 860) {n : Int} (hn : (kl n).wf = true) (mode : Int) :
    Calls Tryz.prog 41 #[P0 r, I n, I mode] W fun e w' => e = .returned (I (setsE T2 n)) ∧ Hid (Bo t r l0 l1 N (B + 2) w w' T (T2.setMode n mode) ∧ Kp W w') := by
  refine (Rf.dSetMode_D s.d s.f.k (by omega) n hn mode).mono ?_
  rintro e w' ⟨rfl, h1⟩
  exact ⟨rfl, hide (s.rx h1 ((s.f.setMode n mode).mono (by omega)) (s.l.setMode n mode) (by omega))⟩
theorem dSetOwner (s : Bo t r l0 l1 N B w W T T2) (hB : B ≤ 860) {n : Int} (hn : (kl n).wf = true) (u g : Int) :
    Calls Tryz.prog 75 #[P0 r, I n, I u, I g] W fun e w' => e = .returned (I (setsE T2 n)) ∧ Hid (Bo t r l0 l1 N (B + 2) w w' T (T2.setOwner n u g) ∧ Kp W w') := by
  refine (Rf.dSetOwner_D s.d s.f.k (by omega) n hn u g).mono ?_
  rintro e w' ⟨rfl, h1⟩
  exact ⟨rfl, hide (s.rx h1 ((s.f.setOwner n u g).mono (by omega)) (s.l.setOwner n u g) (by omega))⟩
theorem tSetMode (s : Bo t r l0 l1 N B w W T T2) {n : Int} (hn : (kl n).wf = true) (mode : Int) :
    Calls Tryz.prog 40 #[P0 t, I n, I mode] W fun e w' => e = .returned (I (setsE T n)) ∧ Hid (Bo t r l0 l1 N (B + 2) w w' (T.setMode n mode) T2 ∧ Kp W w') := by
  refine (setMode_Q s.q hn mode).mono ?_
  rintro e w' ⟨rfl, h1, h2⟩
  exact ⟨rfl, hide (s.tx ((unhide h1).mono (by omega)) (unhide h2) (by omega))⟩
theorem tSetOwner (s : Bo t r l0 l1 N B w W T T2) {n : Int} (hn : (kl n).wf = true) (u g : Int) :
    Calls Tryz.prog 74 #[P0 t, I n, I u, I g] W fun e w' => e = .returned (I (setsE T n)) ∧ Hid (Bo t r l0 l1 N (B + 2) w w' (T.setOwner n u g) T2 ∧ Kp W w') := by
  refine (setOwner_Q s.q hn u g).mono ?_
  rintro e w' ⟨rfl, h1, h2⟩
  exact ⟨rfl, hide (s.tx ((unhide h1).mono (by omega)) (unhide h2) (by omega))⟩
theorem tHold (s : Bo t r l0 l1 N B w W T T2) (hB : B ≤ 860) {n : Int} (hn : (kl n).wf = true) :
    Calls Tryz.prog 63 #[P0 t, I n] W fun e w' => e = .returned (I (T.holdE n)) ∧ Hid (Bo t r l0 l1 N (B + 1) w w' (T.hold n) T2 ∧ Kp W w') := by
  refine (hold_Q s.q (by omega) hn _ _ rfl rfl).mono ?_
  rintro e w' ⟨rfl, h1, h2⟩
  exact ⟨rfl, hide (s.tx (unhide h1) (unhide h2) (by omega))⟩
theorem dHold (s : Bo t r l0 l1 N B w W T T2) (hB : B ≤ 860) {n : Int} (hn : (kl n).wf = true) :
    Calls Tryz.prog 71 #[P0 r, I n] W fun e w' => e = .returned (I (T2.holdE n)) ∧ Hid (Bo t r l0 l1 N (B + 1) w w' T (T2.hold n) ∧ Kp W w') := by
  refine (Rf.dHold_D s.d s.f.k (by omega) n hn).mono ?_
  rintro e w' ⟨rfl, h1⟩
  exact ⟨rfl, hide (s.rx h1 (s.f.hold n) (s.l.hold n) (by omega))⟩
theorem L16.leave {T : Tr} (h : L16 T) (n : Int) : L16 (T.leave n) := by
  unfold Tr.leave
  split
  · split
    · exact h
    · intro k z hz
      have hz' : (T.set n none).nd k = some z := hz
      have hk : T.nd k = some z := by
        by_cases e : k = n
        · rw [e, Tr.set_same] at hz'; cases hz'
        · rwa [Tr.set_other _ _ e] at hz'
      refine Nat.le_trans ?_ (h k z hk)
      unfold Tr.links
      split
      · refine Nat.add_le_add_left (List.countP_mono_left fun e _ he => ?_) 2
        have he' : (T.set n none).kindOf e.2 = 1 := of_decide_eq_true he
        have : T.kindOf e.2 = 1 := by
          unfold Tr.kindOf at he' ⊢
          by_cases e2 : e.2 = n
          · rw [e2, Tr.set_same] at he'; simp at he'
          · rwa [Tr.set_other _ _ e2] at he'
        simpa using this
      · exact Nat.le_refl _
  · exact h
theorem L16.loose {T : Tr} (h : L16 T) (n : Int) : L16 (T.loose n) := by
  unfold Tr.loose
  split
  · rename_i x hx
    split
    · exact h
    · exact L16.leave (_root_.Go.Proofs.YtlngeaacjbdmhaaGreat.L16.node (y := { x with holds := x.holds - 1 }) h hx rfl rfl rfl) n
  · exact h
theorem L16.pool {T : Tr} (h : L16 T) (s : S) : L16 { T with pool := s } := h
theorem tLoose (s : Bo t r l0 l1 N B w W T T2) (hB : B ≤ 860) {n : Int} (hn : (kl n).wf = true) :
    Calls Tryz.prog 72 #[P0 t, I n] W fun e w' => e = .returned (I (T.looseE n)) ∧ Hid (Bo t r l0 l1 N (B + 1) w w' (T.loose n) T2 ∧ Kp W w') := by
  refine (loose_Q s.q (by omega) hn _ _ rfl rfl).mono ?_
  rintro e w' ⟨rfl, h1, h2⟩
  exact ⟨rfl, hide (s.tx ((unhide h1).mono (by omega)) (unhide h2) (by omega))⟩
theorem dLoose (s : Bo t r l0 l1 N B w W T T2) (hB : B ≤ 860) {n : Int} (hn : (kl n).wf = true) :
    Calls Tryz.prog 73 #[P0 r, I n] W fun e w' => e = .returned (I (T2.looseE n)) ∧ Hid (Bo t r l0 l1 N (B + 1) w w' T (T2.loose n) ∧ Kp W w') := by
  refine (Rf.dLoose_D s.d s.f (by omega) n hn).mono ?_
  rintro e w' ⟨rfl, h1⟩
  exact ⟨rfl, hide (s.rx h1 ((s.f.loose n).mono (by omega)) (L16.loose s.l n) (by omega))⟩
theorem tWrite (s : Bo t r l0 l1 N B w W T T2) (hB : B ≤ 860) {n : Int} (hn : (kl n).wf = true) (a : Int) (ha : (kl a).wf = true) (ad : Option Addr) (m cap : Nat) (g : Nat → Int) (hi : In w ad m cap g) :
    Calls Tryz.prog 76 #[P0 t, I n, I a, .slice ad m cap] W fun e w' => e = .returned (I (writeE T.pool (T.fileOf n) a m)) ∧ Hid (Bo t r l0 l1 N (B + 1) w w' { T with pool := writeS T.pool (T.fileOf n) a m g } T2 ∧ Kp W w') := by
  refine (twrite_Q s.q (by omega) hn a ha ad m cap g (hi.below s.be)).mono ?_
  rintro e w' ⟨rfl, h1, h2⟩
  exact ⟨rfl, hide (s.tx ((unhide h1).mono (by omega)) (unhide h2) (by omega))⟩
theorem dWrite (s : Bo t r l0 l1 N B w W T T2) (hB : B ≤ 860) (ht : T2.pool.left + total T2.pool.fs = N ∧ N ≤ 256) {n : Int} (hn : (kl n).wf = true) (a : Int) {u : World} (ad : Option Addr) (m cap : Nat) (g : Nat → Int) (hin : In u ad m cap g) (hu : l1 = u.heap.size) (hbl : Below l1 u W) (hm : m ≤ 1100) :
    Calls Tryz.prog 77 #[P0 r, I n, I a, .slice ad m cap] W fun e w' => e = .returned (I (writeE T2.pool (T2.fileOf n) a m)) ∧ Hid (Bo t r l0 l1 N (B + 1) w w' T { T2 with pool := writeS T2.pool (T2.fileOf n) a m g } ∧ Kp W w') := by
  refine (Rf.dWrite_D s.d s.f.k (by omega) ht.1 ht.2 n hn a ad m cap g hin hu hbl hm).mono ?_
  rintro e w' ⟨rfl, h1⟩
  exact ⟨rfl, hide (s.rx h1 ((s.f.pool (by rw [writeS_len]; exact s.f.k.pol)).mono (by omega)) (L16.pool s.l _) (by omega))⟩
theorem tCut (s : Bo t r l0 l1 N B w W T T2) (hB : B ≤ 860) {n : Int} (hn : (kl n).wf = true) (a : Int) :
    Calls Tryz.prog 78 #[P0 t, I n, I a] W fun e w' => e = .returned (I (cutE (T.pool.get (T.fileOf n)) a)) ∧ Hid (Bo t r l0 l1 N (B + 1) w w' { T with pool := cutS T.pool (T.fileOf n) a } T2 ∧ Kp W w') := by
  refine (tcut_Q s.q (by omega) hn a).mono ?_
  rintro e w' ⟨rfl, h1, h2⟩
  exact ⟨rfl, hide (s.tx ((unhide h1).mono (by omega)) (unhide h2) (by omega))⟩
theorem dCut (s : Bo t r l0 l1 N B w W T T2) (hB : B ≤ 860) {n : Int} (hn : (kl n).wf = true) (a : Int) :
    Calls Tryz.prog 79 #[P0 r, I n, I a] W fun e w' => e = .returned (I (cutE (T2.pool.get (T2.fileOf n)) a)) ∧ Hid (Bo t r l0 l1 N (B + 1) w w' T { T2 with pool := cutS T2.pool (T2.fileOf n) a } ∧ Kp W w') := by
  refine (Rf.dCut_D s.d s.f.k (by omega) n hn a).mono ?_
  rintro e w' ⟨rfl, h1⟩
  exact ⟨rfl, hide (s.rx h1 ((s.f.pool (by rw [cutS_len]; exact s.f.k.pol)).mono (by omega)) (L16.pool s.l _) (by omega))⟩
end
end Go.Proofs.YtlngeaacjbdmhaaGreat.Bo
