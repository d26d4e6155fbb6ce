/-
  No node has more links than may be, whatever is called.
-/
import Derived.Test.YtlngeaacjbdmhaaGreatMr11
import Derived.Test.YtlngeaacjbdmhaaGreatMr02
namespace Go.Proofs.YtlngeaacjbdmhaaGreat
open Go.RowKit
section
variable {B : Nat} {T : Tr}
/-- No node has more links than may be. -/
def L16 (T : Tr) : Prop := ∀ n x, T.nd n = some x → T.links x ≤ 16
theorem L16.dirs (h : L16 T) : LkB T := fun n x hx _ => h n x hx
theorem L16.names (h : L16 T) {n : Int} {x : Nd} (hx : T.nd n = some x) (hk : x.kind ≠ 1) : x.names ≤ 16 := by
  have := h n x hx
  simpa [Tr.links, hk] using this
/-- Of a Dir: how many of its names are Dirs'. -/
def Tr.cd (T : Tr) (l : List Ent) : Nat := l.countP (fun e => decide (T.kindOf e.2 = 1))
theorem links_dir {x : Nd} (hk : x.kind = 1) (hn : 0 < x.names) : T.links x = 2 + T.cd x.ins := by simp [Tr.links, Tr.cd, hk, hn]
theorem links_file {x : Nd} (hk : x.kind ≠ 1) : T.links x = x.names := by simp [Tr.links, hk]
theorem links_none {x : Nd} (hn : x.names = 0) : T.links x = 0 := by simp [Tr.links, hn]
theorem cd_le {T T' : Tr} {l : List Ent} (h : ∀ e ∈ l, T'.kindOf e.2 = 1 → T.kindOf e.2 = 1) : T'.cd l ≤ T.cd l := by
  unfold Tr.cd
  induction l with
  | nil => simp
  | cons a l ih =>
    rw [List.countP_cons, List.countP_cons]
    have h1 := ih fun e he => h e (List.mem_cons_of_mem _ he)
    have h2 := h a (by simp)
    by_cases e : T'.kindOf a.2 = 1
    · simp [e, h2 e]; omega
    · simp [e]; split <;> omega
theorem cd_del (T : Tr) (l : List Ent) (s : ByteArray) : T.cd (delE l s) ≤ T.cd l := by
  unfold Tr.cd delE
  rw [List.countP_append]
  have : l.countP (fun e => decide (T.kindOf e.2 = 1)) = (l.take (pos l s) ++ l.drop (pos l s)).countP (fun e => decide (T.kindOf e.2 = 1)) := by rw [List.take_append_drop]
  rw [this, List.countP_append]
  have h2 : (l.drop (pos l s + 1)).countP (fun e => decide (T.kindOf e.2 = 1)) ≤ (l.drop (pos l s)).countP (fun e => decide (T.kindOf e.2 = 1)) := by
    rw [← List.drop_drop]
    exact List.Sublist.countP_le (List.drop_sublist 1 _)
  omega
theorem cd_put (T : Tr) (l : List Ent) (s : ByteArray) (n : Int) : T.cd (putE l s n) = T.cd l + if T.kindOf n = 1 then 1 else 0 := by
  unfold Tr.cd
  rw [putE_count]
  simp
/-- A name less of a Dir. -/
theorem cd_del_at (T : Tr) {l : List Ent} (h : Srt l) {s : ByteArray} {n : Int} (hg : getE l s = some n) : T.cd l = T.cd (delE l s) + if T.kindOf n = 1 then 1 else 0 := by
  have := cd_put T (delE l s) s n
  rw [put_del h hg] at this
  exact this
theorem L16.new (nodes blocks : Nat) : L16 (Tr.new nodes blocks) := by
  intro n x h
  simp only [Tr.new] at h
  split at h
  · cases h; simp [Tr.links]
  · cases h
/-- A node that has the names that it had. -/
theorem L16.node (h : L16 T) {n : Int} {x y : Nd} (hx : T.nd n = some x) (hi : y.ins = x.ins) (hnm : y.names = x.names) (hk : y.kind = x.kind) : L16 (T.set n (some y)) := by
  have hko : ∀ m, (T.set n (some y)).kindOf m = T.kindOf m := fun m => by
    simp only [Tr.kindOf]
    by_cases e : m = n
    · rw [e, Tr.set_same, hx]; exact hk
    · rw [Tr.set_other _ _ e]
  have hlk : ∀ z, (T.set n (some y)).links z = T.links z := fun z => links_congr fun e _ => hko e.2
  intro k z hz
  rw [hlk]
  by_cases e : k = n
  · rw [e, Tr.set_same] at hz
    cases hz
    have := h n x hx
    simpa [Tr.links, hi, hnm, hk] using this
  · rw [Tr.set_other _ _ e] at hz
    exact h k z hz
theorem L16.hold (h : L16 T) (n : Int) : L16 (T.hold n) := by
  unfold Tr.hold
  cases hx : T.nd n with
  | none => exact h
  | some x => exact h.node hx rfl rfl rfl
theorem L16.setMode (h : L16 T) (n m : Int) : L16 (T.setMode n m) := by
  unfold Tr.setMode
  cases hx : T.nd n with
  | none => exact h
  | some x => exact h.node hx rfl rfl rfl
theorem L16.setOwner (h : L16 T) (n u g : Int) : L16 (T.setOwner n u g) := by
  unfold Tr.setOwner
  cases hx : T.nd n with
  | none => exact h
  | some x => exact h.node hx rfl rfl rfl
theorem L16.make (hw : Wf B T) (hL : L16 T) (dir : Int) (s : ByteArray) (kind mode uid gid : Int) (text : ByteArray) : L16 (T.make dir s kind mode uid gid text) := by
  have h1 := hL.dirs.make hw dir s kind mode uid gid text
  intro n x hx
  by_cases hk : x.kind = 1
  · exact h1 n x hx hk
  · rw [links_file hk]
    by_cases h : T.makeE dir s kind text = 0
    · obtain ⟨d, g1, g2, -⟩ := Tr.makeE0 h
      rw [Tr.make_nd hw.k h g1] at hx
      split at hx
      · cases hx; simp
      · split at hx
        · cases hx; exact absurd g2 hk
        · exact hL.names hx hk
    · rw [Tr.make, if_neg h] at hx
      exact hL.names hx hk
theorem L16.join (_hw : Wf B T) (hL : L16 T) (dir : Int) (s : ByteArray) (n : Int) : L16 (T.join dir s n) := by
  by_cases h : T.joinE dir s n = 0
  · obtain ⟨d, x, h1, h2, h3, h4, h5, h6, h7⟩ := Tr.joinE0 h
    have hl : T.links x ≠ 16 := fun e => by
      have hd : T.dir dir = some d := Tr.dir_some.2 ⟨h1, h2⟩
      simp only [Tr.joinE, hd, h3] at h
      rw [if_pos ⟨h4, h5⟩, if_neg (by simp [refusesE, h6]; omega), if_pos e] at h
      omega
    have hl2 := hL n x h3
    rw [links_file h4] at hl hl2
    rw [Tr.join, if_pos h]
    have hnd := Tr.give_nd h1 h3 s
    have hko : ∀ m, (T.give dir s n).kindOf m = T.kindOf m := fun m => by
      simp only [Tr.kindOf]
      rw [hnd]
      by_cases e : m = n
      · rw [if_pos e, e, h3]; rfl
      · rw [if_neg e]
        by_cases e2 : m = dir
        · rw [if_pos e2, e2, h1]
        · rw [if_neg e2]
    have hlk : ∀ z, (T.give dir s n).links z = T.links z := fun z => links_congr fun e _ => hko e.2
    intro k z hz
    rw [hlk]
    rw [hnd] at hz
    by_cases e : k = n
    · rw [if_pos e] at hz
      cases hz
      rw [links_file (by exact h4)]
      simp only [Nd.named]
      omega
    · rw [if_neg e] at hz
      by_cases e2 : k = dir
      · rw [if_pos e2] at hz
        cases hz
        have := hL dir d h1
        rw [links_dir h2 h7] at this
        rw [links_dir (by exact h2) (by exact h7)]
        simp only
        rw [cd_put, if_neg]
        · exact this
        · simp [Tr.kindOf, h3, h4]
      · rw [if_neg e2] at hz
        exact hL k z hz
  · rw [Tr.join, if_neg h]; exact hL
theorem L16.take (hw : Wf B T) (hL : L16 T) {dir n : Int} {d x : Nd} {s : ByteArray} (hd : T.nd dir = some d) (hg : getE d.ins s = some n) (hx : T.nd n = some x) : L16 (T.take dir s) := by
  have hdn : dir ≠ n := by
    rintro rfl
    exact hw.noself hd (getE_some hg)
  have hnd := Tr.take_nd hd hg hx hdn
  have hko : ∀ m, (T.take dir s).kindOf m = 1 → T.kindOf m = 1 := fun m => by
    simp only [Tr.kindOf]
    rw [hnd]
    by_cases e : m = n
    · rw [if_pos e, e, hx]
      by_cases hz : 0 < x.names - 1 ∨ 0 < x.holds
      · rw [if_pos hz]; exact fun h => h
      · rw [if_neg hz]; simp
    · rw [if_neg e]
      by_cases e2 : m = dir
      · rw [if_pos e2, e2, hd]; exact fun h => h
      · rw [if_neg e2]; exact fun h => h
  have mono : ∀ (y z : Nd), T.links y ≤ 16 → z.kind = y.kind → z.names ≤ y.names → T.cd z.ins ≤ T.cd y.ins → (T.take dir s).links z ≤ 16 := fun y z h1 h2 h3 h4 => by
    by_cases hk : z.kind = 1
    · by_cases h0 : z.names = 0
      · rw [links_none h0]; omega
      · rw [links_dir hk (by omega)]
        rw [links_dir (by omega) (by omega)] at h1
        have := cd_le (T := T) (T' := T.take dir s) (l := z.ins) fun e _ => hko e.2
        omega
    · rw [links_file hk]
      rw [links_file (by omega)] at h1
      omega
  intro k z hz
  rw [hnd] at hz
  by_cases e : k = n
  · rw [if_pos e] at hz
    split at hz
    · cases hz
      exact mono x _ (hL n x hx) rfl (by simp) (Nat.le_refl _)
    · cases hz
  · rw [if_neg e] at hz
    by_cases e2 : k = dir
    · rw [if_pos e2] at hz
      cases hz
      exact mono d _ (hL dir d hd) rfl (Nat.le_refl _) (cd_del T d.ins s)
    · rw [if_neg e2] at hz
      exact mono z z (hL k z hz) rfl (Nat.le_refl _) (Nat.le_refl _)
theorem L16.part (hw : Wf B T) (hL : L16 T) (dir : Int) (s : ByteArray) : L16 (T.part dir s) := by
  by_cases h : T.partE dir s = 0
  · obtain ⟨d, n, h1, h2, h3⟩ := Tr.partE0 h
    obtain ⟨x, hx⟩ := hw.k.ent h1 (getE_some h2)
    rw [Tr.part, if_pos h]
    exact hL.take hw h1 h2 hx
  · rw [Tr.part, if_neg h]; exact hL
/-- One name ends, another begins. -/
theorem L16.shift (hw : Wf B T) (hL : L16 T) {dir tq n : Int} {d i x : Nd} {s s2 : ByteArray} (hd : T.nd dir = some d) (hg : getE d.ins s = some n) (hi : T.nd tq = some i) (hik : i.kind = 1) (hin : 0 < i.names) (hs2 : getE i.ins s2 = none) (hx : T.nd n = some x) (hr : x.kind = 1 → dir ≠ tq → T.links i ≤ 15) : L16 ((T.give tq s2 n).take dir s) := by
  have hdn : dir ≠ n := by
    rintro rfl
    exact hw.noself hd (getE_some hg)
  have hx0 : 0 < x.names := by
    have := hw.k.num n x hx
    have := cntE_pos hw.k hd (getE_some hg)
    simp at this
    omega
  have hSi := hw.k.srt tq i hi
  have hnd := Tr.shift_nd hd hg hi hSi hs2 hx hx0 hdn
  have hko : ∀ m, ((T.give tq s2 n).take dir s).kindOf m = T.kindOf m := fun m => by
    simp only [Tr.kindOf]
    rw [hnd]
    by_cases e : m = n
    · rw [if_pos e, e, hx]
    · rw [if_neg e]
      by_cases e2 : m = dir
      · rw [if_pos e2, e2, hd]
      · rw [if_neg e2]
        by_cases e3 : m = tq
        · rw [if_pos e3, e3, hi]
        · rw [if_neg e3]
  have hlk : ∀ z, ((T.give tq s2 n).take dir s).links z = T.links z := fun z => links_congr fun e _ => hko e.2
  have hkn : T.kindOf n = x.kind := by simp [Tr.kindOf, hx]
  have hdk := hw.emp dir d hd (fun e => by have := getE_some hg; rw [e] at this; simp at this)
  intro k z hz
  rw [hlk]
  rw [hnd] at hz
  by_cases e : k = n
  · rw [if_pos e] at hz
    cases hz
    have := hL n x hx
    simpa [Tr.links] using this
  · rw [if_neg e] at hz
    by_cases e2 : k = dir
    · rw [if_pos e2] at hz
      cases hz
      have h0 := hL dir d hd
      rw [links_dir hdk.1 hdk.2] at h0
      rw [links_dir (by exact hdk.1) (by exact hdk.2)]
      simp only
      by_cases e3 : dir = tq
      · rw [if_pos e3]
        have hdi : i = d := by rw [← e3, hd] at hi; cases hi; rfl
        subst hdi
        have hg2 : getE (putE i.ins s2 n) s = some n := by
          rw [putE_get hSi hs2]
          split
          · rfl
          · exact hg
        have h1 := cd_put T i.ins s2 n
        have h2 := cd_del_at T (hSi.put hs2 n) hg2
        omega
      · rw [if_neg e3]
        have := cd_del T d.ins s
        omega
    · rw [if_neg e2] at hz
      by_cases e3 : k = tq
      · rw [if_pos e3] at hz
        cases hz
        have h0 := hL tq i hi
        rw [links_dir hik hin] at h0 hr
        rw [links_dir (by exact hik) (by exact hin)]
        simp only
        rw [cd_put, hkn]
        by_cases hk : x.kind = 1
        · have := hr hk (fun e4 => e2 (e3.trans e4.symm))
          rw [if_pos hk]; omega
        · rw [if_neg hk]; omega
      · rw [if_neg e3] at hz
        exact hL k z hz
theorem L16.move (hw : Wf B T) (hL : L16 T) {l : List Int} (dir : Int) (s : ByteArray) (tq : Int) (s2 : ByteArray) : L16 (T.move l dir s tq s2) := by
  by_cases h : T.moveE l dir s tq s2 = 0
  · rw [Tr.move, if_pos h]
    obtain ⟨f, i, n, h1, h2, h3, h4, h5, h6, h7, h8, h9⟩ := Tr.moveE0 h
    obtain ⟨x, hx⟩ := hw.k.ent h1 (getE_some h6)
    simp only at hx
    have hf : getE (T.insOf dir) s = some n := by simp [Tr.insOf, h1, h6]
    have hio : T.insOf tq = i.ins := by simp [Tr.insOf, h3]
    have hkx : T.kindOf n = x.kind := by simp [Tr.kindOf, hx]
    rw [hkx] at h8 h9
    have htn : tq ≠ n := fun e => by
      have hxi : x = i := by rw [← e, h3] at hx; cases hx; rfl
      exact (h8 (by rw [hxi]; exact h4)).1 e
    have hSi := hw.k.srt tq i h3
    simp only [hf, hio]
    rcases h9 with ⟨old, g1, g2⟩ | g1
    · simp only [g1]
      rcases g2 with rfl | ⟨g2, g3⟩
      · rw [if_pos rfl]; exact hL
      · rw [if_neg g2]
        obtain ⟨y, hy⟩ := hw.k.ent h3 (getE_some g1)
        simp only at hy
        have hyi : y.ins = [] := by have := Tr.yields0 g3; simpa [Tr.insOf, hy] using this
        have hto : tq ≠ old := fun e => by subst e; exact hw.noself h3 (getE_some g1)
        have hdo : dir ≠ old := fun e => by
          rw [← e, h1] at hy; cases hy
          have := getE_some h6
          rw [hyi] at this; simp at this
        have hnd := Tr.take_nd h3 g1 hy hto
        obtain ⟨T1, -, -⟩ := hw.take h3 g1 hy hyi
        have e1 : (T.take tq s2).nd tq = some { i with ins := delE i.ins s2 } := by rw [hnd, if_neg hto, if_pos rfl]
        have e2 : (T.take tq s2).nd n = some x := by rw [hnd, if_neg (Ne.symm g2), if_neg (Ne.symm htn)]; exact hx
        have e3 : ∃ f1, (T.take tq s2).nd dir = some f1 ∧ getE f1.ins s = some n := by
          rw [hnd, if_neg hdo]
          by_cases e : dir = tq
          · rw [if_pos e]
            rw [e, h3] at h1; cases h1
            refine ⟨_, rfl, ?_⟩
            simp only
            rw [delE_get hSi g1, if_neg]
            · exact h6
            · intro e'; rw [e', g1] at h6; cases h6; exact g2 rfl
          · rw [if_neg e]; exact ⟨f, h1, h6⟩
        obtain ⟨f1, e3, e4⟩ := e3
        refine (hL.take hw h3 g1 hy).shift T1 e3 e4 e1 (by exact h4) (by exact h7) (by simp only; rw [delE_get hSi g1, if_pos rfl]) e2 fun hk _ => ?_
        have hky : T.kindOf old = 1 := by
          simp only [Tr.yieldsE] at g3
          by_cases e5 : T.kindOf old = 1
          · exact e5
          · rw [if_pos ⟨by simpa using hk, e5⟩] at g3; omega
        have h0 := hL tq i h3
        rw [links_dir h4 h7] at h0
        rw [links_dir (by exact h4) (by exact h7)]
        have h10 := cd_del_at T hSi g1
        rw [if_pos hky] at h10
        have h11 : (T.take tq s2).cd (delE i.ins s2) ≤ T.cd (delE i.ins s2) := cd_le fun e he => by
          simp only [Tr.kindOf]
          rw [hnd]
          by_cases e5 : e.2 = old
          · rw [if_pos e5, e5, hy]
            by_cases hz : 0 < y.names - 1 ∨ 0 < y.holds
            · rw [if_pos hz]; exact fun h => h
            · rw [if_neg hz]; simp
          · rw [if_neg e5]
            by_cases e6 : e.2 = tq
            · rw [if_pos e6, e6, h3]; exact fun h => h
            · rw [if_neg e6]; exact fun h => h
        simp only
        omega
    · simp only [g1]
      refine hL.shift hw h1 h6 h3 h4 h7 g1 hx fun hk hne => ?_
      have hm := h
      simp only [Tr.moveE, Tr.dir_some.2 ⟨h1, h2⟩, Tr.dir_some.2 ⟨h3, h4⟩, h5, h6, g1, hkx, if_true] at hm
      rw [if_neg (by omega)] at hm
      split at hm
      · omega
      · have h0 := hL tq i h3
        by_cases e9 : T.links i = 16
        · rw [if_pos ⟨hk, hne, e9⟩] at hm; omega
        · omega
  · rw [Tr.move, if_neg h]; exact hL
end
end Go.Proofs.YtlngeaacjbdmhaaGreat

namespace Go.Proofs.YtlngeaacjbdmhaaGreat
open Go.RowKit Go.Maps
attribute [local go_sem ↓] Go.wp_at_zero Go.wp_at_succ
section
variable {lo N : Nat} {W W' : World} {t : Nat} {T : Tr} {q p : Nat} {nb : Int → Nat} {ev : Int → Value} {B : Nat}
def setsE (T : Tr) (n : Int) : Int := match T.nd n with | some _ => 0 | none => 1
theorem Wf.setMode (hw : Wf B T) (n m : Int) : Wf B (T.setMode n m) := by
  unfold Tr.setMode
  cases hx : T.nd n with
  | none => exact hw
  | some x => exact hw.node hx (hw.k.node hx rfl rfl (hw.k.bnd n x hx).2.1 rfl rfl rfl rfl) rfl rfl rfl rfl (hw.alv n x hx)
theorem Wf.setOwner (hw : Wf B T) (n u g : Int) : Wf B (T.setOwner n u g) := by
  unfold Tr.setOwner
  cases hx : T.nd n with
  | none => exact hw
  | some x => exact hw.node hx (hw.k.node hx rfl rfl (hw.k.bnd n x hx).2.1 rfl rfl rfl rfl) rfl rfl rfl rfl (hw.alv n x hx)
set_option maxRecDepth 100000 in
set_option maxHeartbeats 1000000 in
theorem setMode_any (h : TrI lo N W t T q p nb ev) {n : Int} (hn : (kl n).wf = true) (mode : Int) :
    Calls Tryz.prog 40 #[P0 t, I n, I mode] W fun e w' => e = .returned (I (setsE T n)) ∧ ∃ ev', TrI lo N w' t (T.setMode n mode) q p nb ev' ∧ Tx lo W w' := by
  obtain ⟨c0, c1, c2, c3, cf⟩ := h.cells
  have hl := h.look_ok hn
  have hlo := h.bd.2.2.1
  have HH := hide h
  unfold setsE Tr.setMode
  cases hx : T.nd n with
  | none =>
    rw [hx] at hl
    simp only [Option.isSome_none, Bool.false_eq_true, if_false] at hl
    clear h hx
    go_enter Tryz.func40, Tryz.ntmps40
    go_wp2_with fail
    go_ret
    exact ⟨rfl, ev, unhide HH, .refl hlo⟩
  | some x =>
    dsimp only
    rw [hx] at hl
    simp only [Option.isSome_some, if_true] at hl
    have hbx := (h.hn n x hx).1
    obtain ⟨-, d1, -, -, -, -, -, -, -, -, df⟩ := ndcells hbx
    have FIN : Hid (∃ ev', TrI lo N (W.setCell ⟨nb n, 1, none⟩ (I (bits .and .i64 mode 4095))) t (T.set n (some { x with mode := bits .and .i64 mode 4095 })) q p nb ev' ∧ Tx lo W (W.setCell ⟨nb n, 1, none⟩ (I (bits .and .i64 mode 4095)))) := by
      obtain ⟨T6, X6⟩ := h.turn (y := { x with mode := bits .and .i64 mode 4095 }) (v := ev n) hx (W' := W.setCell ⟨nb n, 1, none⟩ (I (bits .and .i64 mode 4095))) ((Fn.refl _ _ _).set 1 _) (by rw [heap_set hbx]; simp [ndC]) ((h.hn n x hx).2.same fun g hg => Below.heap_setCell _ _ _ _ (fun e => by obtain ⟨_, cur, hc⟩ := (h.hn n x hx).2.blk hg; rw [show g = nb n from e, hbx] at hc; simp [ndC] at hc)) (.inl rfl)
      exact ⟨_, T6, X6⟩
    have df1 := df 1
    clear h hx hbx df
    generalize nb n = b at *
    go_enter Tryz.func40, Tryz.ntmps40
    go_wp2_with fail
    go_ret
    exact ⟨rfl, unhide FIN⟩
set_option maxRecDepth 100000 in
set_option maxHeartbeats 1000000 in
theorem setOwner_any (h : TrI lo N W t T q p nb ev) {n : Int} (hn : (kl n).wf = true) (uid gid : Int) :
    Calls Tryz.prog 74 #[P0 t, I n, I uid, I gid] W fun e w' => e = .returned (I (setsE T n)) ∧ ∃ ev', TrI lo N w' t (T.setOwner n uid gid) q p nb ev' ∧ Tx lo W w' := by
  obtain ⟨c0, c1, c2, c3, cf⟩ := h.cells
  have hl := h.look_ok hn
  have hlo := h.bd.2.2.1
  have HH := hide h
  unfold setsE Tr.setOwner
  cases hx : T.nd n with
  | none =>
    rw [hx] at hl
    simp only [Option.isSome_none, Bool.false_eq_true, if_false] at hl
    clear h hx
    go_enter Tryz.func74, Tryz.ntmps74
    go_wp2_with fail
    go_ret
    exact ⟨rfl, ev, unhide HH, .refl hlo⟩
  | some x =>
    dsimp only
    rw [hx] at hl
    simp only [Option.isSome_some, if_true] at hl
    have hbx := (h.hn n x hx).1
    obtain ⟨-, -, d2, d3, -, -, -, -, -, -, df⟩ := ndcells hbx
    have FIN : Hid (∃ ev', TrI lo N ((W.setCell ⟨nb n, 2, none⟩ (I uid)).setCell ⟨nb n, 3, none⟩ (I gid)) t (T.set n (some { x with uid := uid, gid := gid })) q p nb ev' ∧ Tx lo W ((W.setCell ⟨nb n, 2, none⟩ (I uid)).setCell ⟨nb n, 3, none⟩ (I gid))) := by
      obtain ⟨T6, X6⟩ := h.turn (y := { x with uid := uid, gid := gid }) (v := ev n) hx (W' := (W.setCell ⟨nb n, 2, none⟩ (I uid)).setCell ⟨nb n, 3, none⟩ (I gid)) (((Fn.refl _ _ _).set 2 _).set 3 _) (by rw [heap_set (heap_set hbx 2 _) 3 _]; simp [ndC]) ((h.hn n x hx).2.same fun g hg => by
        have hg2 : g ≠ nb n := fun e => by obtain ⟨_, cur, hc⟩ := (h.hn n x hx).2.blk hg; rw [e, hbx] at hc; simp [ndC] at hc
        rw [Below.heap_setCell _ _ _ _ hg2, Below.heap_setCell _ _ _ _ hg2]) (.inl rfl)
      exact ⟨_, T6, X6⟩
    have df2 := df 2
    have g1 := heap_set hbx 2 (I uid)
    have e3 : (W.setCell ⟨nb n, 2, none⟩ (I uid)).cell? ⟨nb n, 3, none⟩ = some (I x.gid) := by rw [cell_of g1]; simp [ndC]
    have df3 : (W.setCell ⟨nb n, 2, none⟩ (I uid)).frozen? ⟨nb n, 3, none⟩ = false := frozen_of g1 3
    clear h hx hbx df g1
    generalize nb n = b at *
    go_enter Tryz.func74, Tryz.ntmps74
    go_wp2_with fail
    go_ret
    exact ⟨rfl, unhide FIN⟩
theorem setMode_Q (h : Tq lo N W t T B) {n : Int} (hn : (kl n).wf = true) (mode : Int) :
    Calls Tryz.prog 40 #[P0 t, I n, I mode] W fun e w' => e = .returned (I (setsE T n)) ∧ Hid (Tq lo N w' t (T.setMode n mode) B) ∧ Hid (Tx lo W w') := by
  obtain ⟨⟨q, p, nb, ev, h1⟩, h2⟩ := h
  refine (setMode_any h1 hn mode).mono ?_
  rintro e w' ⟨rfl, ev', h3, h4⟩
  exact ⟨rfl, ⟨⟨q, p, nb, ev', h3⟩, h2.setMode n mode⟩, h4⟩
theorem setOwner_Q (h : Tq lo N W t T B) {n : Int} (hn : (kl n).wf = true) (u g : Int) :
    Calls Tryz.prog 74 #[P0 t, I n, I u, I g] W fun e w' => e = .returned (I (setsE T n)) ∧ Hid (Tq lo N w' t (T.setOwner n u g) B) ∧ Hid (Tx lo W w') := by
  obtain ⟨⟨q, p, nb, ev, h1⟩, h2⟩ := h
  refine (setOwner_any h1 hn u g).mono ?_
  rintro e w' ⟨rfl, ev', h3, h4⟩
  exact ⟨rfl, ⟨⟨q, p, nb, ev', h3⟩, h2.setOwner n u g⟩, h4⟩
end
end Go.Proofs.YtlngeaacjbdmhaaGreat

namespace Go.Proofs.YtlngeaacjbdmhaaGreat.Rb
open Go.RowKit Go.Maps
theorem wf_bounds {x : Int} (h : (Lit.int .i64 x).wf = true) : -9223372036854775808 ≤ x ∧ x ≤ 9223372036854775807 := by
  simp [Lit.wf] at h
  exact h
theorem get_nat {s : S} {j : Nat} {o : Option F} (h : s.fs[j]? = some o) : s.get ((j : Int) + 1) = o := by
  simp only [S.get]
  rw [if_pos (by omega), show ((j : Int) + 1).toNat - 1 = j by omega, h]
  cases o <;> rfl
end Go.Proofs.YtlngeaacjbdmhaaGreat.Rb

namespace Go.Proofs.YtlngeaacjbdmhaaGreat.Rb
open Go.RowKit Go.Maps
def bools (h : Nat → Bool) : List Value := (List.range 64).map fun k => .bool (h k)
theorem bools_get (h : Nat → Bool) {k : Nat} (hk : k < 64) : (bools h)[k]? = some (.bool (h k)) := by simp [bools, hk]
/-- The document's file in its blocks. -/
structure RF (base lim : Nat) (W : World) (c : Nat) (bv : Value) (x : F) : Prop where
  hc : W.heap[c]? = some (.cells (bv :: bools x.has).toArray 268)
  hb : W.ownsRow base 5 1 bv x.size (lst x.byte 0 x.size)
  lc : base ≤ c ∧ c < lim
  lb : ∀ g, bv.ownBlock = some g → g < lim
  ok : x.Ok
def ptrV (fb : Nat → Nat) (i : Nat) : Option F → Value
  | none => .pointer none
  | some _ => P0 (fb i)
def ptrs (fs : List (Option F)) (fb : Nat → Nat) : List Value := fs.mapIdx (ptrV fb)
theorem ptrs_get (fs : List (Option F)) (fb : Nat → Nat) (i : Nat) : (ptrs fs fb)[i]? = (fs[i]?).map (ptrV fb i) := by simp [ptrs, List.getElem?_mapIdx]
theorem ptrs_len (fs : List (Option F)) (fb : Nat → Nat) : (ptrs fs fb).length = fs.length := by simp [ptrs]
structure RI (base lim n : Nat) (W : World) (q : Nat) (s : S) (Lv : Value) (fb : Nat → Nat) (bv : Nat → Value) : Prop where
  hq : W.heap[q]? = some (.cells #[I n, Lv] 205)
  hL : W.ownsRow base 265 1 Lv s.fs.length (ptrs s.fs fb)
  hx : ∀ i x, s.fs[i]? = some (some x) → RF base lim W (fb i) (bv i) x
  dc : ∀ i j x y, s.fs[i]? = some (some x) → s.fs[j]? = some (some y) → i ≠ j → fb i ≠ fb j ∧ ∀ g, (bv i).ownBlock = some g → (bv j).ownBlock ≠ some g
  lq : base ≤ q ∧ q < lim
  lL : ∀ g, Lv.ownBlock = some g → g < lim
  ll : base ≤ lim ∧ lim ≤ W.heap.size
def Rq (base lim n : Nat) (W : World) (q : Nat) (s : S) : Prop := ∃ Lv fb bv, RI base lim n W q s Lv fb bv
theorem own_at {W : World} {base : Nat} {e : TypeId} {v : Value} {n : Nat} {xs : List Value} (h : W.ownsRow base e 1 v n xs) : (v = .slice none 0 0 ∧ n = 0 ∧ xs = []) ∨ ∃ g cap cur, v = .slice (some ⟨g, 0, none⟩) n cap ∧ base ≤ g ∧ W.heap[g]? = some (.cells cur e) ∧ n ≤ cap ∧ cap ≤ maxLen ∧ cur.size = cap ∧ cur.toList.take n = xs := by
  rcases h with ⟨h1, ⟨h2, h3⟩ | ⟨g, cap, cur, h2, h3, h4, h5, h6, h7, h8⟩⟩
  · refine .inl ⟨h2, h3, ?_⟩
    subst h3
    exact List.eq_nil_of_length_eq_zero (by simpa using h1)
  · exact .inr ⟨g, cap, cur, h2, h3, h4, h5, h6, by simpa using h7, by simpa using h8⟩
theorem own_keep {W W' : World} {base : Nat} {e : TypeId} {v : Value} {n : Nat} {xs : List Value} (h : W.ownsRow base e 1 v n xs) (hk : ∀ g (cur : Array Value), v.ownBlock = some g → W.heap[g]? = some (.cells cur e) → W'.heap[g]? = W.heap[g]?) : W'.ownsRow base e 1 v n xs := by
  obtain ⟨h1, h2 | ⟨g, cap, cur, rfl, h3, h4, h5⟩⟩ := h
  · exact ⟨h1, .inl h2⟩
  · exact ⟨h1, .inr ⟨g, cap, cur, rfl, h3, (hk g cur rfl h4).trans h4, h5⟩⟩
theorem own_cell {W : World} {base : Nat} {e : TypeId} {v : Value} {n : Nat} {xs : List Value} (h : W.ownsRow base e 1 v n xs) {j : Nat} (hj : j < n) : ∃ g cap, v = .slice (some ⟨g, 0, none⟩) n cap ∧ base ≤ g ∧ W.cell? ⟨g, j, none⟩ = xs[j]? ∧ (∀ i, W.frozen? ⟨g, i, none⟩ = false) := by
  rcases own_at h with ⟨_, h2, _⟩ | ⟨g, cap, cur, h1, h2, h3, h4, _, h5, h6⟩
  · omega
  · refine ⟨g, cap, h1, h2, ?_, frozen_of h3⟩
    rw [cell_of h3, ← h6, List.getElem?_take, if_pos hj]
    simp
theorem own_val {W : World} {base : Nat} {e : TypeId} {v : Value} {n : Nat} {xs : List Value} (h : W.ownsRow base e 1 v n xs) : ∃ a cap, v = .slice a n cap ∧ n ≤ cap := by
  rcases own_at h with ⟨h1, h2, _⟩ | ⟨g, cap, cur, h1, _, _, h4, _⟩
  · exact ⟨none, 0, by rw [h1, h2], by omega⟩
  · exact ⟨_, cap, h1, h4⟩
section
variable {base lim n : Nat} {W W' : World} {q : Nat} {s : S} {Lv : Value} {fb : Nat → Nat} {bv : Nat → Value}
/-- The document's pool stays where what lies below lim of its kinds does. -/
theorem RI.keep (h : RI base lim n W q s Lv fb bv) (hs : W.heap.size ≤ W'.heap.size) (hk : ∀ (b : Nat) (cs : Array Value) (t : TypeId) (f : Nat × Nat), W.heap[b]? = some (.cells cs t f) → t = 205 ∨ t = 265 ∨ t = 268 ∨ t = 5 → W'.heap[b]? = W.heap[b]?) : RI base lim n W' q s Lv fb bv :=
  ⟨(hk _ _ _ _ h.hq (by decide)).trans h.hq, own_keep h.hL fun g cur _ hg => hk _ _ _ _ hg (by decide), fun i x hi => ⟨(hk _ _ _ _ (h.hx i x hi).hc (by decide)).trans (h.hx i x hi).hc, own_keep (h.hx i x hi).hb fun g cur _ hg => hk _ _ _ _ hg (by decide), (h.hx i x hi).lc, (h.hx i x hi).lb, (h.hx i x hi).ok⟩, h.dc, h.lq, h.lL, h.ll.1, Nat.le_trans h.ll.2 hs⟩
theorem RI.below (h : RI base lim n W q s Lv fb bv) (g : Below W.heap.size W W') : RI base lim n W' q s Lv fb bv := h.keep g.size fun b _ _ _ hb _ => g.block b (lt_of_heap hb)
theorem RI.mono (h : RI base lim n W q s Lv fb bv) {lim' : Nat} (h1 : lim ≤ lim') (h2 : lim' ≤ W.heap.size) : RI base lim' n W q s Lv fb bv :=
  ⟨h.hq, h.hL, fun i x hi => ⟨(h.hx i x hi).hc, (h.hx i x hi).hb, ⟨(h.hx i x hi).lc.1, by have := (h.hx i x hi).lc.2; omega⟩, fun g hg => by have := (h.hx i x hi).lb g hg; omega, (h.hx i x hi).ok⟩, h.dc, ⟨h.lq.1, by have := h.lq.2; omega⟩, fun g hg => by have := h.lL g hg; omega, by have := h.ll; omega, h2⟩
theorem Rq.below (h : Rq base lim n W q s) (g : Below W.heap.size W W') : Rq base lim n W' q s := let ⟨Lv, fb, bv, h⟩ := h; ⟨Lv, fb, bv, h.below g⟩
theorem Rq.mono (h : Rq base lim n W q s) {lim' : Nat} (h1 : lim ≤ lim') (h2 : lim' ≤ W.heap.size) : Rq base lim' n W q s := let ⟨Lv, fb, bv, h⟩ := h; ⟨Lv, fb, bv, h.mono h1 h2⟩
theorem Rq.nx (h : Rq base lim n W q s) {bs : Bse} (g : Nx bs W W') : Rq base lim n W' q s := let ⟨Lv, fb, bv, h⟩ := h; ⟨Lv, fb, bv, h.keep g.bel.size fun b cs t f hb ht => (g.oth b cs t f hb (by rcases ht with rfl | rfl | rfl | rfl <;> decide) (by rcases ht with rfl | rfl | rfl | rfl <;> decide)).trans hb.symm⟩
theorem RI.cells (h : RI base lim n W q s Lv fb bv) : W.cell? ⟨q, 0, none⟩ = some (I n) ∧ W.cell? ⟨q, 1, none⟩ = some Lv ∧ ∀ i, W.frozen? ⟨q, i, none⟩ = false :=
  ⟨by rw [cell_of h.hq]; rfl, by rw [cell_of h.hq]; rfl, frozen_of h.hq⟩
end
/-- Where a file lies. -/
def ofV (s : S) (fb : Nat → Nat) (f : Int) : Value := match s.get f with | none => .pointer none | some _ => P0 (fb (f.toNat - 1))
set_option maxHeartbeats 1000000 in
theorem of_any {base lim n : Nat} {W : World} {q : Nat} {s : S} {Lv : Value} {fb : Nat → Nat} {bv : Nat → Value} (h : RI base lim n W q s Lv fb bv) (f : Int) (hf : (kl f).wf = true) (hl : s.fs.length ≤ 1000000) :
    Calls Tryz.prog 219 #[P0 q, I f] W fun e w' => e = .returned (ofV s fb f) ∧ w' = W := by
  obtain ⟨c0, c1, cf⟩ := h.cells
  have hfb := wf_bounds hf
  by_cases h1 : f < 1
  · have e : ofV s fb f = .pointer none := by simp only [ofV, S.get]; rw [if_neg (by omega)]
    rw [e]
    clear h
    go_enter Tryz.func219, Tryz.ntmps219
    go_wp2_with fail
    go_ret
    exact ⟨rfl, rfl⟩
  · obtain ⟨a, cap, hLv, hcap⟩ := own_val h.hL
    obtain ⟨L, hL⟩ : ∃ L : Nat, L = s.fs.length := ⟨_, rfl⟩
    rw [hLv, ← hL] at c1
    by_cases h2 : (L : Int) < f
    · have e : ofV s fb f = .pointer none := by
        simp only [ofV, S.get]
        rw [if_pos (by omega), List.getElem?_eq_none (by omega)]
        rfl
      rw [e]
      replace hL := hide hL
      clear h hLv hcap
      go_enter Tryz.func219, Tryz.ntmps219
      go_wp2_with fail
      go_ret
      exact ⟨rfl, rfl⟩
    · obtain ⟨k, hk⟩ : ∃ k : Nat, f = (k : Int) + 1 := ⟨(f - 1).toNat, by omega⟩
      have hkL : k < s.fs.length := by omega
      obtain ⟨g, cap2, e1, _, hc, _⟩ := own_cell h.hL hkL
      rw [ptrs_get] at hc
      obtain ⟨o, ho⟩ : ∃ o, s.fs[k]? = some o := ⟨_, List.getElem?_eq_getElem hkL⟩
      rw [ho] at hc
      have e : ofV s fb f = ptrV fb k o := by
        simp only [ofV]
        rw [hk, get_nat ho]
        cases o with
        | none => rfl
        | some x => simp [ptrV]
      rw [e]
      obtain ⟨v, hv⟩ : ∃ v, v = ptrV fb k o := ⟨_, rfl⟩
      rw [e1, hL.symm] at hLv
      cases hLv
      rw [Option.map_some, ← hv] at hc
      rw [← hv]
      have k2 : (k : Int) < (L : Int) := by omega
      have k3 : ¬ ((k : Int) + 1 < 1) := by omega
      have k4 : ¬ ((L : Int) < (k : Int) + 1) := by omega
      have k5 : (k : Int) ≤ 1000000 := by omega
      have k6 : (0 : Int) ≤ (k : Int) := by omega
      subst hk
      replace hL := hide hL
      clear h hv e hcap e1 ho h1 h2
      go_enter Tryz.func219, Tryz.ntmps219
      go_wp2_with fail
      go_ret
      exact ⟨rfl, rfl⟩
end Go.Proofs.YtlngeaacjbdmhaaGreat.Rb

namespace Go.Proofs.YtlngeaacjbdmhaaGreat.Rb
open Go.RowKit Go.Maps
theorem RF.cells {base lim : Nat} {W : World} {c : Nat} {bv : Value} {x : F} (h : RF base lim W c bv x) : W.cell? ⟨c, 0, none⟩ = some bv ∧ (∀ k, k < 64 → W.cell? ⟨c, 1 + k, none⟩ = some (.bool (x.has k))) ∧ ∀ i, W.frozen? ⟨c, i, none⟩ = false := by
  refine ⟨by rw [cell_of h.hc]; rfl, fun k hk => ?_, frozen_of h.hc⟩
  rw [cell_of h.hc]
  simp only [List.getElem?_toArray]
  rw [Nat.add_comm, List.getElem?_cons_succ, bools_get x.has hk]
theorem Sget_at {s : S} {f : Int} {x : F} (h : s.get f = some x) : s.fs[f.toNat - 1]? = some (some x) := (S.get_at h).2
set_option maxHeartbeats 1000000 in
theorem rsize_any {base lim n : Nat} {W : World} {q : Nat} {s : S} (h : Rq base lim n W q s) (f : Int) (hf : (kl f).wf = true) (hl : s.fs.length ≤ 1000000) :
    Calls Tryz.prog 145 #[P0 q, I f] W fun e w' => e = .returned (I (sizeO (s.get f))) ∧ w' = W := by
  obtain ⟨Lv, fb, bv, h⟩ := h
  cases e : s.get f with
  | none =>
    have he : ofV s fb f = .pointer none := by simp only [ofV, e]
    go_enter Tryz.func145, Tryz.ntmps145
    go_wp2_with fail
    refine (of_any h f hf hl).mono ?_
    rintro e w1 ⟨rfl, rfl⟩
    rw [he]
    go_wp2_with fail
    go_ret
    exact ⟨rfl, rfl⟩
  | some x =>
    have he : ofV s fb f = P0 (fb (f.toNat - 1)) := by simp only [ofV, e]
    have hx := h.hx _ x (Sget_at e)
    obtain ⟨c0, _, _⟩ := hx.cells
    obtain ⟨a, cap, hb, _⟩ := own_val hx.hb
    rw [hb] at c0
    clear hb
    go_enter Tryz.func145, Tryz.ntmps145
    go_wp2_with fail
    refine (of_any h f hf hl).mono ?_
    rintro e w1 ⟨rfl, rfl⟩
    rw [he]
    go_wp2_with fail
    go_ret
    exact ⟨rfl, rfl⟩
theorem rnew_any (n : Nat) (l : Nat) (w : World) : Calls Tryz.prog 61 #[I (n : Int)] w fun e w' => e = .returned (P0 w.heap.size) ∧ Rq w.heap.size w'.heap.size n w' w.heap.size ⟨l, []⟩ ∧ Below w.heap.size w w' := by
  go_enter Tryz.func61, Tryz.ntmps61
  go_wp2_with fail
  go_ret
  refine ⟨rfl, ?_, (Below.refl _ w).alloc (Nat.le_refl _) _⟩
  have hno : ∀ (i : Nat) (x : F), (⟨l, []⟩ : S).fs[i]? = some (some x) → False := fun i x h => by simp at h
  exact ⟨.slice none 0 0, fun _ => 0, fun _ => .slice none 0 0, heap_alloc_new _ _, World.ownsRow_nil _ _ _ _, fun i x h => (hno i x h).elim, fun i _ x _ h => (hno i x h).elim, ⟨Nat.le_refl _, by simp⟩, fun g hg => (by cases hg), ⟨by simp, Nat.le_refl _⟩⟩
end Go.Proofs.YtlngeaacjbdmhaaGreat.Rb
