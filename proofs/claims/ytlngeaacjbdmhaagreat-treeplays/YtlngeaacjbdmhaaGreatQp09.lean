/-
  What Make, Join and Part leave.
-/
import Derived.Test.YtlngeaacjbdmhaaGreatQp08
import Derived.Test.YtlngeaacjbdmhaaGreatQp07
import Derived.Deep.RegionWith
namespace Go.Proofs.YtlngeaacjbdmhaaGreat
open Go.RowKit Go.Maps
section
variable {B : Nat} {T : Tr}
theorem right_size {s : ByteArray} (h : right s = true) : s.size ≤ 255 := by
  simp only [right, Bool.and_eq_true, Bool.not_eq_true', Bool.or_eq_false_iff, decide_eq_false_iff_not] at h
  have h2 := h.1.1.2
  have e : s.size = s.data.toList.length := rfl
  rw [e]
  exact Nat.le_of_not_lt h2
theorem fits_kind {kind : Int} {text : ByteArray} (h : fitsB kind text = true) : 1 ≤ kind ∧ kind ≤ 3 := by
  simp only [fitsB] at h
  split at h
  · omega
  · simp at h; omega
theorem refuses0 {d : Nd} {s : ByteArray} (h : refusesE d s = 0) : getE d.ins s = none ∧ 0 < d.names := by
  simp only [refusesE] at h
  split at h
  · omega
  · split at h
    · omega
    · rename_i h1 h2
      exact ⟨by simpa using h1, by omega⟩
theorem Tr.makeE0 {dir : Int} {s : ByteArray} {kind : Int} {text : ByteArray} (h : T.makeE dir s kind text = 0) : ∃ d, T.nd dir = some d ∧ d.kind = 1 ∧ getE d.ins s = none ∧ 0 < d.names ∧ right s = true ∧ (1 ≤ kind ∧ kind ≤ 3) ∧ T.left ≠ 0 := by
  simp only [Tr.makeE] at h
  cases hx : T.dir dir with
  | none => rw [hx] at h; simp at h
  | some d =>
    rw [hx] at h
    simp only at h
    obtain ⟨h1, h2⟩ := Tr.dir_some.1 hx
    by_cases hr : right s = true ∧ fitsB kind text = true
    · rw [if_pos hr] at h
      by_cases hf : refusesE d s = 0
      · rw [if_neg (by simpa using hf)] at h
        obtain ⟨g1, g2⟩ := refuses0 hf
        by_cases hl : kind = 1 ∧ T.links d = 16
        · rw [if_pos hl] at h; omega
        · rw [if_neg hl] at h
          by_cases hz : T.left = 0
          · rw [if_pos hz] at h; omega
          · exact ⟨d, h1, h2, g1, g2, hr.1, fits_kind hr.2, hz⟩
      · rw [if_pos hf] at h; exact absurd h hf
    · rw [if_neg hr] at h; omega
theorem Tr.make_nd (hw : Wk B T) {dir : Int} {s : ByteArray} {kind mode uid gid : Int} {text : ByteArray} (h : T.makeE dir s kind text = 0) {d : Nd} (hd : T.nd dir = some d) (k : Int) : (T.make dir s kind mode uid gid text).nd k = if k = (T.made : Int) + 1 then some ⟨kind, bits .and .i64 mode 4095, uid, gid, 1, 0, if kind = 1 then dir else 0, [], if kind = 2 then (T.pool.fs.length : Int) + 1 else 0, text⟩ else if k = dir then some { d with ins := putE d.ins s ((T.made : Int) + 1) } else T.nd k := by
  have hk := hw.key dir d hd
  have hd5 : (T.add kind mode uid gid text).nd dir = some d := by simp only [Tr.add]; rw [if_neg (by omega)]; exact hd
  have hn5 : (T.add kind mode uid gid text).nd ((T.made : Int) + 1) = some ⟨kind, bits .and .i64 mode 4095, uid, gid, 0, 0, 0, [], if kind = 2 then (T.pool.fs.length : Int) + 1 else 0, text⟩ := by simp [Tr.add]
  rw [Tr.make, if_pos h, Tr.give_nd hd5 hn5]
  by_cases e : k = (T.made : Int) + 1
  · rw [if_pos e, if_pos e]; rfl
  · rw [if_neg e, if_neg e]
    by_cases e2 : k = dir
    · rw [if_pos e2, if_pos e2]
    · rw [if_neg e2, if_neg e2]
      simp only [Tr.add]
      rw [if_neg e]
theorem Wf.make (hw : Wf B T) (dir : Int) (s : ByteArray) (kind mode uid gid : Int) (text : ByteArray) (ht : text.size ≤ 281474976710656) : Wf (B + 2) (T.make dir s kind mode uid gid text) := by
  by_cases h : T.makeE dir s kind text = 0
  · obtain ⟨d, hd, hdk, hg, hdn, hr, hkk, _⟩ := Tr.makeE0 h
    have hnd := fun k => Tr.make_nd (mode := mode) (uid := uid) (gid := gid) hw.k h hd k
    have hkey := hw.k.key dir d hd
    have hm1 := hw.made1
    have hWk : Wk (B + 2) (T.make dir s kind mode uid gid text) := by
      have h1 := hw.k.add hm1 mode uid gid text hkk ht
      have hd5 : (T.add kind mode uid gid text).nd dir = some d := by simp only [Tr.add]; rw [if_neg (by omega)]; exact hd
      have hn5 : (T.add kind mode uid gid text).nd ((T.made : Int) + 1) = some ⟨kind, bits .and .i64 mode 4095, uid, gid, 0, 0, 0, [], if kind = 2 then (T.pool.fs.length : Int) + 1 else 0, text⟩ := by simp [Tr.add]
      rw [Tr.make, if_pos h]
      exact h1.give hd5 hn5 (by omega) hg (right_size hr)
    have hlive : ∀ k z, T.nd k = some z → k ≠ (T.made : Int) + 1 := fun k z hk => by have := hw.k.key k z hk; omega
    have old : ∀ k z, (T.make dir s kind mode uid gid text).nd k = some z → (k = (T.made : Int) + 1 ∧ z = ⟨kind, bits .and .i64 mode 4095, uid, gid, 1, 0, if kind = 1 then dir else 0, [], if kind = 2 then (T.pool.fs.length : Int) + 1 else 0, text⟩) ∨ (k ≠ (T.made : Int) + 1 ∧ k = dir ∧ z = { d with ins := putE d.ins s ((T.made : Int) + 1) }) ∨ (k ≠ (T.made : Int) + 1 ∧ k ≠ dir ∧ T.nd k = some z) := fun k z hz => by
      rw [hnd] at hz
      by_cases e : k = (T.made : Int) + 1
      · rw [if_pos e] at hz; cases hz; exact .inl ⟨e, rfl⟩
      · rw [if_neg e] at hz
        by_cases e2 : k = dir
        · rw [if_pos e2] at hz; cases hz; exact .inr (.inl ⟨e, e2, rfl⟩)
        · rw [if_neg e2] at hz; exact .inr (.inr ⟨e, e2, hz⟩)
    have keep : ∀ u z, T.nd u = some z → ∃ z', (T.make dir s kind mode uid gid text).nd u = some z' ∧ (∀ e ∈ z.ins, e ∈ z'.ins) := fun u z hz => by
      rw [hnd, if_neg (hlive u z hz)]
      by_cases e2 : u = dir
      · subst e2; rw [hd] at hz; cases hz
        exact ⟨_, by rw [if_pos rfl], fun e he => putE_mem.2 (.inr he)⟩
      · exact ⟨z, by rw [if_neg e2]; exact hz, fun e he => he⟩
    have hup : ∀ k, k ≠ (T.made : Int) + 1 → (T.make dir s kind mode uid gid text).up k = T.up k := fun k e => by
      simp only [Tr.up, Tr.dir, hnd, if_neg e]
      by_cases e2 : k = dir
      · rw [if_pos e2, e2, hd]
        by_cases hk : d.kind = 1 <;> simp [hk]
      · rw [if_neg e2]
    have hun : ∀ k, k ≠ (T.made : Int) + 1 → T.up k ≠ 0 → T.up k ≠ (T.made : Int) + 1 := fun k hk _ => by
      rcases hw.up_cases k with h1 | h1 | ⟨d', s', h1, h2⟩
      · omega
      · rw [h1]; exact hk
      · exact hlive _ d' h1
    refine ⟨hWk, ?_, fun k z hz hk => ?_, fun k z hz hk h1 hp => ?_, fun k z hz hi => ?_, fun k z hz hk => ?_, fun k z hz => ?_⟩
    · obtain ⟨r, g1, g2, g3, g4⟩ := hw.root
      by_cases e : (1 : Int) = dir
      · rw [← e, g1] at hd; cases hd
        exact ⟨{ d with ins := putE d.ins s ((T.made : Int) + 1) }, by rw [hnd, if_neg (by omega), if_pos e], g2, g3, g4⟩
      · exact ⟨r, by rw [hnd, if_neg (by omega), if_neg e]; exact g1, g2, g3, g4⟩
    · rcases old k z hz with ⟨rfl, rfl⟩ | ⟨_, rfl, rfl⟩ | ⟨_, _, hz⟩
      · exact Nat.le_refl _
      · exact hw.one k d hd hk
      · exact hw.one k z hz hk
    · have key : ∀ z0, T.nd k = some z0 → z0.kind = 1 → 0 < z0.names → z0.up = z.up → z.up ≠ k ∧ ∃ d0 s0, (T.make dir s kind mode uid gid text).nd z.up = some d0 ∧ (s0, k) ∈ d0.ins := fun z0 h0 hk0 hp0 hu => by
        obtain ⟨u1, d', s', u2, u3⟩ := hw.upd k z0 h0 hk0 h1 hp0
        rw [hu] at u1 u2
        obtain ⟨z', w1, w2⟩ := keep _ d' u2
        exact ⟨u1, z', s', w1, w2 _ u3⟩
      rcases old k z hz with ⟨rfl, rfl⟩ | ⟨_, rfl, rfl⟩ | ⟨_, _, hz⟩
      · simp only at hk
        subst hk
        simp only [if_true]
        refine ⟨by omega, { d with ins := putE d.ins s ((T.made : Int) + 1) }, s, ?_, putE_mem.2 (.inl rfl)⟩
        rw [hnd, if_neg (by omega), if_pos rfl]
      · exact key d hd hk hp rfl
      · exact key z hz hk hp rfl
    · rcases old k z hz with ⟨rfl, rfl⟩ | ⟨_, rfl, rfl⟩ | ⟨_, _, hz⟩
      · exact absurd rfl hi
      · exact ⟨hdk, hdn⟩
      · exact hw.emp k z hz hi
    · by_cases e : k = (T.made : Int) + 1
      · subst e
        rcases old _ z hz with ⟨_, rfl⟩ | ⟨h', _⟩ | ⟨h', _⟩
        · simp only at hk
          subst hk
          obtain ⟨l, hl⟩ := hw.chn dir d hd hdk
          refine ⟨dir :: l, ?_, by omega, by omega, Ab.congr (fun k => k ≠ (T.made : Int) + 1) hup hun (by omega) hl⟩
          rw [Tr.up_dir hz rfl]
          simp
        · exact absurd rfl h'
        · exact absurd rfl h'
      · have : ∃ z0, T.nd k = some z0 ∧ z0.kind = 1 := by
          rcases old k z hz with ⟨h', _⟩ | ⟨_, rfl, rfl⟩ | ⟨_, _, hz⟩
          · exact absurd h' e
          · exact ⟨d, hd, hk⟩
          · exact ⟨z, hz, hk⟩
        obtain ⟨z0, h0, hk0⟩ := this
        obtain ⟨l, hl⟩ := hw.chn k z0 h0 hk0
        exact ⟨l, Ab.congr (fun k => k ≠ (T.made : Int) + 1) hup hun e hl⟩
    · rcases old k z hz with ⟨rfl, rfl⟩ | ⟨_, rfl, rfl⟩ | ⟨_, _, hz⟩
      · exact .inl (Nat.lt_succ_self 0)
      · exact hw.alv k d hd
      · exact hw.alv k z hz
  · rw [Tr.make, if_neg h]; exact hw.mono (by omega)
theorem Tr.partE0 {dir : Int} {s : ByteArray} (h : T.partE dir s = 0) : ∃ d n, T.nd dir = some d ∧ getE d.ins s = some n ∧ T.insOf n = [] := by
  simp only [Tr.partE] at h
  cases hx : T.dir dir with
  | none => rw [hx] at h; simp at h
  | some d =>
    rw [hx] at h
    simp only at h
    cases hg : getE d.ins s with
    | none => rw [hg] at h; simp at h
    | some n =>
      rw [hg] at h
      simp only at h
      split at h
      · omega
      · rename_i hz
        exact ⟨d, n, (Tr.dir_some.1 hx).1, hg, List.eq_nil_of_length_eq_zero (by omega)⟩
theorem Wf.part (hw : Wf B T) (dir : Int) (s : ByteArray) : Wf B (T.part dir s) := by
  by_cases h : T.partE dir s = 0
  · obtain ⟨d, n, hd, hg, hi⟩ := Tr.partE0 h
    obtain ⟨x, hx⟩ := hw.k.ent hd (getE_some hg)
    simp only [Tr.insOf, hx] at hi
    rw [Tr.part, if_pos h]
    exact (hw.take hd hg hx hi).1
  · rw [Tr.part, if_neg h]; exact hw
end
end Go.Proofs.YtlngeaacjbdmhaaGreat

namespace Go.Proofs.YtlngeaacjbdmhaaGreat
open Go.RowKit Go.Maps
section
variable {lo N : Nat} {W W' : World} {t : Nat} {T : Tr} {q p : Nat} {nb : Int → Nat} {ev : Int → Value} {B : Nat}
theorem dirB (h : TrI lo N W t T q p nb ev) {n : Int} (hn : (kl n).wf = true) (w : World) (hb : Below W.heap.size W w) :
    Calls Tryz.prog 116 #[P0 t, I n] w fun e w' => e = .returned (.tuple #[(if (T.nd n).isSome = true then P0 (nb n) else .pointer none), .bool (T.dir n).isSome]) ∧ Hid (Below W.heap.size W w') := by
  cases hx : T.nd n with
  | none =>
    refine (dir_none (h.below hb) hn hx).mono ?_
    rintro e w' ⟨rfl, k, rfl⟩
    exact ⟨by simp [Tr.dir, hx], below_dn hb k⟩
  | some x =>
    refine (dir_some (h.below hb) hn hx).mono ?_
    rintro e w' ⟨rfl, k, rfl⟩
    refine ⟨?_, below_dn hb k⟩
    by_cases hk : x.kind = 1 <;> simp [Tr.dir, hx, hk]
theorem Tr.add_old {T : Tr} {k : Int} {x : Nd} (hw : Wk B T) (hk : T.nd k = some x) (kind mode uid gid : Int) (text : ByteArray) : (T.add kind mode uid gid text).nd k = some x := by
  have := hw.key k x hk
  simp only [Tr.add]
  rw [if_neg (by omega)]
  exact hk
set_option maxRecDepth 100000 in
set_option maxHeartbeats 2000000 in
theorem make_any (h : TrI lo N W t T q p nb ev) (hw : Wk B T) (hB : B ≤ 890) {dir : Int} (hn : (kl dir).wf = true) (s : ByteArray) (a kind mode uid gid f g : Int) (text : ByteArray) (hz : text.size ≤ 281474976710656) :
    Calls Tryz.prog 62 #[P0 t, I dir, .string s, stV a kind mode uid gid f g, .string text] W fun e w' => e = .returned (.tuple #[I (T.makeN dir s kind text), I (T.makeE dir s kind text)]) ∧ Tp lo N w' t (T.make dir s kind mode uid gid text) ∧ Tx lo W w' := by
  have hlo := h.bd.2.2.1
  obtain ⟨W0, hW0⟩ : ∃ W0, W.alloc (.cells #[I a, I kind, I mode, I uid, I gid, I f, I g] 33) = W0 := ⟨_, rfl⟩
  have hBW : Below W.heap.size W W0 := by rw [← hW0]; exact (Below.refl _ W).alloc (Nat.le_refl _) _
  have hR : W0.heap[W.heap.size]? = some (.cells #[I a, I kind, I mode, I uid, I gid, I f, I g] 33) := by rw [← hW0]; exact heap_alloc_new W _
  have X0 : Tx lo W W0 := .of_below hBW hlo
  have h0 := h.below hBW
  have HTp : Hid (∀ w, Below W0.heap.size W0 w → Tp lo N w t T ∧ Tx lo W w) := fun w hb => ⟨⟨q, p, nb, ev, h0.below hb⟩, X0.trans (.of_below hb h0.bd.2.2.1)⟩
  have SC : Hid (∀ w, Below W0.heap.size W0 w → w.cell? ⟨W.heap.size, 0, none⟩ = some (I a) ∧ w.cell? ⟨W.heap.size, 1, none⟩ = some (I kind) ∧ w.cell? ⟨W.heap.size, 2, none⟩ = some (I mode) ∧ w.cell? ⟨W.heap.size, 3, none⟩ = some (I uid) ∧ w.cell? ⟨W.heap.size, 4, none⟩ = some (I gid) ∧ w.cell? ⟨W.heap.size, 5, none⟩ = some (I f) ∧ w.cell? ⟨W.heap.size, 6, none⟩ = some (I g)) := fun w hb => by
    obtain ⟨e0, e1, e2, e3, e4, e5, e6, -⟩ := cells7 ((hb.block W.heap.size (lt_of_heap hR)).trans hR)
    exact ⟨e0, e1, e2, e3, e4, e5, e6⟩
  have HD := hide (dirB h0 hn)
  have HR := hide (right_any s)
  have HF := hide (fits_any kind text)
  have hb0 := hide (Below.refl W0.heap.size W0)
  obtain ⟨R, hRR⟩ : ∃ R, W.heap.size = R := ⟨_, rfl⟩
  obtain ⟨ft, hft⟩ : ∃ ft, ft = fitsB kind text := ⟨_, rfl⟩
  obtain ⟨rt, hrt⟩ : ∃ rt, rt = right s := ⟨_, rfl⟩
  rw [← hft] at HF
  rw [← hrt] at HR
  cases hx : T.dir dir with
  | none =>
    have e1 : T.makeE dir s kind text = 1 := by simp [Tr.makeE, hx]
    have e2 : T.make dir s kind mode uid gid text = T := by simp [Tr.make, e1]
    have e3 : T.makeN dir s kind text = 0 := by simp [Tr.makeN, e1]
    rw [e1, e2, e3]
    rw [hx] at HD
    obtain ⟨pv, hpv⟩ : ∃ pv, pv = (if (T.nd dir).isSome = true then P0 (nb dir) else Value.pointer none) := ⟨_, rfl⟩
    rw [← hpv] at HD
    clear h hw hx e1 e2 e3 hpv hBW hR X0 h0 hRR hft hrt
    go_enter Tryz.func62, Tryz.ntmps62
    go_wp2_with (first
        | (go_at_call 116; refine (unhide HD _ (unhide hb0)).mono ?_; rintro e w1 ⟨rfl, hb1⟩; obtain ⟨s0, s1, s2, s3, s4, s5, s6⟩ := unhide SC w1 (unhide hb1)))
    go_ret2
    exact ⟨rfl, unhide HTp _ (unhide hb1)⟩
  | some d =>
    obtain ⟨hd, hk1⟩ := Tr.dir_some.1 hx
    rw [hx, hd] at HD
    simp only [Option.isSome_some, if_true] at HD
    have HRF : Hid (∀ w, Below W0.heap.size W0 w → Calls Tryz.prog 123 #[P0 (nb dir), .string s] w fun e w' => e = .returned (I (refusesE d s)) ∧ Hid (Below W0.heap.size W0 w')) := fun w hb =>
      (refuses_any ((h0.below hb).hn dir d hd).1 ((h0.below hb).hn dir d hd).2 (hw.srt dir d hd) (by have := (hw.bnd dir d hd).2.2; omega) s).mono fun e w' ⟨h1, h2⟩ => ⟨h1, hb.trans (h2.mono hb.size)⟩
    have HLK : Hid (∀ w, Below W0.heap.size W0 w → Calls Tryz.prog 108 #[P0 t, P0 (nb dir)] w fun e w' => e = .returned (I (T.links d : Nat)) ∧ Hid (Below W0.heap.size W0 w')) := fun w hb =>
      (links_any (h0.below hb) hw (by omega) hd).mono fun e w' ⟨h1, h2⟩ => ⟨h1, hb.trans (h2.mono hb.size)⟩
    have HLF : Hid (∀ w, Below W0.heap.size W0 w → Calls Tryz.prog 86 #[P0 t] w fun e w' => e = .returned (I T.left) ∧ Hid (Below W0.heap.size W0 w')) := fun w hb =>
      (left_any (h0.below hb) hw (by omega)).mono fun e w' ⟨h1, k, h2⟩ => ⟨h1, by rw [h2]; exact below_dn hb k⟩
    have HA : Hid (∀ w, Below W0.heap.size W0 w → T.makeE dir s kind text = 0 → right s = true → Calls Tryz.prog 60 #[P0 t, stV a kind mode uid gid f g, .string text] w fun e w5 => e = .returned (I ((T.made : Int) + 1)) ∧ Hid (Calls Tryz.prog 124 #[P0 t, I dir, .string s, I ((T.made : Int) + 1)] w5 fun e w6 => e = .returned (.tuple #[]) ∧ Hid (Tp lo N w6 t (T.make dir s kind mode uid gid text) ∧ Tx lo W w6))) := fun w hb hE hrs => by
      refine (add_any (h0.below hb) hw (by omega) a kind mode uid gid f g text hz).mono ?_
      rintro e w5 ⟨h1, b, T5, X5⟩
      refine ⟨h1, ?_⟩
      have hd5 := Tr.add_old hw hd kind mode uid gid text
      have hn5 : (T.add kind mode uid gid text).nd ((T.made : Int) + 1) = some ⟨kind, bits .and .i64 mode 4095, uid, gid, 0, 0, 0, [], if kind = 2 then (T.pool.fs.length : Int) + 1 else 0, text⟩ := by simp [Tr.add]
      have hkey := hw.key dir d hd
      refine (give_any T5 hn (wf_of (by have := hw.made; omega)) hd5 hn5 (by omega) (hw.srt dir d hd) (by have := (hw.bnd dir d hd).2.2; omega) (by simp) s (by have := right_size hrs; omega)).mono ?_
      rintro e w6 ⟨h6, ev', T6, X6⟩
      have hmm : T.make dir s kind mode uid gid text = (T.add kind mode uid gid text).give dir s ((T.made : Int) + 1) := by rw [Tr.make, if_pos hE]
      rw [hmm]
      exact ⟨h6, ⟨q, p, _, ev', T6⟩, X0.trans ((Tx.of_below hb h0.bd.2.2.1).trans (X5.trans X6))⟩
    have hmE : T.makeE dir s kind text = if right s = true ∧ fitsB kind text = true then (if refusesE d s ≠ 0 then refusesE d s else if kind = 1 ∧ T.links d = 16 then 44 else if T.left = 0 then 43 else 0) else 1 := by simp [Tr.makeE, hx]
    have hmk : T.makeE dir s kind text ≠ 0 → T.make dir s kind mode uid gid text = T ∧ T.makeN dir s kind text = 0 := fun hE => ⟨by rw [Tr.make, if_neg hE], by rw [Tr.makeN, if_neg hE]⟩
    have hmk0 : T.makeE dir s kind text = 0 → T.makeN dir s kind text = (T.made : Int) + 1 := fun hE => by rw [Tr.makeN, if_pos hE]
    obtain ⟨rf, hrf⟩ : ∃ rf, rf = refusesE d s := ⟨_, rfl⟩
    obtain ⟨lk, hlk⟩ : ∃ lk, lk = T.links d := ⟨_, rfl⟩
    obtain ⟨lf, hlf⟩ : ∃ lf, lf = T.left := ⟨_, rfl⟩
    obtain ⟨E, hE⟩ : ∃ E, E = T.makeE dir s kind text := ⟨_, rfl⟩
    obtain ⟨b, hbb⟩ : ∃ b, b = nb dir := ⟨_, rfl⟩
    obtain ⟨M, hMM⟩ : ∃ M : Int, M = (T.made : Int) + 1 := ⟨_, rfl⟩
    rw [← hrf] at HRF hmE
    rw [← hlk] at HLK hmE
    rw [← hlf] at HLF hmE
    rw [← hE] at hmE hmk hmk0 HA ⊢
    rw [← hrt] at hmE HA
    rw [← hft] at hmE
    rw [← hbb] at HD HRF HLK
    rw [← hMM] at HA hmk0
    clear h hw hx hd hk1 hBW hR X0 h0 hft hrt hrf hlk hlf hE hbb hMM hRR
    by_cases h1 : rt = true
    · subst h1
      by_cases h2 : ft = true
      · subst h2
        simp only [and_self, if_true] at hmE
        by_cases h3 : rf = 0
        · subst h3
          simp only [ne_eq, not_true_eq_false, if_false] at hmE
          by_cases h4 : kind = 1
          · subst h4
            by_cases h5 : lk = 16
            · subst h5
              simp at hmE
              subst hmE
              obtain ⟨e2, e3⟩ := hmk (by decide)
              rw [e2, e3]
              clear hmk hmk0 HA e2 e3
              go_enter Tryz.func62, Tryz.ntmps62
              go_wp2_with (first
                  | (go_at_call 116; refine (unhide HD _ (unhide hb0)).mono ?_; rintro e w1 ⟨rfl, hb1⟩; obtain ⟨s0, s1, s2, s3, s4, s5, s6⟩ := unhide SC w1 (unhide hb1))
                  | (go_at_call 121; refine (unhide HR _).mono ?_; rintro e w' ⟨rfl, rfl⟩)
                  | (go_at_call 122; refine (unhide HF _).mono ?_; rintro e w' ⟨rfl, rfl⟩)
                  | (go_at_call 123; refine (unhide HRF _ (unhide hb1)).mono ?_; rintro e w2 ⟨rfl, hb2⟩; obtain ⟨t0, t1, t2, t3, t4, t5, t6⟩ := unhide SC w2 (unhide hb2))
                  | (go_at_call 108; refine (unhide HLK _ (unhide hb2)).mono ?_; rintro e w3 ⟨rfl, hb3⟩; obtain ⟨u0, u1, u2, u3, u4, u5, u6⟩ := unhide SC w3 (unhide hb3)))
              go_ret2
              exact ⟨rfl, unhide HTp _ (unhide hb3)⟩
            · have h5i : ¬ ((lk : Int) = 16) := by omega
              by_cases h6 : lf = 0
              · subst h6
                simp [h5] at hmE
                subst hmE
                obtain ⟨e2, e3⟩ := hmk (by decide)
                rw [e2, e3]
                clear hmk hmk0 HA e2 e3
                go_enter Tryz.func62, Tryz.ntmps62
                go_wp2_with (first
                    | (go_at_call 116; refine (unhide HD _ (unhide hb0)).mono ?_; rintro e w1 ⟨rfl, hb1⟩; obtain ⟨s0, s1, s2, s3, s4, s5, s6⟩ := unhide SC w1 (unhide hb1))
                    | (go_at_call 121; refine (unhide HR _).mono ?_; rintro e w' ⟨rfl, rfl⟩)
                    | (go_at_call 122; refine (unhide HF _).mono ?_; rintro e w' ⟨rfl, rfl⟩)
                    | (go_at_call 123; refine (unhide HRF _ (unhide hb1)).mono ?_; rintro e w2 ⟨rfl, hb2⟩; obtain ⟨t0, t1, t2, t3, t4, t5, t6⟩ := unhide SC w2 (unhide hb2))
                    | (go_at_call 108; refine (unhide HLK _ (unhide hb2)).mono ?_; rintro e w3 ⟨rfl, hb3⟩; obtain ⟨u0, u1, u2, u3, u4, u5, u6⟩ := unhide SC w3 (unhide hb3))
                    | (go_at_call 86; refine (unhide HLF _ (unhide hb3)).mono ?_; rintro e w4 ⟨rfl, hb4⟩; obtain ⟨x0, x1, x2, x3, x4, x5, x6⟩ := unhide SC w4 (unhide hb4)))
                go_ret2
                exact ⟨rfl, unhide HTp _ (unhide hb4)⟩
              · simp [h5, h6] at hmE
                subst hmE
                rw [hmk0 rfl]
                have HA2 := hide (fun w hb => unhide HA w hb rfl rfl)
                clear hmk hmk0 HA
                go_enter Tryz.func62, Tryz.ntmps62
                go_wp2_with (first
                    | (go_at_call 116; refine (unhide HD _ (unhide hb0)).mono ?_; rintro e w1 ⟨rfl, hb1⟩; obtain ⟨s0, s1, s2, s3, s4, s5, s6⟩ := unhide SC w1 (unhide hb1))
                    | (go_at_call 121; refine (unhide HR _).mono ?_; rintro e w' ⟨rfl, rfl⟩)
                    | (go_at_call 122; refine (unhide HF _).mono ?_; rintro e w' ⟨rfl, rfl⟩)
                    | (go_at_call 123; refine (unhide HRF _ (unhide hb1)).mono ?_; rintro e w2 ⟨rfl, hb2⟩; obtain ⟨t0, t1, t2, t3, t4, t5, t6⟩ := unhide SC w2 (unhide hb2))
                    | (go_at_call 108; refine (unhide HLK _ (unhide hb2)).mono ?_; rintro e w3 ⟨rfl, hb3⟩; obtain ⟨u0, u1, u2, u3, u4, u5, u6⟩ := unhide SC w3 (unhide hb3))
                    | (go_at_call 86; refine (unhide HLF _ (unhide hb3)).mono ?_; rintro e w4 ⟨rfl, hb4⟩; obtain ⟨x0, x1, x2, x3, x4, x5, x6⟩ := unhide SC w4 (unhide hb4))
                    | (go_at_call 60; refine (unhide HA2 _ (unhide hb4)).mono ?_; rintro e w5 ⟨rfl, HG⟩)
                    | (go_at_call 124; refine (unhide HG).mono ?_; rintro e w6 ⟨rfl, FF⟩))
                go_ret2
                exact ⟨rfl, unhide FF⟩
          · by_cases h6 : lf = 0
            · subst h6
              simp [h4] at hmE
              subst hmE
              obtain ⟨e2, e3⟩ := hmk (by decide)
              rw [e2, e3]
              clear hmk hmk0 HA e2 e3
              go_enter Tryz.func62, Tryz.ntmps62
              go_wp2_with (first
                  | (go_at_call 116; refine (unhide HD _ (unhide hb0)).mono ?_; rintro e w1 ⟨rfl, hb1⟩; obtain ⟨s0, s1, s2, s3, s4, s5, s6⟩ := unhide SC w1 (unhide hb1))
                  | (go_at_call 121; refine (unhide HR _).mono ?_; rintro e w' ⟨rfl, rfl⟩)
                  | (go_at_call 122; refine (unhide HF _).mono ?_; rintro e w' ⟨rfl, rfl⟩)
                  | (go_at_call 123; refine (unhide HRF _ (unhide hb1)).mono ?_; rintro e w2 ⟨rfl, hb2⟩; obtain ⟨t0, t1, t2, t3, t4, t5, t6⟩ := unhide SC w2 (unhide hb2))
                  | (go_at_call 86; refine (unhide HLF _ (unhide hb2)).mono ?_; rintro e w4 ⟨rfl, hb4⟩; obtain ⟨x0, x1, x2, x3, x4, x5, x6⟩ := unhide SC w4 (unhide hb4)))
              go_ret2
              exact ⟨rfl, unhide HTp _ (unhide hb4)⟩
            · simp [h4, h6] at hmE
              subst hmE
              rw [hmk0 rfl]
              have HA2 := hide (fun w hb => unhide HA w hb rfl rfl)
              clear hmk hmk0 HA
              go_enter Tryz.func62, Tryz.ntmps62
              go_wp2_with (first
                  | (go_at_call 116; refine (unhide HD _ (unhide hb0)).mono ?_; rintro e w1 ⟨rfl, hb1⟩; obtain ⟨s0, s1, s2, s3, s4, s5, s6⟩ := unhide SC w1 (unhide hb1))
                  | (go_at_call 121; refine (unhide HR _).mono ?_; rintro e w' ⟨rfl, rfl⟩)
                  | (go_at_call 122; refine (unhide HF _).mono ?_; rintro e w' ⟨rfl, rfl⟩)
                  | (go_at_call 123; refine (unhide HRF _ (unhide hb1)).mono ?_; rintro e w2 ⟨rfl, hb2⟩; obtain ⟨t0, t1, t2, t3, t4, t5, t6⟩ := unhide SC w2 (unhide hb2))
                  | (go_at_call 86; refine (unhide HLF _ (unhide hb2)).mono ?_; rintro e w4 ⟨rfl, hb4⟩; obtain ⟨x0, x1, x2, x3, x4, x5, x6⟩ := unhide SC w4 (unhide hb4))
                  | (go_at_call 60; refine (unhide HA2 _ (unhide hb4)).mono ?_; rintro e w5 ⟨rfl, HG⟩)
                  | (go_at_call 124; refine (unhide HG).mono ?_; rintro e w6 ⟨rfl, FF⟩))
              go_ret2
              exact ⟨rfl, unhide FF⟩
        · simp only [ne_eq, h3, not_false_eq_true, if_true] at hmE
          subst hmE
          obtain ⟨e2, e3⟩ := hmk h3
          rw [e2, e3]
          clear hmk hmk0 HA e2 e3
          go_enter Tryz.func62, Tryz.ntmps62
          go_wp2_with (first
              | (go_at_call 116; refine (unhide HD _ (unhide hb0)).mono ?_; rintro e w1 ⟨rfl, hb1⟩; obtain ⟨s0, s1, s2, s3, s4, s5, s6⟩ := unhide SC w1 (unhide hb1))
              | (go_at_call 121; refine (unhide HR _).mono ?_; rintro e w' ⟨rfl, rfl⟩)
              | (go_at_call 122; refine (unhide HF _).mono ?_; rintro e w' ⟨rfl, rfl⟩)
              | (go_at_call 123; refine (unhide HRF _ (unhide hb1)).mono ?_; rintro e w2 ⟨rfl, hb2⟩; obtain ⟨t0, t1, t2, t3, t4, t5, t6⟩ := unhide SC w2 (unhide hb2)))
          go_ret2
          exact ⟨rfl, unhide HTp _ (unhide hb2)⟩
      · replace h2 : ft = false := by simpa using h2
        subst h2
        simp at hmE
        subst hmE
        obtain ⟨e2, e3⟩ := hmk (by decide)
        rw [e2, e3]
        clear hmk hmk0 HA e2 e3
        go_enter Tryz.func62, Tryz.ntmps62
        go_wp2_with (first
            | (go_at_call 116; refine (unhide HD _ (unhide hb0)).mono ?_; rintro e w1 ⟨rfl, hb1⟩; obtain ⟨s0, s1, s2, s3, s4, s5, s6⟩ := unhide SC w1 (unhide hb1))
            | (go_at_call 121; refine (unhide HR _).mono ?_; rintro e w' ⟨rfl, rfl⟩)
            | (go_at_call 122; refine (unhide HF _).mono ?_; rintro e w' ⟨rfl, rfl⟩))
        go_ret2
        exact ⟨rfl, unhide HTp _ (unhide hb1)⟩
    · replace h1 : rt = false := by simpa using h1
      subst h1
      simp at hmE
      subst hmE
      obtain ⟨e2, e3⟩ := hmk (by decide)
      rw [e2, e3]
      clear hmk hmk0 HA e2 e3
      go_enter Tryz.func62, Tryz.ntmps62
      go_wp2_with (first
          | (go_at_call 116; refine (unhide HD _ (unhide hb0)).mono ?_; rintro e w1 ⟨rfl, hb1⟩; obtain ⟨s0, s1, s2, s3, s4, s5, s6⟩ := unhide SC w1 (unhide hb1))
          | (go_at_call 121; refine (unhide HR _).mono ?_; rintro e w' ⟨rfl, rfl⟩))
      go_ret2
      exact ⟨rfl, unhide HTp _ (unhide hb1)⟩
end
end Go.Proofs.YtlngeaacjbdmhaaGreat

namespace Go.Proofs.YtlngeaacjbdmhaaGreat
open Go.RowKit Go.Maps
section
variable {lo N : Nat} {W W' : World} {t : Nat} {T : Tr} {q p : Nat} {nb : Int → Nat} {ev : Int → Value} {B : Nat}
theorem TrI.gone (h : TrI lo N W t T q p nb ev) {n : Int} (hm : Mp W' q (T.made + 1) (upd (fun k => if (T.nd k).isSome = true then some (P0 (nb k)) else none) n none)) (F : Fr [q] W W') : TrI lo N W' t (T.set n none) q p nb ev ∧ Tx lo W W' := by
  have kc : ∀ (b : Nat) (cs : Array Value) (ty : TypeId) (f : Nat × Nat), W.heap[b]? = some (.cells cs ty f) → W'.heap[b]? = W.heap[b]? := fun b cs ty f e => F.blk b (lt_of_heap e) (by simp only [List.mem_cons, List.not_mem_nil, or_false]; exact fun e2 => map_blk h.hm (by rw [← e2]; exact e))
  have hold : ∀ k x, (T.set n none).nd k = some x → T.nd k = some x := fun k x hk => by
    by_cases e : k = n
    · subst e; rw [Tr.set_same] at hk; cases hk
    · rwa [Tr.set_other _ _ e] at hk
  refine ⟨⟨(kc _ _ _ _ h.ht).trans h.ht, hm.congr fun k => ?_, fun k x hk => ⟨(kc _ _ _ _ (h.hn k x (hold k x hk)).1).trans (h.hn k x (hold k x hk)).1, (h.hn k x (hold k x hk)).2.same fun g hg => ?_⟩, fun j k x y hj hk => h.dn j k x y (hold j x hj) (hold k y hk), ?_, ⟨h.bd.1, h.bd.2.1, Nat.le_trans h.bd.2.2.1 F.size, fun k x hk => h.bd.2.2.2 k x (hold k x hk)⟩⟩, ⟨F.base h.bd.2.2.1 (by simp; exact h.bd.2.1), fun b cs ty f e _ _ _ _ _ => (kc b cs ty f e).trans e⟩⟩
  · simp only [upd]
    by_cases e : k = n
    · subst e; simp [Tr.set]
    · simp [Tr.set, e]
  · obtain ⟨_, cur, hc⟩ := (h.hn k x (hold k x hk)).2.blk hg
    exact kc _ _ _ _ hc
  · exact h.pl.keepK F.size (fun b es k e hK => F.blk b (lt_of_heap e) (by simpa using hK)) fun b cs ty f e _ => kc b cs ty f e
set_option maxRecDepth 100000 in
set_option maxHeartbeats 1000000 in
theorem leave_any (h : TrI lo N W t T q p nb ev) (hB : B ≤ 900) {n : Int} {x : Nd} (hn : (kl n).wf = true) (hx : T.nd n = some x) (hf : 0 ≤ x.file ∧ x.file ≤ B) :
    Calls Tryz.prog 134 #[P0 t, I n] W fun e w' => e = .returned (.tuple #[]) ∧ TrI lo N w' t (T.leave n) q p nb ev ∧ Tx lo W w' := by
  obtain ⟨c0, c1, c2, c3, cf⟩ := h.cells
  have hl := h.look hn
  rw [hx] at hl
  simp only [Option.isSome_some, if_true] at hl
  obtain ⟨-, -, -, -, d4, d5, -, -, d8, -, df⟩ := ndcells (h.hn n x hx).1
  have hlo := h.bd.2.2.1
  by_cases hk : 0 < x.names ∨ 0 < x.holds
  · have e : T.leave n = T := by simp [Tr.leave, hx, hk]
    rw [e]
    have HH := hide h
    obtain ⟨m, hm⟩ : ∃ m : Int, m = (x.names : Int) := ⟨_, rfl⟩
    obtain ⟨k, hk2⟩ : ∃ k : Int, k = (x.holds : Int) := ⟨_, rfl⟩
    rw [← hm] at d4
    rw [← hk2] at d5
    by_cases hk1 : 0 < x.names
    · have g1 : (0 : Int) < m := by omega
      clear h hx e hm hk2 hk hk1 hf hB c0 c1 c3
      go_enter Tryz.func134, Tryz.ntmps134
      go_wp2_with fail
      refine bodyPost_ret (results_none rfl _ _ _) rfl ?_
      exact ⟨rfl, unhide HH, .refl hlo⟩
    · have g1 : m = 0 := by omega
      have g2 : (0 : Int) < k := by omega
      subst g1
      clear h hx e hk hk1 hk2 hf hB c0 c1 c3
      go_enter Tryz.func134, Tryz.ntmps134
      go_wp2_with fail
      refine bodyPost_ret (results_none rfl _ _ _) rfl ?_
      exact ⟨rfl, unhide HH, .refl hlo⟩
  · have e : T.leave n = ({ T with pool := dropS T.pool x.file } : Tr).set n none := by simp [Tr.leave, hx, hk, Tr.set]
    rw [e]
    have g1 : (x.names : Int) = 0 := by omega
    have g2 : (x.holds : Int) = 0 := by omega
    rw [g1] at d4
    rw [g2] at d5
    have hd := h.below (below_drew (Below.refl _ W))
    have HD := drop_any hd.pl (f := x.file) (wf_of (by omega))
    have HDD : Hid (Calls Tryz.prog 215 #[P0 p, I x.file] W.drew fun e w' => e = .returned (I (dropE T.pool x.file)) ∧ (w'.cell? ⟨t, 2, none⟩ = some (.map (some q))) ∧ ∃ V, (∀ ty, (Builtin.delete_ #[123, 3] ty #[.map (some q), I n]).run Tryz.prog w' = .ok (.tuple #[]) V) ∧ Hid (TrI lo N V t (({ T with pool := dropS T.pool x.file } : Tr).set n none) q p nb ev ∧ Tx lo W V)) := by
      refine HD.mono ?_
      rintro e1 w1 ⟨h1, P1, nx⟩
      obtain ⟨T1, X1⟩ := hd.poolT P1 nx
      replace X1 := (Tx.of_below (below_drew (Below.refl _ W)) hlo).trans X1
      obtain ⟨V, hrun, M2, F2, _⟩ := T1.hm.drop htN hn 0
      refine ⟨h1, T1.cells.2.2.1, V, fun ty => by rw [← hrun]; rfl, ?_⟩
      obtain ⟨T2, X2⟩ := T1.gone M2 F2
      exact ⟨T2, X1.trans X2⟩
    clear h hx e hk HD g1 g2 hf hB c0 c1 hd
    go_enter Tryz.func134, Tryz.ntmps134
    go_wp2_with fail
    go_region_with (go_at_call 215; refine (unhide HDD).mono ?_; rintro e w1 ⟨rfl, y2, V, hrun, FF⟩)
    all_goals
      go_wp2_with fail
      go_end0
      exact ⟨rfl, unhide FF⟩
set_option maxRecDepth 100000 in
set_option maxHeartbeats 1000000 in
theorem hold_any (h : TrI lo N W t T q p nb ev) {n : Int} (hn : (kl n).wf = true) (hb : ∀ x, T.nd n = some x → x.holds < 900) :
    Calls Tryz.prog 63 #[P0 t, I n] W fun e w' => e = .returned (I (T.holdE n)) ∧ ∃ ev', TrI lo N w' t (T.hold n) q p nb ev' ∧ Tx lo W w' := by
  obtain ⟨c0, c1, c2, c3, cf⟩ := h.cells
  have hl := h.look_ok hn
  have hlo := h.bd.2.2.1
  have HH := hide h
  unfold Tr.holdE Tr.hold
  cases hx : T.nd n with
  | none =>
    rw [hx] at hl
    simp only [Option.isSome_none, Bool.false_eq_true, if_false] at hl
    clear h hx
    go_enter Tryz.func63, Tryz.ntmps63
    go_wp2_with fail
    go_ret
    exact ⟨rfl, ev, unhide HH, .refl hlo⟩
  | some x =>
    dsimp only
    rw [hx] at hl
    simp only [Option.isSome_some, if_true] at hl
    have hbx := (h.hn n x hx).1
    obtain ⟨-, -, -, -, -, d5, -, -, -, -, df⟩ := ndcells hbx
    have hlt := hb x hx
    have FIN : Hid (∃ ev', TrI lo N (W.setCell ⟨nb n, 5, none⟩ (I ((x.holds : Int) + 1))) t (T.set n (some { x with holds := x.holds + 1 })) q p nb ev' ∧ Tx lo W (W.setCell ⟨nb n, 5, none⟩ (I ((x.holds : Int) + 1)))) := by
      obtain ⟨T6, X6⟩ := h.turn (y := { x with holds := x.holds + 1 }) (v := ev n) hx (W' := W.setCell ⟨nb n, 5, none⟩ (I ((x.holds : Int) + 1))) ((Fn.refl _ _ _).set 5 _) (by rw [heap_set hbx]; simp [ndC]) ((h.hn n x hx).2.same fun g hg => Below.heap_setCell _ _ _ _ (fun e => by obtain ⟨_, cur, hc⟩ := (h.hn n x hx).2.blk hg; rw [show g = nb n from e, hbx] at hc; simp [ndC] at hc)) (.inl rfl)
      exact ⟨_, T6, X6⟩
    obtain ⟨m, hm⟩ : ∃ m, m = x.holds := ⟨_, rfl⟩
    rw [← hm] at d5 hlt FIN
    have hm1 : (m : Int) < 900 := by omega
    rw [← hm]
    clear h hx hbx hb hm
    go_enter Tryz.func63, Tryz.ntmps63
    go_wp2_with fail
    go_ret
    exact ⟨rfl, unhide FIN⟩
set_option maxRecDepth 100000 in
set_option maxHeartbeats 1000000 in
theorem loose_any (h : TrI lo N W t T q p nb ev) (hB : B ≤ 900) {n : Int} (hn : (kl n).wf = true) (hb : ∀ x, T.nd n = some x → x.holds < 900 ∧ 0 ≤ x.file ∧ x.file ≤ B) :
    Calls Tryz.prog 72 #[P0 t, I n] W fun e w' => e = .returned (I (T.looseE n)) ∧ ∃ ev', TrI lo N w' t (T.loose n) q p nb ev' ∧ Tx lo W w' := by
  obtain ⟨c0, c1, c2, c3, cf⟩ := h.cells
  have hl := h.look_ok hn
  have hlo := h.bd.2.2.1
  have HH := hide h
  unfold Tr.looseE Tr.loose
  cases hx : T.nd n with
  | none =>
    rw [hx] at hl
    simp only [Option.isSome_none, Bool.false_eq_true, if_false] at hl
    clear h hx
    go_enter Tryz.func72, Tryz.ntmps72
    go_wp2_with fail
    go_ret
    exact ⟨rfl, ev, unhide HH, .refl hlo⟩
  | some x =>
    dsimp only
    rw [hx] at hl
    simp only [Option.isSome_some, if_true] at hl
    have hbx := (h.hn n x hx).1
    obtain ⟨-, -, -, -, -, d5, -, -, -, -, df⟩ := ndcells hbx
    obtain ⟨hlt, hf1, hf2⟩ := hb x hx
    by_cases hz : x.holds = 0
    · have hz2 : (x.holds : Int) = 0 := by omega
      rw [hz2] at d5
      simp only [if_pos hz]
      clear h hx hbx hz hz2 hb
      go_enter Tryz.func72, Tryz.ntmps72
      go_wp2_with fail
      go_ret
      exact ⟨rfl, ev, unhide HH, .refl hlo⟩
    · simp only [if_neg hz]
      have FIN : Hid (Calls Tryz.prog 134 #[P0 t, I n] (W.setCell ⟨nb n, 5, none⟩ (I ((x.holds : Int) - 1))) fun e w' => e = .returned (.tuple #[]) ∧ ∃ ev', TrI lo N w' t ((T.set n (some { x with holds := x.holds - 1 })).leave n) q p nb ev' ∧ Tx lo W w') := by
        obtain ⟨T6, X6⟩ := h.turn (y := { x with holds := x.holds - 1 }) (v := ev n) hx (W' := W.setCell ⟨nb n, 5, none⟩ (I ((x.holds : Int) - 1))) ((Fn.refl _ _ _).set 5 _) (by rw [heap_set hbx]; simp [ndC]; omega) ((h.hn n x hx).2.same fun g hg => Below.heap_setCell _ _ _ _ (fun e => by obtain ⟨_, cur, hc⟩ := (h.hn n x hx).2.blk hg; rw [show g = nb n from e, hbx] at hc; simp [ndC] at hc)) (.inl rfl)
        refine (leave_any (B := B) T6 hB hn (Tr.set_same _ _ _) ⟨hf1, hf2⟩).mono ?_
        rintro e w' ⟨h1, h2, h3⟩
        exact ⟨h1, _, h2, X6.trans h3⟩
      obtain ⟨m, hm⟩ : ∃ m, m = x.holds := ⟨_, rfl⟩
      rw [← hm] at d5 hlt FIN hz
      have hm1 : (m : Int) < 900 := by omega
      have hm2 : ¬ ((m : Int) = 0) := by omega
      have hm3 : (0 : Int) ≤ (m : Int) := by omega
      rw [← hm]
      clear h hx hbx hb hm hz hlt hf1 hf2 hB c0 c1 c3
      go_enter Tryz.func72, Tryz.ntmps72
      go_wp2_with (go_at_call 134; refine (unhide FIN).mono ?_; rintro e w1 ⟨rfl, FF⟩; have HF := hide FF; clear FF)
      go_ret
      exact ⟨rfl, unhide HF⟩
end
end Go.Proofs.YtlngeaacjbdmhaaGreat
