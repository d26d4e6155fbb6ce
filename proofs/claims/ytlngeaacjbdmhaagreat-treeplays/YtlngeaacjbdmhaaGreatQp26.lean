/-
  The document's own tree: Make.
-/
import Derived.Test.YtlngeaacjbdmhaaGreatQp23
import Derived.Test.YtlngeaacjbdmhaaGreatQp15
namespace Go.Proofs.YtlngeaacjbdmhaaGreat.Rf
open Go.RowKit Go.Maps
attribute [local go_sem ↓] Go.wp_at_zero Go.wp_at_succ
section
variable {lo N : Nat} {W W' : World} {r : Nat} {T : Tr} {p : Nat} {Lv : Value} {nb : Int → Nat} {ev : Int → Value} {uv : Int → Int} {B : Nat}
set_option maxRecDepth 100000 in
set_option maxHeartbeats 8000000 in
theorem dMake_yes (h : DtI lo N W r T p Lv nb ev uv) (hu : Uq T uv) (hw : Wf B T) (hB : B ≤ 870) (dir : Int) (s : ByteArray) (hd : (kl dir).wf = true) (hs : s.size ≤ 281474976710656) (sn kd mo ui gi li si : Int) (text : ByteArray) (hq : T.makeE dir s kd text = 0) (ht : text.size ≤ 281474976710656) (h16 : ∀ x, T.nd dir = some x → T.links x ≤ 16) :
    Calls Tryz.prog 65 #[P0 r, I dir, .string s, .agg #[I sn, I kd, I mo, I ui, I gi, I li, I si], .string text] W fun e w' => e = .returned (.tuple #[I ((T.made : Int) + 1), I 0]) ∧ De lo N W w' r (T.make dir s kd mo ui gi text) := by
  obtain ⟨V, hV, hS, hB1⟩ : ∃ V, W.alloc (.cells #[I sn, I kd, I mo, I ui, I gi, I li, I si] 33) = V ∧ V.heap[W.heap.size]? = some (.cells #[I sn, I kd, I mo, I ui, I gi, I li, I si] 33) ∧ Below W.heap.size W V := ⟨_, rfl, putAll _ _ rfl, (Below.refl _ _).alloc (Nat.le_refl _) _⟩
  obtain ⟨x, hx, hxk, hg, hnm, hrs, hkk, hlf⟩ := Tr.makeE0 hq
  have hxd : T.dir dir = some x := Tr.dir_some.2 ⟨hx, hxk⟩
  have HD := hide (dir_any (h.below hB1) hw.k (by omega) dir hd (P0 (nb dir)) (by rw [dirV, hxd]))
  have HQ : Hid (Calls Tryz.prog 126 #[.string s] V fun e w' => e = .returned (.bool true) ∧ w' = V) := hide (by rw [← hrs]; exact r7_any s hs V)
  obtain ⟨s0, s1, s2, s3, s4, s5, s6, sf⟩ := cells7 hS
  have hV1 := (h.below hB1).hn dir x hx
  have hl := (hw.k.bnd dir x hx).2.2
  have HFi := hide (find_any hV1.1 hV1.2 (hw.k.srt dir x hx) (by omega) s (-1) (by rw [idx, hg]))
  have HG := hide (gone_any (h.below hB1) hw.k (by omega) hd hx false (by simp; omega))
  have HK := hide (links_any (h.below hB1) hw.k (by omega) hd hx (fun _ => hxk) (T.links x) rfl)
  have hl16 := h16 x hx
  have hfit : fitsB kd text = true := by
    rw [Tr.makeE, hxd] at hq
    simp only at hq
    split at hq
    · next h9 => exact h9.2
    · omega
  have h44 : ¬ (kd = 1 ∧ T.links x = 16) := fun e => by
    rw [Tr.makeE, hxd] at hq
    simp only at hq
    rw [if_pos ⟨hrs, hfit⟩, if_neg (by simp [refusesE, hg]; omega), if_pos e] at hq
    omega
  obtain ⟨M1, hM1⟩ : ∃ M : Nat, M = T.made := ⟨_, rfl⟩
  have hmd := hw.k.made
  obtain ⟨a0, cap0, hLv⟩ := own_form h.hL
  have HLf : Hid (Calls Tryz.prog 87 #[P0 r] V fun e w1 => e = .returned (I T.left) ∧ ∃ D, w1.drew.alloc (.cells #[I ((T.made : Int) + 1), I kd, I (bits .and .i64 mo 4095), I ui, I gi, I 0, I 0, .string text, .slice none 0 0, I 0, I 0, I 0, I 0] 139) = D ∧
      w1.cell? ⟨r, 2, none⟩ = some (.slice a0 T.made cap0) ∧ D.cell? ⟨r, 1, none⟩ = some (P0 p) ∧ D.cell? ⟨W.heap.size, 1, none⟩ = some (I kd) ∧
      w1.cell? ⟨W.heap.size, 1, none⟩ = some (I kd) ∧ w1.cell? ⟨W.heap.size, 2, none⟩ = some (I mo) ∧ w1.cell? ⟨W.heap.size, 3, none⟩ = some (I ui) ∧ w1.cell? ⟨W.heap.size, 4, none⟩ = some (I gi) ∧ D.cell? ⟨W.heap.size, 2, none⟩ = some (I mo) ∧ D.cell? ⟨W.heap.size, 3, none⟩ = some (I ui) ∧ D.cell? ⟨W.heap.size, 4, none⟩ = some (I gi) ∧
      (if kd = 2 then Hid (Calls Tryz.prog 130 #[P0 p] D fun e w' => e = .returned (I ((T.pool.fs.length + 1 : Nat) : Int)) ∧ w'.cell? ⟨w1.heap.size, 12, none⟩ = some (I 0) ∧ w'.frozen? ⟨w1.heap.size, 12, none⟩ = false ∧ ∃ Y, w'.setCell ⟨w1.heap.size, 12, none⟩ (I ((T.pool.fs.length + 1 : Nat) : Int)) = Y ∧ AppPut lo N W Y r w1.heap.size (T.make dir s kd mo ui gi text) ((T.made : Int) + 1) (.slice a0 T.made cap0) dir s)
        else AppPut lo N W D r w1.heap.size (T.make dir s kd mo ui gi text) ((T.made : Int) + 1) (.slice a0 T.made cap0) dir s)) := by
    refine hide ((dLeft_any (h.below hB1) hw.k (by omega) (by have := hw.k.mst; omega)).mono ?_)
    rintro e w1 ⟨rfl, hB2⟩
    have hB3 : Below W.heap.size W w1 := hB1.trans (hB2.mono hB1.size)
    have hS1 : w1.heap[W.heap.size]? = some (.cells #[I sn, I kd, I mo, I ui, I gi, I li, I si] 33) := (hB2.block _ (lt_of_heap hS)).trans hS
    obtain ⟨D, g1, g2, g3, g4, ⟨g5, g6, g7, g8⟩, ⟨g11, g12, g13⟩, g9, g10⟩ := make_tail (V := w1.drew) (text := text) h hu hw (by omega) (dir := dir) (s := s) hd hq ht (hB3.trans ((below_n w1 1).mono hB3.size)) hS1
    rw [hLv] at g2 g9 g10
    refine ⟨rfl, D, g1, g2, g3, g4, g5, g6, g7, g8, g11, g12, g13, ?_⟩
    by_cases e : kd = 2
    · rw [if_pos e]; exact hide (unhide g10 e)
    · rw [if_neg e]; exact unhide g9 e
  have HM := hide (masked_any mo)
  generalize bits .and .i64 mo 4095 = mm at *
  rw [← hM1] at HLf hmd
  rw [show T.made = M1 from hM1.symm]
  generalize T.make dir s kd mo ui gi text = T9 at *
  generalize T.left = lf at *
  have hlf1 : (lf == 0) = false := by simpa using hlf
  generalize T.pool.fs.length + 1 = pl at *
  generalize T.links x = lk at *
  have hmb : (M1 : Int) ≤ 900 := by omega
  clear h hw hu hB1 hS hV1 hq hM1 hLv h16 hmd hg hx hxd
  rcases (by omega : kd = 1 ∨ kd = 2 ∨ kd = 3) with rfl | rfl | rfl
  · obtain rfl : text = ⟨#[]⟩ := by simpa [fitsB] using hfit
    simp only [if_neg (show ¬ (1 : Int) = 2 by decide)] at HLf
    have g16 : ¬ (16 : Int) ≤ (lk : Int) := by omega
    clear h44 hfit
    go_enter Tryz.func65, Tryz.ntmps65
    go_wp2_with (first
      | (go_at_call 81; refine (unhide HD).mono ?_; rintro e w1 ⟨rfl, hw1⟩; rw [hw1]; clear hw1)
      | (go_at_call 126; refine (unhide HQ).mono ?_; rintro e w1 ⟨rfl, hw1⟩; rw [hw1]; clear hw1)
      | (go_at_call 127; refine (unhide HFi).mono ?_; rintro e w1 ⟨rfl, hw1⟩; rw [hw1]; clear hw1)
      | (go_at_call 128; refine (unhide HG).mono ?_; rintro e w1 ⟨rfl, hw1⟩; rw [hw1]; clear hw1)
      | (go_at_call 129; refine (unhide HK).mono ?_; rintro e w1 ⟨rfl, hw1⟩; rw [hw1]; clear hw1)
      | (go_at_call 87; refine (unhide HLf).mono ?_; rintro e w1 ⟨rfl, D, hD, d1, d2, d3, d4, d5, d6, d7, d11, d12, d13, d8⟩))
    go_region_held3 (fun w' => w'.cell? ⟨W.heap.size, 1, none⟩ = some (I 1) ∧ w'.cell? ⟨W.heap.size, 2, none⟩ = some (I mo) ∧ w'.cell? ⟨W.heap.size, 3, none⟩ = some (I ui) ∧ w'.cell? ⟨W.heap.size, 4, none⟩ = some (I gi)) (go_keep) (first | (go_at_call 111; refine (unhide HM _).mono ?_; rintro e w2 ⟨rfl, hw2⟩; rw [hw2]; clear hw2))
    obtain ⟨v9, X, hrun, x1, x2, x3, ⟨a9, m9, cap9, rfl⟩, HP⟩ := d8
    go_wp2_with (first
      | (go_at_call 130; refine (unhide d8).mono ?_; rintro e w2 ⟨rfl, y1, y2, Y, hY, v9, X, hrun, x1, x2, x3, ⟨a9, m9, cap9, rfl⟩, HP⟩)
      | (at_builtin; refine wpList_append_eq rfl _ _ 133 rfl 133 rfl _ _ rfl rfl _ _ hrun ?_)
      | (go_at_call 131; refine (unhide HP).mono ?_; rintro e w3 ⟨rfl, HE⟩))
    go_ret2
    exact ⟨rfl, HE⟩
  · obtain rfl : text = ⟨#[]⟩ := by simpa [fitsB] using hfit
    simp only [if_true] at HLf
    clear h44 hfit
    go_enter Tryz.func65, Tryz.ntmps65
    go_wp2_with (first
      | (go_at_call 81; refine (unhide HD).mono ?_; rintro e w1 ⟨rfl, hw1⟩; rw [hw1]; clear hw1)
      | (go_at_call 126; refine (unhide HQ).mono ?_; rintro e w1 ⟨rfl, hw1⟩; rw [hw1]; clear hw1)
      | (go_at_call 127; refine (unhide HFi).mono ?_; rintro e w1 ⟨rfl, hw1⟩; rw [hw1]; clear hw1)
      | (go_at_call 128; refine (unhide HG).mono ?_; rintro e w1 ⟨rfl, hw1⟩; rw [hw1]; clear hw1)
      | (go_at_call 129; refine (unhide HK).mono ?_; rintro e w1 ⟨rfl, hw1⟩; rw [hw1]; clear hw1)
      | (go_at_call 87; refine (unhide HLf).mono ?_; rintro e w1 ⟨rfl, D, hD, d1, d2, d3, d4, d5, d6, d7, d11, d12, d13, d8⟩))
    go_region_held3 (fun w' => w'.cell? ⟨W.heap.size, 1, none⟩ = some (I 2) ∧ w'.cell? ⟨W.heap.size, 2, none⟩ = some (I mo) ∧ w'.cell? ⟨W.heap.size, 3, none⟩ = some (I ui) ∧ w'.cell? ⟨W.heap.size, 4, none⟩ = some (I gi)) (go_keep) (first | (go_at_call 111; refine (unhide HM _).mono ?_; rintro e w2 ⟨rfl, hw2⟩; rw [hw2]; clear hw2))
    go_wp2_with (first
      | (go_at_call 130; refine (unhide d8).mono ?_; rintro e w2 ⟨rfl, y1, y2, Y, hY, v9, X, hrun, x1, x2, x3, ⟨a9, m9, cap9, rfl⟩, HP⟩)
      | (at_builtin; refine wpList_append_eq rfl _ _ 133 rfl 133 rfl _ _ rfl rfl _ _ hrun ?_)
      | (go_at_call 131; refine (unhide HP).mono ?_; rintro e w3 ⟨rfl, HE⟩))
    go_ret2
    exact ⟨rfl, HE⟩
  · simp only [if_neg (show ¬ (3 : Int) = 2 by decide)] at HLf
    clear h44 hfit
    by_cases ht1 : text = ⟨#[]⟩
    · subst ht1
      go_enter Tryz.func65, Tryz.ntmps65
      go_wp2_with (first
        | (go_at_call 81; refine (unhide HD).mono ?_; rintro e w1 ⟨rfl, hw1⟩; rw [hw1]; clear hw1)
        | (go_at_call 126; refine (unhide HQ).mono ?_; rintro e w1 ⟨rfl, hw1⟩; rw [hw1]; clear hw1)
        | (go_at_call 127; refine (unhide HFi).mono ?_; rintro e w1 ⟨rfl, hw1⟩; rw [hw1]; clear hw1)
        | (go_at_call 128; refine (unhide HG).mono ?_; rintro e w1 ⟨rfl, hw1⟩; rw [hw1]; clear hw1)
        | (go_at_call 129; refine (unhide HK).mono ?_; rintro e w1 ⟨rfl, hw1⟩; rw [hw1]; clear hw1)
        | (go_at_call 87; refine (unhide HLf).mono ?_; rintro e w1 ⟨rfl, D, hD, d1, d2, d3, d4, d5, d6, d7, d11, d12, d13, d8⟩))
      go_region_held3 (fun w' => w'.cell? ⟨W.heap.size, 1, none⟩ = some (I 3) ∧ w'.cell? ⟨W.heap.size, 2, none⟩ = some (I mo) ∧ w'.cell? ⟨W.heap.size, 3, none⟩ = some (I ui) ∧ w'.cell? ⟨W.heap.size, 4, none⟩ = some (I gi)) (go_keep) (first | (go_at_call 111; refine (unhide HM _).mono ?_; rintro e w2 ⟨rfl, hw2⟩; rw [hw2]; clear hw2))
      obtain ⟨v9, X, hrun, x1, x2, x3, ⟨a9, m9, cap9, rfl⟩, HP⟩ := d8
      go_wp2_with (first
        | (go_at_call 130; refine (unhide d8).mono ?_; rintro e w2 ⟨rfl, y1, y2, Y, hY, v9, X, hrun, x1, x2, x3, ⟨a9, m9, cap9, rfl⟩, HP⟩)
        | (at_builtin; refine wpList_append_eq rfl _ _ 133 rfl 133 rfl _ _ rfl rfl _ _ hrun ?_)
        | (go_at_call 131; refine (unhide HP).mono ?_; rintro e w3 ⟨rfl, HE⟩))
      go_ret2
      exact ⟨rfl, HE⟩
    · have ht5 : ¬ text.toList = [] := fun e => by
        rw [ByteArray.toList_eq] at e
        exact ht1 (ByteArray.ext (Array.ext' e))
      have ht4 : (text.toList == ([] : List UInt8)) = false := by rw [beq_eq_false_iff_ne]; exact ht5
      have ht6 : (text.toList != ([] : List UInt8)) = true := by rw [bne_iff_ne]; exact ht5
      have ht7 : text.toList.isEmpty = false := by simpa using ht5
      go_enter Tryz.func65, Tryz.ntmps65
      go_wp2_with (first
        | (go_at_call 81; refine (unhide HD).mono ?_; rintro e w1 ⟨rfl, hw1⟩; rw [hw1]; clear hw1)
        | (go_at_call 126; refine (unhide HQ).mono ?_; rintro e w1 ⟨rfl, hw1⟩; rw [hw1]; clear hw1)
        | (go_at_call 127; refine (unhide HFi).mono ?_; rintro e w1 ⟨rfl, hw1⟩; rw [hw1]; clear hw1)
        | (go_at_call 128; refine (unhide HG).mono ?_; rintro e w1 ⟨rfl, hw1⟩; rw [hw1]; clear hw1)
        | (go_at_call 129; refine (unhide HK).mono ?_; rintro e w1 ⟨rfl, hw1⟩; rw [hw1]; clear hw1)
        | (go_at_call 87; refine (unhide HLf).mono ?_; rintro e w1 ⟨rfl, D, hD, d1, d2, d3, d4, d5, d6, d7, d11, d12, d13, d8⟩))
      go_region_held3 (fun w' => w'.cell? ⟨W.heap.size, 1, none⟩ = some (I 3) ∧ w'.cell? ⟨W.heap.size, 2, none⟩ = some (I mo) ∧ w'.cell? ⟨W.heap.size, 3, none⟩ = some (I ui) ∧ w'.cell? ⟨W.heap.size, 4, none⟩ = some (I gi)) (go_keep) (first | (go_at_call 111; refine (unhide HM _).mono ?_; rintro e w2 ⟨rfl, hw2⟩; rw [hw2]; clear hw2))
      obtain ⟨v9, X, hrun, x1, x2, x3, ⟨a9, m9, cap9, rfl⟩, HP⟩ := d8
      go_wp2_with (first
        | (go_at_call 130; refine (unhide d8).mono ?_; rintro e w2 ⟨rfl, y1, y2, Y, hY, v9, X, hrun, x1, x2, x3, ⟨a9, m9, cap9, rfl⟩, HP⟩)
        | (at_builtin; refine wpList_append_eq rfl _ _ 133 rfl 133 rfl _ _ rfl rfl _ _ hrun ?_)
        | (go_at_call 131; refine (unhide HP).mono ?_; rintro e w3 ⟨rfl, HE⟩))
      go_ret2
      exact ⟨rfl, HE⟩
theorem dMake_D (hq : Dq lo N W r T) (hw : Wf B T) (hB : B ≤ 870) (dir : Int) (s : ByteArray) (hd : (kl dir).wf = true) (hs : s.size ≤ 281474976710656) (sn kd mo ui gi li si : Int) (text : ByteArray) (ht : text.size ≤ 281474976710656) (h16 : ∀ n x, T.nd n = some x → T.links x ≤ 16) :
    Calls Tryz.prog 65 #[P0 r, I dir, .string s, .agg #[I sn, I kd, I mo, I ui, I gi, I li, I si], .string text] W fun e w' => e = .returned (.tuple #[I (T.makeN dir s kd text), I (T.makeE dir s kd text)]) ∧ De lo N W w' r (T.make dir s kd mo ui gi text) := by
  obtain ⟨p, Lv, nb, ev, uv, h, hu⟩ := hq
  by_cases e : T.makeE dir s kd text = 0
  · rw [Tr.makeN, if_pos e, e]
    exact dMake_yes h hu hw hB dir s hd hs sn kd mo ui gi li si text e ht (h16 dir)
  · rw [Tr.makeN, if_neg e, Tr.make, if_neg e]
    refine (dMake_no h hw (by omega) dir s hd hs sn kd mo ui gi li si text _ rfl e (h16 dir)).mono ?_
    rintro e w' ⟨h1, h2⟩
    exact ⟨h1, ⟨p, Lv, nb, ev, uv, h.below h2, hu⟩, Rx.of_below h2 h.bd.2.1⟩
end
end Go.Proofs.YtlngeaacjbdmhaaGreat.Rf

namespace Go.Proofs.YtlngeaacjbdmhaaGreat
open Go.RowKit
section
variable {B : Nat} {T : Tr}
def L16 (T : Tr) : Prop := ∀ n x, T.nd n = some x → T.links x ≤ 16
theorem L16.dirs (h : L16 T) : LkB T := fun n x hx _ => h n x hx
theorem L16.names (h : L16 T) {n : Int} {x : Nd} (hx : T.nd n = some x) (hk : x.kind ≠ 1) : x.names ≤ 16 := by
  have := h n x hx
  simpa [Tr.links, hk] using this
def Tr.cd (T : Tr) (l : List Ent) : Nat := l.countP (fun e => decide (T.kindOf e.2 = 1))
theorem links_dir {x : Nd} (hk : x.kind = 1) (hn : 0 < x.names) : T.links x = 2 + T.cd x.ins := by simp [Tr.links, Tr.cd, hk, hn]
theorem links_file {x : Nd} (hk : x.kind ≠ 1) : T.links x = x.names := by simp [Tr.links, hk]
theorem links_none {x : Nd} (hn : x.names = 0) : T.links x = 0 := by simp [Tr.links, hn]
theorem cd_le {T T' : Tr} {l : List Ent} (h : ∀ e ∈ l, T'.kindOf e.2 = 1 → T.kindOf e.2 = 1) : T'.cd l ≤ T.cd l := by
  unfold Tr.cd
  induction l with
  | nil => simp
  | cons a l ih =>
    rw [List.countP_cons, List.countP_cons]
    have h1 := ih fun e he => h e (List.mem_cons_of_mem _ he)
    have h2 := h a (by simp)
    by_cases e : T'.kindOf a.2 = 1
    · simp [e, h2 e]; omega
    · simp [e]; split <;> omega
theorem cd_del (T : Tr) (l : List Ent) (s : ByteArray) : T.cd (delE l s) ≤ T.cd l := by
  unfold Tr.cd delE
  rw [List.countP_append]
  have : l.countP (fun e => decide (T.kindOf e.2 = 1)) = (l.take (pos l s) ++ l.drop (pos l s)).countP (fun e => decide (T.kindOf e.2 = 1)) := by rw [List.take_append_drop]
  rw [this, List.countP_append]
  have h2 : (l.drop (pos l s + 1)).countP (fun e => decide (T.kindOf e.2 = 1)) ≤ (l.drop (pos l s)).countP (fun e => decide (T.kindOf e.2 = 1)) := by
    rw [← List.drop_drop]
    exact List.Sublist.countP_le (List.drop_sublist 1 _)
  omega
theorem cd_put (T : Tr) (l : List Ent) (s : ByteArray) (n : Int) : T.cd (putE l s n) = T.cd l + if T.kindOf n = 1 then 1 else 0 := by
  unfold Tr.cd
  rw [putE_count]
  simp
theorem cd_del_at (T : Tr) {l : List Ent} (h : Srt l) {s : ByteArray} {n : Int} (hg : getE l s = some n) : T.cd l = T.cd (delE l s) + if T.kindOf n = 1 then 1 else 0 := by
  have := cd_put T (delE l s) s n
  rw [put_del h hg] at this
  exact this
theorem L16.new (nodes blocks : Nat) : L16 (Tr.new nodes blocks) := by
  intro n x h
  simp only [Tr.new] at h
  split at h
  · cases h; simp [Tr.links]
  · cases h
theorem L16.node (h : L16 T) {n : Int} {x y : Nd} (hx : T.nd n = some x) (hi : y.ins = x.ins) (hnm : y.names = x.names) (hk : y.kind = x.kind) : L16 (T.set n (some y)) := by
  have hko : ∀ m, (T.set n (some y)).kindOf m = T.kindOf m := fun m => by
    simp only [Tr.kindOf]
    by_cases e : m = n
    · rw [e, Tr.set_same, hx]; exact hk
    · rw [Tr.set_other _ _ e]
  have hlk : ∀ z, (T.set n (some y)).links z = T.links z := fun z => links_congr fun e _ => hko e.2
  intro k z hz
  rw [hlk]
  by_cases e : k = n
  · rw [e, Tr.set_same] at hz
    cases hz
    have := h n x hx
    simpa [Tr.links, hi, hnm, hk] using this
  · rw [Tr.set_other _ _ e] at hz
    exact h k z hz
theorem L16.hold (h : L16 T) (n : Int) : L16 (T.hold n) := by
  unfold Tr.hold
  cases hx : T.nd n with
  | none => exact h
  | some x => exact h.node hx rfl rfl rfl
theorem L16.setMode (h : L16 T) (n m : Int) : L16 (T.setMode n m) := by
  unfold Tr.setMode
  cases hx : T.nd n with
  | none => exact h
  | some x => exact h.node hx rfl rfl rfl
theorem L16.setOwner (h : L16 T) (n u g : Int) : L16 (T.setOwner n u g) := by
  unfold Tr.setOwner
  cases hx : T.nd n with
  | none => exact h
  | some x => exact h.node hx rfl rfl rfl
theorem L16.make (hw : Wf B T) (hL : L16 T) (dir : Int) (s : ByteArray) (kind mode uid gid : Int) (text : ByteArray) : L16 (T.make dir s kind mode uid gid text) := by
  have h1 := hL.dirs.make hw dir s kind mode uid gid text
  intro n x hx
  by_cases hk : x.kind = 1
  · exact h1 n x hx hk
  · rw [links_file hk]
    by_cases h : T.makeE dir s kind text = 0
    · obtain ⟨d, g1, g2, -⟩ := Tr.makeE0 h
      rw [Tr.make_nd hw.k h g1] at hx
      split at hx
      · cases hx; simp
      · split at hx
        · cases hx; exact absurd g2 hk
        · exact hL.names hx hk
    · rw [Tr.make, if_neg h] at hx
      exact hL.names hx hk
theorem L16.join (_hw : Wf B T) (hL : L16 T) (dir : Int) (s : ByteArray) (n : Int) : L16 (T.join dir s n) := by
  by_cases h : T.joinE dir s n = 0
  · obtain ⟨d, x, h1, h2, h3, h4, h5, h6, h7⟩ := Tr.joinE0 h
    have hl : T.links x ≠ 16 := fun e => by
      have hd : T.dir dir = some d := Tr.dir_some.2 ⟨h1, h2⟩
      simp only [Tr.joinE, hd, h3] at h
      rw [if_pos ⟨h4, h5⟩, if_neg (by simp [refusesE, h6]; omega), if_pos e] at h
      omega
    have hl2 := hL n x h3
    rw [links_file h4] at hl hl2
    rw [Tr.join, if_pos h]
    have hnd := Tr.give_nd h1 h3 s
    have hko : ∀ m, (T.give dir s n).kindOf m = T.kindOf m := fun m => by
      simp only [Tr.kindOf]
      rw [hnd]
      by_cases e : m = n
      · rw [if_pos e, e, h3]; rfl
      · rw [if_neg e]
        by_cases e2 : m = dir
        · rw [if_pos e2, e2, h1]
        · rw [if_neg e2]
    have hlk : ∀ z, (T.give dir s n).links z = T.links z := fun z => links_congr fun e _ => hko e.2
    intro k z hz
    rw [hlk]
    rw [hnd] at hz
    by_cases e : k = n
    · rw [if_pos e] at hz
      cases hz
      rw [links_file (by exact h4)]
      simp only [Nd.named]
      omega
    · rw [if_neg e] at hz
      by_cases e2 : k = dir
      · rw [if_pos e2] at hz
        cases hz
        have := hL dir d h1
        rw [links_dir h2 h7] at this
        rw [links_dir (by exact h2) (by exact h7)]
        simp only
        rw [cd_put, if_neg]
        · exact this
        · simp [Tr.kindOf, h3, h4]
      · rw [if_neg e2] at hz
        exact hL k z hz
  · rw [Tr.join, if_neg h]; exact hL
theorem L16.take (hw : Wf B T) (hL : L16 T) {dir n : Int} {d x : Nd} {s : ByteArray} (hd : T.nd dir = some d) (hg : getE d.ins s = some n) (hx : T.nd n = some x) : L16 (T.take dir s) := by
  have hdn : dir ≠ n := by
    rintro rfl
    exact hw.noself hd (getE_some hg)
  have hnd := Tr.take_nd hd hg hx hdn
  have hko : ∀ m, (T.take dir s).kindOf m = 1 → T.kindOf m = 1 := fun m => by
    simp only [Tr.kindOf]
    rw [hnd]
    by_cases e : m = n
    · rw [if_pos e, e, hx]
      by_cases hz : 0 < x.names - 1 ∨ 0 < x.holds
      · rw [if_pos hz]; exact fun h => h
      · rw [if_neg hz]; simp
    · rw [if_neg e]
      by_cases e2 : m = dir
      · rw [if_pos e2, e2, hd]; exact fun h => h
      · rw [if_neg e2]; exact fun h => h
  have mono : ∀ (y z : Nd), T.links y ≤ 16 → z.kind = y.kind → z.names ≤ y.names → T.cd z.ins ≤ T.cd y.ins → (T.take dir s).links z ≤ 16 := fun y z h1 h2 h3 h4 => by
    by_cases hk : z.kind = 1
    · by_cases h0 : z.names = 0
      · rw [links_none h0]; omega
      · rw [links_dir hk (by omega)]
        rw [links_dir (by omega) (by omega)] at h1
        have := cd_le (T := T) (T' := T.take dir s) (l := z.ins) fun e _ => hko e.2
        omega
    · rw [links_file hk]
      rw [links_file (by omega)] at h1
      omega
  intro k z hz
  rw [hnd] at hz
  by_cases e : k = n
  · rw [if_pos e] at hz
    split at hz
    · cases hz
      exact mono x _ (hL n x hx) rfl (by simp) (Nat.le_refl _)
    · cases hz
  · rw [if_neg e] at hz
    by_cases e2 : k = dir
    · rw [if_pos e2] at hz
      cases hz
      exact mono d _ (hL dir d hd) rfl (Nat.le_refl _) (cd_del T d.ins s)
    · rw [if_neg e2] at hz
      exact mono z z (hL k z hz) rfl (Nat.le_refl _) (Nat.le_refl _)
theorem L16.part (hw : Wf B T) (hL : L16 T) (dir : Int) (s : ByteArray) : L16 (T.part dir s) := by
  by_cases h : T.partE dir s = 0
  · obtain ⟨d, n, h1, h2, h3⟩ := Tr.partE0 h
    obtain ⟨x, hx⟩ := hw.k.ent h1 (getE_some h2)
    rw [Tr.part, if_pos h]
    exact hL.take hw h1 h2 hx
  · rw [Tr.part, if_neg h]; exact hL
theorem L16.shift (hw : Wf B T) (hL : L16 T) {dir tq n : Int} {d i x : Nd} {s s2 : ByteArray} (hd : T.nd dir = some d) (hg : getE d.ins s = some n) (hi : T.nd tq = some i) (hik : i.kind = 1) (hin : 0 < i.names) (hs2 : getE i.ins s2 = none) (hx : T.nd n = some x) (hr : x.kind = 1 → dir ≠ tq → T.links i ≤ 15) : L16 ((T.give tq s2 n).take dir s) := by
  have hdn : dir ≠ n := by
    rintro rfl
    exact hw.noself hd (getE_some hg)
  have hx0 : 0 < x.names := by
    have := hw.k.num n x hx
    have := cntE_pos hw.k hd (getE_some hg)
    simp at this
    omega
  have hSi := hw.k.srt tq i hi
  have hnd := Tr.shift_nd hd hg hi hSi hs2 hx hx0 hdn
  have hko : ∀ m, ((T.give tq s2 n).take dir s).kindOf m = T.kindOf m := fun m => by
    simp only [Tr.kindOf]
    rw [hnd]
    by_cases e : m = n
    · rw [if_pos e, e, hx]
    · rw [if_neg e]
      by_cases e2 : m = dir
      · rw [if_pos e2, e2, hd]
      · rw [if_neg e2]
        by_cases e3 : m = tq
        · rw [if_pos e3, e3, hi]
        · rw [if_neg e3]
  have hlk : ∀ z, ((T.give tq s2 n).take dir s).links z = T.links z := fun z => links_congr fun e _ => hko e.2
  have hkn : T.kindOf n = x.kind := by simp [Tr.kindOf, hx]
  have hdk := hw.emp dir d hd (fun e => by have := getE_some hg; rw [e] at this; simp at this)
  intro k z hz
  rw [hlk]
  rw [hnd] at hz
  by_cases e : k = n
  · rw [if_pos e] at hz
    cases hz
    have := hL n x hx
    simpa [Tr.links] using this
  · rw [if_neg e] at hz
    by_cases e2 : k = dir
    · rw [if_pos e2] at hz
      cases hz
      have h0 := hL dir d hd
      rw [links_dir hdk.1 hdk.2] at h0
      rw [links_dir (by exact hdk.1) (by exact hdk.2)]
      simp only
      by_cases e3 : dir = tq
      · rw [if_pos e3]
        have hdi : i = d := by rw [← e3, hd] at hi; cases hi; rfl
        subst hdi
        have hg2 : getE (putE i.ins s2 n) s = some n := by
          rw [putE_get hSi hs2]
          split
          · rfl
          · exact hg
        have h1 := cd_put T i.ins s2 n
        have h2 := cd_del_at T (hSi.put hs2 n) hg2
        omega
      · rw [if_neg e3]
        have := cd_del T d.ins s
        omega
    · rw [if_neg e2] at hz
      by_cases e3 : k = tq
      · rw [if_pos e3] at hz
        cases hz
        have h0 := hL tq i hi
        rw [links_dir hik hin] at h0 hr
        rw [links_dir (by exact hik) (by exact hin)]
        simp only
        rw [cd_put, hkn]
        by_cases hk : x.kind = 1
        · have := hr hk (fun e4 => e2 (e3.trans e4.symm))
          rw [if_pos hk]; omega
        · rw [if_neg hk]; omega
      · rw [if_neg e3] at hz
        exact hL k z hz
theorem L16.move (hw : Wf B T) (hL : L16 T) {l : List Int} (dir : Int) (s : ByteArray) (tq : Int) (s2 : ByteArray) : L16 (T.move l dir s tq s2) := by
  by_cases h : T.moveE l dir s tq s2 = 0
  · rw [Tr.move, if_pos h]
    obtain ⟨f, i, n, h1, h2, h3, h4, h5, h6, h7, h8, h9⟩ := Tr.moveE0 h
    obtain ⟨x, hx⟩ := hw.k.ent h1 (getE_some h6)
    simp only at hx
    have hf : getE (T.insOf dir) s = some n := by simp [Tr.insOf, h1, h6]
    have hio : T.insOf tq = i.ins := by simp [Tr.insOf, h3]
    have hkx : T.kindOf n = x.kind := by simp [Tr.kindOf, hx]
    rw [hkx] at h8 h9
    have htn : tq ≠ n := fun e => by
      have hxi : x = i := by rw [← e, h3] at hx; cases hx; rfl
      exact (h8 (by rw [hxi]; exact h4)).1 e
    have hSi := hw.k.srt tq i h3
    simp only [hf, hio]
    rcases h9 with ⟨old, g1, g2⟩ | g1
    · simp only [g1]
      rcases g2 with rfl | ⟨g2, g3⟩
      · rw [if_pos rfl]; exact hL
      · rw [if_neg g2]
        obtain ⟨y, hy⟩ := hw.k.ent h3 (getE_some g1)
        simp only at hy
        have hyi : y.ins = [] := by have := Tr.yields0 g3; simpa [Tr.insOf, hy] using this
        have hto : tq ≠ old := fun e => by subst e; exact hw.noself h3 (getE_some g1)
        have hdo : dir ≠ old := fun e => by
          rw [← e, h1] at hy; cases hy
          have := getE_some h6
          rw [hyi] at this; simp at this
        have hnd := Tr.take_nd h3 g1 hy hto
        obtain ⟨T1, -, -⟩ := hw.take h3 g1 hy hyi
        have e1 : (T.take tq s2).nd tq = some { i with ins := delE i.ins s2 } := by rw [hnd, if_neg hto, if_pos rfl]
        have e2 : (T.take tq s2).nd n = some x := by rw [hnd, if_neg (Ne.symm g2), if_neg (Ne.symm htn)]; exact hx
        have e3 : ∃ f1, (T.take tq s2).nd dir = some f1 ∧ getE f1.ins s = some n := by
          rw [hnd, if_neg hdo]
          by_cases e : dir = tq
          · rw [if_pos e]
            rw [e, h3] at h1; cases h1
            refine ⟨_, rfl, ?_⟩
            simp only
            rw [delE_get hSi g1, if_neg]
            · exact h6
            · intro e'; rw [e', g1] at h6; cases h6; exact g2 rfl
          · rw [if_neg e]; exact ⟨f, h1, h6⟩
        obtain ⟨f1, e3, e4⟩ := e3
        refine (hL.take hw h3 g1 hy).shift T1 e3 e4 e1 (by exact h4) (by exact h7) (by simp only; rw [delE_get hSi g1, if_pos rfl]) e2 fun hk _ => ?_
        have hky : T.kindOf old = 1 := by
          simp only [Tr.yieldsE] at g3
          by_cases e5 : T.kindOf old = 1
          · exact e5
          · rw [if_pos ⟨by simpa using hk, e5⟩] at g3; omega
        have h0 := hL tq i h3
        rw [links_dir h4 h7] at h0
        rw [links_dir (by exact h4) (by exact h7)]
        have h10 := cd_del_at T hSi g1
        rw [if_pos hky] at h10
        have h11 : (T.take tq s2).cd (delE i.ins s2) ≤ T.cd (delE i.ins s2) := cd_le fun e he => by
          simp only [Tr.kindOf]
          rw [hnd]
          by_cases e5 : e.2 = old
          · rw [if_pos e5, e5, hy]
            by_cases hz : 0 < y.names - 1 ∨ 0 < y.holds
            · rw [if_pos hz]; exact fun h => h
            · rw [if_neg hz]; simp
          · rw [if_neg e5]
            by_cases e6 : e.2 = tq
            · rw [if_pos e6, e6, h3]; exact fun h => h
            · rw [if_neg e6]; exact fun h => h
        simp only
        omega
    · simp only [g1]
      refine hL.shift hw h1 h6 h3 h4 h7 g1 hx fun hk hne => ?_
      have hm := h
      simp only [Tr.moveE, Tr.dir_some.2 ⟨h1, h2⟩, Tr.dir_some.2 ⟨h3, h4⟩, h5, h6, g1, hkx, if_true] at hm
      rw [if_neg (by omega)] at hm
      split at hm
      · omega
      · have h0 := hL tq i h3
        by_cases e9 : T.links i = 16
        · rw [if_pos ⟨hk, hne, e9⟩] at hm; omega
        · omega
  · rw [Tr.move, if_neg h]; exact hL
end
end Go.Proofs.YtlngeaacjbdmhaaGreat

namespace Go.Proofs.YtlngeaacjbdmhaaGreat
open Go.RowKit Go.Maps
attribute [local go_sem ↓] Go.wp_at_zero Go.wp_at_succ
section
variable {lo N : Nat} {W W' : World} {t : Nat} {T : Tr} {q p : Nat} {nb : Int → Nat} {ev : Int → Value} {B : Nat}
def setsE (T : Tr) (n : Int) : Int := match T.nd n with | some _ => 0 | none => 1
theorem Wf.setMode (hw : Wf B T) (n m : Int) : Wf B (T.setMode n m) := by
  unfold Tr.setMode
  cases hx : T.nd n with
  | none => exact hw
  | some x => exact hw.node hx (hw.k.node hx rfl rfl (hw.k.bnd n x hx).2.1 rfl rfl rfl rfl) rfl rfl rfl rfl (hw.alv n x hx)
theorem Wf.setOwner (hw : Wf B T) (n u g : Int) : Wf B (T.setOwner n u g) := by
  unfold Tr.setOwner
  cases hx : T.nd n with
  | none => exact hw
  | some x => exact hw.node hx (hw.k.node hx rfl rfl (hw.k.bnd n x hx).2.1 rfl rfl rfl rfl) rfl rfl rfl rfl (hw.alv n x hx)
set_option maxRecDepth 100000 in
set_option maxHeartbeats 1000000 in
theorem setMode_any (h : TrI lo N W t T q p nb ev) {n : Int} (hn : (kl n).wf = true) (mode : Int) :
    Calls Tryz.prog 40 #[P0 t, I n, I mode] W fun e w' => e = .returned (I (setsE T n)) ∧ ∃ ev', TrI lo N w' t (T.setMode n mode) q p nb ev' ∧ Tx lo W w' := by
  obtain ⟨c0, c1, c2, c3, cf⟩ := h.cells
  have hl := h.look_ok hn
  have hlo := h.bd.2.2.1
  have HH := hide h
  unfold setsE Tr.setMode
  cases hx : T.nd n with
  | none =>
    rw [hx] at hl
    simp only [Option.isSome_none, Bool.false_eq_true, if_false] at hl
    clear h hx
    go_enter Tryz.func40, Tryz.ntmps40
    go_wp2_with fail
    go_ret
    exact ⟨rfl, ev, unhide HH, .refl hlo⟩
  | some x =>
    dsimp only
    rw [hx] at hl
    simp only [Option.isSome_some, if_true] at hl
    have hbx := (h.hn n x hx).1
    obtain ⟨-, d1, -, -, -, -, -, -, -, -, df⟩ := ndcells hbx
    have FIN : Hid (∃ ev', TrI lo N (W.setCell ⟨nb n, 1, none⟩ (I (bits .and .i64 mode 4095))) t (T.set n (some { x with mode := bits .and .i64 mode 4095 })) q p nb ev' ∧ Tx lo W (W.setCell ⟨nb n, 1, none⟩ (I (bits .and .i64 mode 4095)))) := by
      obtain ⟨T6, X6⟩ := h.turn (y := { x with mode := bits .and .i64 mode 4095 }) (v := ev n) hx (W' := W.setCell ⟨nb n, 1, none⟩ (I (bits .and .i64 mode 4095))) ((Fn.refl _ _ _).set 1 _) (by rw [heap_set hbx]; simp [ndC]) ((h.hn n x hx).2.same fun g hg => Below.heap_setCell _ _ _ _ (fun e => by obtain ⟨_, cur, hc⟩ := (h.hn n x hx).2.blk hg; rw [show g = nb n from e, hbx] at hc; simp [ndC] at hc)) (.inl rfl)
      exact ⟨_, T6, X6⟩
    have df1 := df 1
    clear h hx hbx df
    generalize nb n = b at *
    go_enter Tryz.func40, Tryz.ntmps40
    go_wp2_with fail
    go_ret
    exact ⟨rfl, unhide FIN⟩
set_option maxRecDepth 100000 in
set_option maxHeartbeats 1000000 in
theorem setOwner_any (h : TrI lo N W t T q p nb ev) {n : Int} (hn : (kl n).wf = true) (uid gid : Int) :
    Calls Tryz.prog 74 #[P0 t, I n, I uid, I gid] W fun e w' => e = .returned (I (setsE T n)) ∧ ∃ ev', TrI lo N w' t (T.setOwner n uid gid) q p nb ev' ∧ Tx lo W w' := by
  obtain ⟨c0, c1, c2, c3, cf⟩ := h.cells
  have hl := h.look_ok hn
  have hlo := h.bd.2.2.1
  have HH := hide h
  unfold setsE Tr.setOwner
  cases hx : T.nd n with
  | none =>
    rw [hx] at hl
    simp only [Option.isSome_none, Bool.false_eq_true, if_false] at hl
    clear h hx
    go_enter Tryz.func74, Tryz.ntmps74
    go_wp2_with fail
    go_ret
    exact ⟨rfl, ev, unhide HH, .refl hlo⟩
  | some x =>
    dsimp only
    rw [hx] at hl
    simp only [Option.isSome_some, if_true] at hl
    have hbx := (h.hn n x hx).1
    obtain ⟨-, -, d2, d3, -, -, -, -, -, -, df⟩ := ndcells hbx
    have FIN : Hid (∃ ev', TrI lo N ((W.setCell ⟨nb n, 2, none⟩ (I uid)).setCell ⟨nb n, 3, none⟩ (I gid)) t (T.set n (some { x with uid := uid, gid := gid })) q p nb ev' ∧ Tx lo W ((W.setCell ⟨nb n, 2, none⟩ (I uid)).setCell ⟨nb n, 3, none⟩ (I gid))) := by
      obtain ⟨T6, X6⟩ := h.turn (y := { x with uid := uid, gid := gid }) (v := ev n) hx (W' := (W.setCell ⟨nb n, 2, none⟩ (I uid)).setCell ⟨nb n, 3, none⟩ (I gid)) (((Fn.refl _ _ _).set 2 _).set 3 _) (by rw [heap_set (heap_set hbx 2 _) 3 _]; simp [ndC]) ((h.hn n x hx).2.same fun g hg => by
        have hg2 : g ≠ nb n := fun e => by obtain ⟨_, cur, hc⟩ := (h.hn n x hx).2.blk hg; rw [e, hbx] at hc; simp [ndC] at hc
        rw [Below.heap_setCell _ _ _ _ hg2, Below.heap_setCell _ _ _ _ hg2]) (.inl rfl)
      exact ⟨_, T6, X6⟩
    have df2 := df 2
    have g1 := heap_set hbx 2 (I uid)
    have e3 : (W.setCell ⟨nb n, 2, none⟩ (I uid)).cell? ⟨nb n, 3, none⟩ = some (I x.gid) := by rw [cell_of g1]; simp [ndC]
    have df3 : (W.setCell ⟨nb n, 2, none⟩ (I uid)).frozen? ⟨nb n, 3, none⟩ = false := frozen_of g1 3
    clear h hx hbx df g1
    generalize nb n = b at *
    go_enter Tryz.func74, Tryz.ntmps74
    go_wp2_with fail
    go_ret
    exact ⟨rfl, unhide FIN⟩
theorem setMode_Q (h : Tq lo N W t T B) {n : Int} (hn : (kl n).wf = true) (mode : Int) :
    Calls Tryz.prog 40 #[P0 t, I n, I mode] W fun e w' => e = .returned (I (setsE T n)) ∧ Hid (Tq lo N w' t (T.setMode n mode) B) ∧ Hid (Tx lo W w') := by
  obtain ⟨⟨q, p, nb, ev, h1⟩, h2⟩ := h
  refine (setMode_any h1 hn mode).mono ?_
  rintro e w' ⟨rfl, ev', h3, h4⟩
  exact ⟨rfl, ⟨⟨q, p, nb, ev', h3⟩, h2.setMode n mode⟩, h4⟩
theorem setOwner_Q (h : Tq lo N W t T B) {n : Int} (hn : (kl n).wf = true) (u g : Int) :
    Calls Tryz.prog 74 #[P0 t, I n, I u, I g] W fun e w' => e = .returned (I (setsE T n)) ∧ Hid (Tq lo N w' t (T.setOwner n u g) B) ∧ Hid (Tx lo W w') := by
  obtain ⟨⟨q, p, nb, ev, h1⟩, h2⟩ := h
  refine (setOwner_any h1 hn u g).mono ?_
  rintro e w' ⟨rfl, ev', h3, h4⟩
  exact ⟨rfl, ⟨⟨q, p, nb, ev', h3⟩, h2.setOwner n u g⟩, h4⟩
end
end Go.Proofs.YtlngeaacjbdmhaaGreat
