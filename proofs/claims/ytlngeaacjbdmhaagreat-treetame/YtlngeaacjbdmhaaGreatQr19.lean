/-
  The document's own tree: Live, Left.
-/
import Derived.Test.YtlngeaacjbdmhaaGreatQr18
import Derived.Deep.RegionHeld3
import Derived.WalkKit
import Derived.Test.YtlngeaacjbdmhaaGreatRows
import Derived.WalkSpells
import Derived.Deep.DrawnRows
import Derived.Deep.QuietTactic
import Derived.BigQuiet
import Derived.Deep.OwnRows
import Derived.Laws.CopyOwn
import Derived.ArgAppend
import Derived.Test.YtlngeaacjbdmhaaGreatQr06
import Derived.Shelf.Abstract
import Derived.Shelf.RegionOpen
import Derived.OwnWalkIn
import Derived.TacticsInMore
import Derived.LoopNIn
import Derived.LoopIn
import Derived.Test.YtlngeaacjbdmhaaGreatQr03
import Derived.Deep.Draws
import Derived.Lib.Bytealg
import Derived.Lib.Strings
import Derived.Laws.Strings3
namespace Go.Proofs.YtlngeaacjbdmhaaGreat.Rf
open Go.RowKit Go.Maps
attribute [local go_sem ↓] Go.wp_at_zero Go.wp_at_succ
theorem inf3 : (Tryz.prog.info? 3).map (fun i => (i.zero, i.size, i.bytes)) = some (some (.int .i64 0), 1, 8) := by kernel_rfl
def lvs (T : Tr) (j : Nat) : List Int := ((List.range j).filter fun i : Nat => (T.nd ((i : Int) + 1)).isSome).map fun i : Nat => (i : Int) + 1
theorem lvs_yes {T : Tr} {k : Nat} (h : (T.nd ((k : Int) + 1)).isSome = true) : lvs T (k + 1) = lvs T k ++ [(k : Int) + 1] := by
  rw [lvs, lvs, List.range_succ, List.filter_append, List.map_append]
  simp [h]
theorem lvs_no {T : Tr} {k : Nat} (h : (T.nd ((k : Int) + 1)).isSome = false) : lvs T (k + 1) = lvs T k := by
  rw [lvs, lvs, List.range_succ, List.filter_append, List.map_append]
  simp [h]
theorem lvs_len (T : Tr) (k : Nat) : (lvs T k).length ≤ k := by
  have := List.length_filter_le (fun i => (T.nd (((i : Nat) : Int) + 1)).isSome) (List.range k)
  simp [lvs] at this ⊢
  omega
theorem lvs_cnt {B : Nat} {T : Tr} (hw : Wk B T) : ∀ k, (lvs T k).length = cnt (k + 1) fun i => (T.nd (i : Int)).isSome
  | 0 => by
    have : T.nd ((0 : Nat) : Int) = none := by
      cases h : T.nd ((0 : Nat) : Int) with
      | none => rfl
      | some x => have := hw.key _ x h; omega
    rw [cnt_succ, this]
    simp [lvs, cnt]
  | k + 1 => by
    rw [cnt_succ, ← lvs_cnt hw k]
    cases h : (T.nd ((k : Int) + 1)).isSome with
    | true => rw [lvs_yes h]; simp [h]
    | false => rw [lvs_no h]; simp [h]
theorem lvs_live {B : Nat} {T : Tr} (hw : Wk B T) : (lvs T T.made).length = T.live := lvs_cnt hw T.made
section
variable {lo N : Nat} {W W' : World} {r : Nat} {T : Tr} {p : Nat} {Lv : Value} {nb : Int → Nat} {ev : Int → Value} {uv : Int → Int} {B : Nat}
set_option maxRecDepth 100000 in
set_option maxHeartbeats 1000000 in
theorem dLive_any (h : DtI lo N W r T p Lv nb ev uv) (hm : T.made ≤ 900) :
    Calls Tryz.prog 85 #[P0 r] W fun e w' => ∃ v, e = .returned v ∧ w'.ownsRow W.heap.size 3 1 v (lvs T T.made).length ((lvs T T.made).map I) ∧ Below W.heap.size W w' := by
  obtain ⟨i0, hi, hz0, hz1, hz2⟩ := info_parts inf3
  obtain ⟨-, -, c2, -⟩ := h.cells
  have hlt := lt_of_heap h.ht
  obtain ⟨M, hM⟩ : ∃ M, M = T.made := ⟨_, rfl⟩
  have hc : ∃ a cap, Lv = .slice a M cap ∧ ∀ k, k < M → ∃ g, a = some ⟨g, 0, none⟩ ∧ g < W.heap.size ∧ W.cell? ⟨g, k, none⟩ = some (ptrV T nb k) := by
    obtain ⟨a, cap, hLv⟩ := own_form h.hL
    refine ⟨a, cap, by rw [hLv, hM], fun k hk => ?_⟩
    obtain ⟨g, cap', cur, e1, -, hg, -, -, -, hcell⟩ := own_open h.hL (by omega)
    rw [hLv] at e1
    simp only [Value.slice.injEq] at e1
    exact ⟨g, e1.1, lt_of_heap hg, hcell k _ (dptrs_get T nb (by omega))⟩
  obtain ⟨a, cap, rfl, hc⟩ := hc
  rw [← hM] at hm ⊢
  have HC := hide hc
  clear h hM hc
  go_enter Tryz.func85, Tryz.ntmps85
  go_wp2_with fail
  go_loopw [3, 4] (fun vo v wr => ∃ k : Nat, v = I k ∧ k ≤ M ∧ wr.ownsRow W.heap.size 3 1 vo (lvs T k).length ((lvs T k).map I) ∧ Below W.heap.size W wr) (fun _ v _ => M - (intOf v).toNat)
  case atStart => exact ⟨0, rfl, by omega, by simp [lvs]; exact World.ownsRow_nil _ _ _ _, Below.refl _ _⟩
  case round =>
    obtain ⟨k, rfl, hk, own, hbr⟩ := hrel
    have b2 : wr.cell? ⟨r, 2, none⟩ = some (.slice a M cap) := (World.cell?_of_block (a := ⟨r, 2, none⟩) (hbr.block r hlt)).trans c2
    have hs4 := hbr.size
    by_cases hkn : k < M
    · obtain ⟨g, rfl, hgl, hcl⟩ := unhide HC k hkn
      have bc : wr.cell? ⟨g, k, none⟩ = some (ptrV T nb k) := (World.cell?_of_block (a := ⟨g, k, none⟩) (hbr.block g hgl)).trans hcl
      have j1 : (k : Int) < (M : Int) := by omega
      have j0 : (0 : Int) ≤ (k : Int) := by omega
      have j9 : (k : Int) ≤ 900 := by omega
      have hil := lvs_len T k
      cases hP : (T.nd ((k : Int) + 1)).isSome with
      | true =>
        have own5 := own_keep (W' := wr.alloc (.cells #[I ((k : Int) + 1)] 3)) own (fun k cur hc => Below.heap_alloc wr _ _ (lt_of_heap hc))
        obtain ⟨v', W5, hrun, own6, hgr, -, -⟩ := run_append_own_at (P := Tryz.prog) (wr.alloc (.cells #[I ((k : Int) + 1)] 3)) W.heap.size 72 72 3 i0 (I 0) 1 8 Tryz.underlying72 hi hz0 hz1 hz2 rfl (by decide) _ _ _ own5 ⟨wr.heap.size, 0, none⟩ 1 1 [I ((k : Int) + 1)] rfl (cell_one_new wr _ _) (by intro u hu; simp at hu; subst hu; rfl) (by unfold maxLen; omega) (by omega) (by simp; omega)
        have hb5 := below_grown (hbr.alloc hbr.size _) own5 hgr (by simp; omega)
        have HREL := hide (⟨k + 1, by go_num, by omega, by rw [lvs_yes hP, List.length_append, List.map_append]; simpa using own6, hb5⟩ : ∃ k' : Nat, I ((k : Int) + 1) = I (k' : Int) ∧ k' ≤ M ∧ W5.ownsRow W.heap.size 3 1 v' (lvs T k').length ((lvs T k').map I) ∧ Below W.heap.size W W5)
        obtain ⟨q', cp, rfl⟩ := own_form own6
        rw [ptrV, if_pos hP] at bc
        clear own own5 own6 hgr hb5 hil hcl
        go_wp2_with (at_builtin; refine wpList_append_eq rfl _ _ 72 rfl 72 rfl _ _ rfl rfl _ _ hrun ?_)
        go_roundw
        case rel => exact unhide HREL
        case measure => simp [intOf]; omega
      | false =>
        have HREL := hide (⟨k + 1, by go_num, by omega, by rw [lvs_no hP]; exact own, hbr⟩ : ∃ k' : Nat, I ((k : Int) + 1) = I (k' : Int) ∧ k' ≤ M ∧ wr.ownsRow W.heap.size 3 1 _ (lvs T k').length ((lvs T k').map I) ∧ Below W.heap.size W wr)
        rw [ptrV, if_neg (by simp [hP])] at bc
        clear own hil hcl
        go_wp2_with fail
        go_roundw
        case rel => exact unhide HREL
        case measure => simp [intOf]; omega
    · obtain rfl : k = M := by omega
      have HO := hide own
      have HB := hide hbr
      clear own hbr
      go_wp2_with fail
      go_ret
      exact ⟨_, rfl, unhide HO, unhide HB⟩
set_option maxHeartbeats 1000000 in
theorem dLeft_any (h : DtI lo N W r T p Lv nb ev uv) (hw : Wk B T) (hB : B ≤ 900) (hM : T.most ≤ 100000) :
    Calls Tryz.prog 87 #[P0 r] W fun e w' => e = .returned (I T.left) ∧ Below W.heap.size W w' := by
  obtain ⟨c0, -⟩ := h.cells
  have hlt := lt_of_heap h.ht
  have hmd := hw.made
  have HL : Hid (Calls Tryz.prog 85 #[P0 r] W.drew fun e w' => ∃ a cap, e = .returned (.slice a (lvs T T.made).length cap) ∧ w'.cell? ⟨r, 0, none⟩ = some (I (T.most : Int)) ∧ Hid (Below W.heap.size W w')) := by
    refine hide ((dLive_any (h.below (W' := W.drew) (below_drew (Below.refl _ W))) (by omega)).mono ?_)
    rintro e w1 ⟨v, rfl, own, hb⟩
    obtain ⟨a, cap, rfl⟩ := own_form own
    have hb2 : Below W.heap.size W w1 := (below_drew (Below.refl _ W)).trans hb
    exact ⟨a, cap, rfl, (World.cell?_of_block (a := ⟨r, 0, none⟩) (hb2.block r hlt)).trans c0, hide hb2⟩
  have hll := lvs_live hw
  have hln := lvs_len T T.made
  rw [Tr.left, ← hll]
  generalize (lvs T T.made).length = L at *
  generalize T.most = Mo at *
  have k1 : (L : Int) ≤ 900 := by omega
  have k2 : (Mo : Int) ≤ 100000 := by omega
  have k3 : IntKind.i64.wrap ((Mo : Int) - (L : Int)) = (Mo : Int) - (L : Int) := by rw [IntKind.wrap_i64]; omega
  clear h hw hll
  go_enter Tryz.func87, Tryz.ntmps87
  go_wp2_with fail
  go_region_held3 (fun w' => w'.cell? ⟨r, 0, none⟩ = some (I (Mo : Int))) (go_keep) ((go_at_call 85; refine (unhide HL).mono ?_; rintro e w2 ⟨a, cap, rfl, q0, HB⟩))
  go_wp2_with fail
  go_ret
  exact ⟨rfl, unhide HB⟩
end
end Go.Proofs.YtlngeaacjbdmhaaGreat.Rf

namespace Go.Proofs.YtlngeaacjbdmhaaGreat.Nm
def split : List UInt8 → List (List UInt8)
  | [] => [[]]
  | c :: r => if c = 47 then [] :: split r else match split r with
    | [] => [[c]]
    | h :: t => (c :: h) :: t
def parts (l : List UInt8) : List (List UInt8) := (split l).filter fun p => !p.isEmpty
def piece (l : List UInt8) : List (List UInt8) := if l = [] then [] else [l]
def before (l : List UInt8) : List UInt8 := l.takeWhile fun c => c != 47
def behind (l : List UInt8) : List UInt8 := (l.dropWhile fun c => c != 47).drop 1
theorem split_ne (l : List UInt8) : split l ≠ [] := by
  cases l with
  | nil => simp [split]
  | cons c r =>
    unfold split
    split
    · simp
    · split <;> simp
theorem split_app (a b : List UInt8) : split (a ++ 47 :: b) = split a ++ split b := by
  induction a with
  | nil => simp [split]
  | cons c r ih =>
    simp only [List.cons_append, split]
    split
    · rw [ih]; simp
    · rw [ih]
      cases h : split r with
      | nil => exact absurd h (split_ne r)
      | cons x t => simp
theorem parts_app (a b : List UInt8) : parts (a ++ 47 :: b) = parts a ++ parts b := by
  unfold parts; rw [split_app, List.filter_append]
theorem split_plain {l : List UInt8} (h : (47 : UInt8) ∉ l) : split l = [l] := by
  induction l with
  | nil => rfl
  | cons c r ih =>
    simp only [List.mem_cons, not_or] at h
    simp [split, ih h.2, Ne.symm h.1]
theorem parts_plain {l : List UInt8} (h : (47 : UInt8) ∉ l) : parts l = piece l := by
  unfold parts piece
  rw [split_plain h]
  cases l <;> simp
theorem parts_nil : parts [] = [] := rfl
theorem not_before (l : List UInt8) : (47 : UInt8) ∉ before l := by
  induction l with
  | nil => simp [before]
  | cons c r ih =>
    by_cases hc : c = 47
    · subst hc; simp [before]
    · have e1 : before (c :: r) = c :: before r := by simp [before, hc]
      rw [e1, List.mem_cons, not_or]
      exact ⟨Ne.symm hc, ih⟩
theorem split_at (l : List UInt8) : ((47 : UInt8) ∉ l ∧ before l = l ∧ behind l = []) ∨ l = before l ++ 47 :: behind l := by
  induction l with
  | nil => exact .inl ⟨by simp, rfl, rfl⟩
  | cons c r ih =>
    by_cases hc : c = 47
    · subst hc; exact .inr (by simp [before, behind])
    · have e1 : before (c :: r) = c :: before r := by simp [before, hc]
      have e2 : behind (c :: r) = behind r := by simp [behind, hc]
      rw [e1, e2]
      rcases ih with ⟨h1, h2, h3⟩ | h
      · exact .inl ⟨by simp only [List.mem_cons, not_or]; exact ⟨Ne.symm hc, h1⟩, by rw [h2], h3⟩
      · exact .inr (by rw [List.cons_append, ← h])
theorem parts_cut (l : List UInt8) : parts l = piece (before l) ++ parts (behind l) := by
  rcases split_at l with ⟨h1, h2, h3⟩ | h
  · rw [h2, h3, parts_plain h1]; simp [parts_nil]
  · conv => lhs; rw [h, parts_app, parts_plain (not_before l)]
theorem behind_lt {l : List UInt8} (h : l ≠ []) : (behind l).length < l.length := by
  rcases split_at l with ⟨_, _, h3⟩ | h1
  · rw [h3]; cases l with
    | nil => exact absurd rfl h
    | cons c r => simp
  · conv => rhs; rw [h1]
    simp; omega
theorem behind_le (l : List UInt8) : (behind l).length ≤ l.length := by
  by_cases h : l = []
  · subst h; exact Nat.le_refl _
  · exact Nat.le_of_lt (behind_lt h)
def joinS : List (List UInt8) → List UInt8
  | [] => []
  | p :: r => p ++ (match r with | [] => [] | _ :: _ => 47 :: joinS r)
def pw (root slash : Bool) (ps : List (List UInt8)) : List UInt8 :=
  (if root then [47] else []) ++ joinS ps ++ (if slash && !ps.isEmpty then [47] else [])
def err (l : List UInt8) : Int :=
  if l = [] then 32 else if 4096 < l.length then 45 else if (0 : UInt8) ∈ l then 39 else if (parts l).any (fun p => decide (255 < p.length)) then 45 else 0
def rt (l : List UInt8) : Bool := decide (err l = 0) && ([47] : List UInt8).isPrefixOf l
def sl (l : List UInt8) : Bool := decide (err l = 0) && ([47] : List UInt8).isSuffixOf l
def ps (l : List UInt8) : List (List UInt8) := if err l = 0 then parts l else []
theorem err_of {l : List UInt8} (h1 : l ≠ []) (h2 : l.length ≤ 4096) (h3 : (0 : UInt8) ∉ l) (h4 : ∀ p ∈ parts l, p.length ≤ 255) : err l = 0 := by
  unfold err
  rw [if_neg h1, if_neg (by omega), if_neg h3, if_neg]
  simp only [List.any_eq_true, decide_eq_true_eq, not_exists, not_and]
  intro p hp
  have := h4 p hp
  omega
theorem prefix_cons (c : UInt8) (r : List UInt8) : ([47] : List UInt8).isPrefixOf (c :: r) = (c == 47) := by
  by_cases h : c = 47
  · subst h; rfl
  · have h2 : ((47 : UInt8) == c) = false := by simpa using Ne.symm h
    have h3 : (c == 47) = false := by simpa using h
    rw [h3]; simp [List.isPrefixOf, h2]
theorem suffix_app (a : List UInt8) (c : UInt8) : ([47] : List UInt8).isSuffixOf (a ++ [c]) = (c == 47) := by
  simp only [List.isSuffixOf, List.reverse_append, List.reverse_cons, List.reverse_nil, List.nil_append, List.singleton_append]
  exact prefix_cons c _
theorem suffix_cat (a : List UInt8) {b : List UInt8} (h : b ≠ []) : ([47] : List UInt8).isSuffixOf (a ++ b) = ([47] : List UInt8).isSuffixOf b := by
  obtain ⟨c, x, rfl⟩ : ∃ c x, b = c ++ [x] := ⟨_, _, (List.dropLast_concat_getLast h).symm⟩
  rw [← List.append_assoc, suffix_app, suffix_app]
def wt : List (List UInt8) → Nat
  | [] => 0
  | p :: r => p.length + 1 + wt r
theorem wt_app (a b : List (List UInt8)) : wt (a ++ b) = wt a + wt b := by
  induction a with
  | nil => simp [wt]
  | cons p r ih => simp [wt, ih]; omega
theorem wt_piece (l : List UInt8) : wt (piece l) ≤ l.length + 1 := by unfold piece; split <;> simp [wt]
def ende (l : List UInt8) : Nat := if l = [] ∨ ([47] : List UInt8).isSuffixOf l = true then 0 else 1
theorem wt_parts (n : Nat) : ∀ l : List UInt8, l.length ≤ n → wt (parts l) ≤ l.length + ende l := by
  induction n with
  | zero =>
    intro l h
    have : l = [] := List.length_eq_zero_iff.1 (by omega)
    subst this
    simp [parts_nil, wt]
  | succ n ih =>
    intro l h
    by_cases h0 : l = []
    · subst h0; simp [parts_nil, wt]
    rw [parts_cut, wt_app]
    rcases split_at l with ⟨h1, h2, h3⟩ | h1
    · rw [h2, h3, parts_nil]
      have hw := wt_piece l
      have he : ende l = 1 := by
        unfold ende
        rw [if_neg]
        rintro (h4 | h4)
        · exact h0 h4
        · obtain ⟨a, x, rfl⟩ : ∃ a x, l = a ++ [x] := ⟨_, _, (List.dropLast_concat_getLast h0).symm⟩
          rw [suffix_app] at h4
          simp at h4 h1
          exact h1.2 h4.symm
      rw [he]; simp [wt]; omega
    · have hl := behind_lt h0
      have i1 := ih (behind l) (by omega)
      have hw := wt_piece (before l)
      have e1 : l.length = (before l).length + 1 + (behind l).length := by
        conv => lhs; rw [h1]
        simp; omega
      have e2 : ende l = ende (behind l) := by
        unfold ende
        by_cases hb : behind l = []
        · have h5 : ([47] : List UInt8).isSuffixOf l = true := by
            rw [hb] at h1
            have h6 := suffix_app (before l) 47
            rw [← h1] at h6
            exact h6
          rw [if_pos (.inr h5), if_pos (.inl hb)]
        · have : ([47] : List UInt8).isSuffixOf l = ([47] : List UInt8).isSuffixOf (behind l) := by
            conv => lhs; rw [h1]
            rw [suffix_cat _ (by simp)]
            have := suffix_cat [47] hb
            simpa using this
          simp only [h0, hb, this, false_or]
      omega
end Go.Proofs.YtlngeaacjbdmhaaGreat.Nm

namespace Go.Proofs.YtlngeaacjbdmhaaGreat.Nm
open Go.RowKit
theorem hide {p : Prop} (h : p) : Hid p := h
theorem unhide {p : Prop} (h : Hid p) : p := h
theorem putAll {w : World} (o : Obj) (h : Nat) (hh : h = w.heap.size) : (w.alloc o).heap[h]? = some o := by
  subst hh; exact heap_alloc_new w o
theorem lt_of_heap {W : World} {k : Nat} {o : Obj} (e : W.heap[k]? = some o) : k < W.heap.size := (Array.getElem?_eq_some_iff.1 e).1
theorem below_dn {B : Nat} {u w : World} (h : Below B u w) (m : Nat) : Below B u (w.drewN m) := ⟨h.os, h.tape, h.output, h.size, h.block⟩
theorem below_drew {B : Nat} {u w : World} (h : Below B u w) : Below B u w.drew := ⟨h.os, h.tape, h.output, h.size, h.block⟩
theorem cell_of {W : World} {b : Nat} {cs : Array Value} {t : TypeId} {f : Nat × Nat} (h : W.heap[b]? = some (.cells cs t f)) (i : Nat) : W.cell? ⟨b, i, none⟩ = cs[i]? := by
  simp [World.cell?, h]
theorem frozen_of {W : World} {b : Nat} {cs : Array Value} {t : TypeId} (h : W.heap[b]? = some (.cells cs t)) (i : Nat) : W.frozen? ⟨b, i, none⟩ = false := by
  simp [World.frozen?, h]
theorem heap_set {W : World} {b : Nat} {cs : Array Value} {t : TypeId} {f : Nat × Nat} (h : W.heap[b]? = some (.cells cs t f)) (i : Nat) (v : Value) :
    (W.setCell ⟨b, i, none⟩ v).heap[b]? = some (.cells (cs.setIfInBounds i v) t f) := by
  obtain ⟨hl, he⟩ := Array.getElem?_eq_some_iff.1 h
  simp [World.setCell, Array.getElem?_modify, h]
theorem own_ne {W : World} {base : Nat} {e : TypeId} {s n k : Nat} {v : Value} {xs : List Value} {o : Obj} (h : W.ownsRow base e s v n xs) (ho : W.heap[k]? = some o) (hne : ∀ cur, o ≠ .cells cur e (0, 0)) : some k ≠ v.ownBlock := by
  obtain ⟨-, ⟨rfl, hz⟩ | ⟨g, cap, cur, rfl, hgb, hgg, hcap, hcm, hcs, htk⟩⟩ := h
  · simp [Value.ownBlock]
  · simp only [Value.ownBlock, ne_eq, Option.some.injEq]
    rintro rfl
    rw [hgg] at ho
    exact hne cur (Option.some.inj ho).symm
theorem own_keep {W W' : World} {base : Nat} {e : TypeId} {s n : Nat} {v : Value} {xs : List Value} (h : W.ownsRow base e s v n xs) (hb : ∀ (k : Nat) (cur : Array Value), W.heap[k]? = some (Obj.cells cur e (0, 0)) → W'.heap[k]? = W.heap[k]?) : W'.ownsRow base e s v n xs := by
  obtain ⟨h0, h1⟩ := h
  refine ⟨h0, ?_⟩
  rcases h1 with h1 | ⟨g, cap, cur, h1, h2, h3, h4⟩
  · exact .inl h1
  · exact .inr ⟨g, cap, cur, h1, h2, (hb g cur h3).trans h3, h4⟩
theorem own_form {W : World} {base : Nat} {e : TypeId} {s n : Nat} {v : Value} {xs : List Value} (h : W.ownsRow base e s v n xs) : ∃ a cap, v = .slice a n cap := by
  obtain ⟨-, ⟨rfl, hz⟩ | ⟨g, cap, cur, rfl, _⟩⟩ := h
  · exact ⟨none, 0, by rw [hz]⟩
  · exact ⟨_, _, rfl⟩
theorem own_open {W : World} {base : Nat} {e : TypeId} {s n : Nat} {v : Value} {xs : List Value} (h : W.ownsRow base e s v n xs) (hn : n ≠ 0) :
    ∃ g cap cur, v = .slice (some ⟨g, 0, none⟩) n cap ∧ base ≤ g ∧ W.heap[g]? = some (.cells cur e) ∧ n ≤ cap ∧ cap ≤ maxLen ∧ cur.size = cap * s ∧ ∀ (j : Nat) (u : Value), xs[j]? = some u → W.cell? ⟨g, j, none⟩ = some u := by
  obtain ⟨hl, ⟨rfl, hz⟩ | ⟨g, cap, cur, rfl, hgb, hgg, hcap, hcm, hcs, htk⟩⟩ := h
  · exact absurd hz hn
  · refine ⟨g, cap, cur, rfl, hgb, hgg, hcap, hcm, hcs, fun j u hj => ?_⟩
    have hj2 := (List.getElem?_eq_some_iff.1 hj).1
    rw [cell_of hgg, ← hj, ← htk, List.getElem?_take_of_lt (by omega)]
    simp
theorem own_base {W : World} {base base' : Nat} {e : TypeId} {s n : Nat} {v : Value} {xs : List Value} (h : W.ownsRow base' e s v n xs) (hb : base ≤ base') : W.ownsRow base e s v n xs := by
  obtain ⟨h0, h1 | ⟨g, cap, cur, h1, h2, h3⟩⟩ := h
  · exact ⟨h0, .inl h1⟩
  · exact ⟨h0, .inr ⟨g, cap, cur, h1, Nat.le_trans hb h2, h3⟩⟩
theorem own_addr {W : World} {base : Nat} {e : TypeId} {s n m cap : Nat} {a : Option Addr} {xs : List Value} (h : W.ownsRow base e s (.slice a m cap) n xs) : ∃ g, (a = none ∧ m = 0 ∧ cap = 0) ∨ a = some ⟨g, 0, none⟩ := by
  obtain ⟨-, ⟨e1, hz⟩ | ⟨g, cap', cur, e1, _⟩⟩ := h
  · simp only [Value.slice.injEq] at e1; obtain ⟨rfl, rfl, rfl⟩ := e1; exact ⟨0, .inl ⟨rfl, rfl, rfl⟩⟩
  · simp only [Value.slice.injEq] at e1; obtain ⟨rfl, rfl, rfl⟩ := e1; exact ⟨g, .inr rfl⟩
theorem below_grown {base : Nat} {w W W' : World} {e : TypeId} {s n : Nat} {v : Value} {xs : List Value} (hB : Below base w W) (h : W.ownsRow base e s v n xs) (g : W.grownBy W' v.ownBlock) (hb : base ≤ W.heap.size) : Below base w W' := by
  refine ⟨g.os.trans hB.os, g.tape.trans hB.tape, g.output.trans hB.output, ?_, ?_⟩
  · have := g.size; have := hB.size; omega
  · intro k hk
    have h1 : some k ≠ v.ownBlock := by
      intro e
      obtain ⟨-, ⟨rfl, _⟩ | ⟨g', cap, cur, rfl, hgb, _⟩⟩ := h
      · simp [Value.ownBlock] at e
      · simp [Value.ownBlock] at e; omega
    rw [g.block k (by omega) h1]
    exact hB.block k hk
theorem info9 : (Tryz.prog.info? 9).map (fun i => (i.zero, i.size, i.bytes)) = some (some (.string ByteArray.empty), 1, 16) := by kernel_rfl
theorem info5 : (Tryz.prog.info? 5).map (fun i => (i.zero, i.size, i.bytes)) = some (some (.int .u8 0), 1, 1) := by kernel_rfl
abbrev bs (l : List UInt8) : ByteArray := ⟨l.toArray⟩
abbrev S (l : List UInt8) : Value := .string (bs l)
abbrev strs (l : List (List UInt8)) : List Value := l.map S
def RowO (W : World) (pa : Option Addr) (kl : List (List UInt8)) : Prop := ∀ (k : Nat) (s : List UInt8), kl[k]? = some s → ∃ b off, pa = some ⟨b, off, none⟩ ∧ b < W.heap.size ∧ W.cell? ⟨b, off + k, none⟩ = some (.string (bs s))
theorem RowO.below {W W' : World} {pa : Option Addr} {kl : List (List UInt8)} (h : RowO W pa kl) (g : Below W.heap.size W W') : RowO W' pa kl := fun k s hk => by
  obtain ⟨b, off, h1, h2, h3⟩ := h k s hk
  exact ⟨b, off, h1, Nat.lt_of_lt_of_le h2 g.size, (World.cell?_of_block (g.block b h2)).trans h3⟩
end Go.Proofs.YtlngeaacjbdmhaaGreat.Nm

namespace Go.Proofs.YtlngeaacjbdmhaaGreat.Nm
open Go.RowKit Go.Shelf
section
variable {n l : Nat} {P : Program} {ops : Array Oper} {Q : Exit → Act → World → Prop} {md : Region.Mode}
def noDefer (o : Oper) : Bool := match o.op with | .defer _ => false | _ => true
theorem noDefer_spec {o : Oper} (h : noDefer o = true) : ∀ c, o.op ≠ .defer c := by
  intro c hc
  simp [noDefer, hc] at h
theorem uponIn_round {o : Oper} {a : Act} {K : Act → World → Prop} {r : Result Next} (h : o.uponIn Fence.wide n P a K Q r) : o.uponIn (Fence.wide.inRound l) n P a K Q r := by
  cases r with
  | ok x w' => cases x <;> exact h
  | halt x w' => cases x <;> exact h
theorem wpOpIn_round {i : Nat} {K : Act → World → Prop} {a : Act} {w : World} (hd : ops.all noDefer = true) (h : wpOpIn Fence.wide n P ops Q i K a w) : wpOpIn (Fence.wide.inRound l) n P ops Q i K a w := by
  unfold wpOpIn at *
  cases ho : ops[i]? with
  | none => simpa [ho] using h
  | some o =>
    simp only [ho] at h ⊢
    have hn : ∀ c, o.op ≠ .defer c := noDefer_spec (by
      obtain ⟨hl, he⟩ := Array.getElem?_eq_some_iff.1 ho
      rw [Array.all_eq_true] at hd
      rw [← he]; exact hd i hl)
    split
    · rename_i hw
      simp only [hw, if_true] at h
      refine ⟨fun _ _ => trivial, ?_⟩
      have h2 := h.2
      rw [show (Fence.wide.inRound l).round = some l from rfl, Oper.semAt_some _ _ _ hn]
      rw [show Fence.wide.round = none from rfl, Oper.semAt_none] at h2
      exact uponIn_round h2
    · rename_i hw
      simp only [hw] at h
      exact h
theorem wpAnyIn_round (hd : ops.all noDefer = true) : ∀ (fuel : Nat) (listed : Array Bool) (a : Act) (w : World), wpAnyIn Fence.wide n P md ops Q fuel listed a w → wpAnyIn (Fence.wide.inRound l) n P md ops Q fuel listed a w
  | 0, _, _, _, h => h
  | fuel + 1, _, _, _, h => ⟨h.1, fun i hi => wpOpIn_mono (fun a w hh => wpAnyIn_round hd fuel _ a w hh) (wpOpIn_round hd (h.2 i hi))⟩
theorem wpIn_region_round {id : Nat} {a : Act} {w : World} (hm : P.follows .mixedOrders = true) (hd : ops.all noDefer = true)
    (h : wpAnyIn Fence.wide n P .any ops Q ops.size (Array.replicate ops.size false) a w.drew) : (Code.region id ops true).wpIn (Fence.wide.inRound l) n P Q a w :=
  wpIn_region_any hm (wpAnyIn_round hd _ _ _ _ h)
theorem stepIn_append_eq {w : World} {o : Oper} {a : Act} {K : Act → World → Prop} {E : Prop} (hgd : o.guard = none) (s x : Operand) (t : TypeId)
    (ho : o.op = .call { callee := .builtin .append, args := #[s, x], argTypes := #[t, t] }) (ty : TypeId) (hty : o.type = ty) (vs vx : Value) (hs : a.eval s = vs) (hx : a.eval x = vx) (v' : Value) (w' : World)
    (hrun : (Builtin.append_ #[t, t] ty #[vs, vx]).run P w = .ok v' w') (h : K (a.put o.dst v') w') :
    if Region.wanted o (yielded ops a.tmps) = true then Oper.wpIn Fence.wide n P o a w K Q else E := by
  have hw : Region.wanted o (yielded ops a.tmps) = true := by simp [Region.wanted, hgd]
  rw [if_pos hw]
  refine ⟨fun _ _ => trivial, ?_⟩
  rw [show Fence.wide.round = none from rfl, Oper.semAt_none]
  unfold execOp
  simp only [ho, resolve, invoke, builtin, Sem.run_bind, Sem.run_pure, Result.andThen_ok, List.map_toArray, List.map_cons, List.map_nil, hs, hx, hty, hrun]
  exact h
end
theorem grown_keep {W W5 : World} {base : Nat} {e : TypeId} {s n k : Nat} {v : Value} {xs : List Value} {o o' : Obj} (own : W.ownsRow base e s v n xs) (hg : (W.alloc o').grownBy W5 v.ownBlock) (h : W.heap[k]? = some o) (hne : ∀ cur, o ≠ .cells cur e (0, 0)) : W5.heap[k]? = some o := by
  have h3 := hg.block k (by simp; exact Nat.lt_succ_of_lt (lt_of_heap h)) (own_ne own h hne)
  rw [Below.heap_alloc _ _ _ (lt_of_heap h)] at h3
  exact h3.trans h
theorem put_other {W : World} {r r' : Loop} {L k : Nat} {o : Obj} (hl : W.heap[L]? = some (.loop r)) (h : W.heap[k]? = some o) (hne : ∀ r, o ≠ .loop r) : (W.putObj L (.loop r')).heap[k]? = some o :=
  (World.putObj_heap_other (by rintro rfl; rw [hl] at h; exact hne _ (Option.some.inj h).symm)).trans h
theorem own_put {W : World} {r r' : Loop} {L base : Nat} {e : TypeId} {s n : Nat} {v : Value} {xs : List Value} (h : W.ownsRow base e s v n xs) (hl : W.heap[L]? = some (.loop r)) : (W.putObj L (.loop r')).ownsRow base e s v n xs :=
  own_keep h fun k cur hc => (put_other hl hc (by simp)).trans hc.symm
theorem setup (w : World) (r : Loop) : ((w.alloc (.deferred (some []))).alloc (.loop r)).heap[w.heap.size + 1]? = some (.loop r) ∧ ((w.alloc (.deferred (some []))).alloc (.loop r)).heap[w.heap.size]? = some (.deferred (some [])) ∧ Below w.heap.size w ((w.alloc (.deferred (some []))).alloc (.loop r)) :=
  ⟨putAll _ _ (by simp), (Below.heap_alloc _ _ _ (by simp)).trans (putAll _ _ rfl), ((Below.refl _ _).alloc (Nat.le_refl _) _).alloc (by simp) _⟩
theorem two0 (w : World) (o1 o2 : Obj) : ∃ V : World, ((w.alloc o1).alloc o2) = V ∧ V.heap.size = w.heap.size + 2 ∧ V.heap[w.heap.size]? = some o1 ∧ V.heap[w.heap.size + 1]? = some o2 ∧ Below w.heap.size w V := by
  refine ⟨_, rfl, by simp, ?_, ?_, ?_⟩
  · rw [Below.heap_alloc _ _ _ (by simp)]; exact putAll _ _ rfl
  · exact putAll _ _ (by simp)
  · exact ((Below.refl w.heap.size w).alloc (Nat.le_refl _) o1).alloc (by simp) o2
theorem four0 (w : World) (o1 o2 o3 o4 : Obj) : ∃ V : World, (((w.alloc o1).alloc o2).alloc o3).alloc o4 = V ∧ V.heap.size = w.heap.size + 4 ∧ V.heap[w.heap.size]? = some o1 ∧ V.heap[w.heap.size + 1]? = some o2 ∧ V.heap[w.heap.size + 2]? = some o3 ∧ V.heap[w.heap.size + 3]? = some o4 ∧ Below w.heap.size w V := by
  obtain ⟨V, hV, hs, g0, g1, hB⟩ := two0 w o1 o2
  obtain ⟨V2, hV2, hs2, g2, g3, hB2⟩ := two0 V o3 o4
  rw [hV, hV2]
  rw [hs] at g2 g3 hs2
  exact ⟨V2, rfl, hs2, (hB2.block _ (by omega)).trans g0, (hB2.block _ (by omega)).trans g1, g2, g3, hB.trans (hB2.mono (by omega))⟩
theorem three0 (w : World) (o1 o2 o3 : Obj) : ∃ V : World, ((w.alloc o1).alloc o2).alloc o3 = V ∧ V.heap.size = w.heap.size + 3 ∧ V.heap[w.heap.size]? = some o1 ∧ V.heap[w.heap.size + 1]? = some o2 ∧ V.heap[w.heap.size + 2]? = some o3 ∧ Below w.heap.size w V := by
  obtain ⟨V, hV, hs, g0, g1, hB⟩ := two0 w o1 o2
  rw [hV]
  refine ⟨_, rfl, by simp [hs], (Below.heap_alloc _ _ _ (by omega)).trans g0, (Below.heap_alloc _ _ _ (by omega)).trans g1, putAll _ _ hs.symm, hB.alloc (by omega) o3⟩
end Go.Proofs.YtlngeaacjbdmhaaGreat.Nm

namespace Go.Proofs.YtlngeaacjbdmhaaGreat.Nm
open Go.RowKit
attribute [local go_sem ↓] Go.wp_at_zero Go.wp_at_succ
set_option maxRecDepth 100000 in
set_option maxHeartbeats 2000000 in
theorem index_one (s : ByteArray) (c : UInt8) (w : World) :
    Calls Tryz.prog 299 #[.string s, .string ⟨#[c]⟩] w fun e w' => e = .returned (.int .i64 (Lib.indexByte s.data.toList c)) ∧ w' = w := by
  go_enter Tryz.func299, Tryz.ntmps299
  go_wp2_with (go_at_call 316; refine (Tryz.stringslite_IndexByte _ _ _).mono ?_; rintro e w' ⟨rfl, rfl⟩)
  · have h : ([c] == s.toList) = true := by assumption
    go_ret
    refine ⟨?_, rfl⟩
    have e : s.data.toList = [c] := by rw [← Lib.toList_data]; exact (beq_iff_eq.1 h).symm
    rw [e]
    simp [Lib.indexByte]
  · go_ret
    exact ⟨rfl, rfl⟩
set_option maxHeartbeats 1000000 in
theorem index2_one (s : ByteArray) (c : UInt8) (w : World) :
    Calls Tryz.prog 277 #[.string s, .string ⟨#[c]⟩] w fun e w' => e = .returned (.int .i64 (Lib.indexByte s.data.toList c)) ∧ w' = w := by
  go_enter Tryz.func277, Tryz.ntmps277
  go_wp2_with (go_at_call 299; refine (index_one _ _ _).mono ?_; rintro e w' ⟨rfl, rfl⟩)
  go_ret
  exact ⟨rfl, rfl⟩
theorem indexByte_mem (l : List UInt8) (c : UInt8) : (0 ≤ Lib.indexByte l c) ↔ c ∈ l := by
  induction l with
  | nil => simp [Lib.indexByte]
  | cons b r ih =>
    have hg := Lib.indexByte_ge r c
    unfold Lib.indexByte
    by_cases hb : b = c
    · subst hb; simp
    · have hb2 : ¬ c = b := Ne.symm hb
      by_cases h1 : Lib.indexByte r c = -1
      · have : c ∉ r := by rw [← ih]; omega
        simp [hb, h1, hb2, this]
      · have : c ∈ r := by rw [← ih]; omega
        simp [hb, h1, this]; omega
set_option maxHeartbeats 1000000 in
theorem contains_one (s : ByteArray) (c : UInt8) (w : World) :
    Calls Tryz.prog 211 #[.string s, .string ⟨#[c]⟩] w fun e w' => e = .returned (.bool (decide (c ∈ s.data.toList))) ∧ w' = w := by
  go_enter Tryz.func211, Tryz.ntmps211
  go_wp2_with (go_at_call 277; refine (index2_one _ _ _).mono ?_; rintro e w' ⟨rfl, rfl⟩)
  go_ret
  refine ⟨?_, rfl⟩
  have := indexByte_mem s.data.toList c
  simp only [this]
  rfl
theorem index_before (l : List UInt8) (h : (47 : UInt8) ∈ l) : Lib.indexByte l 47 = ((before l).length : Int) := by
  induction l with
  | nil => simp at h
  | cons b r ih =>
    unfold Lib.indexByte
    by_cases hb : b = 47
    · subst hb; simp [before]
    · have e1 : before (b :: r) = b :: before r := by simp [before, hb]
      have hr : (47 : UInt8) ∈ r := by
        rcases List.mem_cons.1 h with h | h
        · exact absurd h.symm hb
        · exact h
      rw [e1, ih hr]
      have : ¬ (((before r).length : Int) = -1) := by omega
      simp [hb, this]
theorem cut_take {l : List UInt8} (h : (47 : UInt8) ∈ l) : l.take (before l).length = before l ∧ l.drop ((before l).length + 1) = behind l ∧ (before l).length + 1 ≤ l.length := by
  rcases split_at l with ⟨h1, _, _⟩ | h1
  · exact absurd h h1
  · generalize before l = x at h1 ⊢
    generalize behind l = y at h1 ⊢
    subst h1
    simp
theorem extract_bs (l : List UInt8) (a b : Nat) : (bs l).extract a b = bs ((l.drop a).take (b - a)) := by
  apply ByteArray.ext
  simp [ByteArray.data_extract, List.extract_eq_drop_take']
set_option maxHeartbeats 1000000 in
theorem cut_no (l : List UInt8) (h : (47 : UInt8) ∉ l) (w : World) :
    Calls Tryz.prog 312 #[S l, .string ⟨#[47]⟩] w fun e w' => e = .returned (.tuple #[S l, S [], .bool false]) ∧ ∃ n, w' = w.drewN n := by
  have hg := Lib.indexByte_ge l 47
  have hm := indexByte_mem l 47
  have hix : Lib.indexByte l 47 = -1 := by
    have : ¬ 0 ≤ Lib.indexByte l 47 := by rw [hm]; exact h
    omega
  go_enter Tryz.func312, Tryz.ntmps312
  go_wp2_with (go_at_call 299; refine (index_one _ _ _).mono ?_; rintro e w' ⟨rfl, rfl⟩; rw [show Lib.indexByte (bs l).data.toList 47 = _ from hix])
  go_ret3
  exact ⟨rfl, 0, rfl⟩
set_option maxHeartbeats 1000000 in
theorem cut_yes (l : List UInt8) (h : (47 : UInt8) ∈ l) (w : World) (hl : l.length ≤ 9223372036854775807) :
    Calls Tryz.prog 312 #[S l, .string ⟨#[47]⟩] w fun e w' => e = .returned (.tuple #[S (before l), S (behind l), .bool true]) ∧ ∃ n, w' = w.drewN n := by
  have hix := index_before l h
  obtain ⟨t1, t2, t3⟩ := cut_take h
  have hsz : (bs l).size = l.length := by simp [ByteArray.size]
  generalize hi : (before l).length = i at *
  have c1 : (0 : Int) ≤ (i : Int) := by omega
  have c2 : (i : Int) ≤ ((bs l).size : Int) := by omega
  have c3 : (0 : Int) ≤ (i : Int) + 1 := by omega
  have c4 : ((i : Int) + 1) ≤ ((bs l).size : Int) := by omega
  have X1 := hide ((extract_bs l 0 i).trans (by rw [List.drop_zero, Nat.sub_zero, t1]))
  have X2 := hide ((extract_bs l (i + 1) l.length).trans (by rw [t2, List.take_of_length_le]; rw [← t2, List.length_drop]; exact Nat.le_refl _))
  clear t1 t2 hi
  go_enter Tryz.func312, Tryz.ntmps312
  go_wp2_with (go_at_call 299; refine (index_one _ _ _).mono ?_; rintro e w' ⟨rfl, rfl⟩; rw [show Lib.indexByte (bs l).data.toList 47 = _ from hix])
  go_region
  go_wp2
  go_ret3
  refine ⟨?_, 1, rfl⟩
  rw [unhide X1, unhide X2]
  rfl
set_option maxHeartbeats 1000000 in
theorem cut_any (l : List UInt8) (w : World) (hl : l.length ≤ 9223372036854775807) :
    Calls Tryz.prog 290 #[S l, .string ⟨#[47]⟩] w fun e w' => (∃ f, e = .returned (.tuple #[S (before l), S (behind l), .bool f])) ∧ ∃ n, w' = w.drewN n := by
  have H : Calls Tryz.prog 312 #[S l, .string ⟨#[47]⟩] w fun e w' => ∃ f, e = .returned (.tuple #[S (before l), S (behind l), .bool f]) ∧ ∃ n, w' = w.drewN n := by
    by_cases h : (47 : UInt8) ∈ l
    · exact (cut_yes l h w hl).mono fun _ _ ⟨h1, h2⟩ => ⟨_, h1, h2⟩
    · rcases split_at l with ⟨_, h2, h3⟩ | h2
      · rw [h2, h3]
        exact (cut_no l h w).mono fun _ _ ⟨h1, h2⟩ => ⟨_, h1, h2⟩
      · exact absurd (by rw [h2]; simp) h
  have H := hide H
  go_enter Tryz.func290, Tryz.ntmps290
  go_wp2_with (go_at_call 312; refine (unhide H).mono ?_; rintro e w' ⟨f, rfl, n, rfl⟩)
  go_ret3
  exact ⟨⟨f, rfl⟩, n, rfl⟩
set_option maxHeartbeats 1000000 in
theorem clone_any (s : ByteArray) (w : World) (hs : s.size ≤ 281474976710656) :
    Calls Tryz.prog 119 #[.string s] w fun e w' => e = .returned (.string s) ∧ Below w.heap.size w w' := by
  go_enter Tryz.func119, Tryz.ntmps119
  go_wp2_with (go_at_call 209; refine (Tryz.stringslite_Clone _ _ hs).mono ?_; rintro e w' ⟨rfl, hB⟩)
  go_ret
  exact ⟨rfl, hB⟩
def dots (l : List UInt8) : Bool := l == [46] || l == [46, 46]
set_option maxHeartbeats 1000000 in
theorem dots_any (l : List UInt8) (w : World) : Calls Tryz.prog 210 #[S l] w fun e w' => e = .returned (.bool (dots l)) ∧ w' = w := by
  go_enter Tryz.func210, Tryz.ntmps210
  go_wp2
  all_goals (go_ret; refine ⟨?_, rfl⟩; simp_all [dots])
def ref1 (l : List UInt8) : Int := if l = [] then 32 else if 4096 < l.length then 45 else if (0 : UInt8) ∈ l then 39 else 0
set_option maxHeartbeats 1000000 in
theorem refusal_any (l : List UInt8) (w : World) : Calls Tryz.prog 228 #[S l] w fun e w' => e = .returned (.int .i64 (ref1 l)) ∧ w' = w := by
  unfold ref1
  by_cases h1 : l = []
  · rw [if_pos h1]; subst h1
    go_enter Tryz.func228, Tryz.ntmps228
    go_wp2
    go_ret
    exact ⟨rfl, rfl⟩
  · rw [if_neg h1]
    have h0 : l.isEmpty = false := by simpa using h1
    by_cases h2 : 4096 < l.length
    · rw [if_pos h2]
      have h3 : (4096 : Int) < (l.length : Int) := by omega
      go_enter Tryz.func228, Tryz.ntmps228
      go_wp2
      all_goals (go_ret; refine ⟨?_, rfl⟩; first | rfl | simp_all)
    · rw [if_neg h2]
      have h3 : ¬ (4096 : Int) < (l.length : Int) := by omega
      by_cases h4 : (0 : UInt8) ∈ l
      · rw [if_pos h4]
        have h5 : decide ((0 : UInt8) ∈ (bs l).data.toList) = true := by simpa using h4
        go_enter Tryz.func228, Tryz.ntmps228
        go_wp2_with (go_at_call 211; refine (contains_one _ _ _).mono ?_; rintro e w' ⟨rfl, rfl⟩)
        all_goals (go_ret; refine ⟨?_, rfl⟩; first | rfl | simp_all)
      · rw [if_neg h4]
        have h5 : decide ((0 : UInt8) ∈ (bs l).data.toList) = false := by simpa using h4
        go_enter Tryz.func228, Tryz.ntmps228
        go_wp2_with (go_at_call 211; refine (contains_one _ _ _).mono ?_; rintro e w' ⟨rfl, rfl⟩)
        all_goals (go_ret; refine ⟨?_, rfl⟩; first | rfl | simp_all)
def right (l : List UInt8) : Bool := !(l.isEmpty || decide (255 < l.length) || dots l) && (!decide ((47 : UInt8) ∈ l) && !decide ((0 : UInt8) ∈ l))
set_option maxHeartbeats 1000000 in
theorem right_any (l : List UInt8) (w : World) : Calls Tryz.prog 121 #[S l] w fun e w' => e = .returned (.bool (right l)) ∧ w' = w := by
  by_cases hd : dots l = true
  · have hr : right l = false := by simp [right, hd]
    rw [hr]
    go_enter Tryz.func121, Tryz.ntmps121
    go_wp2_with (first | (go_at_call 211; refine (contains_one _ _ _).mono ?_; rintro e w' ⟨rfl, rfl⟩) | (go_at_call 210; refine (dots_any _ _).mono ?_; rintro e w' ⟨rfl, rfl⟩; rw [hd]))
    all_goals (go_ret; exact ⟨rfl, rfl⟩)
  · replace hd : dots l = false := by simpa using hd
    by_cases h0 : l = []
    · have hr : right l = false := by simp [right, h0]
      rw [hr]; subst h0
      go_enter Tryz.func121, Tryz.ntmps121
      go_wp2_with fail
      go_ret; exact ⟨rfl, rfl⟩
    · have h1 : l.isEmpty = false := by simpa using h0
      by_cases h2 : 255 < l.length
      · have hr : right l = false := by simp [right, h2]
        have h3 : (255 : Int) < (l.length : Int) := by omega
        rw [hr]
        go_enter Tryz.func121, Tryz.ntmps121
        go_wp2_with fail
        all_goals (go_ret; refine ⟨?_, rfl⟩; first | rfl | simp_all)
      · have hr : right l = (!decide ((47 : UInt8) ∈ l) && !decide ((0 : UInt8) ∈ l)) := by simp [right, h2, hd, h1]
        have h3 : ¬ (255 : Int) < (l.length : Int) := by omega
        rw [hr]
        clear hr
        go_enter Tryz.func121, Tryz.ntmps121
        go_wp2_with (first | (go_at_call 211; refine (contains_one _ _ _).mono ?_; rintro e w' ⟨rfl, rfl⟩) | (go_at_call 210; refine (dots_any _ _).mono ?_; rintro e w' ⟨rfl, rfl⟩; rw [hd]))
        all_goals (go_ret; refine ⟨?_, rfl⟩; first | rfl | simp_all)
end Go.Proofs.YtlngeaacjbdmhaaGreat.Nm

namespace Go.Proofs.YtlngeaacjbdmhaaGreat.Nm
open Go.RowKit Go.Shelf
attribute [local go_sem] Oper.semAt_some
def strLen : Value → Nat
  | .string s => s.size
  | _ => 0
theorem strLen_S (l : List UInt8) : strLen (S l) = l.length := by simp [strLen, ByteArray.size]
set_option maxRecDepth 100000 in
set_option maxHeartbeats 1000000 in
theorem iter_go (y x : Nat) (l0 : List UInt8) (W : World) (J : List UInt8 → World → Prop) (E : World → Prop) (hl0 : l0.length ≤ 9223372036854775807) (hJ0 : J l0 W) (hx : W.cell? ⟨x, 0, none⟩ = some (S l0))
    (hD : ∀ r W' n, J r W' → J r (W'.drewN n)) (hS : ∀ r W', J r W' → before r = [] → J (behind r) W')
    (hY : ∀ r W', J r W' → r.length ≤ l0.length → before r ≠ [] → YieldAt Fence.wide (3 - 1) Tryz.prog y #[S (before r)] W' fun e W2 => (e = .returned (.bool true) ∧ J (behind r) W2) ∨ (e = .returned (.bool false) ∧ E W2)) :
    CallsIn Fence.wide 3 Tryz.prog 289 #[.func (.yield y) #[] #[], .pointer (some ⟨x, 0, none⟩)] W fun e W' => e = .returned (.tuple #[]) ∧ (J [] W' ∨ E W') := by
  have hro : Fence.wide.round = none := rfl
  have HY := hide hY
  have HD := hide hD
  have HS := hide hS
  clear hY hD hS
  refine callsIn_of_wp Tryz.func289 rfl trivial ?_ hro
  simp only [Tryz.ntmps289, List.size_toArray, List.length_cons, List.length_nil, Nat.reduceAdd, Nat.reduceSub, Array.replicate_succ, Array.replicate_zero, List.push_toArray, List.append_toArray, List.nil_append, List.cons_append]
  gi_wp2_with fail
  clear hx
  gi_loopw [3] (fun i wr => ∃ r : List UInt8, r.length ≤ l0.length ∧ i = S r ∧ J r wr) (fun i _ => strLen i)
  case atStart => exact ⟨l0, Nat.le_refl _, rfl, hJ0⟩
  case round =>
    obtain ⟨r, hr, rfl, hJ⟩ := hrel
    by_cases h0 : r = []
    · subst h0
      gi_wp2_with fail
      go_end0
      exact ⟨rfl, .inl hJ⟩
    · have h1 : r.isEmpty = false := by simpa using h0
      have hlt := hide (behind_lt h0)
      by_cases hb : before r = []
      · have HJ := hide (unhide HS r wr hJ hb)
        clear hJ
        gi_wp2_with fail
        refine ⟨trivial, (callsIn_wide.2 (cut_any r _ (by omega))).mono ?_⟩
        rintro e w' ⟨⟨f, rfl⟩, n, rfl⟩
        rw [hb]
        gi_wp2_with fail
        rename_i K2 hK2 x2 h2 w2 q2
        refine ⟨(fun _ _ => trivial), hK2 _ _ ?_⟩
        clear q2 x2 h2 w2
        gi_wp2_with fail
        go_roundw
        case rel => exact ⟨behind r, Nat.le_trans (behind_le r) hr, rfl, unhide HD _ _ _ (unhide HJ)⟩
        case measure => have := unhide hlt; simp [strLen_S]; omega
      · have hbe : (before r).isEmpty = false := by simpa using hb
        have hY := hide fun n => unhide HY r (wr.drewN n) (unhide HD _ _ _ hJ) hr hb
        clear hJ
        gi_wp2_with fail
        refine ⟨trivial, (callsIn_wide.2 (cut_any r _ (by omega))).mono ?_⟩
        rintro e w' ⟨⟨f, rfl⟩, n, rfl⟩
        obtain ⟨fn, tmps, assign, body, hyy, hR⟩ := unhide hY n
        gi_wp2_with fail
        refine hR.mono ?_
        rintro e W2 (⟨rfl, hJ2⟩ | ⟨rfl, hE⟩)
        · gi_wp2_with fail
          go_roundw
          case rel => exact ⟨behind r, Nat.le_trans (behind_le r) hr, rfl, hJ2⟩
          case measure => have := unhide hlt; simp [strLen_S]; omega
        · gi_wp2_with fail
          refine bodyPost_ret (results_none rfl _ _ _) rfl ?_
          exact ⟨rfl, .inr hE⟩
end Go.Proofs.YtlngeaacjbdmhaaGreat.Nm
