/-
  The document's own tree: a node less; reap.
-/
import Derived.Test.YtlngeaacjbdmhaaGreatQp17
import Derived.Deep.RegionWith
import Derived.Deep.RegionLaw
import Derived.Deep.RegionHeld3
import Derived.Laws.Cover1
import Derived.BigRegion
namespace Go.Proofs.YtlngeaacjbdmhaaGreat.Rf
open Go.RowKit Go.Maps
attribute [local go_sem ↓] Go.wp_at_zero Go.wp_at_succ
section
variable {lo N : Nat} {W W' : World} {r : Nat} {T : Tr} {p : Nat} {Lv : Value} {nb : Int → Nat} {ev : Int → Value} {uv : Int → Int} {B : Nat}
theorem DtI.pool (h : DtI lo N W r T p Lv nb ev uv) {lim : Nat} {s : S} (hq : Rb.Rq lo W'.heap.size N W' p s) (F : Rb.RFr lo lim W W') : DtI lo N W' r { T with pool := s } p Lv nb ev uv ∧ Rx lo W W' := by
  refine ⟨⟨(F.oth _ _ _ _ h.ht (by decide) (by decide) (by decide) (by decide)).trans h.ht, own_keep h.hL fun b cur e => F.oth _ _ _ _ e (by decide) (by decide) (by decide) (by decide), fun k x hx => ⟨(F.oth _ _ _ _ (h.hn k x hx).1 (by decide) (by decide) (by decide) (by decide)).trans (h.hn k x hx).1, (h.hn k x hx).2.keep fun b cur e => F.oth _ _ _ _ e (by decide) (by decide) (by decide) (by decide)⟩, h.dn, hq, h.bd.1, Nat.le_trans h.bd.2.1 F.bel.size, h.bd.2.2⟩, .of_rfr F⟩
theorem DtI.gone (h : DtI lo N W r T p Lv nb ev uv) {n : Int} {x : Nd} (hx : T.nd n = some x) {k : Nat} (hk : n = (k : Int) + 1) (hm : k < T.made) :
    ∃ g cap, Lv = .slice (some ⟨g, 0, none⟩) T.made cap ∧ W.cell? ⟨g, k, none⟩ = some (P0 (nb n)) ∧ W.frozen? ⟨g, k, none⟩ = false ∧ Hid (DtI lo N (W.setCell ⟨g, k, none⟩ (.pointer none)) r (T.set n none) p Lv nb ev uv ∧ Rx lo W (W.setCell ⟨g, k, none⟩ (.pointer none))) := by
  obtain ⟨g, cap, cur, hLv, hgb, hgg, -, -, -, hce⟩ := own_open h.hL (by omega)
  have hc := hce k _ (dptrs_get T nb hm)
  have e1 : ptrV T nb k = P0 (nb n) := by
    unfold ptrV
    rw [← hk, hx]
    rfl
  rw [e1] at hc
  have hown := h.hL
  rw [hLv] at hown
  obtain ⟨hst, -⟩ := hown.stored k (.pointer none)
  have FF : Fr [g] W (W.setCell ⟨g, k, none⟩ (.pointer none)) := (Fr.refl _ W).set (by simp) _
  have hkeep : ∀ (b : Nat) (cs : Array Value) (t : TypeId) (f : Nat × Nat), W.heap[b]? = some (.cells cs t f) → t ≠ 136 → (W.setCell ⟨g, k, none⟩ (.pointer none)).heap[b]? = W.heap[b]? := fun b cs t f eb ht => FF.blk b (lt_of_heap eb) fun hb => by
    simp at hb
    subst hb
    rw [hgg] at eb
    cases eb
    exact ht rfl
  have hold : ∀ j y, (T.set n none).nd j = some y → T.nd j = some y := fun j y hj => by
    by_cases e : j = n
    · subst e; rw [Tr.set_same] at hj; cases hj
    · rwa [Tr.set_other _ _ e] at hj
  refine ⟨g, cap, hLv, hc, frozen_of hgg k, hide ⟨⟨(hkeep _ _ _ _ h.ht (by decide)).trans h.ht, ?_, fun j y hj => ⟨(hkeep _ _ _ _ (h.hn j y (hold j y hj)).1 (by decide)).trans (h.hn j y (hold j y hj)).1, (h.hn j y (hold j y hj)).2.keep fun b cu e => hkeep _ _ _ _ e (by decide)⟩, fun i j y z hi hj => h.dn i j y z (hold i y hi) (hold j z hj), ?_, h.bd.1, Nat.le_trans h.bd.2.1 FF.size, fun j y hj => h.bd.2.2 j y (hold j y hj)⟩, .of_fr FF h.bd.2.1 fun b hb => ?_⟩⟩
  · have e2 : dptrs (T.set n none) nb = (dptrs T nb).set k (.pointer none) := by
      apply List.ext_getElem?
      intro i
      by_cases hi : i < T.made
      · rw [dptrs_get _ _ (show i < (T.set n none).made from hi)]
        by_cases e3 : i = k
        · subst e3
          rw [List.getElem?_set_self (by rw [dptrs_len]; exact hm)]
          unfold ptrV
          rw [← hk, Tr.set_same]
          rfl
        · rw [List.getElem?_set_ne (by omega), dptrs_get _ _ hi]
          unfold ptrV
          rw [Tr.set_other _ _ (by omega)]
      · rw [List.getElem?_eq_none (by rw [dptrs_len]; exact Nat.not_lt.1 hi), List.getElem?_eq_none (by rw [List.length_set, dptrs_len]; exact Nat.not_lt.1 hi)]
    rw [e2]
    rw [hLv]
    exact hst
  · obtain ⟨L, fb, bv, hp⟩ := h.pl
    refine Rb.Rq.mono ⟨L, fb, bv, hp.keep FF.size fun b cs t f e ht => hkeep b cs t f e ?_⟩ FF.size (Nat.le_refl _)
    rcases ht with rfl | rfl | rfl | rfl <;> decide
  · simp at hb
    subst hb
    exact ⟨hgb, _, _, _, hgg, by simp [rty]⟩
theorem dropS_none (s : S) : dropS s 0 = s := by simp [dropS, S.get]
set_option maxRecDepth 100000 in
set_option maxHeartbeats 1000000 in
theorem reap_any (h : DtI lo N W r T p Lv nb ev uv) {n : Int} {x : Nd} (hx : T.nd n = some x) (h1 : 1 ≤ n) (h2 : n ≤ (T.made : Int)) (hm : T.made ≤ 900) (hr : n = 1 → 0 < x.names) (hb : x.names ≤ 900 ∧ x.holds ≤ 900) (hf : 0 ≤ x.file ∧ x.file ≤ 900 ∧ (x.kind ≠ 2 → x.file = 0)) (hp : T.pool.fs.length ≤ 1000000) :
    Calls Tryz.prog 135 #[P0 r, I n] W fun e w' => e = .returned (.tuple #[]) ∧ DtI lo N w' r (T.leave n) p Lv nb ev uv ∧ Rx lo W w' := by
  have HA := hide (at_some h hx h1 h2 hm)
  obtain ⟨-, d1, -, -, -, -, -, -, -, -, d10, d11, d12, df⟩ := dcells (h.hn n x hx).1
  have HR := hide (⟨h, Rx.refl h.bd.2.1⟩ : _ ∧ _)
  by_cases hk : 0 < x.names ∨ 0 < x.holds
  · have e : T.leave n = T := by simp [Tr.leave, hx, hk]
    rw [e]
    by_cases hn1 : n = 1
    · subst hn1
      generalize nb 1 = c at *
      clear h hx e hk hf d1 d10 d11 d12 hr hb hp hm
      go_enter Tryz.func135, Tryz.ntmps135
      go_wp2_with fail
      refine (unhide HA).mono ?_
      rintro e w1 ⟨rfl, hw1⟩
      rw [hw1]
      clear hw1
      go_wp2_with fail
      refine bodyPost_ret (results_none rfl _ _ _) rfl ?_
      exact ⟨rfl, unhide HR⟩
    · have hq : nm1 n x = (x.names : Int) := by simp [nm1, hn1]
      rw [hq] at d10
      have hn2 : (n == 1) = false := by simpa using hn1
      obtain ⟨m, hm2⟩ : ∃ m : Int, m = (x.names : Int) := ⟨_, rfl⟩
      obtain ⟨l, hl2⟩ : ∃ l : Int, l = (x.holds : Int) := ⟨_, rfl⟩
      rw [← hm2] at d10
      rw [← hl2] at d11
      generalize nb n = c at *
      by_cases hk1 : 0 < x.names
      · have g1 : (0 : Int) < m := by omega
        clear h hx e hk hf d1 d11 d12 hr hb hp hm hm2 hl2 hk1 hq
        go_enter Tryz.func135, Tryz.ntmps135
        go_wp2_with fail
        refine (unhide HA).mono ?_
        rintro e w1 ⟨rfl, hw1⟩
        rw [hw1]
        clear hw1
        go_wp2_with fail
        refine bodyPost_ret (results_none rfl _ _ _) rfl ?_
        exact ⟨rfl, unhide HR⟩
      · have g1 : m = 0 := by omega
        have g2 : (0 : Int) < l := by omega
        subst g1
        clear h hx e hk hf d1 d12 hr hb hp hm hl2 hk1 hq
        go_enter Tryz.func135, Tryz.ntmps135
        go_wp2_with fail
        refine (unhide HA).mono ?_
        rintro e w1 ⟨rfl, hw1⟩
        rw [hw1]
        clear hw1
        go_wp2_with fail
        refine bodyPost_ret (results_none rfl _ _ _) rfl ?_
        exact ⟨rfl, unhide HR⟩
  · have hn1 : ¬ n = 1 := fun e => hk (.inl (hr e))
    have hn2 : (n == 1) = false := by simpa using hn1
    have e : T.leave n = ({ T with pool := dropS T.pool x.file } : Tr).set n none := by simp [Tr.leave, hx, hk, Tr.set]
    rw [e]
    have hq : nm1 n x = 0 := by simp [nm1, hn1]; omega
    have hq2 : (x.holds : Int) = 0 := by omega
    rw [hq] at d10
    rw [hq2] at d11
    obtain ⟨k, hkn⟩ : ∃ k : Nat, n = (k : Int) + 1 := ⟨(n - 1).toNat, by omega⟩
    have hkm : k < T.made := by omega
    obtain ⟨c0', c1, c2, cf⟩ := h.cells
    clear c0'
    have j1 : (k : Int) ≤ 900 := by omega
    have j2 : (0 : Int) ≤ (k : Int) := by omega
    have j3 : n - 1 = (k : Int) := by omega
    have j4 : IntKind.i64.wrap (n - 1) = (k : Int) := by rw [j3, IntKind.wrap_i64]; omega
    have j5 : (k : Int) < (T.made : Int) := by omega
    by_cases hkd : x.kind = 2
    · rw [hkd] at d1
      have hd := h.below (below_drew (Below.refl _ W))
      have HD := Rb.rdrop_any hd.pl x.file (wf_of (by omega)) hp
      obtain ⟨g, cap, hLv, -⟩ := h.gone hx hkn hkm
      have HDD : Hid (Calls Tryz.prog 216 #[P0 p, I x.file] W.drew fun e w' => e = .returned (I (dropE T.pool x.file)) ∧ (w'.cell? ⟨r, 2, none⟩ = some Lv ∧ w'.cell? ⟨g, k, none⟩ = some (P0 (nb n)) ∧ w'.frozen? ⟨g, k, none⟩ = false) ∧ Hid (DtI lo N (w'.setCell ⟨g, k, none⟩ (.pointer none)) r (({ T with pool := dropS T.pool x.file } : Tr).set n none) p Lv nb ev uv ∧ Rx lo W (w'.setCell ⟨g, k, none⟩ (.pointer none)))) := by
        refine hide (HD.mono ?_)
        rintro e1 w1 ⟨g1, P1, F1⟩
        obtain ⟨T1, X1⟩ := hd.pool P1 F1
        obtain ⟨g', cap', hLv', k1, k2, HF⟩ := T1.gone hx hkn hkm
        rw [hLv] at hLv'
        simp only [Value.slice.injEq, Option.some.injEq, Addr.mk.injEq] at hLv'
        obtain ⟨⟨rfl, -, -⟩, -, -⟩ := hLv'
        exact ⟨g1, ⟨T1.cells.2.2.1, k1, k2⟩, hide ⟨(unhide HF).1, ((Rx.of_below (below_drew (Below.refl _ W)) h.bd.2.1).trans X1).trans (unhide HF).2⟩⟩
      subst hLv
      generalize nb n = c at *
      generalize x.file = fl at *
      clear h hx e hf hr hb hp hm hk hq hq2 HD hd HR hkd
      generalize T.made = M at *
      replace hkn := hide hkn
      clear cf df
      go_enter Tryz.func135, Tryz.ntmps135
      go_wp2_with fail
      refine (unhide HA).mono ?_
      rintro e w1 ⟨rfl, hw1⟩
      rw [hw1]
      clear hw1
      go_wp2_with fail
      go_region_with (go_at_call 216; refine (unhide HDD).mono ?_; rintro e w2 ⟨rfl, ⟨y1, y2, y3⟩, FF⟩)
      all_goals
        go_wp2_with fail
        go_end0
        exact ⟨rfl, unhide FF⟩
    · have hx0 := hf.2.2 hkd
      have hkb : (x.kind == 2) = false := by simpa using hkd
      have e2 : ({ T with pool := dropS T.pool x.file } : Tr) = T := by rw [hx0, dropS_none]
      rw [e2]
      obtain ⟨g, cap, rfl, k1, k2, HF⟩ := h.gone hx hkn hkm
      generalize nb n = c at *
      clear h hx e e2 hf d12 hr hb hp hm hk hq hq2 hx0
      generalize T.made = M at *
      have cf2 := cf 2
      replace hkn := hide hkn
      clear cf df
      go_enter Tryz.func135, Tryz.ntmps135
      go_wp2_with fail
      refine (unhide HA).mono ?_
      rintro e w1 ⟨rfl, hw1⟩
      rw [hw1]
      clear hw1
      go_wp2_with fail
      go_end0
      exact ⟨rfl, unhide HF⟩
end
end Go.Proofs.YtlngeaacjbdmhaaGreat.Rf

namespace Go.Proofs.YtlngeaacjbdmhaaGreat.Rf
open Go.RowKit Go.Maps
attribute [local go_sem ↓] Go.wp_at_zero Go.wp_at_succ
section
variable {lo N : Nat} {W W' : World} {r : Nat} {T : Tr} {p : Nat} {Lv : Value} {nb : Int → Nat} {ev : Int → Value} {uv : Int → Int} {B : Nat}
theorem less_of' : ∀ {a b : List UInt8}, cmpL a b < 0 → Op.bytesLess a b = true
  | [], [], h => by simp [cmpL, Lib.compareBytes] at h
  | [], _ :: _, _ => by simp [Op.bytesLess]
  | _ :: _, [], h => by simp [cmpL, Lib.compareBytes] at h
  | x :: a, y :: b, h => by
    simp only [cmpL, Lib.compareBytes] at h
    by_cases h1 : x < y
    · simp [Op.bytesLess, h1]
    · by_cases h2 : y < x
      · rw [if_neg h1, if_pos h2] at h; omega
      · rw [if_neg h1, if_neg h2] at h
        have e : x = y := UInt8.le_antisymm (UInt8.not_lt.1 h2) (UInt8.not_lt.1 h1)
        have := less_of' h
        simp [Op.bytesLess, e, this]
theorem less_not : ∀ {a b : List UInt8}, ¬ cmpL a b < 0 → Op.bytesLess a b = false
  | [], [], h => by simp [Op.bytesLess]
  | [], _ :: _, h => by simp [cmpL, Lib.compareBytes] at h
  | _ :: _, [], h => by simp [Op.bytesLess]
  | x :: a, y :: b, h => by
    simp only [cmpL, Lib.compareBytes] at h
    by_cases h1 : x < y
    · rw [if_pos h1] at h; omega
    · by_cases h2 : y < x
      · have e : ¬ x = y := fun e => by subst e; exact h1 h2
        simp [Op.bytesLess, h1, e]
      · rw [if_neg h1, if_neg h2] at h
        have := less_not h
        simp [Op.bytesLess, h1, this]
theorem str_lt {a b : ByteArray} (h : cmpS a b < 0) : Op.bytesLess a.toList b.toList = true := by
  rw [ByteArray.toList_eq, ByteArray.toList_eq]; exact less_of' h
theorem str_ge {a b : ByteArray} (h : ¬ cmpS a b < 0) : Op.bytesLess a.toList b.toList = false := by
  rw [ByteArray.toList_eq, ByteArray.toList_eq]; exact less_not h
def amid (es : Ents) (k : Nat) (s : ByteArray) (n : Int) : Ents := es.take k ++ (s, n) :: es.drop k
theorem amid_end (es : Ents) (s : ByteArray) (n : Int) : amid es es.length s n = es ++ [(s, n)] := by simp [amid]
theorem amid_at (es : Ents) (k : Nat) (s : ByteArray) (n : Int) (h : k ≤ es.length) : (amid es k s n)[k]? = some (s, n) := by
  unfold amid
  rw [List.getElem?_append_right (by simp; omega)]
  simp [Nat.min_eq_left h]
theorem amid_before (es : Ents) (k : Nat) (s : ByteArray) (n : Int) (h : k < es.length) : (amid es (k + 1) s n)[k]? = es[k]? := by
  unfold amid
  rw [List.getElem?_append_left (by simp; omega)]
  simp
theorem amid_swap (es : Ents) (k : Nat) (s : ByteArray) (n : Int) (e : ByteArray × Int) (h : es[k]? = some e) : ((amid es (k + 1) s n).set k (s, n)).set (k + 1) e = amid es k s n := by
  obtain ⟨hk, he⟩ := List.getElem?_eq_some_iff.1 h
  unfold amid
  rw [List.take_add_one, h, List.drop_eq_getElem_cons hk, he]
  simp only [Option.toList_some, List.append_assoc, List.singleton_append]
  rw [List.set_append_right _ _ (by simp; omega), List.set_append_right _ _ (by simp; omega)]
  simp [Nat.min_eq_left (Nat.le_of_lt hk)]
theorem ge_at {es : Ents} {s a2 : ByteArray} {n2 : Int} {m K : Nat} (hc : 0 ≤ cmpS a2 s) (he : es[m]? = some (a2, n2)) (hK : m + 1 = K) (h : ∀ j e, K ≤ j → es[j]? = some e → 0 ≤ cmpS e.1 s) (j : Nat) (e : ByteArray × Int) (hj : m ≤ j) (hje : es[j]? = some e) : 0 ≤ cmpS e.1 s := by
  by_cases h1 : j = m
  · subst h1
    rw [he] at hje
    cases hje
    exact hc
  · exact h j e (by omega) hje
theorem lt_at {es : Ents} {s a2 : ByteArray} {n2 : Int} {m K : Nat} (hc : cmpS a2 s < 0) (he : es[m]? = some (a2, n2)) (hK : m + 1 = K) (m' : Nat) (b : ByteArray) (c : Int) (hm : m' + 1 = K) (hb : es[m']? = some (b, c)) : cmpS b s < 0 := by
  obtain rfl : m' = m := by omega
  rw [he] at hb
  cases hb
  exact hc
theorem amid_put {es : Ents} (hs : Srt es) {s : ByteArray} {n : Int} {k : Nat} (hk : k ≤ es.length) (h1 : ∀ m a2 n2, m + 1 = k → es[m]? = some (a2, n2) → cmpS a2 s < 0) (h2 : ∀ j e, k ≤ j → es[j]? = some e → 0 ≤ cmpS e.1 s) : amid es k s n = putE es s n := by
  have : pos es s = k := pos_of hs hk (fun j e hj he => by
    obtain ⟨m, rfl⟩ : ∃ m, k = m + 1 := ⟨k - 1, by omega⟩
    obtain ⟨⟨a2, n2⟩, hm⟩ : ∃ e, es[m]? = some e := ⟨_, List.getElem?_eq_getElem (by omega)⟩
    have h3 := h1 m a2 n2 rfl hm
    by_cases e2 : j = m
    · subst e2
      rw [hm] at he
      cases he
      exact h3
    · exact cmpS_trans (hs.get (by omega : j < m) he hm) h3) fun j e hj he => by have := h2 j e hj he; omega
  unfold amid putE
  rw [this]
theorem rows_set2 (p : ByteArray × Int) : ∀ (es : Ents) (i : Nat), rowsOf row (es.set i p) = ((rowsOf row es).set (i * 2) (.string p.1)).set (i * 2 + 1) (.int .i64 p.2)
  | [], i => by simp [rowsOf]
  | x :: es, 0 => by simp [rows_cons]
  | x :: es, i + 1 => by
    rw [List.set_cons_succ, rows_cons, rows_cons, rows_set2 p es i, show (i + 1) * 2 = i * 2 + 1 + 1 by omega]
    simp [List.set_cons_succ]
theorem Dr.set2 {g n cap : Nat} {es : Ents} {i : Nat} {q : ByteArray × Int} (own : Dr lo W (.slice (some ⟨g, 0, none⟩) n cap) es) (hi : es[i]? = some q) (p : ByteArray × Int) :
    ∃ X1 X2 : World, (W.setCell ⟨g, i * 2, none⟩ (.string p.1) = X1 ∧ X1.setCell ⟨g, i * 2 + 1, none⟩ (.int .i64 p.2) = X2) ∧
      (W.cell? ⟨g, i * 2, none⟩ = some (.string q.1) ∧ X1.cell? ⟨g, i * 2 + 1, none⟩ = some (.int .i64 q.2)) ∧
      (W.frozen? ⟨g, i * 2, none⟩ = false ∧ X1.frozen? ⟨g, i * 2 + 1, none⟩ = false) ∧
      Dr lo X2 (.slice (some ⟨g, 0, none⟩) n cap) (es.set i p) ∧ Fr [g] W X2 := by
  obtain ⟨hl0, ⟨e0, _⟩ | ⟨g', cap', cur, e0, hgb, hgg, hcap, hcm, hcs, htk⟩⟩ := own
  · simp at e0
  simp only [Value.slice.injEq, Option.some.injEq, Addr.mk.injEq] at e0
  obtain ⟨⟨rfl, -, -⟩, rfl, rfl⟩ := e0
  have hi2 := (List.getElem?_eq_some_iff.1 hi).1
  obtain ⟨r0, r1⟩ := rows_at es i q.1 q.2 hi
  have ce : ∀ (j : Nat) (u : Value), (rowsOf row es)[j]? = some u → cur[j]? = some u := by
    intro j u hj
    have hj2 := (List.getElem?_eq_some_iff.1 hj).1
    rw [← hj, ← htk, List.getElem?_take_of_lt (by omega)]
    simp
  refine ⟨_, _, ⟨rfl, rfl⟩, ⟨by rw [cell_of hgg]; exact ce _ _ r0, ?_⟩, ⟨frozen_of hgg _, frozen_of (heap_set hgg _ _) _⟩, ?_, ?_⟩
  · rw [cell_of (heap_set hgg _ _), Array.getElem?_setIfInBounds]
    simp
    exact ce _ _ r1
  · unfold Dr
    rw [List.length_set]
    refine ⟨by rw [rows_len, List.length_set], .inr ⟨g, cap, _, rfl, hgb, heap_set (heap_set hgg _ _) _ _, hcap, hcm, by simp [hcs], ?_⟩⟩
    rw [Array.toList_setIfInBounds, Array.toList_setIfInBounds]
    rw [List.take_set, List.take_set, htk, rows_set2]
  · exact ((Fr.refl [g] W).set (a := ⟨g, i * 2, none⟩) (by simp) _).set (a := ⟨g, i * 2 + 1, none⟩) (by simp) _
set_option maxRecDepth 100000 in
set_option maxHeartbeats 1000000 in
theorem put_any (h : DtI lo N W r T p Lv nb ev uv) (hw : Wk B T) (hB : B ≤ 890) (dir n : Int) (s : ByteArray) (x y : Nd) (hx : T.nd dir = some x) (hy : T.nd n = some y) (hne : dir ≠ n) (hs : getE x.ins s = none) (hd : (kl dir).wf = true) :
    Calls Tryz.prog 131 #[P0 r, I dir, .string s, I n] W fun e w' => e = .returned (.tuple #[]) ∧ Putd lo N W w' r T p Lv nb uv dir s n y := by
  have HA := hide (at_any h hw (by omega) dir hd (P0 (nb dir)) (by rw [atV, hx]))
  obtain ⟨hb, hr⟩ := h.hn dir x hx
  have hl := (hw.bnd dir x hx).2.2
  obtain ⟨-, -, -, -, -, -, -, -, c8, -, -, -, -, cf⟩ := dcells hb
  obtain ⟨v1, W1, r1, own1, bl1⟩ := copy_run hr (by omega)
  obtain ⟨v2, W2, r2, own2, bl2⟩ := grow_run (W := W1) (lo := W.heap.size) (es := x.ins) own1 (by omega) bl1.size s n
  have hlt := lt_of_heap hb
  have dx : (W.alloc (.cells #[] 218)).cell? ⟨nb dir, 8, none⟩ = some (ev dir) := (World.cell?_alloc_past _ _ _ hlt).trans c8
  have bl := bl1.trans bl2
  have hb2 := (bl.block (nb dir) hlt).trans hb
  obtain ⟨-, -, -, -, -, -, -, -, d8, -, -, -, -, df⟩ := dcells hb2
  have df8 := df 8
  obtain ⟨g, cap, cur, hv2, hgb, hgg, hcap, -, -, -⟩ := own_open own2 (by simp)
  have hb3 := heap_set hb2 8 v2
  have own3 : Dr W.heap.size (W2.setCell ⟨nb dir, 8, none⟩ v2) v2 (x.ins ++ [(s, n)]) := own2.keep fun j cu e => Below.heap_setCell _ _ _ _ (by
    rintro rfl
    rw [hb2] at e
    simp at e)
  obtain ⟨Y, hY⟩ : ∃ Y, Y = W2.setCell ⟨nb dir, 8, none⟩ v2 := ⟨_, rfl⟩
  rw [← hY] at hb3 own3
  have e8 : Y.cell? ⟨nb dir, 8, none⟩ = some v2 := by rw [cell_of hb3]; rfl
  have HY := hide hY
  have hys : W.heap.size ≤ Y.heap.size := by rw [hY]; simpa [World.setCell] using bl.size
  have hv3 : v2 = .slice (some ⟨g, 0, none⟩) (x.ins.length + 1) cap := by rw [hv2]; simp
  subst hv3
  have hle : x.ins.length < 900 := by omega
  obtain ⟨a, cp, hev⟩ := own_form hr
  rw [hev] at c8 dx
  rw [hev] at r1
  have hFY : Fr [nb dir] W Y := by rw [hY]; exact (Fr.of_below bl).set (a := ⟨nb dir, 8, none⟩) (by simp) _
  have hlo := h.bd.2.1
  have HE := hide (fun (V : World) (F : Fr [g] Y V) (hD : Dr W.heap.size V (.slice (some ⟨g, 0, none⟩) (x.ins.length + 1) cap) (putE x.ins s n)) => put_end (s := s) (V := V) h hw hB hx hy hne ⟨F.os.trans hFY.os, F.tape.trans hFY.tape, F.output.trans hFY.output, Nat.le_trans hFY.size F.size, fun j hj hjb => (F.blk j (Nat.lt_of_lt_of_le hj hFY.size) (by simp; omega)).trans (hFY.blk j hj hjb)⟩ (by
    rw [F.blk _ (lt_of_heap hb3) (by simp; omega), hb3]
    simp [dnC, nm1]) (own_base hD hlo))
  have HS := hide (hw.srt dir x hx)
  have H1 := hide (⟨hb3, own3⟩ : _ ∧ _)
  have H2 := hide (⟨h, hw, hx, hy⟩ : _ ∧ _ ∧ _ ∧ _)
  clear hFY hlo h hw hx hy own1 own2 own3 hb3 hb2 hb hr bl1 bl2 bl hev hv2 hgg
  generalize hlb : nb dir = b at *
  generalize hes : x.ins = es at *
  have Hes := hide hes
  generalize hll : es.length = l at *
  have Hl := hide hll
  clear c8 hes hll cf df hcap
  generalize hL1 : l + 1 = L1 at *
  have HL1 := hide hL1
  have u1 : (L1 : Int) - 1 = (l : Int) := by omega
  have u2 : IntKind.i64.wrap ((L1 : Int) - 1) = (l : Int) := by rw [u1, IntKind.wrap_i64]; omega
  have u3 : IntKind.i64.wrap (l : Int) = (l : Int) := by rw [IntKind.wrap_i64]; omega
  go_enter Tryz.func131, Tryz.ntmps131
  go_wp2_with fail
  refine (unhide HA).mono ?_
  rintro e w1 ⟨rfl, hw1⟩
  rw [hw1]
  clear hw1
  go_wp2_with (first
    | (at_builtin; refine wpList_append_eq rfl _ _ 137 rfl 137 rfl _ _ rfl rfl _ _ r1 ?_)
    | (at_builtin; refine wpList_append_eq rfl _ _ 137 rfl 137 rfl _ _ rfl rfl _ _ r2 ?_))
  rw [← unhide HY]
  go_loopw [9] (fun i wr => ∃ k : Nat, k ≤ l ∧ i = .int .i64 k ∧ wr.cell? ⟨b, 8, none⟩ = some (.slice (some ⟨g, 0, none⟩) L1 cap) ∧ Hid (Fr [g] Y wr ∧ Dr W.heap.size wr (.slice (some ⟨g, 0, none⟩) L1 cap) (amid es k s n) ∧ ∀ j e, k ≤ j → es[j]? = some e → 0 ≤ cmpS e.1 s)) (fun i _ => (intOf i).toNat)
  case atStart =>
    refine ⟨l, by omega, rfl, e8, hide ⟨Fr.refl _ _, ?_, ?_⟩⟩
    · have h3 := (unhide H1).2
      rw [← amid_end, unhide Hl] at h3
      exact h3
    · intro j e hj he
      have := (List.getElem?_eq_some_iff.1 he).1
      rw [unhide Hl] at this
      omega
  case round =>
    obtain ⟨k, hk, rfl, k8, hI⟩ := hrel
    by_cases h0 : k = 0
    · subst h0
      go_wp2_with fail
      go_region
      go_wp2_with fail
      have hP := amid_put (n := n) (unhide HS) (Nat.zero_le _) (fun m _ _ hm _ => by omega) (unhide hI).2.2
      obtain ⟨X, hX, HC, t10, tf10, tb, t1, t9, tf9, E1, E2⟩ := unhide HE wr.drew (unhide hI).1.drew (by rw [← hP]; exact (unhide hI).2.1)
      replace hX := hX.symm
      have HE1 := hide E1
      have HE2 := hide E2
      clear E1 E2 HE
      generalize nb n = c at *
      generalize nm1 n y = q at *
      obtain ⟨tb1, tb2⟩ := tb
      refine (unhide HC).mono ?_
      rintro e w2 ⟨rfl, hw2⟩
      rw [hw2]
      clear hw2
      by_cases hkd : y.kind = 1
      · rw [hkd] at t1
        go_wp2_with fail
        go_end0
        exact ⟨rfl, unhide (unhide HE2) hkd⟩
      · have hkb : (y.kind == 1) = false := by simpa using hkd
        go_wp2_with fail
        go_end0
        exact ⟨rfl, unhide (unhide HE1) hkd⟩
    · obtain ⟨m, rfl⟩ : ∃ m, k = m + 1 := ⟨k - 1, by omega⟩
      obtain ⟨⟨a2, n2⟩, he⟩ : ∃ e, es[m]? = some e := ⟨_, List.getElem?_eq_getElem (by rw [unhide Hl]; omega)⟩
      have q0 := amid_before es m s n (by rw [unhide Hl]; omega)
      rw [he] at q0
      have q1 := amid_at es (m + 1) s n (by rw [unhide Hl]; omega)
      obtain ⟨aa, cp', hv5, -, hcc⟩ := (unhide hI).2.1.open'
      simp only [Value.slice.injEq] at hv5
      obtain ⟨g1, e1, f0, f1⟩ := hcc _ _ _ q0
      obtain ⟨g2, e2, f2, f3⟩ := hcc _ _ _ q1
      rw [← hv5.1] at e1 e2
      simp only [Option.some.injEq, Addr.mk.injEq] at e1 e2
      obtain ⟨rfl, -, -⟩ := e1
      obtain ⟨rfl, -, -⟩ := e2
      have He := hide he
      clear he q0 q1 hcc hv5 h0
      generalize hK1 : m + 1 = K at *
      have HK1 := hide hK1
      have j1 : (0 : Int) < (K : Int) := by omega
      have j2 : (m : Int) ≤ 900 := by omega
      have j3 : (0 : Int) ≤ (m : Int) := by omega
      have j4 : (m : Int) < (L1 : Int) := by omega
      have j5 : (K : Int) < (L1 : Int) := by omega
      have j6 : (K : Int) - 1 = (m : Int) := by omega
      have j7 : IntKind.i64.wrap ((K : Int) - 1) = (m : Int) := by rw [j6, IntKind.wrap_i64]; omega
      have j8 : IntKind.i64.wrap (m : Int) = (m : Int) := by rw [IntKind.wrap_i64]; omega
      have j9 : (0 : Int) ≤ (K : Int) := by omega
      have j10 : 0 < K := by omega
      clear hK1
      have hne2 : ¬ a2 = s := fun e => (getE_none.1 hs) _ (List.mem_of_getElem? (unhide He)) e
      by_cases hc : cmpS a2 s < 0
      · have hlss := str_lt hc
        go_wp2_with fail
        go_region_held3 (fun w' => w'.cell? ⟨b, 8, none⟩ = some (.slice (some ⟨g, 0, none⟩) L1 cap) ∧ w'.cell? ⟨g, m * 2, none⟩ = some (.string a2) ∧ w'.cell? ⟨g, K * 2, none⟩ = some (.string s)) (go_keep) (fail)
        go_wp2_with fail
        have hP := amid_put (n := n) (unhide HS) (by rw [unhide Hl]; omega) (lt_at hc (unhide He) (unhide HK1)) (unhide hI).2.2
        obtain ⟨X, hX, HC, t10, tf10, tb, t1, t9, tf9, E1, E2⟩ := unhide HE wr.drew (unhide hI).1.drew (by rw [← hP]; exact (unhide hI).2.1)
        replace hX := hX.symm
        have HE1 := hide E1
        have HE2 := hide E2
        clear E1 E2 HE
        generalize nb n = c at *
        generalize nm1 n y = q at *
        obtain ⟨tb1, tb2⟩ := tb
        refine (unhide HC).mono ?_
        rintro e w2 ⟨rfl, hw2⟩
        rw [hw2]
        clear hw2
        by_cases hkd : y.kind = 1
        · rw [hkd] at t1
          go_wp2_with fail
          go_end0
          exact ⟨rfl, unhide (unhide HE2) hkd⟩
        · have hkb : (y.kind == 1) = false := by simpa using hkd
          go_wp2_with fail
          go_end0
          exact ⟨rfl, unhide (unhide HE1) hkd⟩
      · have hlss := str_ge hc
        have hee := str_ne hne2
        go_wp2_with fail
        go_region_held3 (fun w' => w'.cell? ⟨b, 8, none⟩ = some (.slice (some ⟨g, 0, none⟩) L1 cap) ∧ w'.cell? ⟨g, m * 2, none⟩ = some (.string a2) ∧ w'.cell? ⟨g, K * 2, none⟩ = some (.string s)) (go_keep) (fail)
        go_wp2_with fail
        have hD : Dr W.heap.size wr.drew.drew (.slice (some ⟨g, 0, none⟩) L1 cap) (amid es K s n) := (unhide hI).2.1
        have hF : Fr [g] Y wr.drew.drew := (unhide hI).1.drew.drew
        have k8' : wr.drew.cell? ⟨b, 8, none⟩ = some (.slice (some ⟨g, 0, none⟩) L1 cap) := k8
        have f0' : wr.drew.cell? ⟨g, m * 2, none⟩ = some (.string a2) := f0
        have f1' : wr.drew.cell? ⟨g, m * 2 + 1, none⟩ = some (.int .i64 n2) := f1
        have f2' : wr.drew.cell? ⟨g, K * 2, none⟩ = some (.string s) := f2
        have f3' : wr.drew.cell? ⟨g, K * 2 + 1, none⟩ = some (.int .i64 n) := f3
        have hK := unhide HK1
        obtain ⟨X1, X2, ⟨x1, x2⟩, ⟨y1, y2⟩, ⟨z1, z2⟩, hD2, hF2⟩ := hD.set2 (i := m) (q := (a2, n2)) (by rw [← hK, amid_before es m s n (by rw [unhide Hl]; omega)]; exact unhide He) (s, n)
        obtain ⟨X3, X4, ⟨x3, x4⟩, ⟨y3, y4⟩, ⟨z3, z4⟩, hD4, hF4⟩ := hD2.set2 (i := K) (q := (s, n)) (by rw [List.getElem?_set_ne (by omega)]; exact amid_at es K s n (by rw [unhide Hl]; omega)) (a2, n2)
        rw [← hK, amid_swap es m s n _ (unhide He)] at hD4
        have hF5 := hF.trans (hF2.trans hF4)
        have hgn : b ≠ g := by omega
        have k9 : X4.cell? ⟨b, 8, none⟩ = some (.slice (some ⟨g, 0, none⟩) L1 cap) := (World.cell?_of_block (a := ⟨b, 8, none⟩) ((hF2.trans hF4).blk b (by have := hF.size; omega) (by simpa using hgn))).trans k8'
        have kx2 : X2.cell? ⟨b, 8, none⟩ = some (.slice (some ⟨g, 0, none⟩) L1 cap) := (World.cell?_of_block (a := ⟨b, 8, none⟩) (hF2.blk b (by have := hF.size; omega) (by simpa using hgn))).trans k8'
        have HD := hide (⟨hD4, hF5⟩ : _ ∧ _)
        clear hD hF hD2 hF2 hD4 hF4 hF5 k8 f0 f1 f2 f3 hee hlss hK
        replace z1 : wr.drew.frozen? ⟨g, m * 2, none⟩ = false := z1
        clear y1
        generalize wr.drew = V at *
        go_region
        go_wp2_with fail
        refine ⟨⟨m, by omega, rfl, k9, hide ⟨(unhide HD).2, (unhide HD).1, fun j e hj hje => ?_⟩⟩, by simp [intOf]; omega⟩
        exact ge_at hc (unhide He) (unhide HK1) (unhide hI).2.2 j e hj hje
end
end Go.Proofs.YtlngeaacjbdmhaaGreat.Rf

namespace Go.Proofs.YtlngeaacjbdmhaaGreat.Rf
open Go.RowKit Go.Maps
attribute [local go_sem ↓] Go.wp_at_zero Go.wp_at_succ
theorem step_app_eq {P : Program} {w : World} {ops : Array Oper} {o : Oper} {a : Act} {K : Act → World → Prop} {Q : Exit → Act → World → Prop} {E : Prop} (hgd : o.guard = none) (s x : Operand) (t : TypeId)
    (ho : o.op = .call { callee := .builtin .append, args := #[s, x], argTypes := #[t, t] }) (ty : TypeId) (hty : o.type = ty) (vs vx : Value) (hs : a.eval s = vs) (hx : a.eval x = vx) (v' : Value) (w' : World)
    (hrun : (Builtin.append_ #[t, t] ty #[vs, vx]).run P w = .ok v' w') (h : K (a.put o.dst v') w') :
    if Region.wanted o (yielded ops a.tmps) = true then Oper.wp P o a w K Q else E := by
  have hw : Region.wanted o (yielded ops a.tmps) = true := by simp [Region.wanted, hgd]
  rw [if_pos hw]
  unfold Oper.wp execOp
  simp only [ho, resolve, invoke, builtin, Sem.run_bind, Sem.run_pure, Result.andThen_ok, List.map_toArray, List.map_cons, List.map_nil, hs, hx, hty, hrun]
  exact h
section
variable {lo N : Nat} {W W' : World} {r : Nat} {T : Tr} {p : Nat} {Lv : Value} {nb : Int → Nat} {ev : Int → Value} {uv : Int → Int} {B : Nat}
theorem erase_run (V : World) (g cap l k : Nat) (es : Ents) (hO : V.ownsRow lo 218 2 (.slice (some ⟨g, 0, none⟩) l cap) l (rowsOf row es)) (hl : es.length = l) (hk : k < l) (h64 : l ≤ 1000) (p2 : Addr) (hp : k + 1 < l → p2 = ⟨g, (k + 1) * 2, none⟩) :
    ∃ (v1 v2 : Value) (W1 W2 : World),
      (Builtin.append_ #[137, 137] 137 #[.slice (some ⟨V.heap.size, 0, none⟩) 0 0, .slice (some ⟨g, 0, none⟩) k cap]).run Tryz.prog (V.alloc (.cells #[] 218)).drew = .ok v1 W1 ∧
      (Builtin.append_ #[137, 137] 137 #[v1, .slice (some p2) (l - (k + 1)) (cap - (k + 1))]).run Tryz.prog W1 = .ok v2 W2 ∧
      Dr V.heap.size W2 v2 (es.take k ++ es.drop (k + 1)) ∧ Below V.heap.size V W2 ∧ Below V.heap.size V W1 := by
  obtain ⟨i0, hi, hz0, hz1, hz2⟩ := info_parts infoRE
  obtain ⟨g', cap', cur, e1, -, hgg, -, -, -, hce⟩ := own_open hO (by omega)
  simp only [Value.slice.injEq, Option.some.injEq, Addr.mk.injEq] at e1
  obtain ⟨⟨rfl, -, -⟩, -, rfl⟩ := e1
  have hg := lt_of_heap hgg
  have own0 : (V.alloc (.cells #[] 218)).drew.ownsRow V.heap.size 218 2 (.slice (some ⟨V.heap.size, 0, none⟩) 0 0) 0 [] :=
    ⟨rfl, .inr ⟨V.heap.size, 0, #[], rfl, Nat.le_refl _, putAll (w := V) (.cells #[] 218) V.heap.size rfl, Nat.le_refl _, by unfold maxLen; omega, rfl, rfl⟩⟩
  have hB0 : Below V.heap.size V (V.alloc (.cells #[] 218)).drew := ((Below.refl _ V).alloc (Nat.le_refl _) _).drew
  obtain ⟨v1, W1, r1, own1, gr1, -, at1⟩ := run_append_own_at (P := Tryz.prog) (V.alloc (.cells #[] 218)).drew V.heap.size 137 137 218 i0 (.agg #[.string ByteArray.empty, .int .i64 0]) 2 24 Tryz.underlying137 hi hz0 hz1 hz2 rfl (by decide) _ 0 [] own0 ⟨g, 0, none⟩ k cap (rowsOf row (es.take k))
    (by rw [rows_len]; simp; omega)
    (by
      intro j u hj
      rw [addr0, Nat.zero_add]
      refine (hB0.cell (p := ⟨g, j, none⟩) hg).trans (hce j u ?_)
      have hj2 := (List.getElem?_eq_some_iff.1 hj).1
      rw [rows_take] at hj hj2
      rwa [List.getElem?_take_of_lt (by simp at hj2; omega)] at hj)
    (rows_one _) (by unfold maxLen; omega) (by omega) (by simp)
  have hs1 : V.heap.size < W1.heap.size := by have := gr1.size; simp at this; omega
  have hB1 : Below V.heap.size V W1 := by
    refine hB0.trans ⟨gr1.os, gr1.tape, gr1.output, gr1.size, fun j hj => gr1.block j (by simp; omega) ?_⟩
    simp only [Value.ownBlock, ne_eq, Option.some.injEq]; omega
  have hb1 : ∀ j, v1.ownBlock = some j → V.heap.size ≤ j := by
    intro j hj
    rcases at1 with e | e <;> rw [e] at hj <;> simp [Value.ownBlock] at hj <;> omega
  obtain ⟨v2, W2, r2, own2, gr2, -, at2⟩ := run_append_own_at (P := Tryz.prog) W1 V.heap.size 137 137 218 i0 (.agg #[.string ByteArray.empty, .int .i64 0]) 2 24 Tryz.underlying137 hi hz0 hz1 hz2 rfl (by decide) v1 _ _ own1 p2 (l - (k + 1)) (cap - (k + 1)) (rowsOf row (es.drop (k + 1)))
    (by rw [rows_len]; simp; omega)
    (by
      intro j u hj
      have hj2 := (List.getElem?_eq_some_iff.1 hj).1
      have hkl : k + 1 < l := by rw [rows_len] at hj2; simp at hj2; omega
      rw [hp hkl, addr0]
      refine (hB1.cell (p := ⟨g, (k + 1) * 2 + j, none⟩) hg).trans (hce _ u ?_)
      rw [rows_drop, List.getElem?_drop] at hj
      exact hj)
    (rows_one _) (by unfold maxLen; omega) (by omega) (by omega)
  refine ⟨v1, v2, W1, W2, r1, r2, ?_, ?_, hB1⟩
  · unfold Dr
    have e1 : (es.take k ++ es.drop (k + 1)).length = 0 + k + (l - (k + 1)) := by simp; omega
    rw [e1, rowsOf_append]
    simpa using own2
  · refine hB1.trans ⟨gr2.os, gr2.tape, gr2.output, gr2.size, fun j hj => gr2.block j (by omega) ?_⟩
    intro e
    have := hb1 j e.symm
    omega
def Outd (lo N : Nat) (W W' : World) (r : Nat) (T : Tr) (p : Nat) (Lv : Value) (nb : Int → Nat) (uv : Int → Int) (dir : Int) (s : ByteArray) (n : Int) (y : Nd) : Prop :=
  ∃ ev', DtI lo N W' r (T.take dir s) p Lv nb ev' (fun k => if k = n then (if y.kind = 1 then n else uv n) else uv k) ∧ Rx lo W W'
theorem out_end (h : DtI lo N W r T p Lv nb ev uv) (hw : Wk B T) (hB : B ≤ 890) {dir n : Int} {s : ByteArray} {x y : Nd} (hx : T.nd dir = some x) (hy : T.nd n = some y) (hne : dir ≠ n) (hn1 : n ≠ 1) (hs : getE x.ins s = some n) (hnm : 1 ≤ y.names) (hp : T.pool.fs.length ≤ 1000000) {V : World} {v2 : Value} (F : Fr [nb dir] W V)
    (hb : V.heap[nb dir]? = some (.cells (dnC dir { x with ins := delE x.ins s } (uv dir) v2) 139)) (hr : Dr lo V v2 (delE x.ins s)) :
    ∃ X, V.setCell ⟨nb n, 10, none⟩ (I ((y.names : Int) - 1)) = X ∧ Hid (Calls Tryz.prog 82 #[P0 r, I n] V fun e w' => e = .returned (P0 (nb n)) ∧ w' = V) ∧
    V.cell? ⟨nb n, 10, none⟩ = some (I (y.names : Int)) ∧ V.frozen? ⟨nb n, 10, none⟩ = false ∧ X.cell? ⟨nb n, 1, none⟩ = some (I y.kind) ∧ X.cell? ⟨nb n, 9, none⟩ = some (I (uv n)) ∧ X.frozen? ⟨nb n, 9, none⟩ = false ∧
    Hid (y.kind ≠ 1 → Calls Tryz.prog 135 #[P0 r, I n] X fun e w' => e = .returned (.tuple #[]) ∧ Outd lo N W w' r T p Lv nb uv dir s n y) ∧
    Hid (y.kind = 1 → Calls Tryz.prog 135 #[P0 r, I n] (X.setCell ⟨nb n, 9, none⟩ (I n)) fun e w' => e = .returned (.tuple #[]) ∧ Outd lo N W w' r T p Lv nb uv dir s n y) := by
  obtain ⟨h1, R1⟩ := h.turn (y := { x with ins := delE x.ins s }) hx F hb hr
  have hy1 : (T.set dir (some { x with ins := delE x.ins s })).nd n = some y := by rw [Tr.set_other _ _ (fun e => hne e.symm)]; exact hy
  have hbn := (h1.hn n y hy1).1
  have hro := (h1.hn n y hy1).2
  simp only [if_neg (fun e => hne e.symm : ¬ n = dir)] at hbn hro
  obtain ⟨-, -, -, -, -, -, -, -, -, -, d10, -, -, df⟩ := dcells hbn
  have hq : nm1 n y = (y.names : Int) := by simp [nm1, hn1]
  rw [hq] at d10
  have g1 := heap_set hbn 10 (I ((y.names : Int) - 1))
  have hk := hw.key n y hy
  have hT : T.take dir s = ((T.set dir (some { x with ins := delE x.ins s })).set n (some { y with names := y.names - 1 })).leave n := by
    unfold Tr.take
    rw [hx]
    simp only [hs]
    unfold Tr.less
    rw [hy1]
  have hnm2 : nm1 n { y with names := y.names - 1 } = (y.names : Int) - 1 := by simp [nm1, hn1]; omega
  have hF1 : Fr [nb n] V (V.setCell ⟨nb n, 10, none⟩ (I ((y.names : Int) - 1))) := (Fr.refl [nb n] V).set (a := ⟨nb n, 10, none⟩) (by simp) _
  have huv : ∀ u, (fun k => if k = n then u else (if k = dir then uv dir else uv k)) = (fun k => if k = n then u else uv k) := fun u => by
    funext k
    by_cases e : k = n
    · simp [e]
    · by_cases e2 : k = dir
      · subst e2; simp
      · simp [e, e2]
  have hkp : ∀ V', Fr [nb n] V V' → Dr lo V' (ev n) y.ins := fun V' F' => hro.keep fun b cur e => F'.blk b (lt_of_heap e) (by
    simp
    rintro rfl
    rw [hbn] at e
    simp at e)
  have hbb := hw.bnd n y hy
  have hff := hw.fil n y hy
  have hmd := hw.made
  have hk2 : n ≤ (((T.set dir (some { x with ins := delE x.ins s })).set n (some { y with names := y.names - 1 })).made : Int) := by simpa [Tr.set] using hk.2
  have hm2 : ((T.set dir (some { x with ins := delE x.ins s })).set n (some { y with names := y.names - 1 })).made ≤ 900 := by simp [Tr.set]; omega
  refine ⟨_, rfl, hide (at_some h1 hy1 hk.1 (by simpa [Tr.set] using hk.2) (by simp [Tr.set]; omega)), d10, df 10, by rw [cell_of g1]; simp [dnC], by rw [cell_of g1]; simp [dnC], frozen_of g1 9, hide fun hkd => ?_, hide fun hkd => ?_⟩
  · obtain ⟨h2, R2⟩ := h1.turn (y := { y with names := y.names - 1 }) (u := uv n) (v := ev n) hy1 hF1 (by rw [g1, ← hnm2]; simp [dnC]) (hkp _ hF1)
    rw [huv] at h2
    refine (reap_any h2 (Tr.set_same _ _ _) hk.1 hk2 hm2 (fun e => absurd e hn1) ⟨by simp; omega, by simp; omega⟩ ⟨hff.1, by simp; omega, hff.2.2⟩ hp).mono ?_
    rintro e w' ⟨rfl, h3, R3⟩
    refine ⟨rfl, ?_⟩
    unfold Outd
    rw [hT]
    simp only [if_neg hkd]
    exact ⟨_, h3, (R1.trans R2).trans R3⟩
  · have g2 := heap_set g1 9 (I n)
    have hF2 := hF1.set (a := ⟨nb n, 9, none⟩) (by simp) (I n)
    obtain ⟨h2, R2⟩ := h1.turn (y := { y with names := y.names - 1 }) (u := n) (v := ev n) hy1 hF2 (by rw [g2, ← hnm2]; simp [dnC]) (hkp _ hF2)
    rw [huv] at h2
    refine (reap_any h2 (Tr.set_same _ _ _) hk.1 hk2 hm2 (fun e => absurd e hn1) ⟨by simp; omega, by simp; omega⟩ ⟨hff.1, by simp; omega, hff.2.2⟩ hp).mono ?_
    rintro e w' ⟨rfl, h3, R3⟩
    refine ⟨rfl, ?_⟩
    unfold Outd
    rw [hT]
    simp only [if_pos hkd]
    exact ⟨_, h3, (R1.trans R2).trans R3⟩
end
end Go.Proofs.YtlngeaacjbdmhaaGreat.Rf
