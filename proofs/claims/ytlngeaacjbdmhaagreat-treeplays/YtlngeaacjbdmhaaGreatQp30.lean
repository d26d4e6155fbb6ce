/-
  A strings.Builder over this program: copyCheck and WriteString; the contract of Write.
-/
import Derived.Test.YtlngeaacjbdmhaaGreatQp20
import Derived.Lib.Builder
import Derived.Lib.AppendStr
import Derived.Lib.UnsafeStr
import Derived.Laws.Externs
import Derived.Test.YtlngeaacjbdmhaaGreatQp19
import Derived.Test.YtlngeaacjbdmhaaGreatQp29
import Derived.Test.YtlngeaacjbdmhaaGreatQp10
import Derived.Test.YtlngeaacjbdmhaaGreatQp21
import Derived.Deep.CutRange
namespace Go.Proofs.YtlngeaacjbdmhaaGreat.Nm
open Go.RowKit
attribute [local go_sem ↓] Go.wp_at_zero Go.wp_at_succ
theorem size54 : (Tryz.prog.info? 335).map (fun i => i.size) = some 2 := by kernel_rfl
set_option maxRecDepth 100000 in
set_option maxHeartbeats 1000000 in
theorem check_used (b : Nat) (w : World) (h0 : w.cell? ⟨b, 0, none⟩ = some (.pointer (some ⟨b, 0, none⟩))) :
    Calls Tryz.prog 327 #[.pointer (some ⟨b, 0, none⟩)] w fun e w' => e = .returned (.tuple #[]) ∧ w' = w := by
  obtain ⟨j, hj, _⟩ := Option.map_eq_some_iff.1 size54
  go_enter Tryz.func327, Tryz.ntmps327
  go_wp2
  rw [Lib.run_neq_ptr_same w _ Tryz.underlying333 hj]
  go_wp2
  go_end0
  exact ⟨rfl, rfl⟩
set_option maxRecDepth 100000 in
set_option maxHeartbeats 1000000 in
theorem check_fresh (b : Nat) (w : World) (h0 : w.cell? ⟨b, 0, none⟩ = some (.pointer none)) (hsh : w.shape? b = some (335, 2)) (hfz : w.frozen? ⟨b, 0, none⟩ = false) :
    Calls Tryz.prog 327 #[.pointer (some ⟨b, 0, none⟩)] w fun e w' => e = .returned (.tuple #[]) ∧ w' = w.setCell ⟨b, 0, none⟩ (.pointer (some ⟨b, 0, none⟩)) := by
  obtain ⟨j, hj, hjs⟩ := Option.map_eq_some_iff.1 size54
  go_enter Tryz.func327, Tryz.ntmps327
  go_wp2
  rw [Lib.run_to_unsafe w ⟨b, 0, none⟩ Tryz.underlying333 Tryz.underlying353 hj (by rw [hjs]; decide) hsh (Nat.zero_lt_succ 1)]
  simp only [Result.andThen]
  rw [Oper.upon_value]
  go_wp2
  rw [run_callFunc_extern Tryz.func331 (by kernel_rfl) (by kernel_rfl) (by kernel_rfl) (e := Extern.AbiNoEscape.same) (by kernel_rfl)]
  rw [Lib.run_noEscape]
  simp only [Result.andThen]
  rw [Oper.upon_value]
  go_wp2
  rw [Lib.run_from_unsafe w ⟨b, 0, none⟩ Tryz.underlying353 Tryz.underlying333 hj hsh (by kernel_rfl)]
  simp only [Result.andThen]
  rw [Oper.upon_value]
  go_wp2
  go_end0
  exact ⟨rfl, rfl⟩
theorem check_any (B b : Nat) (xs : List Value) (w : World) (h : Lib.IsBuilder 335 5 B b xs w) :
    Calls Tryz.prog 327 #[.pointer (some ⟨b, 0, none⟩)] w fun e w' => e = .returned (.tuple #[]) ∧ Lib.BuilderAt 335 5 B b (.pointer (some ⟨b, 0, none⟩)) xs w' ∧ Below B w w' := by
  rcases h with h | h
  · refine (check_fresh b w h.cell0 h.shape h.frozen0).mono ?_
    rintro e w' ⟨rfl, rfl⟩
    exact ⟨rfl, h.used _, (Below.refl B w).setCell (p := ⟨b, 0, none⟩) h.1 _⟩
  · refine (check_used b w h.cell0).mono ?_
    rintro e w' ⟨rfl, rfl⟩
    exact ⟨rfl, h, Below.refl B _⟩
set_option maxRecDepth 100000 in
set_option maxHeartbeats 2000000 in
theorem writes_any (B b : Nat) (xs : List Value) (s : ByteArray) (w : World) (h : Lib.IsBuilder 335 5 B b xs w) (hlen : xs.length + s.size ≤ 140737488355328) (hBw : B ≤ w.heap.size) :
    Calls Tryz.prog 313 #[.pointer (some ⟨b, 0, none⟩), .string s] w fun e w' => e = .returned (.tuple #[.int .i64 s.size, .nilIface]) ∧ Lib.BuilderAt 335 5 B b (.pointer (some ⟨b, 0, none⟩)) (xs ++ Lib.strCells s) w' ∧ Below B w w' := by
  obtain ⟨i0, hi, hz0, hz1, hz2⟩ := info_parts info5
  go_enter Tryz.func313, Tryz.ntmps313
  go_wp2_with (go_at_call 327; refine (check_any B b xs _ h).mono ?_)
  rintro e w1 ⟨rfl, h1, hb1⟩
  obtain ⟨hB, v, hbk, hown, hne⟩ := h1
  have c0 : w1.cell? ⟨b, 0, none⟩ = some (.pointer (some ⟨b, 0, none⟩)) := by rw [cell_of hbk]; rfl
  have c1 : w1.cell? ⟨b, 1, none⟩ = some v := by rw [cell_of hbk]; rfl
  go_wp2_with (at_builtin; refine Lib.wpList_append_own_string _ rfl _ _ 34 9 rfl B 5 i0 Tryz.underlying34 Tryz.underlying9 hi hz0 hz1 hz2 _ _ _ rfl hown s rfl ?c3 ?c4 ?c5 ?_)
  case c3 => unfold maxLen; omega
  case c4 => omega
  case c5 => have := hb1.size; omega
  intro v' w2 hown' hgrow _
  have hb2 : w2.heap[b]? = some (.cells #[.pointer (some ⟨b, 0, none⟩), v] 335 (0, 0)) := by
    rw [hgrow.block b (lt_of_heap hbk) (fun e => hne e.symm)]
    exact hbk
  have d0 : w2.cell? ⟨b, 0, none⟩ = some (.pointer (some ⟨b, 0, none⟩)) := by rw [cell_of hb2]; rfl
  have d1 : w2.cell? ⟨b, 1, none⟩ = some v := by rw [cell_of hb2]; rfl
  have f1 : w2.frozen? ⟨b, 1, none⟩ = false := frozen_of hb2 1
  obtain ⟨ao, cap, rfl⟩ := own_form hown'
  go_wp2
  go_ret2
  refine ⟨rfl, ?_, ?_⟩
  · exact Lib.BuilderAt.put (T := 335) (e := 5) hB hb2 (bs' := xs ++ Lib.strCells s) (by simpa [Lib.strCells_length] using hown') (by decide)
  · exact (hb1.grown hgrow (by have := hb1.size; omega) (fun k hk => (hown.lt k hk).1)).setCell (p := ⟨b, 1, none⟩) hB _
theorem cells_bs (l : List UInt8) : Lib.strCells (bs l) = Lib.byteCells l := by
  simp [Lib.strCells, Lib.byteCells]
theorem byte_app (a b : List UInt8) : Lib.byteCells a ++ Lib.byteCells b = Lib.byteCells (a ++ b) := by simp [Lib.byteCells]
theorem byte_len (a : List UInt8) : (Lib.byteCells a).length = a.length := by simp [Lib.byteCells]
theorem write_any (B b : Nat) (a l : List UInt8) (w : World) (h : Lib.IsBuilder 335 5 B b (Lib.byteCells a) w) (hlen : a.length + l.length ≤ 140737488355328) (hBw : B ≤ w.heap.size) :
    Calls Tryz.prog 313 #[.pointer (some ⟨b, 0, none⟩), S l] w fun e w' => e = .returned (.tuple #[.int .i64 l.length, .nilIface]) ∧ Lib.IsBuilder 335 5 B b (Lib.byteCells (a ++ l)) w' ∧ Below B w w' := by
  have hsz : (bs l).size = l.length := by simp [ByteArray.size]
  refine (writes_any B b _ (bs l) w h (by rw [byte_len, hsz]; exact hlen) hBw).mono ?_
  rintro e w' ⟨rfl, h1, h2⟩
  rw [cells_bs, byte_app] at h1
  exact ⟨by rw [hsz], .inr h1, h2⟩
end Go.Proofs.YtlngeaacjbdmhaaGreat.Nm

namespace Go.Proofs.YtlngeaacjbdmhaaGreat.Nm
open Go.RowKit
attribute [local go_sem ↓] Go.wp_at_zero Go.wp_at_succ
structure WJ (w W : World) (h : Nat) (r s : Bool) (v : Value) (acc : List UInt8) : Prop where
  be : Below h w W
  bx : W.heap[h]? = some (.cells #[.bool r, .bool s, v] 234)
  bd : Lib.IsBuilder 335 5 (h + 1) (h + 1) (Lib.byteCells acc) W
theorem WJ.sz {w W : World} {h : Nat} {r s : Bool} {v : Value} {acc : List UInt8} (J : WJ w W h r s v acc) : h + 1 < W.heap.size := by
  rcases J.bd with hb | hb <;> exact hb.lt
theorem WJ.write {w W : World} {h : Nat} {r s : Bool} {v : Value} {acc : List UInt8} (J : WJ w W h r s v acc) (l : List UInt8) (hl : acc.length + l.length ≤ 1000000000) :
    Calls Tryz.prog 313 #[.pointer (some ⟨h + 1, 0, none⟩), S l] W fun e w' => e = .returned (.tuple #[.int .i64 l.length, .nilIface]) ∧ WJ w w' h r s v (acc ++ l) := by
  have := J.sz
  refine (write_any (h + 1) (h + 1) acc l W J.bd (by omega) (by omega)).mono ?_
  rintro e w' ⟨rfl, h1, h2⟩
  exact ⟨rfl, J.be.trans (h2.mono (by omega)), (h2.block h (by omega)).trans J.bx, h1⟩
theorem WJ.cells {w W : World} {h : Nat} {r s : Bool} {v : Value} {acc : List UInt8} (J : WJ w W h r s v acc) : W.cell? ⟨h, 0, none⟩ = some (.bool r) ∧ W.cell? ⟨h, 1, none⟩ = some (.bool s) ∧ W.cell? ⟨h, 2, none⟩ = some v := by
  refine ⟨?_, ?_, ?_⟩ <;> rw [cell_of J.bx] <;> rfl
theorem WJ.done {w W : World} {h : Nat} {r s : Bool} {v : Value} {acc : List UInt8} (J : WJ w W h r s v acc) :
    Calls Tryz.prog 314 #[.pointer (some ⟨h + 1, 0, none⟩)] W fun e w' => e = .returned (S acc) ∧ Below h w w' := by
  have := J.sz
  refine (Tryz.Builder_String_any (h + 1) (h + 1) acc W J.bd (by omega)).mono ?_
  rintro e w' ⟨rfl, h2⟩
  exact ⟨rfl, J.be.trans (h2.mono (by omega))⟩
end Go.Proofs.YtlngeaacjbdmhaaGreat.Nm

namespace Go.Proofs.YtlngeaacjbdmhaaGreat.Kr
open Go.RowKit
abbrev I (n : Int) : Value := .int .i64 n
abbrev Cr (u g : Int) : Value := .agg #[I u, I g]
abbrev St (n k m u g l z : Int) : Value := .agg #[I n, I k, I m, I u, I g, I l, I z]
theorem two (w : World) (a b : Obj) : Below w.heap.size w ((w.alloc a).alloc b) := ((Below.refl _ _).alloc (Nat.le_refl _) _).alloc (by simp) _
theorem three (w : World) (a b c : Obj) : Below w.heap.size w (((w.alloc a).alloc b).alloc c) := (two w a b).alloc (by simp; omega) _
theorem Below.step {B : Nat} {u v w : World} (h : Below B u v) (g : Below v.heap.size v w) (hb : B ≤ u.heap.size) : Below B u w := h.trans (g.mono (Nat.le_trans hb h.size))
theorem hide {p : Prop} (h : p) : Hid p := h
theorem unhide {p : Prop} (h : Hid p) : p := h
structure Laid (w v : World) (os : List Obj) : Prop where
  lies : ∀ (i : Nat) (o : Obj), os[i]? = some o → v.heap[w.heap.size + i]? = some o
  below : Below w.heap.size w v
  room : w.heap.size + os.length ≤ v.heap.size
theorem Laid.nil (w : World) : Laid w w [] := ⟨fun i o h => by simp at h, Below.refl _ _, by simp⟩
theorem Laid.step {w v v' : World} {os : List Obj} (h : Laid w v os) (g : Below v.heap.size v v') : Laid w v' os :=
  ⟨fun i o hi => (g.block _ (by have := (List.getElem?_eq_some_iff.1 hi).1; have := h.room; omega)).trans (h.lies i o hi), Below.step h.below g (Nat.le_refl _), Nat.le_trans h.room g.size⟩
theorem Laid.put {w v : World} {os : List Obj} (h : Laid w v os) (hs : v.heap.size = w.heap.size + os.length) (o : Obj) : Laid w (v.alloc o) (os ++ [o]) := by
  refine ⟨fun i x hi => ?_, h.below.alloc (by omega) _, by simp; omega⟩
  by_cases hlt : i < os.length
  · rw [List.getElem?_append_left hlt] at hi
    rw [Below.heap_alloc _ _ _ (by omega)]
    exact h.lies i x hi
  · have h1 := (List.getElem?_eq_some_iff.1 hi).1
    simp at h1
    have : i = os.length := by omega
    subst this
    simp at hi
    subst hi
    rw [← hs]
    exact heap_alloc_new v o
theorem cell_of {W : World} {b : Nat} {cs : Array Value} {t : TypeId} {f : Nat × Nat} (h : W.heap[b]? = some (.cells cs t f)) (i : Nat) : W.cell? ⟨b, i, none⟩ = cs[i]? := by
  simp [World.cell?, h]
theorem frozen_of {W : World} {b : Nat} {cs : Array Value} {t : TypeId} (h : W.heap[b]? = some (.cells cs t)) (i : Nat) : W.frozen? ⟨b, i, none⟩ = false := by
  simp [World.frozen?, h]
theorem heap_set {W : World} {b : Nat} {cs : Array Value} {t : TypeId} {f : Nat × Nat} (h : W.heap[b]? = some (.cells cs t f)) (i : Nat) (v : Value) :
    (W.setCell ⟨b, i, none⟩ v).heap[b]? = some (.cells (cs.setIfInBounds i v) t f) := by
  obtain ⟨hl, he⟩ := Array.getElem?_eq_some_iff.1 h
  simp [World.setCell, Array.getElem?_modify, h]
abbrev StO (n k m u g l z : Int) : Obj := .cells #[I n, I k, I m, I u, I g, I l, I z] 33
theorem Laid.mode {w v : World} {os : List Obj} (h : Laid w v os) (i : Nat) {b : Nat} (hb : b = w.heap.size + i) {n k m u g l z : Int} (hi : os[i]? = some (StO n k m u g l z)) (x : Int) :
    Laid w (v.setCell ⟨b, 2, none⟩ (I x)) (os.set i (StO n k x u g l z)) := by
  have h1 := h.lies i _ hi
  rw [← hb] at h1
  have hr := h.room
  have hil := (List.getElem?_eq_some_iff.1 hi).1
  refine ⟨fun j o hj => ?_, ?_, by simpa using h.room⟩
  · by_cases e : j = i
    · subst e
      rw [List.getElem?_set_self hil] at hj
      cases hj
      rw [← hb, heap_set h1]
      rfl
    · rw [List.getElem?_set_ne (by omega)] at hj
      rw [Below.heap_setCell _ _ _ _ (by simp; omega)]
      exact h.lies j o hj
  · exact h.below.setCell (by simp; omega) _
set_option maxRecDepth 100000 in
theorem bits_any (cu cg n k m u g l z : Int) (w : World) : Calls Tryz.prog 296 #[Cr cu cg, St n k m u g l z] w fun e w' => e = .returned (I (cnt cu cg m u g)) ∧ Below w.heap.size w w' := by
  go_enter Tryz.func296, Tryz.ntmps296
  go_wp2_with fail
  all_goals go_ret
  · rename_i h0
    exact ⟨by simp_all [cnt], two _ _ _⟩
  · rename_i h0 h1
    exact ⟨by simp_all [cnt], two _ _ _⟩
  · rename_i h0 h1 h2
    exact ⟨by simp_all [cnt], two _ _ _⟩
  · rename_i h0 h1 h2
    exact ⟨by simp_all [cnt], two _ _ _⟩
set_option maxRecDepth 100000 in
theorem may_any (cu cg n k m u g l z wt : Int) (w : World) : Calls Tryz.prog 257 #[Cr cu cg, St n k m u g l z, I wt] w fun e w' => e = .returned (.bool (may cu cg m u g wt)) ∧ Below w.heap.size w w' := by
  go_enter Tryz.func257, Tryz.ntmps257
  go_wp2_with fail
  refine (bits_any _ _ _ _ _ _ _ _ _ _).mono ?_
  rintro e w1 ⟨rfl, B1⟩
  go_wp2_with fail
  go_ret
  refine ⟨?_, Below.step (two _ _ _) B1 (Nat.le_refl _)⟩
  show Ending.returned (Value.bool _) = _
  rw [and7, andNot_zero _ (lo_lt _)]
  rfl
theorem masked_any (m : Int) (w : World) : Calls Tryz.prog 270 #[I m] w fun e w' => e = .returned (I (bits .and .i64 m 4095)) ∧ w' = w := by
  go_enter Tryz.func270, Tryz.ntmps270
  go_wp2_with fail
  go_ret
  exact ⟨rfl, rfl⟩
end Go.Proofs.YtlngeaacjbdmhaaGreat.Kr

namespace Go.Proofs.YtlngeaacjbdmhaaGreat.Wl
open Go.RowKit
structure Wd (lo N mb : Nat) (W : World) (t m : Nat) (E : En) : Prop where
  tp : Tp lo N W t E.T
  wk : Wk 880 E.T
  ls : Mt.Ls mb W m E.rt E.md E.es
  el : Mt.Eld E.md E.es
  le : E.es.length ≤ 1000
  wf : ∀ p ∈ E.es, (kl p.top).wf = true ∧ (kl p.an).wf = true
def wkC (E : En) (t m : Nat) (am an : Int) (s : Nat) : Array Value := #[P0 t, P0 m, I E.cu, I E.cg, I E.rm, I E.rn, I am, I an, I (s : Int)]
def Wn (W : World) (b t m : Nat) (E : En) (am an : Int) (s : Nat) : Prop := W.heap[b]? = some (.cells (wkC E t m am an s) 238)
section
variable {lo N mb : Nat} {W W' : World} {t m b : Nat} {E : En} {am an : Int} {s : Nat}
theorem Wd.below (h : Wd lo N mb W t m E) (g : Below W.heap.size W W') : Wd lo N mb W' t m E := ⟨h.tp.below g, h.wk, h.ls.below g, h.el, h.le, h.wf⟩
theorem Wn.below (h : Wn W b t m E am an s) (g : Below W.heap.size W W') : Wn W' b t m E am an s := (g.block b (lt_of_heap h)).trans h
theorem Wn.lt (h : Wn W b t m E am an s) : b < W.heap.size := lt_of_heap h
theorem Wn.cells (h : Wn W b t m E am an s) : W.cell? ⟨b, 0, none⟩ = some (P0 t) ∧ W.cell? ⟨b, 1, none⟩ = some (P0 m) ∧ W.cell? ⟨b, 2, none⟩ = some (I E.cu) ∧ W.cell? ⟨b, 3, none⟩ = some (I E.cg) ∧ W.cell? ⟨b, 4, none⟩ = some (I E.rm) ∧ W.cell? ⟨b, 5, none⟩ = some (I E.rn) ∧ W.cell? ⟨b, 6, none⟩ = some (I am) ∧ W.cell? ⟨b, 7, none⟩ = some (I an) ∧ W.cell? ⟨b, 8, none⟩ = some (I (s : Int)) ∧ ∀ i, W.frozen? ⟨b, i, none⟩ = false := by
  refine ⟨?_, ?_, ?_, ?_, ?_, ?_, ?_, ?_, ?_, frozen_of h⟩ <;> (rw [cell_of h]; rfl)
theorem stat_shape (T : Tr) (n : Int) : ∃ a mo u g l z, T.stat n = .agg #[I a, I (T.kindOf n), I mo, I u, I g, I l, I z] ∧ ∀ x, T.nd n = some x → mo = x.mode ∧ u = x.uid ∧ g = x.gid := by
  unfold Tr.stat Tr.kindOf
  cases h : T.nd n with
  | none => exact ⟨0, 0, 0, 0, 0, 0, rfl, fun x hx => by cases hx⟩
  | some x => exact ⟨_, _, _, _, _, _, rfl, fun y hy => by cases hy; exact ⟨rfl, rfl, rfl⟩⟩
theorem stat_W (h : Wd lo N mb W t m E) {n : Int} (hn : (kl n).wf = true) {v : Value} {f : Bool} (hv : E.T.stat n = v) (hf : (E.T.nd n).isSome = f) (V : World) (g : Below W.heap.size W V) :
    Calls Tryz.prog 37 #[P0 t, I n] V fun e w' => e = .returned (.tuple #[v, .bool f]) ∧ Hid (Below V.heap.size V w') := by
  obtain ⟨q, p, nb, ev, h1⟩ := h.tp
  rw [← hv, ← hf]
  exact stat_any (h1.below g) h.wk (by omega) hn
theorem cell_be {a : Addr} {v : Value} (h : W.cell? a = some v) (g : Below W.heap.size W W') : W'.cell? a = some v := by
  have hx : a.block < W.heap.size := by
    rcases Nat.lt_or_ge a.block W.heap.size with h1 | h1
    · exact h1
    · simp [World.cell?, Array.getElem?_eq_none h1] at h
  rw [← h]
  exact World.cell?_of_block (g.block a.block hx)
def zst : Obj := .cells #[I 0, I 0, I 0, I 0, I 0, I 0, I 0] 33
theorem below7 {B : Nat} {u X : World} (h : Below B u X) {b : Nat} (hb : B ≤ b) (v0 v1 v2 v3 v4 v5 v6 : Value) : Below B u (((((((X.setCell ⟨b, 0, none⟩ v0).setCell ⟨b, 1, none⟩ v1).setCell ⟨b, 2, none⟩ v2).setCell ⟨b, 3, none⟩ v3).setCell ⟨b, 4, none⟩ v4).setCell ⟨b, 5, none⟩ v5).setCell ⟨b, 6, none⟩ v6) :=
  ((((((h.setCell (p := ⟨b, 0, none⟩) hb _).setCell (p := ⟨b, 1, none⟩) hb _).setCell (p := ⟨b, 2, none⟩) hb _).setCell (p := ⟨b, 3, none⟩) hb _).setCell (p := ⟨b, 4, none⟩) hb _).setCell (p := ⟨b, 5, none⟩) hb _).setCell (p := ⟨b, 6, none⟩) hb _
theorem set7 {X : World} {b : Nat} {t : TypeId} {a0 a1 a2 a3 a4 a5 a6 : Value} (h : X.heap[b]? = some (.cells #[a0, a1, a2, a3, a4, a5, a6] t)) (v0 v1 v2 v3 v4 v5 v6 : Value) :
    ∃ Y, ((((((X.setCell ⟨b, 0, none⟩ v0).setCell ⟨b, 1, none⟩ v1).setCell ⟨b, 2, none⟩ v2).setCell ⟨b, 3, none⟩ v3).setCell ⟨b, 4, none⟩ v4).setCell ⟨b, 5, none⟩ v5).setCell ⟨b, 6, none⟩ v6 = Y ∧ Y.heap[b]? = some (.cells #[v0, v1, v2, v3, v4, v5, v6] t) ∧ ∀ B u, Below B u X → B ≤ b → Below B u Y :=
  ⟨_, rfl, by rw [heap_set (heap_set (heap_set (heap_set (heap_set (heap_set (heap_set h 0 _) 1 _) 2 _) 3 _) 4 _) 5 _) 6 _]; rfl, fun _ _ h1 h2 => below7 h1 h2 _ _ _ _ _ _ _⟩
theorem stat_ahead (h : Wd lo N mb W t m E) {n : Int} (hn : (kl n).wf = true) {v : Value} {f : Bool} (hv : E.T.stat n = v) (hf : (E.T.nd n).isSome = f) (V : World) (g : Below W.heap.size W V) :
    Calls Tryz.prog 37 #[P0 t, I n] (V.alloc zst).drew fun e w' => e = .returned (.tuple #[v, .bool f]) ∧ Hid (Below V.heap.size V w') ∧ w'.heap[V.heap.size]? = some zst := by
  have g1 : Below V.heap.size V (V.alloc zst).drew := below_drew ((Below.refl _ V).alloc (Nat.le_refl _) _)
  refine (stat_W h hn hv hf (V.alloc zst).drew (g.trans (g1.mono g.size))).mono ?_
  rintro e w' ⟨rfl, h2⟩
  refine ⟨rfl, g1.trans ((unhide h2).mono (by show V.heap.size ≤ (V.alloc zst).heap.size; simp)), ((unhide h2).block _ (by show V.heap.size < (V.alloc zst).heap.size; simp)).trans ?_⟩
  exact heap_alloc_new V zst
theorem stat_behind (h : Wd lo N mb W t m E) {n : Int} (hn : (kl n).wf = true) {v : Value} {f : Bool} (hv : E.T.stat n = v) (hf : (E.T.nd n).isSome = f) (V : World) (g : Below W.heap.size W V) :
    Calls Tryz.prog 37 #[P0 t, I n] V.drew fun e w' => e = .returned (.tuple #[v, .bool f]) ∧ Hid (Below V.heap.size V w') := by
  refine (stat_W h hn hv hf V.drew (below_drew g)).mono ?_
  rintro e w' ⟨rfl, h2⟩
  exact ⟨rfl, (below_drew (Below.refl _ V)).trans (unhide h2)⟩
end
end Go.Proofs.YtlngeaacjbdmhaaGreat.Wl

namespace Go.Proofs.YtlngeaacjbdmhaaGreat.Wl
open Go.RowKit
attribute [local go_sem ↓] Go.wp_at_zero Go.wp_at_succ
section
variable {lo N mb : Nat} {W W' : World} {t m b : Nat} {E : En} {am an : Int} {s : Nat}
theorem Wd.lo_le (h : Wd lo N mb W t m E) : lo ≤ W.heap.size := h.tp.lo_le
theorem kind_wf {n : Int} (hn : E.T.kindOf n = 1) : ∃ x, E.T.nd n = some x ∧ x.kind = 1 := by
  unfold Tr.kindOf at hn
  cases e : E.T.nd n with
  | none => rw [e] at hn; simp at hn
  | some x => rw [e] at hn; exact ⟨x, rfl, hn⟩
set_option maxRecDepth 100000 in
set_option maxHeartbeats 1000000 in
theorem refusal_any (D : Wd lo N mb W t m E) (hw : Wn W b t m E am an s) (hn : (kl an).wf = true) :
    Calls Tryz.prog 232 #[P0 b] W fun e w' => e = .returned (I (E.refusal an)) ∧ Below W.heap.size W w' := by
  obtain ⟨a, mo, u, g, l, z, hst, hxx⟩ := stat_shape E.T an
  obtain ⟨f, hf⟩ : ∃ f, (E.T.nd an).isSome = f := ⟨_, rfl⟩
  obtain ⟨K, hK⟩ : ∃ K, K = E.T.kindOf an := ⟨_, rfl⟩
  rw [← hK] at hst
  obtain ⟨R, hR⟩ : ∃ R, R = E.refusal an := ⟨_, rfl⟩
  rw [← hR]
  have HR := hide hR
  have HX := hide hxx
  have HK := hide hK
  obtain ⟨v0, -, w2c, w3c, -, -, -, v7, -, -⟩ := hw.cells
  have H1 := hide (stat_ahead D hn hst hf W (Below.refl _ W))
  have H2 := hide (stat_behind D hn hst hf W (Below.refl _ W))
  have hbl := hw.lt
  have n1 : b ≠ W.heap.size := by omega
  have n3 : W.heap.size ≠ b := by omega
  clear D hw hst hf hK hn hxx hR
  unfold zst at H1
  go_enter Tryz.func232, Tryz.ntmps232
  go_wp2_with fail
  go_region_held3 (fun w' => w'.cell? ⟨b, 0, none⟩ = some (P0 t) ∧ w'.cell? ⟨b, 7, none⟩ = some (I an)) (go_keep)
    (first
      | (go_at_call 37; refine (unhide H1).mono ?_; rintro e w2 ⟨rfl, HB2, hz⟩; obtain ⟨r0, r1, r2, r3, r4, r5, r6, rf⟩ := cells7 hz; have HZ := hide hz; clear hz; have q0 := cell_be v0 (unhide HB2); have q1 := cell_be v7 (unhide HB2))
      | (go_at_call 37; refine (unhide H2).mono ?_; rintro e w2 ⟨rfl, HB2⟩; have q0 := cell_be v0 (unhide HB2); have q1 := cell_be v7 (unhide HB2)))
  · rename_i hHeld
    clear hHeld
    obtain ⟨Y, hY, hYb, hYB⟩ : ∃ Y, w2.alloc (.cells #[I a, I K, I mo, I u, I g, I l, I z] 33) = Y ∧ Y.heap[w2.heap.size]? = some (.cells #[I a, I K, I mo, I u, I g, I l, I z] 33) ∧ Below W.heap.size W Y := ⟨_, rfl, heap_alloc_new _ _, (unhide HB2).alloc (unhide HB2).size _⟩
    rw [hY]
    obtain ⟨e0, e1, e2, e3, e4, e5, e6, -⟩ := cells7 hYb
    have d2 := cell_be w2c hYB
    have d3 := cell_be w3c hYB
    have HY := hide hYB
    clear hY hYb hYB q0 q1 v0 v7 H1 H2 w2c w3c
    generalize w2.heap.size = y at *
    clear HB2
    by_cases hk : K = 1
    · have er : R = if (Kr.may E.cu E.cg mo u g 1) = true then 0 else 34 := by
        obtain ⟨x, hx, hx1⟩ := kind_wf ((unhide HK).symm.trans hk)
        obtain ⟨rfl, rfl, rfl⟩ := unhide HX x hx
        rw [unhide HR]
        unfold En.refusal En.may
        rw [← unhide HK, if_pos hk, hx]
      replace er := hide er
      have hk1 : (K == 1) = true := by simpa using hk
      obtain ⟨M, hM⟩ : ∃ M, Kr.may E.cu E.cg mo u g 1 = M := ⟨_, rfl⟩
      have HM := hide (fun w => Kr.may_any E.cu E.cg a K mo u g l z 1 w)
      rw [hM] at HM er
      clear hM
      rw [hk] at HM e1
      clear hk hk1
      go_wp2_with fail
      go_region_held3 (fun w' => w'.cell? ⟨b, 2, none⟩ = some (I E.cu) ∧ w'.cell? ⟨b, 3, none⟩ = some (I E.cg) ∧ w'.cell? ⟨y, 0, none⟩ = some (I a) ∧ w'.cell? ⟨y, 1, none⟩ = some (I 1) ∧ w'.cell? ⟨y, 2, none⟩ = some (I mo) ∧ w'.cell? ⟨y, 3, none⟩ = some (I u) ∧ w'.cell? ⟨y, 4, none⟩ = some (I g) ∧ w'.cell? ⟨y, 5, none⟩ = some (I l) ∧ w'.cell? ⟨y, 6, none⟩ = some (I z)) (go_keep)
        (first
          | (go_at_call 257; refine (unhide HM _).mono ?_; rintro e w3 ⟨rfl, hB3⟩; have HB3 := hide hB3; clear hB3; have p2 := cell_be (W := Y.drew) d2 (unhide HB3); have p3 := cell_be (W := Y.drew) d3 (unhide HB3); have s0 := cell_be (W := Y.drew) e0 (unhide HB3); have s1 := cell_be (W := Y.drew) e1 (unhide HB3); have s2 := cell_be (W := Y.drew) e2 (unhide HB3); have s3 := cell_be (W := Y.drew) e3 (unhide HB3); have s4 := cell_be (W := Y.drew) e4 (unhide HB3); have s5 := cell_be (W := Y.drew) e5 (unhide HB3); have s6 := cell_be (W := Y.drew) e6 (unhide HB3)))
      clear d2 d3 e0 e1 e2 e3 e4 e5 e6 p2 p3 s0 s1 s2 s3 s4 s5 s6
      have HZZ := hide ((unhide HY).trans ((below_drew (Below.refl Y.heap.size Y)).trans (unhide HB3) |>.mono (unhide HY).size))
      clear HB3 HY
      cases M with
      | true =>
        go_wp2_with fail
        go_ret
        exact ⟨by rw [unhide er]; rfl, unhide HZZ⟩
      | false =>
        go_wp2_with fail
        go_ret
        exact ⟨by rw [unhide er]; rfl, unhide HZZ⟩
    · have er : R = 37 := by
        rw [unhide HR]
        unfold En.refusal
        rw [← unhide HK, if_neg hk]
      replace er := hide er
      go_wp2_with fail
      go_ret
      exact ⟨by rw [unhide er]; rfl, unhide HY⟩
  · rename_i hHeld
    clear hHeld
    obtain ⟨Y, hY, hYb, hYB0⟩ := set7 (unhide HZ) (I a) (I K) (I mo) (I u) (I g) (I l) (I z)
    rw [hY]
    have hYB := hYB0 _ _ (unhide HB2) (Nat.le_refl _)
    obtain ⟨e0, e1, e2, e3, e4, e5, e6, -⟩ := cells7 hYb
    have d2 := cell_be w2c hYB
    have d3 := cell_be w3c hYB
    have HY := hide hYB
    clear hY hYb hYB hYB0 q0 q1 v0 v7 H1 H2 w2c w3c r0 r1 r2 r3 r4 r5 r6 rf HZ HB2
    obtain ⟨y, hy⟩ : ∃ y, y = W.heap.size := ⟨_, rfl⟩
    rw [← hy] at e0 e1 e2 e3 e4 e5 e6 n1 n3 ⊢
    replace hy := hide hy
    by_cases hk : K = 1
    · have er : R = if (Kr.may E.cu E.cg mo u g 1) = true then 0 else 34 := by
        obtain ⟨x, hx, hx1⟩ := kind_wf ((unhide HK).symm.trans hk)
        obtain ⟨rfl, rfl, rfl⟩ := unhide HX x hx
        rw [unhide HR]
        unfold En.refusal En.may
        rw [← unhide HK, if_pos hk, hx]
      replace er := hide er
      have hk1 : (K == 1) = true := by simpa using hk
      obtain ⟨M, hM⟩ : ∃ M, Kr.may E.cu E.cg mo u g 1 = M := ⟨_, rfl⟩
      have HM := hide (fun w => Kr.may_any E.cu E.cg a K mo u g l z 1 w)
      rw [hM] at HM er
      clear hM
      rw [hk] at HM e1
      clear hk hk1
      go_wp2_with fail
      go_region_held3 (fun w' => w'.cell? ⟨b, 2, none⟩ = some (I E.cu) ∧ w'.cell? ⟨b, 3, none⟩ = some (I E.cg) ∧ w'.cell? ⟨y, 0, none⟩ = some (I a) ∧ w'.cell? ⟨y, 1, none⟩ = some (I 1) ∧ w'.cell? ⟨y, 2, none⟩ = some (I mo) ∧ w'.cell? ⟨y, 3, none⟩ = some (I u) ∧ w'.cell? ⟨y, 4, none⟩ = some (I g) ∧ w'.cell? ⟨y, 5, none⟩ = some (I l) ∧ w'.cell? ⟨y, 6, none⟩ = some (I z)) (go_keep)
        (first
          | (go_at_call 257; refine (unhide HM _).mono ?_; rintro e w3 ⟨rfl, hB3⟩; have HB3 := hide hB3; clear hB3; have p2 := cell_be (W := Y.drew) d2 (unhide HB3); have p3 := cell_be (W := Y.drew) d3 (unhide HB3); have s0 := cell_be (W := Y.drew) e0 (unhide HB3); have s1 := cell_be (W := Y.drew) e1 (unhide HB3); have s2 := cell_be (W := Y.drew) e2 (unhide HB3); have s3 := cell_be (W := Y.drew) e3 (unhide HB3); have s4 := cell_be (W := Y.drew) e4 (unhide HB3); have s5 := cell_be (W := Y.drew) e5 (unhide HB3); have s6 := cell_be (W := Y.drew) e6 (unhide HB3)))
      clear d2 d3 e0 e1 e2 e3 e4 e5 e6 p2 p3 s0 s1 s2 s3 s4 s5 s6
      have HZZ := hide ((unhide HY).trans ((below_drew (Below.refl Y.heap.size Y)).trans (unhide HB3) |>.mono (unhide HY).size))
      clear HB3 HY
      cases M with
      | true =>
        go_wp2_with fail
        go_ret
        exact ⟨by rw [unhide er]; rfl, unhide HZZ⟩
      | false =>
        go_wp2_with fail
        go_ret
        exact ⟨by rw [unhide er]; rfl, unhide HZZ⟩
    · have er : R = 37 := by
        rw [unhide HR]
        unfold En.refusal
        rw [← unhide HK, if_neg hk]
      replace er := hide er
      go_wp2_with fail
      go_ret
      exact ⟨by rw [unhide er]; rfl, unhide HY⟩
end
end Go.Proofs.YtlngeaacjbdmhaaGreat.Wl

namespace Go.Proofs.YtlngeaacjbdmhaaGreat.Wl
open Go.RowKit
attribute [local go_sem ↓] Go.wp_at_zero Go.wp_at_succ
section
variable {lo N mb : Nat} {W W' : World} {t m b : Nat} {E : En} {am an : Int} {s : Nat}
theorem down_W (D : Wd lo N mb W t m E) (x y : Int) {p q : Int} (hp : (E.down x y).1 = p) (hq : (E.down x y).2 = q) (V : World) (g : Below W.heap.size W V) :
    Calls Tryz.prog 38 #[P0 m, .agg #[I x, I y]] V fun e w' => e = .returned (.agg #[I p, I q]) ∧ Hid (Below V.heap.size V w') := by
  rw [← hp, ← hq]
  exact Mt.down_any mb m E.rt E.md x y E.es V (D.ls.below g) D.le D.el
theorem up_W (D : Wd lo N mb W t m E) (x y : Int) {p q : Int} {f : Bool} (hp : Mt.upM E.es x y = p) (hq : Mt.upN E.es x y = q) (hf : Mt.upIs E.es x y = f) (V : World) (g : Below W.heap.size W V) :
    Calls Tryz.prog 272 #[P0 m, .agg #[I x, I y]] V fun e w' => e = .returned (.tuple #[.agg #[I p, I q], .bool f]) ∧ Hid (Below V.heap.size V w') := by
  rw [← hp, ← hq, ← hf]
  exact Mt.up_any mb m E.rt E.md x y E.es V (D.ls.below g) D.le
theorem find_W (D : Wd lo N mb W t m E) {n : Int} (hn : (kl n).wf = true) (p : Bytes) {x : Int} {f : Bool} (hx : (E.T.findN n (bs p)).getD 0 = x) (hf : (E.T.findN n (bs p)).isSome = f) (V : World) (g : Below W.heap.size W V) :
    Calls Tryz.prog 55 #[P0 t, I n, .string (bs p)] V fun e w' => e = .returned (.tuple #[I x, .bool f]) ∧ Hid (Below V.heap.size V w') := by
  obtain ⟨q, pp, nb, ev, h1⟩ := D.tp
  rw [← hx, ← hf]
  exact tfind_any (h1.below g) D.wk (by omega) hn (bs p)
theorem tup_W (D : Wd lo N mb W t m E) {n : Int} (hn : (kl n).wf = true) {y : Int} (hy : E.T.up n = y) (V : World) (g : Below W.heap.size W V) :
    Calls Tryz.prog 89 #[P0 t, I n] V fun e w' => e = .returned (I y) ∧ Hid (Below V.heap.size V w') := by
  obtain ⟨q, pp, nb, ev, h1⟩ := D.tp
  rw [← hy]
  refine (up_any (h1.below g) hn).mono ?_
  rintro e w' ⟨rfl, k, rfl⟩
  exact ⟨rfl, below_n _ k⟩
theorem ans2 {V w3 : World} {R : Nat} {a0 a1 : Value} {ty : TypeId} (hR : V.heap[R]? = some (.cells #[a0, a1] ty)) (hB : Below V.heap.size V w3) (v0 v1 : Value) :
    ∃ X1 X2 : World, (w3.setCell ⟨R, 0, none⟩ v0 = X1 ∧ X1.setCell ⟨R, 1, none⟩ v1 = X2) ∧ (w3.cell? ⟨R, 0, none⟩ = some a0 ∧ X1.cell? ⟨R, 1, none⟩ = some a1) ∧ (w3.frozen? ⟨R, 0, none⟩ = false ∧ X1.frozen? ⟨R, 1, none⟩ = false) ∧
      X2.heap[R]? = some (.cells #[v0, v1] ty) ∧ (∀ k, k ≠ R → k < V.heap.size → X2.heap[k]? = V.heap[k]?) ∧ (∀ B u, Below B u w3 → B ≤ R → Below B u X2) ∧ X2.heap.size = w3.heap.size := by
  obtain ⟨X1, X2, h1, h2, h3, h4, h5, h6⟩ := Mt.store2 ((hB.block R (lt_of_heap hR)).trans hR) v0 v1
  refine ⟨X1, X2, h1, h2, h3, h4, fun k hk hl => (h5.blk k (Nat.lt_of_lt_of_le hl hB.size) (by simpa using hk)).trans (hB.block k hl), fun B u hu hb => hu.trans (h5.base ?_ (by simpa using hb)), h6⟩
  have := lt_of_heap hR
  have := hB.size
  omega
theorem cell_kp {V X : World} {k i : Nat} {v : Value} (h : V.cell? ⟨k, i, none⟩ = some v) (g : X.heap[k]? = V.heap[k]?) : X.cell? ⟨k, i, none⟩ = some v := by
  rw [← h]
  exact World.cell?_of_block g
set_option maxRecDepth 100000 in
set_option maxHeartbeats 1000000 in
theorem find_any (D : Wd lo N mb W t m E) (hw : Wn W b t m E am an s) (hn : (kl an).wf = true) (p : Bytes) (x y : Int) (f : Bool) (hx : ((E.find p am an).getD (0, 0)).1 = x) (hy : ((E.find p am an).getD (0, 0)).2 = y) (hf : (E.find p am an).isSome = f) :
    Calls Tryz.prog 234 #[P0 b, .string (bs p)] W fun e w' => e = .returned (.tuple #[.agg #[I x, I y], .bool f]) ∧ Below W.heap.size W w' := by
  obtain ⟨k, hk⟩ : ∃ k, (E.T.findN an (bs p)).getD 0 = k := ⟨_, rfl⟩
  have hf' : (E.T.findN an (bs p)).isSome = f := by rw [← hf]; simp [En.find]
  obtain ⟨V, hV, g1, hB⟩ : ∃ V, W.alloc (.cells #[I 0, I 0] 50) = V ∧ V.heap[W.heap.size]? = some (.cells #[I 0, I 0] 50) ∧ Below W.heap.size W V := ⟨_, rfl, heap_alloc_new W _, (Below.refl _ W).alloc (Nat.le_refl _) _⟩
  have hbl := hw.lt
  have hVl := lt_of_heap g1
  obtain ⟨v0, -, -, -, -, -, -, v7, -, -⟩ := (hw.below hB).cells
  have H1 := hide (find_W D hn p hk hf' V.drew (below_drew hB))
  have HD := hide D
  have HB := hide hB
  have HG := hide g1
  have Hw := hide hw
  have n1 : b ≠ W.heap.size := by omega
  have n3 : W.heap.size ≠ b := by omega
  cases f with
  | false =>
    have hfn : E.find p am an = none := by simpa using hf
    rw [hfn] at hx hy
    obtain rfl : (0 : Int) = x := hx
    obtain rfl : (0 : Int) = y := hy
    clear hfn hf hf' hk D hw hn hB g1 HD
    go_enter Tryz.func234, Tryz.ntmps234
    go_wp2_with fail
    go_region_held3 (fun w' => w'.cell? ⟨b, 0, none⟩ = some (P0 t) ∧ w'.cell? ⟨b, 7, none⟩ = some (I an)) (go_keep)
      (first
        | (go_at_call 55; refine (unhide H1).mono ?_; rintro e w3 ⟨rfl, HB3⟩; have q0 := cell_be (W := V.drew) v0 (unhide HB3); have q7 := cell_be (W := V.drew) v7 (unhide HB3)))
    obtain ⟨X1, X2, ⟨x1, x2⟩, ⟨y0, y1⟩, ⟨f0, f1⟩, hX, -, hXB, -⟩ := ans2 (unhide HG) ((below_drew (Below.refl _ V)).trans (unhide HB3)) (I 0) (I 0)
    have HX := hide (hXB _ _ ((unhide HB).trans (((below_drew (Below.refl _ V)).trans (unhide HB3)).mono (Nat.le_of_lt hVl))) (Nat.le_refl _))
    have z0 : X2.cell? ⟨W.heap.size, 0, none⟩ = some (I 0) := by rw [cell_of hX]; rfl
    have z1 : X2.cell? ⟨W.heap.size, 1, none⟩ = some (I 0) := by rw [cell_of hX]; rfl
    clear hX hXB H1 v0 v7 q0 q7 HB3
    go_wp2_with fail
    refine bodyPost_ret (v := .tuple #[.agg #[I 0, I 0], .bool false]) (by simp [results, Tryz.results234, go_sem, z0, z1]) rfl ?_
    exact ⟨rfl, unhide HX⟩
  | true =>
    obtain ⟨k', hk'⟩ := Option.isSome_iff_exists.1 hf'
    have hfn : E.find p am an = some (E.down am k') := by rw [En.find, hk']; rfl
    rw [hk'] at hk
    obtain rfl : k' = k := hk
    rw [hfn] at hx hy
    have hx' : (E.down am k').1 = x := hx
    have hy' : (E.down am k').2 = y := hy
    clear hfn hf hf' hk' D hw hn hB g1 hx hy
    go_enter Tryz.func234, Tryz.ntmps234
    go_wp2_with fail
    go_region_held3 (fun w' => w'.cell? ⟨b, 0, none⟩ = some (P0 t) ∧ w'.cell? ⟨b, 7, none⟩ = some (I an)) (go_keep)
      (first
        | (go_at_call 55; refine (unhide H1).mono ?_; rintro e w3 ⟨rfl, HB3⟩; have q0 := cell_be (W := V.drew) v0 (unhide HB3); have q7 := cell_be (W := V.drew) v7 (unhide HB3)))
    have hBV : Below V.heap.size V w3.drew := below_drew ((below_drew (Below.refl _ V)).trans (unhide HB3))
    have hBW : Below W.heap.size W w3.drew := (unhide HB).trans (hBV.mono (Nat.le_of_lt hVl))
    obtain ⟨-, p1, -, -, -, -, p6, -, -, -⟩ := ((unhide Hw).below hBW).cells
    have p1' : w3.cell? ⟨b, 1, none⟩ = some (P0 m) := p1
    have p6' : w3.cell? ⟨b, 6, none⟩ = some (I am) := p6
    have H3 := hide (down_W (unhide HD) am k' hx' hy' w3.drew hBW)
    have HG3 : Hid (w3.drew.heap[W.heap.size]? = some (.cells #[I 0, I 0] 50)) := (hBV.block _ hVl).trans (unhide HG)
    have HBW := hide hBW
    have hls : b < w3.drew.heap.size := Nat.lt_of_lt_of_le hbl hBW.size
    rename_i hHeld
    clear H1 v0 v7 q0 q7 HB3 hBV hBW HG hHeld hx' hy' p1 p6
    go_wp2_with fail
    go_region_held3 (fun w' => w'.cell? ⟨b, 1, none⟩ = some (P0 m) ∧ w'.cell? ⟨b, 6, none⟩ = some (I am)) (go_keep)
      (first
        | (go_at_call 38; refine (unhide H3).mono ?_; rintro e w4 ⟨rfl, HB4⟩; have q1 := cell_be (W := w3.drew) p1' (unhide HB4); have q6 := cell_be (W := w3.drew) p6' (unhide HB4); obtain ⟨X1, X2, ⟨x1, x2⟩, ⟨y0, y1⟩, ⟨f0, f1⟩, hX, hXk, hXB, hXs⟩ := ans2 (unhide HG3) (unhide HB4) (I x) (I y); have s1 : X2.cell? ⟨b, 1, none⟩ = some (P0 m) := cell_kp (V := w3.drew) p1' (hXk b n1 hls); have s6 : X2.cell? ⟨b, 6, none⟩ = some (I am) := cell_kp (V := w3.drew) p6' (hXk b n1 hls); have HXf := hide hX; have HXB := hide hXB; clear hX hXk hXB hXs))
    have hX := unhide HXf
    have HX := hide (unhide HXB _ _ ((unhide HBW).trans ((unhide HB4).mono (unhide HBW).size)) (Nat.le_refl _))
    have z0 : X2.cell? ⟨W.heap.size, 0, none⟩ = some (I x) := by rw [cell_of hX]; rfl
    have z1 : X2.cell? ⟨W.heap.size, 1, none⟩ = some (I y) := by rw [cell_of hX]; rfl
    clear hX HXf HXB H3
    go_wp2_with fail
    refine bodyPost_ret (v := .tuple #[.agg #[I x, I y], .bool true]) (by simp [results, Tryz.results234, go_sem, z0, z1]) rfl ?_
    exact ⟨rfl, unhide HX⟩
end
end Go.Proofs.YtlngeaacjbdmhaaGreat.Wl

namespace Go.Proofs.YtlngeaacjbdmhaaGreat.Wl
open Go.RowKit
attribute [local go_sem ↓] Go.wp_at_zero Go.wp_at_succ
section
variable {lo N mb : Nat} {W W' : World} {t m b : Nat} {E : En} {am an : Int} {s : Nat}
def zfd : Obj := .cells #[I 0, I 0, .string ⟨#[]⟩, I 0, I 0, .bool false, .bool false] 59
end
end Go.Proofs.YtlngeaacjbdmhaaGreat.Wl
