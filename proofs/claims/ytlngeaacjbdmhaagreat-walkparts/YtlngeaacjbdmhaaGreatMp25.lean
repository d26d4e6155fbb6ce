/-
  A walk as plain data: what each part leads to, what a symlink makes of a path, where the whole ends.
-/
import Derived.Test.YtlngeaacjbdmhaaGreatMp04
import Derived.Test.YtlngeaacjbdmhaaGreatMp23
import Derived.Test.YtlngeaacjbdmhaaGreatMp15
import Derived.Test.YtlngeaacjbdmhaaGreatMp24
import Derived.Lib.Builder
import Derived.Lib.AppendStr
import Derived.Lib.UnsafeStr
import Derived.Laws.Externs
import Derived.Test.YtlngeaacjbdmhaaGreatMp08
import Derived.Test.YtlngeaacjbdmhaaGreatMp16
import Derived.Deep.CutRange
set_option maxRecDepth 100000
namespace Go.Proofs.YtlngeaacjbdmhaaGreat.Wl
open Go.RowKit
structure En where
  T : Tr
  rt : Int
  md : Int
  es : Mt.Ents
  cu : Int
  cg : Int
  rm : Int
  rn : Int
  follow : Bool
def En.down (E : En) (m n : Int) : Int × Int := Mt.down E.md E.es m n
def En.may (E : En) (n : Int) : Bool := match E.T.nd n with | some x => Kr.may E.cu E.cg x.mode x.uid x.gid 1 | none => false
def En.refusal (E : En) (n : Int) : Int := if E.T.kindOf n = 1 then (if E.may n = true then 0 else 34) else 37
def upF (es : Mt.Ents) : Nat → Int → Int → Int × Int
  | 0, m, n => (m, n)
  | k + 1, m, n => if Mt.upIs es m n = true then upF es k (Mt.upM es m n) (Mt.upN es m n) else (m, n)
def upK (es : Mt.Ents) (m : Int) : Nat := es.countP fun p => decide (p.n ≤ m)
def up (es : Mt.Ents) (m n : Int) : Int × Int := upF es (upK es m) m n
theorem up_less {md : Int} {es : Mt.Ents} (h : Mt.Eld md es) {m n : Int} (hu : Mt.upIs es m n = true) : Mt.upM es m n < m ∧ upK es (Mt.upM es m n) < upK es m := by
  have h1 : Mt.any es (Mt.isN m) = true := by
    unfold Mt.upIs at hu
    simp at hu
    exact hu.1
  obtain ⟨h2, h3⟩ := Mt.fst_mem h1
  simp only [Mt.isN, decide_eq_true_eq] at h3
  have h4 := h _ h2
  have e : Mt.upM es m n = (Mt.fst es (Mt.isN m)).am := by rw [Mt.upM, if_pos hu]
  rw [e]
  refine ⟨by omega, ?_⟩
  unfold upK
  have h5 : es.countP (fun p => decide (p.n ≤ (Mt.fst es (Mt.isN m)).am)) ≤ es.countP (fun p => decide (p.n < m)) := List.countP_mono_left fun p _ hp => by
    simp at hp ⊢
    omega
  have h6 : es.countP (fun p => decide (p.n < m)) < es.countP (fun p => decide (p.n ≤ m)) := by
    clear h5 e h4 hu h1 h
    generalize Mt.fst es (Mt.isN m) = q at h2 h3
    induction es with
    | nil => simp at h2
    | cons x l ih =>
      rw [List.countP_cons, List.countP_cons]
      have hm : l.countP (fun p => decide (p.n < m)) ≤ l.countP (fun p => decide (p.n ≤ m)) := List.countP_mono_left fun p _ hp => by
        simp at hp ⊢
        omega
      rcases List.mem_cons.1 h2 with rfl | h2
      · rw [if_neg (by simp; omega), if_pos (by simp; omega)]
        omega
      · have := ih h2
        split <;> split <;> simp_all <;> omega
  omega
theorem up_stop {es : Mt.Ents} {m n : Int} (hu : Mt.upIs es m n = false) (k : Nat) : upF es k m n = (m, n) := by
  cases k with
  | zero => rfl
  | succ k => rw [upF, hu]; rfl
theorem up_same {md : Int} {es : Mt.Ents} (h : Mt.Eld md es) : ∀ (k k' : Nat) (m n : Int), upK es m ≤ k → upK es m ≤ k' → upF es k m n = upF es k' m n := by
  intro k
  induction k with
  | zero =>
    intro k' m n hk _
    cases hu : Mt.upIs es m n with
    | false => rw [up_stop hu, up_stop hu]
    | true => have := (up_less h hu).2; omega
  | succ k ih =>
    intro k' m n hk hk'
    cases hu : Mt.upIs es m n with
    | false => rw [up_stop hu, up_stop hu]
    | true =>
      have := (up_less h hu).2
      cases k' with
      | zero => omega
      | succ j =>
        rw [upF, upF, hu]
        simp only [if_true]
        exact ih _ _ _ (by omega) (by omega)
theorem up_step {md : Int} {es : Mt.Ents} (h : Mt.Eld md es) {m n : Int} (hu : Mt.upIs es m n = true) : up es m n = up es (Mt.upM es m n) (Mt.upN es m n) := by
  have h1 := (up_less h hu).2
  obtain ⟨j, hj⟩ : ∃ j, upK es m = j + 1 := ⟨upK es m - 1, by omega⟩
  rw [up, hj, upF, hu]
  simp only [if_true]
  exact up_same h _ _ _ _ (by omega) (Nat.le_refl _)
theorem up_end {es : Mt.Ents} {m n : Int} (hu : Mt.upIs es m n = false) : up es m n = (m, n) := up_stop hu _
abbrev bs (l : List UInt8) : ByteArray := ⟨l.toArray⟩
abbrev Bytes := List UInt8
def isDots (p : Bytes) : Bool := p == [46] || p == [46, 46]
def En.dots (E : En) (p : Bytes) (am an : Int) : Int × Int :=
  if p = [46] ∨ (am = E.rm ∧ an = E.rn) then (am, an) else E.down (up E.es am an).1 (E.T.up (up E.es am an).2)
def En.find (E : En) (p : Bytes) (am an : Int) : Option (Int × Int) := (E.T.findN an (bs p)).map fun n => E.down am n
structure Pa where
  root : Bool
  slash : Bool
  parts : List Bytes
def onE (fol : Nat) (text : Bytes) (slash : Bool) (rest : List Bytes) : Int :=
  if fol = 40 then 46 else if text = [] then 32 else if 4096 < text.length + (Nm.pw false slash rest).length then 45 else Nm.err text
def onP (text : Bytes) (slash : Bool) (rest : List Bytes) : Pa := ⟨Nm.rt text, slash || (Nm.sl text && rest.isEmpty), Nm.ps text ++ rest⟩
structure Fd where
  dm : Int
  dn : Int
  last : Bytes
  am : Int
  an : Int
  has : Bool
  slash : Bool
def Fd.v (f : Fd) : Value := .agg #[I f.dm, I f.dn, .string (bs f.last), I f.am, I f.an, .bool f.has, .bool f.slash]
def Fd.none : Fd := ⟨0, 0, [], 0, 0, false, false⟩
structure Re where
  next : Option Pa
  f : Fd
  why : Int
  am : Int
  an : Int
  steps : Nat
def En.endF (E : En) (dm dn : Int) (last : Bytes) (am an : Int) (slash : Bool) : Fd :=
  if slash = true ∧ E.T.kindOf an ≠ 1 then Fd.none else if last = [] then ⟨am, an, last, am, an, true, slash⟩ else ⟨dm, dn, last, am, an, true, slash⟩
def En.endE (E : En) (an : Int) (slash : Bool) : Int := if slash = true ∧ E.T.kindOf an ≠ 1 then 37 else 0
def missF (p : Bytes) (rest : List Bytes) (slash : Bool) (am an : Int) : Fd := if rest = [] then ⟨am, an, p, 0, 0, false, slash⟩ else Fd.none
def missE (rest : List Bytes) : Int := if rest = [] then 0 else 32
def En.goes (E : En) (n : Int) (rest : List Bytes) (slash : Bool) : Bool := decide (E.T.kindOf n = 3) && (!rest.isEmpty || E.follow || slash)
def En.text (E : En) (n : Int) : Bytes := (E.T.textOf n).data.toList
def En.par (E : En) (fol : Nat) (slash : Bool) : List Bytes → Int → Int → Bytes → Int → Int → Nat → Re
  | [], dm, dn, last, am, an, s => ⟨none, E.endF dm dn last am an slash, E.endE an slash, am, an, s⟩
  | p :: rest, dm, dn, _, am, an, s =>
    if E.refusal an = 0 then
      if isDots p = true then E.par fol slash rest dm dn [] (E.dots p am an).1 (E.dots p am an).2 (s + 1)
      else match E.find p am an with
        | none => ⟨none, missF p rest slash am an, missE rest, am, an, s + 1⟩
        | some t => if E.goes t.2 rest slash = true then
            (if onE fol (E.text t.2) slash rest = 0 then ⟨some (onP (E.text t.2) slash rest), Fd.none, 0, am, an, s + 1⟩ else ⟨none, Fd.none, onE fol (E.text t.2) slash rest, am, an, s + 1⟩)
          else E.par fol slash rest am an p t.1 t.2 (s + 1)
    else ⟨none, Fd.none, E.refusal an, am, an, s + 1⟩
def En.beg (E : En) (p : Pa) (am an : Int) : Int × Int := if p.root = true then (E.rm, E.rn) else (am, an)
def En.one (E : En) (fol : Nat) (p : Pa) (am an : Int) (s : Nat) : Re := E.par fol p.slash p.parts (E.beg p am an).1 (E.beg p am an).2 [] (E.beg p am an).1 (E.beg p am an).2 s
def En.run (E : En) : Nat → Pa → Int → Int → Nat → Re
  | 0, p, am, an, s => E.one 40 p am an s
  | k + 1, p, am, an, s => match (E.one (40 - (k + 1)) p am an s).next with
    | none => E.one (40 - (k + 1)) p am an s
    | some q => E.run k q (E.one (40 - (k + 1)) p am an s).am (E.one (40 - (k + 1)) p am an s).an (E.one (40 - (k + 1)) p am an s).steps
theorem En.par_last (E : En) (slash : Bool) : ∀ (ps : List Bytes) (dm dn : Int) (last : Bytes) (am an : Int) (s : Nat), (E.par 40 slash ps dm dn last am an s).next = none := by
  intro ps
  induction ps with
  | nil => intros; rfl
  | cons p rest ih =>
    intro dm dn last am an s
    unfold En.par
    split
    · split
      · exact ih _ _ _ _ _ _
      · split
        · rfl
        · split
          · rw [if_neg (by simp [onE])]
          · exact ih _ _ _ _ _ _
    · rfl
def En.place (E : En) (m n : Int) : Bool := (E.T.nd n).isSome && Mt.rootIs E.es m
end Go.Proofs.YtlngeaacjbdmhaaGreat.Wl

namespace Go.Proofs.YtlngeaacjbdmhaaGreat.Nm
open Go.RowKit
attribute [local go_sem ↓] Go.wp_at_zero Go.wp_at_succ
theorem size54 : (Tryz.prog.info? 335).map (fun i => i.size) = some 2 := by kernel_rfl
set_option maxHeartbeats 1000000 in
theorem check_used (b : Nat) (w : World) (h0 : w.cell? ⟨b, 0, none⟩ = some (.pointer (some ⟨b, 0, none⟩))) :
    Calls Tryz.prog 327 #[.pointer (some ⟨b, 0, none⟩)] w fun e w' => e = .returned (.tuple #[]) ∧ w' = w := by
  obtain ⟨j, hj, _⟩ := Option.map_eq_some_iff.1 size54
  go_enter Tryz.func327, Tryz.ntmps327
  go_wp2
  rw [Lib.run_neq_ptr_same w _ Tryz.underlying333 hj]
  go_wp2
  go_end0
  exact ⟨rfl, rfl⟩
set_option maxHeartbeats 1000000 in
theorem check_fresh (b : Nat) (w : World) (h0 : w.cell? ⟨b, 0, none⟩ = some (.pointer none)) (hsh : w.shape? b = some (335, 2)) (hfz : w.frozen? ⟨b, 0, none⟩ = false) :
    Calls Tryz.prog 327 #[.pointer (some ⟨b, 0, none⟩)] w fun e w' => e = .returned (.tuple #[]) ∧ w' = w.setCell ⟨b, 0, none⟩ (.pointer (some ⟨b, 0, none⟩)) := by
  obtain ⟨j, hj, hjs⟩ := Option.map_eq_some_iff.1 size54
  go_enter Tryz.func327, Tryz.ntmps327
  go_wp2
  rw [Lib.run_to_unsafe w ⟨b, 0, none⟩ Tryz.underlying333 Tryz.underlying353 hj (by rw [hjs]; decide) hsh (Nat.zero_lt_succ 1)]
  simp only [Result.andThen]
  rw [Oper.upon_value]
  go_wp2
  rw [run_callFunc_extern Tryz.func331 (by kernel_rfl) (by kernel_rfl) (by kernel_rfl) (e := Extern.AbiNoEscape.same) (by kernel_rfl)]
  rw [Lib.run_noEscape]
  simp only [Result.andThen]
  rw [Oper.upon_value]
  go_wp2
  rw [Lib.run_from_unsafe w ⟨b, 0, none⟩ Tryz.underlying353 Tryz.underlying333 hj hsh (by kernel_rfl)]
  simp only [Result.andThen]
  rw [Oper.upon_value]
  go_wp2
  go_end0
  exact ⟨rfl, rfl⟩
theorem check_any (B b : Nat) (xs : List Value) (w : World) (h : Lib.IsBuilder 335 5 B b xs w) :
    Calls Tryz.prog 327 #[.pointer (some ⟨b, 0, none⟩)] w fun e w' => e = .returned (.tuple #[]) ∧ Lib.BuilderAt 335 5 B b (.pointer (some ⟨b, 0, none⟩)) xs w' ∧ Below B w w' := by
  rcases h with h | h
  · refine (check_fresh b w h.cell0 h.shape h.frozen0).mono ?_
    rintro e w' ⟨rfl, rfl⟩
    exact ⟨rfl, h.used _, (Below.refl B w).setCell (p := ⟨b, 0, none⟩) h.1 _⟩
  · refine (check_used b w h.cell0).mono ?_
    rintro e w' ⟨rfl, rfl⟩
    exact ⟨rfl, h, Below.refl B _⟩
set_option maxHeartbeats 2000000 in
theorem writes_any (B b : Nat) (xs : List Value) (s : ByteArray) (w : World) (h : Lib.IsBuilder 335 5 B b xs w) (hlen : xs.length + s.size ≤ 140737488355328) (hBw : B ≤ w.heap.size) :
    Calls Tryz.prog 313 #[.pointer (some ⟨b, 0, none⟩), .string s] w fun e w' => e = .returned (.tuple #[.int .i64 s.size, .nilIface]) ∧ Lib.BuilderAt 335 5 B b (.pointer (some ⟨b, 0, none⟩)) (xs ++ Lib.strCells s) w' ∧ Below B w w' := by
  obtain ⟨i0, hi, hz0, hz1, hz2⟩ := info_parts info5
  go_enter Tryz.func313, Tryz.ntmps313
  go_wp2_with (go_at_call 327; refine (check_any B b xs _ h).mono ?_)
  rintro e w1 ⟨rfl, h1, hb1⟩
  obtain ⟨hB, v, hbk, hown, hne⟩ := h1
  have c0 : w1.cell? ⟨b, 0, none⟩ = some (.pointer (some ⟨b, 0, none⟩)) := by rw [cell_of hbk]; rfl
  have c1 : w1.cell? ⟨b, 1, none⟩ = some v := by rw [cell_of hbk]; rfl
  go_wp2_with (at_builtin; refine Lib.wpList_append_own_string _ rfl _ _ 34 9 rfl B 5 i0 Tryz.underlying34 Tryz.underlying9 hi hz0 hz1 hz2 _ _ _ rfl hown s rfl ?c3 ?c4 ?c5 ?_)
  case c3 => unfold maxLen; omega
  case c4 => omega
  case c5 => have := hb1.size; omega
  intro v' w2 hown' hgrow _
  have hb2 : w2.heap[b]? = some (.cells #[.pointer (some ⟨b, 0, none⟩), v] 335 (0, 0)) := by
    rw [hgrow.block b (lt_of_heap hbk) (fun e => hne e.symm)]
    exact hbk
  have d0 : w2.cell? ⟨b, 0, none⟩ = some (.pointer (some ⟨b, 0, none⟩)) := by rw [cell_of hb2]; rfl
  have d1 : w2.cell? ⟨b, 1, none⟩ = some v := by rw [cell_of hb2]; rfl
  have f1 : w2.frozen? ⟨b, 1, none⟩ = false := frozen_of hb2 1
  obtain ⟨ao, cap, rfl⟩ := own_form hown'
  go_wp2
  go_ret2
  refine ⟨rfl, ?_, ?_⟩
  · exact Lib.BuilderAt.put (T := 335) (e := 5) hB hb2 (bs' := xs ++ Lib.strCells s) (by simpa [Lib.strCells_length] using hown') (by decide)
  · exact (hb1.grown hgrow (by have := hb1.size; omega) (fun k hk => (hown.lt k hk).1)).setCell (p := ⟨b, 1, none⟩) hB _
theorem cells_bs (l : List UInt8) : Lib.strCells (bs l) = Lib.byteCells l := by
  simp [Lib.strCells, Lib.byteCells]
theorem byte_app (a b : List UInt8) : Lib.byteCells a ++ Lib.byteCells b = Lib.byteCells (a ++ b) := by simp [Lib.byteCells]
theorem byte_len (a : List UInt8) : (Lib.byteCells a).length = a.length := by simp [Lib.byteCells]
theorem write_any (B b : Nat) (a l : List UInt8) (w : World) (h : Lib.IsBuilder 335 5 B b (Lib.byteCells a) w) (hlen : a.length + l.length ≤ 140737488355328) (hBw : B ≤ w.heap.size) :
    Calls Tryz.prog 313 #[.pointer (some ⟨b, 0, none⟩), S l] w fun e w' => e = .returned (.tuple #[.int .i64 l.length, .nilIface]) ∧ Lib.IsBuilder 335 5 B b (Lib.byteCells (a ++ l)) w' ∧ Below B w w' := by
  have hsz : (bs l).size = l.length := by simp [ByteArray.size]
  refine (writes_any B b _ (bs l) w h (by rw [byte_len, hsz]; exact hlen) hBw).mono ?_
  rintro e w' ⟨rfl, h1, h2⟩
  rw [cells_bs, byte_app] at h1
  exact ⟨by rw [hsz], .inr h1, h2⟩
end Go.Proofs.YtlngeaacjbdmhaaGreat.Nm

namespace Go.Proofs.YtlngeaacjbdmhaaGreat.Nm
open Go.RowKit
attribute [local go_sem ↓] Go.wp_at_zero Go.wp_at_succ
structure WJ (w W : World) (h : Nat) (r s : Bool) (v : Value) (acc : List UInt8) : Prop where
  be : Below h w W
  bx : W.heap[h]? = some (.cells #[.bool r, .bool s, v] 234)
  bd : Lib.IsBuilder 335 5 (h + 1) (h + 1) (Lib.byteCells acc) W
theorem WJ.sz {w W : World} {h : Nat} {r s : Bool} {v : Value} {acc : List UInt8} (J : WJ w W h r s v acc) : h + 1 < W.heap.size := by
  rcases J.bd with hb | hb <;> exact hb.lt
theorem WJ.write {w W : World} {h : Nat} {r s : Bool} {v : Value} {acc : List UInt8} (J : WJ w W h r s v acc) (l : List UInt8) (hl : acc.length + l.length ≤ 1000000000) :
    Calls Tryz.prog 313 #[.pointer (some ⟨h + 1, 0, none⟩), S l] W fun e w' => e = .returned (.tuple #[.int .i64 l.length, .nilIface]) ∧ WJ w w' h r s v (acc ++ l) := by
  have := J.sz
  refine (write_any (h + 1) (h + 1) acc l W J.bd (by omega) (by omega)).mono ?_
  rintro e w' ⟨rfl, h1, h2⟩
  exact ⟨rfl, J.be.trans (h2.mono (by omega)), (h2.block h (by omega)).trans J.bx, h1⟩
theorem WJ.cells {w W : World} {h : Nat} {r s : Bool} {v : Value} {acc : List UInt8} (J : WJ w W h r s v acc) : W.cell? ⟨h, 0, none⟩ = some (.bool r) ∧ W.cell? ⟨h, 1, none⟩ = some (.bool s) ∧ W.cell? ⟨h, 2, none⟩ = some v := by
  refine ⟨?_, ?_, ?_⟩ <;> rw [cell_of J.bx] <;> rfl
theorem WJ.done {w W : World} {h : Nat} {r s : Bool} {v : Value} {acc : List UInt8} (J : WJ w W h r s v acc) :
    Calls Tryz.prog 314 #[.pointer (some ⟨h + 1, 0, none⟩)] W fun e w' => e = .returned (S acc) ∧ Below h w w' := by
  have := J.sz
  refine (Tryz.Builder_String_any (h + 1) (h + 1) acc W J.bd (by omega)).mono ?_
  rintro e w' ⟨rfl, h2⟩
  exact ⟨rfl, J.be.trans (h2.mono (by omega))⟩
theorem join_take (q : List (List UInt8)) (i : Nat) (x : List UInt8) (h : q[i]? = some x) : joinS (q.take (i + 1)) = joinS (q.take i) ++ ((if 0 < i then [47] else []) ++ x) := by
  induction q generalizing i with
  | nil => simp at h
  | cons p r ih =>
    cases i with
    | zero => simp at h; subst h; simp [joinS]
    | succ j =>
      have h1 : r[j]? = some x := by simpa using h
      have h2 := ih j h1
      rw [List.take_succ_cons, List.take_succ_cons]
      cases r with
      | nil => simp at h1
      | cons y t =>
        cases j with
        | zero =>
          simp at h1; subst h1
          simp [joinS]
        | succ k =>
          rw [List.take_succ_cons] at h2 ⊢
          rw [List.take_succ_cons] at h2 ⊢
          rw [joinS_cons, joinS_cons, h2]
          simp
theorem wt_take (q : List (List UInt8)) (i : Nat) : wt (q.take i) ≤ wt q := by
  have h := wt_app (q.take i) (q.drop i)
  rw [List.take_append_drop] at h
  omega
set_option maxHeartbeats 2000000 in
theorem wr_root (s : Bool) (q : List (List UInt8)) (n : Nat) (hn : q.length = n) (hn2 : n ≤ 100000000) (a : Option Addr) (cap : Nat) (w : World) (hrow : RowO w a q) (hsz : wt q ≤ 100000000) :
    Calls Tryz.prog 291 #[.agg #[.bool true, .bool s, .slice a n cap]] w fun e w' => e = .returned (S (pw true s q)) ∧ Below w.heap.size w w' := by
  obtain ⟨V, hV, hsz0, g0, g1, hB⟩ := two0 w (.cells #[.bool true, .bool s, .slice a n cap] 234) (.cells #[.pointer none, .slice none 0 0] 335)
  replace hV := hide hV
  generalize hh : w.heap.size = h at *
  have J0 : WJ w V h true s (.slice a n cap) [] := ⟨hB, g0, .inl ⟨Nat.le_refl _, .slice none 0 0, g1, World.ownsRow_nil _ _ _ _, by simp [Value.ownBlock]⟩⟩
  replace J0 := hide J0
  have HROW := hide hrow
  have HH := hide hh
  have HN := hide hn
  clear hB g0 g1 hsz0 hrow hn
  go_enter Tryz.func291, Tryz.ntmps291
  go_wp2_with fail
  rw [unhide hV]
  refine ((unhide J0).write [47] (by simp)).mono ?_
  rintro e w1 ⟨rfl, J1⟩
  replace J1 := hide J1
  clear J0
  obtain ⟨e0, e1, e2⟩ := (unhide J1).cells
  go_wp2_with fail
  clear e0 e1 e2
  go_loopw [12] (fun i wr => ∃ k : Nat, k ≤ n ∧ i = .int .i64 k ∧ WJ w wr h true s (.slice a n cap) (([47] : List UInt8) ++ joinS (q.take k))) (fun i _ => n - (intOf i).toNat)
  case atStart => exact ⟨0, by omega, rfl, by simpa [joinS] using unhide J1⟩
  case round =>
    obtain ⟨k, hk, rfl, J⟩ := hrel
    by_cases hlt : k < n
    · have j0 : (0 : Int) ≤ (k : Int) := by omega
      have j1 : (k : Int) < (n : Int) := by omega
      obtain ⟨x, hx⟩ : ∃ x, q[k]? = some x := ⟨_, List.getElem?_eq_getElem (by rw [unhide HN]; exact hlt)⟩
      obtain ⟨b, off, rfl, hb, c1⟩ := unhide HROW k x hx
      have c2 : wr.cell? ⟨b, off + k, none⟩ = some (.string (bs x)) := (World.cell?_of_block (J.be.block b (by rw [← unhide HH]; exact hb))).trans c1
      have hjt := hide (join_take q k x hx)
      have hb1 : (joinS (q.take k)).length ≤ 100000000 := Nat.le_trans (join_le _) (Nat.le_trans (wt_take q k) hsz)
      have hb2 : (joinS (q.take (k + 1))).length ≤ 100000000 := Nat.le_trans (join_le _) (Nat.le_trans (wt_take q _) hsz)
      have hb3 : (joinS (q.take k)).length + ((if 0 < k then ([47] : List UInt8) else []).length + x.length) ≤ 100000000 := by
        have := hb2; rw [unhide hjt] at this; simpa using this
      clear hx c1 hb hb2
      by_cases h0 : 0 < k
      · have k0 : (0 : Int) < (k : Int) := by omega
        rw [if_pos h0] at hb3
        replace hb1 := hide hb1
        replace hb3 := hide hb3
        replace J := hide J
        clear h0
        go_wp2_with fail
        refine ((unhide J).write [47] (by have := unhide hb1; simp; omega)).mono ?_
        rintro e w1 ⟨rfl, J3⟩
        replace J3 := hide J3
        go_wp2_with fail
        refine ((unhide J3).write x (by have := unhide hb3; simp at this ⊢; omega)).mono ?_
        rintro e w2 ⟨rfl, J4⟩
        replace J4 := hide J4
        go_wp2_with fail
        refine ⟨⟨k + 1, by omega, rfl, ?_⟩, by simp [intOf]; omega⟩
        rw [unhide hjt, if_pos (by omega)]
        simpa using unhide J4
      · obtain rfl : k = 0 := by omega
        replace hb1 := hide hb1
        replace hb3 := hide hb3
        replace J := hide J
        have c3 : wr.cell? ⟨b, off, none⟩ = some (.string (bs x)) := c2
        have j2 : ¬ ((0 : Int) < ((0 : Nat) : Int)) := by omega
        clear h0 c2
        go_wp2_with fail
        refine ((unhide J).write x (by have := unhide hb3; simp at this ⊢; omega)).mono ?_
        rintro e w2 ⟨rfl, J4⟩
        replace J4 := hide J4
        go_wp2_with fail
        refine ⟨⟨1, by omega, rfl, ?_⟩, by simp [intOf]; omega⟩
        rw [unhide hjt]
        simpa using unhide J4
    · obtain rfl : k = n := by omega
      have j1 : ¬ (k : Int) < (k : Int) := by omega
      have hq : q.take k = q := List.take_of_length_le (by rw [unhide HN]; exact Nat.le_refl _)
      rw [hq] at J
      clear hq
      have hb1 : (joinS q).length ≤ 100000000 := Nat.le_trans (join_le _) hsz
      obtain ⟨e0, e1, e2⟩ := J.cells
      replace J := hide J
      by_cases h0 : 0 < k
      · have k0 : (0 : Int) < (k : Int) := by omega
        have hne : q.isEmpty = false := by
          cases q with
          | nil => have := unhide HN; simp at this; omega
          | cons _ _ => rfl
        cases s with
        | true =>
          have hw : Hid (pw true true q = ([47] : List UInt8) ++ joinS q ++ [47]) := hide (by simp [pw, hne])
          replace hb1 := hide hb1
          clear h0 hne
          go_wp2_with fail
          refine ((unhide J).write [47] (by have := unhide hb1; simp; omega)).mono ?_
          rintro e w1 ⟨rfl, J3⟩
          replace J3 := hide J3
          go_wp2_with fail
          refine ((unhide J3).done).mono ?_
          rintro e w1 ⟨rfl, B3⟩
          replace B3 := hide B3
          go_wp2_with fail
          go_ret
          exact ⟨by rw [unhide hw]; rfl, unhide B3⟩
        | false =>
          have hw : Hid (pw true false q = ([47] : List UInt8) ++ joinS q) := hide (by simp [pw])
          clear h0 hne
          go_wp2_with fail
          refine ((unhide J).done).mono ?_
          rintro e w1 ⟨rfl, B3⟩
          replace B3 := hide B3
          go_wp2_with fail
          go_ret
          exact ⟨by rw [unhide hw]; rfl, unhide B3⟩
      · obtain rfl : k = 0 := by omega
        have hq0 : q = [] := List.length_eq_zero_iff.1 (unhide HN)
        have k0 : ¬ ((0 : Int) < ((0 : Nat) : Int)) := by omega
        have hw : Hid (pw true s q = ([47] : List UInt8) ++ joinS q) := hide (by simp [pw, hq0])
        clear h0 hq0
        cases s with
        | true =>
          go_wp2_with fail
          refine ((unhide J).done).mono ?_
          rintro e w1 ⟨rfl, B3⟩
          replace B3 := hide B3
          go_wp2_with fail
          go_ret
          exact ⟨by rw [unhide hw]; rfl, unhide B3⟩
        | false =>
          go_wp2_with fail
          refine ((unhide J).done).mono ?_
          rintro e w1 ⟨rfl, B3⟩
          replace B3 := hide B3
          go_wp2_with fail
          go_ret
          exact ⟨by rw [unhide hw]; rfl, unhide B3⟩
set_option maxHeartbeats 2000000 in
theorem wr_bare (s : Bool) (q : List (List UInt8)) (n : Nat) (hn : q.length = n) (hn2 : n ≤ 100000000) (a : Option Addr) (cap : Nat) (w : World) (hrow : RowO w a q) (hsz : wt q ≤ 100000000) :
    Calls Tryz.prog 291 #[.agg #[.bool false, .bool s, .slice a n cap]] w fun e w' => e = .returned (S (pw false s q)) ∧ Below w.heap.size w w' := by
  obtain ⟨V, hV, hsz0, g0, g1, hB⟩ := two0 w (.cells #[.bool false, .bool s, .slice a n cap] 234) (.cells #[.pointer none, .slice none 0 0] 335)
  replace hV := hide hV
  generalize hh : w.heap.size = h at *
  have J0 : WJ w V h false s (.slice a n cap) [] := ⟨hB, g0, .inl ⟨Nat.le_refl _, .slice none 0 0, g1, World.ownsRow_nil _ _ _ _, by simp [Value.ownBlock]⟩⟩
  replace J0 := hide J0
  have HROW := hide hrow
  have HH := hide hh
  have HN := hide hn
  clear hB g0 g1 hsz0 hrow hn
  go_enter Tryz.func291, Tryz.ntmps291
  have J1 := J0
  go_wp2_with fail
  rw [unhide hV]
  go_loopw [12] (fun i wr => ∃ k : Nat, k ≤ n ∧ i = .int .i64 k ∧ WJ w wr h false s (.slice a n cap) (([] : List UInt8) ++ joinS (q.take k))) (fun i _ => n - (intOf i).toNat)
  case atStart => exact ⟨0, by omega, rfl, by simpa [joinS] using unhide J1⟩
  case round =>
    obtain ⟨k, hk, rfl, J⟩ := hrel
    by_cases hlt : k < n
    · have j0 : (0 : Int) ≤ (k : Int) := by omega
      have j1 : (k : Int) < (n : Int) := by omega
      obtain ⟨x, hx⟩ : ∃ x, q[k]? = some x := ⟨_, List.getElem?_eq_getElem (by rw [unhide HN]; exact hlt)⟩
      obtain ⟨b, off, rfl, hb, c1⟩ := unhide HROW k x hx
      have c2 : wr.cell? ⟨b, off + k, none⟩ = some (.string (bs x)) := (World.cell?_of_block (J.be.block b (by rw [← unhide HH]; exact hb))).trans c1
      have hjt := hide (join_take q k x hx)
      have hb1 : (joinS (q.take k)).length ≤ 100000000 := Nat.le_trans (join_le _) (Nat.le_trans (wt_take q k) hsz)
      have hb2 : (joinS (q.take (k + 1))).length ≤ 100000000 := Nat.le_trans (join_le _) (Nat.le_trans (wt_take q _) hsz)
      have hb3 : (joinS (q.take k)).length + ((if 0 < k then ([47] : List UInt8) else []).length + x.length) ≤ 100000000 := by
        have := hb2; rw [unhide hjt] at this; simpa using this
      clear hx c1 hb hb2
      by_cases h0 : 0 < k
      · have k0 : (0 : Int) < (k : Int) := by omega
        rw [if_pos h0] at hb3
        replace hb1 := hide hb1
        replace hb3 := hide hb3
        replace J := hide J
        clear h0
        go_wp2_with fail
        refine ((unhide J).write [47] (by have := unhide hb1; simp; omega)).mono ?_
        rintro e w1 ⟨rfl, J3⟩
        replace J3 := hide J3
        go_wp2_with fail
        refine ((unhide J3).write x (by have := unhide hb3; simp at this ⊢; omega)).mono ?_
        rintro e w2 ⟨rfl, J4⟩
        replace J4 := hide J4
        go_wp2_with fail
        refine ⟨⟨k + 1, by omega, rfl, ?_⟩, by simp [intOf]; omega⟩
        rw [unhide hjt, if_pos (by omega)]
        simpa using unhide J4
      · obtain rfl : k = 0 := by omega
        replace hb1 := hide hb1
        replace hb3 := hide hb3
        replace J := hide J
        have c3 : wr.cell? ⟨b, off, none⟩ = some (.string (bs x)) := c2
        have j2 : ¬ ((0 : Int) < ((0 : Nat) : Int)) := by omega
        clear h0 c2
        go_wp2_with fail
        refine ((unhide J).write x (by have := unhide hb3; simp at this ⊢; omega)).mono ?_
        rintro e w2 ⟨rfl, J4⟩
        replace J4 := hide J4
        go_wp2_with fail
        refine ⟨⟨1, by omega, rfl, ?_⟩, by simp [intOf]; omega⟩
        rw [unhide hjt]
        simpa using unhide J4
    · obtain rfl : k = n := by omega
      have j1 : ¬ (k : Int) < (k : Int) := by omega
      have hq : q.take k = q := List.take_of_length_le (by rw [unhide HN]; exact Nat.le_refl _)
      rw [hq] at J
      clear hq
      have hb1 : (joinS q).length ≤ 100000000 := Nat.le_trans (join_le _) hsz
      obtain ⟨e0, e1, e2⟩ := J.cells
      replace J := hide J
      by_cases h0 : 0 < k
      · have k0 : (0 : Int) < (k : Int) := by omega
        have hne : q.isEmpty = false := by
          cases q with
          | nil => have := unhide HN; simp at this; omega
          | cons _ _ => rfl
        cases s with
        | true =>
          have hw : Hid (pw false true q = ([] : List UInt8) ++ joinS q ++ [47]) := hide (by simp [pw, hne])
          replace hb1 := hide hb1
          clear h0 hne
          go_wp2_with fail
          refine ((unhide J).write [47] (by have := unhide hb1; simp; omega)).mono ?_
          rintro e w1 ⟨rfl, J3⟩
          replace J3 := hide J3
          go_wp2_with fail
          refine ((unhide J3).done).mono ?_
          rintro e w1 ⟨rfl, B3⟩
          replace B3 := hide B3
          go_wp2_with fail
          go_ret
          exact ⟨by rw [unhide hw]; rfl, unhide B3⟩
        | false =>
          have hw : Hid (pw false false q = ([] : List UInt8) ++ joinS q) := hide (by simp [pw])
          clear h0 hne
          go_wp2_with fail
          refine ((unhide J).done).mono ?_
          rintro e w1 ⟨rfl, B3⟩
          replace B3 := hide B3
          go_wp2_with fail
          go_ret
          exact ⟨by rw [unhide hw]; rfl, unhide B3⟩
      · obtain rfl : k = 0 := by omega
        have hq0 : q = [] := List.length_eq_zero_iff.1 (unhide HN)
        have k0 : ¬ ((0 : Int) < ((0 : Nat) : Int)) := by omega
        have hw : Hid (pw false s q = ([] : List UInt8) ++ joinS q) := hide (by simp [pw, hq0])
        clear h0 hq0
        cases s with
        | true =>
          go_wp2_with fail
          refine ((unhide J).done).mono ?_
          rintro e w1 ⟨rfl, B3⟩
          replace B3 := hide B3
          go_wp2_with fail
          go_ret
          exact ⟨by rw [unhide hw]; rfl, unhide B3⟩
        | false =>
          go_wp2_with fail
          refine ((unhide J).done).mono ?_
          rintro e w1 ⟨rfl, B3⟩
          replace B3 := hide B3
          go_wp2_with fail
          go_ret
          exact ⟨by rw [unhide hw]; rfl, unhide B3⟩
theorem wr_any (r s : Bool) (q : List (List UInt8)) (n : Nat) (hn : q.length = n) (a : Option Addr) (cap : Nat) (w : World) (hrow : RowO w a q) (hsz : wt q ≤ 100000000) :
    Calls Tryz.prog 291 #[.agg #[.bool r, .bool s, .slice a n cap]] w fun e w' => e = .returned (S (pw r s q)) ∧ Below w.heap.size w w' := by
  have h2 : ∀ q : List (List UInt8), q.length ≤ wt q := by
    intro q
    induction q with
    | nil => simp
    | cons p r ih => simp [wt]; omega
  have := h2 q
  cases r
  · exact wr_bare s q n hn (by omega) a cap w hrow hsz
  · exact wr_root s q n hn (by omega) a cap w hrow hsz
end Go.Proofs.YtlngeaacjbdmhaaGreat.Nm

namespace Go.Proofs.YtlngeaacjbdmhaaGreat.Kr
open Go.RowKit
abbrev I (n : Int) : Value := .int .i64 n
abbrev Cr (u g : Int) : Value := .agg #[I u, I g]
abbrev St (n k m u g l z : Int) : Value := .agg #[I n, I k, I m, I u, I g, I l, I z]
theorem two (w : World) (a b : Obj) : Below w.heap.size w ((w.alloc a).alloc b) := ((Below.refl _ _).alloc (Nat.le_refl _) _).alloc (by simp) _
theorem three (w : World) (a b c : Obj) : Below w.heap.size w (((w.alloc a).alloc b).alloc c) := (two w a b).alloc (by simp; omega) _
theorem Below.step {B : Nat} {u v w : World} (h : Below B u v) (g : Below v.heap.size v w) (hb : B ≤ u.heap.size) : Below B u w := h.trans (g.mono (Nat.le_trans hb h.size))
theorem hide {p : Prop} (h : p) : Hid p := h
theorem unhide {p : Prop} (h : Hid p) : p := h
structure Laid (w v : World) (os : List Obj) : Prop where
  lies : ∀ (i : Nat) (o : Obj), os[i]? = some o → v.heap[w.heap.size + i]? = some o
  below : Below w.heap.size w v
  room : w.heap.size + os.length ≤ v.heap.size
theorem Laid.nil (w : World) : Laid w w [] := ⟨fun i o h => by simp at h, Below.refl _ _, by simp⟩
theorem Laid.step {w v v' : World} {os : List Obj} (h : Laid w v os) (g : Below v.heap.size v v') : Laid w v' os :=
  ⟨fun i o hi => (g.block _ (by have := (List.getElem?_eq_some_iff.1 hi).1; have := h.room; omega)).trans (h.lies i o hi), Below.step h.below g (Nat.le_refl _), Nat.le_trans h.room g.size⟩
theorem Laid.put {w v : World} {os : List Obj} (h : Laid w v os) (hs : v.heap.size = w.heap.size + os.length) (o : Obj) : Laid w (v.alloc o) (os ++ [o]) := by
  refine ⟨fun i x hi => ?_, h.below.alloc (by omega) _, by simp; omega⟩
  by_cases hlt : i < os.length
  · rw [List.getElem?_append_left hlt] at hi
    rw [Below.heap_alloc _ _ _ (by omega)]
    exact h.lies i x hi
  · have h1 := (List.getElem?_eq_some_iff.1 hi).1
    simp at h1
    have : i = os.length := by omega
    subst this
    simp at hi
    subst hi
    rw [← hs]
    exact heap_alloc_new v o
theorem cell_of {W : World} {b : Nat} {cs : Array Value} {t : TypeId} {f : Nat × Nat} (h : W.heap[b]? = some (.cells cs t f)) (i : Nat) : W.cell? ⟨b, i, none⟩ = cs[i]? := by
  simp [World.cell?, h]
theorem frozen_of {W : World} {b : Nat} {cs : Array Value} {t : TypeId} (h : W.heap[b]? = some (.cells cs t)) (i : Nat) : W.frozen? ⟨b, i, none⟩ = false := by
  simp [World.frozen?, h]
theorem heap_set {W : World} {b : Nat} {cs : Array Value} {t : TypeId} {f : Nat × Nat} (h : W.heap[b]? = some (.cells cs t f)) (i : Nat) (v : Value) :
    (W.setCell ⟨b, i, none⟩ v).heap[b]? = some (.cells (cs.setIfInBounds i v) t f) := by
  obtain ⟨hl, he⟩ := Array.getElem?_eq_some_iff.1 h
  simp [World.setCell, Array.getElem?_modify, h]
abbrev StO (n k m u g l z : Int) : Obj := .cells #[I n, I k, I m, I u, I g, I l, I z] 33
theorem Laid.st {w v : World} {os : List Obj} (h : Laid w v os) (i : Nat) {b : Nat} (hb : b = w.heap.size + i) {n k m u g l z : Int} (hi : os[i]? = some (StO n k m u g l z)) :
    v.cell? ⟨b, 0, none⟩ = some (I n) ∧ v.cell? ⟨b, 1, none⟩ = some (I k) ∧ v.cell? ⟨b, 2, none⟩ = some (I m) ∧ v.cell? ⟨b, 3, none⟩ = some (I u) ∧ v.cell? ⟨b, 4, none⟩ = some (I g) ∧ v.cell? ⟨b, 5, none⟩ = some (I l) ∧ v.cell? ⟨b, 6, none⟩ = some (I z) ∧ ∀ j, v.frozen? ⟨b, j, none⟩ = false := by
  have := h.lies i _ hi
  rw [← hb] at this
  refine ⟨?_, ?_, ?_, ?_, ?_, ?_, ?_, frozen_of this⟩ <;> rw [cell_of this] <;> rfl
theorem Laid.mode {w v : World} {os : List Obj} (h : Laid w v os) (i : Nat) {b : Nat} (hb : b = w.heap.size + i) {n k m u g l z : Int} (hi : os[i]? = some (StO n k m u g l z)) (x : Int) :
    Laid w (v.setCell ⟨b, 2, none⟩ (I x)) (os.set i (StO n k x u g l z)) := by
  have h1 := h.lies i _ hi
  rw [← hb] at h1
  have hr := h.room
  have hil := (List.getElem?_eq_some_iff.1 hi).1
  refine ⟨fun j o hj => ?_, ?_, by simpa using h.room⟩
  · by_cases e : j = i
    · subst e
      rw [List.getElem?_set_self hil] at hj
      cases hj
      rw [← hb, heap_set h1]
      rfl
    · rw [List.getElem?_set_ne (by omega)] at hj
      rw [Below.heap_setCell _ _ _ _ (by simp; omega)]
      exact h.lies j o hj
  · exact h.below.setCell (by simp; omega) _
theorem bits_any (cu cg n k m u g l z : Int) (w : World) : Calls Tryz.prog 296 #[Cr cu cg, St n k m u g l z] w fun e w' => e = .returned (I (cnt cu cg m u g)) ∧ Below w.heap.size w w' := by
  go_enter Tryz.func296, Tryz.ntmps296
  go_wp2_with fail
  all_goals go_ret
  · rename_i h0
    exact ⟨by simp_all [cnt], two _ _ _⟩
  · rename_i h0 h1
    exact ⟨by simp_all [cnt], two _ _ _⟩
  · rename_i h0 h1 h2
    exact ⟨by simp_all [cnt], two _ _ _⟩
  · rename_i h0 h1 h2
    exact ⟨by simp_all [cnt], two _ _ _⟩
theorem may_any (cu cg n k m u g l z wt : Int) (w : World) : Calls Tryz.prog 257 #[Cr cu cg, St n k m u g l z, I wt] w fun e w' => e = .returned (.bool (may cu cg m u g wt)) ∧ Below w.heap.size w w' := by
  go_enter Tryz.func257, Tryz.ntmps257
  go_wp2_with fail
  refine (bits_any _ _ _ _ _ _ _ _ _ _).mono ?_
  rintro e w1 ⟨rfl, B1⟩
  go_wp2_with fail
  go_ret
  refine ⟨?_, Below.step (two _ _ _) B1 (Nat.le_refl _)⟩
  show Ending.returned (Value.bool _) = _
  rw [and7, andNot_zero _ (lo_lt _)]
  rfl
theorem masked_any (m : Int) (w : World) : Calls Tryz.prog 270 #[I m] w fun e w' => e = .returned (I (bits .and .i64 m 4095)) ∧ w' = w := by
  go_enter Tryz.func270, Tryz.ntmps270
  go_wp2_with fail
  go_ret
  exact ⟨rfl, rfl⟩
end Go.Proofs.YtlngeaacjbdmhaaGreat.Kr

namespace Go.Proofs.YtlngeaacjbdmhaaGreat.Wl
open Go.RowKit
structure Wd (lo N mb : Nat) (W : World) (t m : Nat) (E : En) : Prop where
  tp : Tp lo N W t E.T
  wk : Wk 880 E.T
  ls : Mt.Ls mb W m E.rt E.md E.es
  el : Mt.Eld E.md E.es
  le : E.es.length ≤ 1000
  wf : ∀ p ∈ E.es, (kl p.top).wf = true ∧ (kl p.an).wf = true
def wkC (E : En) (t m : Nat) (am an : Int) (s : Nat) : Array Value := #[P0 t, P0 m, I E.cu, I E.cg, I E.rm, I E.rn, I am, I an, I (s : Int)]
def Wn (W : World) (b t m : Nat) (E : En) (am an : Int) (s : Nat) : Prop := W.heap[b]? = some (.cells (wkC E t m am an s) 238)
section
variable {lo N mb : Nat} {W W' : World} {t m b : Nat} {E : En} {am an : Int} {s : Nat}
theorem Wd.below (h : Wd lo N mb W t m E) (g : Below W.heap.size W W') : Wd lo N mb W' t m E := ⟨h.tp.below g, h.wk, h.ls.below g, h.el, h.le, h.wf⟩
theorem Wn.below (h : Wn W b t m E am an s) (g : Below W.heap.size W W') : Wn W' b t m E am an s := (g.block b (lt_of_heap h)).trans h
theorem Wn.lt (h : Wn W b t m E am an s) : b < W.heap.size := lt_of_heap h
theorem Wn.cells (h : Wn W b t m E am an s) : W.cell? ⟨b, 0, none⟩ = some (P0 t) ∧ W.cell? ⟨b, 1, none⟩ = some (P0 m) ∧ W.cell? ⟨b, 2, none⟩ = some (I E.cu) ∧ W.cell? ⟨b, 3, none⟩ = some (I E.cg) ∧ W.cell? ⟨b, 4, none⟩ = some (I E.rm) ∧ W.cell? ⟨b, 5, none⟩ = some (I E.rn) ∧ W.cell? ⟨b, 6, none⟩ = some (I am) ∧ W.cell? ⟨b, 7, none⟩ = some (I an) ∧ W.cell? ⟨b, 8, none⟩ = some (I (s : Int)) ∧ ∀ i, W.frozen? ⟨b, i, none⟩ = false := by
  refine ⟨?_, ?_, ?_, ?_, ?_, ?_, ?_, ?_, ?_, frozen_of h⟩ <;> (rw [cell_of h]; rfl)
theorem stat_shape (T : Tr) (n : Int) : ∃ a mo u g l z, T.stat n = .agg #[I a, I (T.kindOf n), I mo, I u, I g, I l, I z] ∧ ∀ x, T.nd n = some x → mo = x.mode ∧ u = x.uid ∧ g = x.gid := by
  unfold Tr.stat Tr.kindOf
  cases h : T.nd n with
  | none => exact ⟨0, 0, 0, 0, 0, 0, rfl, fun x hx => by cases hx⟩
  | some x => exact ⟨_, _, _, _, _, _, rfl, fun y hy => by cases hy; exact ⟨rfl, rfl, rfl⟩⟩
theorem stat_W (h : Wd lo N mb W t m E) {n : Int} (hn : (kl n).wf = true) {v : Value} {f : Bool} (hv : E.T.stat n = v) (hf : (E.T.nd n).isSome = f) (V : World) (g : Below W.heap.size W V) :
    Calls Tryz.prog 37 #[P0 t, I n] V fun e w' => e = .returned (.tuple #[v, .bool f]) ∧ Hid (Below V.heap.size V w') := by
  obtain ⟨q, p, nb, ev, h1⟩ := h.tp
  rw [← hv, ← hf]
  exact stat_any (h1.below g) h.wk (by omega) hn
theorem cell_be {a : Addr} {v : Value} (h : W.cell? a = some v) (g : Below W.heap.size W W') : W'.cell? a = some v := by
  have hx : a.block < W.heap.size := by
    rcases Nat.lt_or_ge a.block W.heap.size with h1 | h1
    · exact h1
    · simp [World.cell?, Array.getElem?_eq_none h1] at h
  rw [← h]
  exact World.cell?_of_block (g.block a.block hx)
def zst : Obj := .cells #[I 0, I 0, I 0, I 0, I 0, I 0, I 0] 33
theorem below7 {B : Nat} {u X : World} (h : Below B u X) {b : Nat} (hb : B ≤ b) (v0 v1 v2 v3 v4 v5 v6 : Value) : Below B u (((((((X.setCell ⟨b, 0, none⟩ v0).setCell ⟨b, 1, none⟩ v1).setCell ⟨b, 2, none⟩ v2).setCell ⟨b, 3, none⟩ v3).setCell ⟨b, 4, none⟩ v4).setCell ⟨b, 5, none⟩ v5).setCell ⟨b, 6, none⟩ v6) :=
  ((((((h.setCell (p := ⟨b, 0, none⟩) hb _).setCell (p := ⟨b, 1, none⟩) hb _).setCell (p := ⟨b, 2, none⟩) hb _).setCell (p := ⟨b, 3, none⟩) hb _).setCell (p := ⟨b, 4, none⟩) hb _).setCell (p := ⟨b, 5, none⟩) hb _).setCell (p := ⟨b, 6, none⟩) hb _
theorem set7 {X : World} {b : Nat} {t : TypeId} {a0 a1 a2 a3 a4 a5 a6 : Value} (h : X.heap[b]? = some (.cells #[a0, a1, a2, a3, a4, a5, a6] t)) (v0 v1 v2 v3 v4 v5 v6 : Value) :
    ∃ Y, ((((((X.setCell ⟨b, 0, none⟩ v0).setCell ⟨b, 1, none⟩ v1).setCell ⟨b, 2, none⟩ v2).setCell ⟨b, 3, none⟩ v3).setCell ⟨b, 4, none⟩ v4).setCell ⟨b, 5, none⟩ v5).setCell ⟨b, 6, none⟩ v6 = Y ∧ Y.heap[b]? = some (.cells #[v0, v1, v2, v3, v4, v5, v6] t) ∧ ∀ B u, Below B u X → B ≤ b → Below B u Y :=
  ⟨_, rfl, by rw [heap_set (heap_set (heap_set (heap_set (heap_set (heap_set (heap_set h 0 _) 1 _) 2 _) 3 _) 4 _) 5 _) 6 _]; rfl, fun _ _ h1 h2 => below7 h1 h2 _ _ _ _ _ _ _⟩
theorem stat_ahead (h : Wd lo N mb W t m E) {n : Int} (hn : (kl n).wf = true) {v : Value} {f : Bool} (hv : E.T.stat n = v) (hf : (E.T.nd n).isSome = f) (V : World) (g : Below W.heap.size W V) :
    Calls Tryz.prog 37 #[P0 t, I n] (V.alloc zst).drew fun e w' => e = .returned (.tuple #[v, .bool f]) ∧ Hid (Below V.heap.size V w') ∧ w'.heap[V.heap.size]? = some zst := by
  have g1 : Below V.heap.size V (V.alloc zst).drew := below_drew ((Below.refl _ V).alloc (Nat.le_refl _) _)
  refine (stat_W h hn hv hf (V.alloc zst).drew (g.trans (g1.mono g.size))).mono ?_
  rintro e w' ⟨rfl, h2⟩
  refine ⟨rfl, g1.trans ((unhide h2).mono (by show V.heap.size ≤ (V.alloc zst).heap.size; simp)), ((unhide h2).block _ (by show V.heap.size < (V.alloc zst).heap.size; simp)).trans ?_⟩
  exact heap_alloc_new V zst
theorem stat_behind (h : Wd lo N mb W t m E) {n : Int} (hn : (kl n).wf = true) {v : Value} {f : Bool} (hv : E.T.stat n = v) (hf : (E.T.nd n).isSome = f) (V : World) (g : Below W.heap.size W V) :
    Calls Tryz.prog 37 #[P0 t, I n] V.drew fun e w' => e = .returned (.tuple #[v, .bool f]) ∧ Hid (Below V.heap.size V w') := by
  refine (stat_W h hn hv hf V.drew (below_drew g)).mono ?_
  rintro e w' ⟨rfl, h2⟩
  exact ⟨rfl, (below_drew (Below.refl _ V)).trans (unhide h2)⟩
set_option maxHeartbeats 1000000 in
theorem kind_any (D : Wd lo N mb W t m E) (hw : Wn W b t m E am an s) (pm pn : Int) (hn : (kl pn).wf = true) :
    Calls Tryz.prog 236 #[P0 b, .agg #[I pm, I pn]] W fun e w' => e = .returned (I (E.T.kindOf pn)) ∧ Below W.heap.size W w' := by
  obtain ⟨a, mo, u, g, l, z, hst, -⟩ := stat_shape E.T pn
  obtain ⟨f, hf⟩ : ∃ f, (E.T.nd pn).isSome = f := ⟨_, rfl⟩
  obtain ⟨K, hK⟩ : ∃ K, K = E.T.kindOf pn := ⟨_, rfl⟩
  rw [← hK] at hst ⊢
  obtain ⟨c0, -⟩ := hw.cells
  obtain ⟨V, hV, g1, hB⟩ : ∃ V, W.alloc (.cells #[I pm, I pn] 50) = V ∧ V.heap[W.heap.size]? = some (.cells #[I pm, I pn] 50) ∧ Below W.heap.size W V := ⟨_, rfl, heap_alloc_new W _, (Below.refl _ W).alloc (Nat.le_refl _) _⟩
  have v0 := cell_be c0 hB
  have v1 : V.cell? ⟨W.heap.size, 1, none⟩ = some (I pn) := by rw [cell_of g1]; rfl
  have H1 := hide (stat_ahead D hn hst hf V hB)
  have H2 := hide (stat_behind D hn hst hf V hB)
  have HB := hide hB
  have hl := lt_of_heap g1
  have hbl := hw.lt
  have n1 : b ≠ V.heap.size := by omega
  have n2 : W.heap.size ≠ V.heap.size := by omega
  have n3 : V.heap.size ≠ b := by omega
  have n4 : V.heap.size ≠ W.heap.size := by omega
  clear D hw hst hf hK hn hB g1 c0
  unfold zst at H1
  go_enter Tryz.func236, Tryz.ntmps236
  go_wp2_with fail
  go_region_held3 (fun w' => w'.cell? ⟨b, 0, none⟩ = some (P0 t) ∧ w'.cell? ⟨W.heap.size, 1, none⟩ = some (I pn)) (go_keep)
    (first
      | (go_at_call 37; refine (unhide H1).mono ?_; rintro e w2 ⟨rfl, HB2, hz⟩; obtain ⟨r0, r1, r2, r3, r4, r5, r6, rf⟩ := cells7 hz; have HZ := hide hz; clear hz; have q0 := cell_be v0 (unhide HB2); have q1 := cell_be v1 (unhide HB2))
      | (go_at_call 37; refine (unhide H2).mono ?_; rintro e w2 ⟨rfl, HB2⟩; have q0 := cell_be v0 (unhide HB2); have q1 := cell_be v1 (unhide HB2)))
  · rename_i hHeld
    clear hHeld
    have e1 : (w2.alloc (.cells #[I a, I K, I mo, I u, I g, I l, I z] 33)).cell? ⟨w2.heap.size, 1, none⟩ = some (I K) := by rw [cell_of (heap_alloc_new _ _)]; rfl
    have HX := hide (((unhide HB).trans ((unhide HB2).mono (Nat.le_of_lt hl))).alloc (Nat.le_trans (Nat.le_of_lt hl) (unhide HB2).size) (.cells #[I a, I K, I mo, I u, I g, I l, I z] 33))
    generalize w2.alloc (.cells #[I a, I K, I mo, I u, I g, I l, I z] 33) = X at *
    go_wp2_with fail
    go_ret
    exact ⟨rfl, unhide HX⟩
  · rename_i hHeld
    clear hHeld
    obtain ⟨Y, hY, hYb, hYB⟩ := set7 (unhide HZ) (I a) (I K) (I mo) (I u) (I g) (I l) (I z)
    rw [hY]
    have e1 : Y.cell? ⟨V.heap.size, 1, none⟩ = some (I K) := by rw [cell_of hYb]; rfl
    have HX := hide (hYB _ _ ((unhide HB).trans ((unhide HB2).mono (Nat.le_of_lt hl))) (Nat.le_of_lt hl))
    clear hY hYb hYB r0 r1 r2 r3 r4 r5 r6 rf
    go_wp2_with fail
    go_ret
    exact ⟨rfl, unhide HX⟩
end
end Go.Proofs.YtlngeaacjbdmhaaGreat.Wl
