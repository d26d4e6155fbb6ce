/-
  A walk as plain data: what each part leads to, what a symlink makes of a path, where the whole ends.
-/
import Derived.Test.YthmdipfdloennaaLp03
import Derived.Test.YthmdipfdloennaaLp16
import Derived.Test.YthmdipfdloennaaRows
import Derived.WalkKit
import Derived.WalkSpells
import Derived.Deep.RegionHeld3
import Derived.Deep.DrawnRows
import Derived.Deep.QuietTactic
import Derived.BigQuiet
import Derived.Deep.OwnRows
import Derived.Laws.CopyOwn
import Derived.ArgAppend
import Derived.Test.YthmdipfdloennaaLp06
import Derived.Deep.Draws
import Derived.Lib.Bytealg
import Derived.Lib.Strings
import Derived.Laws.Strings3
import Derived.Lib.Builder
import Derived.Lib.AppendStr
import Derived.Lib.UnsafeStr
import Derived.Laws.Externs
namespace Go.Proofs.Ythmdipfdloennaa.Wl
open Go.RowKit

/-- Who walks, and in what. -/
structure En where
  T : Tr
  rt : Int
  md : Int
  es : Mt.Ents
  cu : Int
  cg : Int
  rm : Int
  rn : Int
  follow : Bool
def En.down (E : En) (m n : Int) : Int × Int := Mt.down E.md E.es m n
def En.may (E : En) (n : Int) : Bool := match E.T.nd n with | some x => Kr.may E.cu E.cg x.mode x.uid x.gid 1 | none => false
def En.refusal (E : En) (n : Int) : Int := if E.T.kindOf n = 1 then (if E.may n = true then 0 else 34) else 37
/-- Up, at most so many steps. -/
def upF (es : Mt.Ents) : Nat → Int → Int → Int × Int
  | 0, m, n => (m, n)
  | k + 1, m, n => if Mt.upIs es m n = true then upF es k (Mt.upM es m n) (Mt.upN es m n) else (m, n)
/-- How many steps are enough. -/
def upK (es : Mt.Ents) (m : Int) : Nat := es.countP fun p => decide (p.n ≤ m)
def up (es : Mt.Ents) (m n : Int) : Int × Int := upF es (upK es m) m n
theorem up_less {md : Int} {es : Mt.Ents} (h : Mt.Eld md es) {m n : Int} (hu : Mt.upIs es m n = true) : Mt.upM es m n < m ∧ upK es (Mt.upM es m n) < upK es m := by
  have h1 : Mt.any es (Mt.isN m) = true := by
    unfold Mt.upIs at hu
    simp at hu
    exact hu.1
  obtain ⟨h2, h3⟩ := Mt.fst_mem h1
  simp only [Mt.isN, decide_eq_true_eq] at h3
  have h4 := h _ h2
  have e : Mt.upM es m n = (Mt.fst es (Mt.isN m)).am := by rw [Mt.upM, if_pos hu]
  rw [e]
  refine ⟨by omega, ?_⟩
  unfold upK
  have h5 : es.countP (fun p => decide (p.n ≤ (Mt.fst es (Mt.isN m)).am)) ≤ es.countP (fun p => decide (p.n < m)) := List.countP_mono_left fun p _ hp => by
    simp at hp ⊢
    omega
  have h6 : es.countP (fun p => decide (p.n < m)) < es.countP (fun p => decide (p.n ≤ m)) := by
    clear h5 e h4 hu h1 h
    generalize Mt.fst es (Mt.isN m) = q at h2 h3
    induction es with
    | nil => simp at h2
    | cons x l ih =>
      rw [List.countP_cons, List.countP_cons]
      have hm : l.countP (fun p => decide (p.n < m)) ≤ l.countP (fun p => decide (p.n ≤ m)) := List.countP_mono_left fun p _ hp => by
        simp at hp ⊢
        omega
      rcases List.mem_cons.1 h2 with rfl | h2
      · rw [if_neg (by simp; omega), if_pos (by simp; omega)]
        omega
      · have := ih h2
        split <;> split <;> simp_all <;> omega
  omega
theorem up_stop {es : Mt.Ents} {m n : Int} (hu : Mt.upIs es m n = false) (k : Nat) : upF es k m n = (m, n) := by
  cases k with
  | zero => rfl
  | succ k => rw [upF, hu]; rfl
theorem up_same {md : Int} {es : Mt.Ents} (h : Mt.Eld md es) : ∀ (k k' : Nat) (m n : Int), upK es m ≤ k → upK es m ≤ k' → upF es k m n = upF es k' m n := by
  intro k
  induction k with
  | zero =>
    intro k' m n hk _
    cases hu : Mt.upIs es m n with
    | false => rw [up_stop hu, up_stop hu]
    | true => have := (up_less h hu).2; omega
  | succ k ih =>
    intro k' m n hk hk'
    cases hu : Mt.upIs es m n with
    | false => rw [up_stop hu, up_stop hu]
    | true =>
      have := (up_less h hu).2
      cases k' with
      | zero => omega
      | succ j =>
        rw [upF, upF, hu]
        simp only [if_true]
        exact ih _ _ _ (by omega) (by omega)
theorem up_step {md : Int} {es : Mt.Ents} (h : Mt.Eld md es) {m n : Int} (hu : Mt.upIs es m n = true) : up es m n = up es (Mt.upM es m n) (Mt.upN es m n) := by
  have h1 := (up_less h hu).2
  obtain ⟨j, hj⟩ : ∃ j, upK es m = j + 1 := ⟨upK es m - 1, by omega⟩
  rw [up, hj, upF, hu]
  simp only [if_true]
  exact up_same h _ _ _ _ (by omega) (Nat.le_refl _)
theorem up_end {es : Mt.Ents} {m n : Int} (hu : Mt.upIs es m n = false) : up es m n = (m, n) := up_stop hu _

abbrev bs (l : List UInt8) : ByteArray := ⟨l.toArray⟩
abbrev Bytes := List UInt8
def isDots (p : Bytes) : Bool := p == [46] || p == [46, 46]
def En.dots (E : En) (p : Bytes) (am an : Int) : Int × Int :=
  if p = [46] ∨ (am = E.rm ∧ an = E.rn) then (am, an) else E.down (up E.es am an).1 (E.T.up (up E.es am an).2)
def En.find (E : En) (p : Bytes) (am an : Int) : Option (Int × Int) := (E.T.findN an (bs p)).map fun n => E.down am n
/-- The path that a symlink makes: why not, or whether it begins and ends with a slash, and its parts. -/
structure Pa where
  root : Bool
  slash : Bool
  parts : List Bytes
def onE (fol : Nat) (text : Bytes) (slash : Bool) (rest : List Bytes) : Int :=
  if fol = 40 then 46 else if text = [] then 32 else if 4096 < text.length + (Nm.pw false slash rest).length then 45 else Nm.err text
def onP (text : Bytes) (slash : Bool) (rest : List Bytes) : Pa := ⟨Nm.rt text, slash || (Nm.sl text && rest.isEmpty), Nm.ps text ++ rest⟩
/-- What a walk came to. -/
structure Fd where
  dm : Int
  dn : Int
  last : Bytes
  am : Int
  an : Int
  has : Bool
  slash : Bool
def Fd.v (f : Fd) : Value := .agg #[I f.dm, I f.dn, .string (bs f.last), I f.am, I f.an, .bool f.has, .bool f.slash]
def Fd.none : Fd := ⟨0, 0, [], 0, 0, false, false⟩
/-- Where a path leads: another path, or an end; where it is by then, and how many parts were looked at. -/
structure Re where
  next : Option Pa
  f : Fd
  why : Int
  am : Int
  an : Int
  steps : Nat
def En.endF (E : En) (dm dn : Int) (last : Bytes) (am an : Int) (slash : Bool) : Fd :=
  if slash = true ∧ E.T.kindOf an ≠ 1 then Fd.none else if last = [] then ⟨am, an, last, am, an, true, slash⟩ else ⟨dm, dn, last, am, an, true, slash⟩
def En.endE (E : En) (an : Int) (slash : Bool) : Int := if slash = true ∧ E.T.kindOf an ≠ 1 then 37 else 0
def missF (p : Bytes) (rest : List Bytes) (slash : Bool) (am an : Int) : Fd := if rest = [] then ⟨am, an, p, 0, 0, false, slash⟩ else Fd.none
def missE (rest : List Bytes) : Int := if rest = [] then 0 else 32
/-- Is a symlink at to followed? -/
def En.goes (E : En) (n : Int) (rest : List Bytes) (slash : Bool) : Bool := decide (E.T.kindOf n = 3) && (!rest.isEmpty || E.follow || slash)
def En.text (E : En) (n : Int) : Bytes := (E.T.textOf n).data.toList
def En.par (E : En) (fol : Nat) (slash : Bool) : List Bytes → Int → Int → Bytes → Int → Int → Nat → Re
  | [], dm, dn, last, am, an, s => ⟨none, E.endF dm dn last am an slash, E.endE an slash, am, an, s⟩
  | p :: rest, dm, dn, _, am, an, s =>
    if E.refusal an = 0 then
      if isDots p = true then E.par fol slash rest dm dn [] (E.dots p am an).1 (E.dots p am an).2 (s + 1)
      else match E.find p am an with
        | none => ⟨none, missF p rest slash am an, missE rest, am, an, s + 1⟩
        | some t => if E.goes t.2 rest slash = true then
            (if onE fol (E.text t.2) slash rest = 0 then ⟨some (onP (E.text t.2) slash rest), Fd.none, 0, am, an, s + 1⟩ else ⟨none, Fd.none, onE fol (E.text t.2) slash rest, am, an, s + 1⟩)
          else E.par fol slash rest am an p t.1 t.2 (s + 1)
    else ⟨none, Fd.none, E.refusal an, am, an, s + 1⟩
/-- Where a path is begun. -/
def En.beg (E : En) (p : Pa) (am an : Int) : Int × Int := if p.root = true then (E.rm, E.rn) else (am, an)
def En.one (E : En) (fol : Nat) (p : Pa) (am an : Int) (s : Nat) : Re := E.par fol p.slash p.parts (E.beg p am an).1 (E.beg p am an).2 [] (E.beg p am an).1 (E.beg p am an).2 s
/-- k: how many more may be followed. -/
def En.run (E : En) : Nat → Pa → Int → Int → Nat → Re
  | 0, p, am, an, s => E.one 40 p am an s
  | k + 1, p, am, an, s => match (E.one (40 - (k + 1)) p am an s).next with
    | none => E.one (40 - (k + 1)) p am an s
    | some q => E.run k q (E.one (40 - (k + 1)) p am an s).am (E.one (40 - (k + 1)) p am an s).an (E.one (40 - (k + 1)) p am an s).steps
/-- At the last path no symlink is followed. -/
theorem En.par_last (E : En) (slash : Bool) : ∀ (ps : List Bytes) (dm dn : Int) (last : Bytes) (am an : Int) (s : Nat), (E.par 40 slash ps dm dn last am an s).next = none := by
  intro ps
  induction ps with
  | nil => intros; rfl
  | cons p rest ih =>
    intro dm dn last am an s
    unfold En.par
    split
    · split
      · exact ih _ _ _ _ _ _
      · split
        · rfl
        · split
          · rw [if_neg (by simp [onE])]
          · exact ih _ _ _ _ _ _
    · rfl
/-- A place: a live node under a mount that is there. -/
def En.place (E : En) (m n : Int) : Bool := (E.T.nd n).isSome && Mt.rootIs E.es m
end Go.Proofs.Ythmdipfdloennaa.Wl

/-
  Blocks, rows and what a store or an append leaves of them; rows of strings; texts as lists of bytes.
-/
namespace Go.Proofs.Ythmdipfdloennaa.Nm
open Go.RowKit

theorem hide {p : Prop} (h : p) : Hid p := h
theorem unhide {p : Prop} (h : Hid p) : p := h
theorem putAll {w : World} (o : Obj) (h : Nat) (hh : h = w.heap.size) : (w.alloc o).heap[h]? = some o := by
  subst hh; exact heap_alloc_new w o
theorem lt_of_heap {W : World} {k : Nat} {o : Obj} (e : W.heap[k]? = some o) : k < W.heap.size := (Array.getElem?_eq_some_iff.1 e).1
theorem below_dn {B : Nat} {u w : World} (h : Below B u w) (m : Nat) : Below B u (w.drewN m) := ⟨h.os, h.tape, h.output, h.size, h.block⟩
theorem below_drew {B : Nat} {u w : World} (h : Below B u w) : Below B u w.drew := ⟨h.os, h.tape, h.output, h.size, h.block⟩

/-- The cells of a block that is known. -/
theorem cell_of {W : World} {b : Nat} {cs : Array Value} {t : TypeId} {f : Nat × Nat} (h : W.heap[b]? = some (.cells cs t f)) (i : Nat) : W.cell? ⟨b, i, none⟩ = cs[i]? := by
  simp [World.cell?, h]
theorem frozen_of {W : World} {b : Nat} {cs : Array Value} {t : TypeId} (h : W.heap[b]? = some (.cells cs t)) (i : Nat) : W.frozen? ⟨b, i, none⟩ = false := by
  simp [World.frozen?, h]
/-- A store into a block that is known. -/
theorem heap_set {W : World} {b : Nat} {cs : Array Value} {t : TypeId} {f : Nat × Nat} (h : W.heap[b]? = some (.cells cs t f)) (i : Nat) (v : Value) :
    (W.setCell ⟨b, i, none⟩ v).heap[b]? = some (.cells (cs.setIfInBounds i v) t f) := by
  obtain ⟨hl, he⟩ := Array.getElem?_eq_some_iff.1 h
  simp [World.setCell, Array.getElem?_modify, h]
theorem get_set {α : Type} {xs : List α} {i : Nat} {x : α} (hi : xs[i]? = some x) (y : α) : (xs.set i y)[i]? = some y := by
  have := (List.getElem?_eq_some_iff.1 hi).1
  simp [this]

theorem own_ne {W : World} {base : Nat} {e : TypeId} {s n k : Nat} {v : Value} {xs : List Value} {o : Obj} (h : W.ownsRow base e s v n xs) (ho : W.heap[k]? = some o) (hne : ∀ cur, o ≠ .cells cur e (0, 0)) : some k ≠ v.ownBlock := by
  obtain ⟨-, ⟨rfl, hz⟩ | ⟨g, cap, cur, rfl, hgb, hgg, hcap, hcm, hcs, htk⟩⟩ := h
  · simp [Value.ownBlock]
  · simp only [Value.ownBlock, ne_eq, Option.some.injEq]
    rintro rfl
    rw [hgg] at ho
    exact hne cur (Option.some.inj ho).symm
theorem own_keep {W W' : World} {base : Nat} {e : TypeId} {s n : Nat} {v : Value} {xs : List Value} (h : W.ownsRow base e s v n xs) (hb : ∀ (k : Nat) (cur : Array Value), W.heap[k]? = some (Obj.cells cur e (0, 0)) → W'.heap[k]? = W.heap[k]?) : W'.ownsRow base e s v n xs := by
  obtain ⟨h0, h1⟩ := h
  refine ⟨h0, ?_⟩
  rcases h1 with h1 | ⟨g, cap, cur, h1, h2, h3, h4⟩
  · exact .inl h1
  · exact .inr ⟨g, cap, cur, h1, h2, (hb g cur h3).trans h3, h4⟩
theorem own_form {W : World} {base : Nat} {e : TypeId} {s n : Nat} {v : Value} {xs : List Value} (h : W.ownsRow base e s v n xs) : ∃ a cap, v = .slice a n cap := by
  obtain ⟨-, ⟨rfl, hz⟩ | ⟨g, cap, cur, rfl, _⟩⟩ := h
  · exact ⟨none, 0, by rw [hz]⟩
  · exact ⟨_, _, rfl⟩
theorem own_open {W : World} {base : Nat} {e : TypeId} {s n : Nat} {v : Value} {xs : List Value} (h : W.ownsRow base e s v n xs) (hn : n ≠ 0) :
    ∃ g cap cur, v = .slice (some ⟨g, 0, none⟩) n cap ∧ base ≤ g ∧ W.heap[g]? = some (.cells cur e) ∧ n ≤ cap ∧ cap ≤ maxLen ∧ cur.size = cap * s ∧ ∀ (j : Nat) (u : Value), xs[j]? = some u → W.cell? ⟨g, j, none⟩ = some u := by
  obtain ⟨hl, ⟨rfl, hz⟩ | ⟨g, cap, cur, rfl, hgb, hgg, hcap, hcm, hcs, htk⟩⟩ := h
  · exact absurd hz hn
  · refine ⟨g, cap, cur, rfl, hgb, hgg, hcap, hcm, hcs, fun j u hj => ?_⟩
    have hj2 := (List.getElem?_eq_some_iff.1 hj).1
    rw [cell_of hgg, ← hj, ← htk, List.getElem?_take_of_lt (by omega)]
    simp

theorem own_base {W : World} {base base' : Nat} {e : TypeId} {s n : Nat} {v : Value} {xs : List Value} (h : W.ownsRow base' e s v n xs) (hb : base ≤ base') : W.ownsRow base e s v n xs := by
  obtain ⟨h0, h1 | ⟨g, cap, cur, h1, h2, h3⟩⟩ := h
  · exact ⟨h0, .inl h1⟩
  · exact ⟨h0, .inr ⟨g, cap, cur, h1, Nat.le_trans hb h2, h3⟩⟩
theorem own_addr {W : World} {base : Nat} {e : TypeId} {s n m cap : Nat} {a : Option Addr} {xs : List Value} (h : W.ownsRow base e s (.slice a m cap) n xs) : ∃ g, (a = none ∧ m = 0 ∧ cap = 0) ∨ a = some ⟨g, 0, none⟩ := by
  obtain ⟨-, ⟨e1, hz⟩ | ⟨g, cap', cur, e1, _⟩⟩ := h
  · simp only [Value.slice.injEq] at e1; obtain ⟨rfl, rfl, rfl⟩ := e1; exact ⟨0, .inl ⟨rfl, rfl, rfl⟩⟩
  · simp only [Value.slice.injEq] at e1; obtain ⟨rfl, rfl, rfl⟩ := e1; exact ⟨g, .inr rfl⟩
theorem below_grown {base : Nat} {w W W' : World} {e : TypeId} {s n : Nat} {v : Value} {xs : List Value} (hB : Below base w W) (h : W.ownsRow base e s v n xs) (g : W.grownBy W' v.ownBlock) (hb : base ≤ W.heap.size) : Below base w W' := by
  refine ⟨g.os.trans hB.os, g.tape.trans hB.tape, g.output.trans hB.output, ?_, ?_⟩
  · have := g.size; have := hB.size; omega
  · intro k hk
    have h1 : some k ≠ v.ownBlock := by
      intro e
      obtain ⟨-, ⟨rfl, _⟩ | ⟨g', cap, cur, rfl, hgb, _⟩⟩ := h
      · simp [Value.ownBlock] at e
      · simp [Value.ownBlock] at e; omega
    rw [g.block k (by omega) h1]
    exact hB.block k hk

theorem info9 : (Try.prog.info? 9).map (fun i => (i.zero, i.size, i.bytes)) = some (some (.string ByteArray.empty), 1, 16) := by kernel_rfl
theorem info5 : (Try.prog.info? 5).map (fun i => (i.zero, i.size, i.bytes)) = some (some (.int .u8 0), 1, 1) := by kernel_rfl
/-- A text as a string. -/
abbrev bs (l : List UInt8) : ByteArray := ⟨l.toArray⟩
abbrev S (l : List UInt8) : Value := .string (bs l)
abbrev strs (l : List (List UInt8)) : List Value := l.map S
theorem bs_data (s : ByteArray) : bs s.data.toList = s := rfl
theorem bs_inj {a b : List UInt8} (h : bs a = bs b) : a = b := by
  have := congrArg (fun x => x.data.toList) h
  simpa using this
/-- A row of strings. -/
def RowO (W : World) (pa : Option Addr) (kl : List (List UInt8)) : Prop := ∀ (k : Nat) (s : List UInt8), kl[k]? = some s → ∃ b off, pa = some ⟨b, off, none⟩ ∧ b < W.heap.size ∧ W.cell? ⟨b, off + k, none⟩ = some (.string (bs s))
theorem RowO.below {W W' : World} {pa : Option Addr} {kl : List (List UInt8)} (h : RowO W pa kl) (g : Below W.heap.size W W') : RowO W' pa kl := fun k s hk => by
  obtain ⟨b, off, h1, h2, h3⟩ := h k s hk
  exact ⟨b, off, h1, Nat.lt_of_lt_of_le h2 g.size, (World.cell?_of_block (g.block b h2)).trans h3⟩
theorem RowO.of_own {W : World} {base : Nat} {a : Option Addr} {m cap n : Nat} {ks : List (List UInt8)} (h : W.ownsRow base 9 1 (.slice a m cap) n (strs ks)) : RowO W a ks := fun k s hk => by
  have hl := h.1
  have hk1 := (List.getElem?_eq_some_iff.1 hk).1
  simp at hl
  obtain ⟨g, cap', cur, e1, _, hg, _, _, _, hx⟩ := own_open h (by omega)
  simp only [Value.slice.injEq] at e1
  refine ⟨g, 0, e1.1, lt_of_heap hg, ?_⟩
  rw [Nat.zero_add]
  exact hx _ _ (by simp [strs, hk])
end Go.Proofs.Ythmdipfdloennaa.Nm

/-
  The contracts of the small functions: Index, Contains and Cut at one byte, Clone, Dots.
-/
namespace Go.Proofs.Ythmdipfdloennaa.Nm
open Go.RowKit
attribute [local go_sem ↓] Go.wp_at_zero Go.wp_at_succ

set_option maxRecDepth 100000 in
set_option maxHeartbeats 2000000 in
theorem index_one (s : ByteArray) (c : UInt8) (w : World) :
    Calls Try.prog 57 #[.string s, .string ⟨#[c]⟩] w fun e w' => e = .returned (.int .i64 (Lib.indexByte s.data.toList c)) ∧ w' = w := by
  go_enter Try.func57, Try.ntmps57
  go_wp2_with (go_at_call 73; refine (Try.stringslite_IndexByte _ _ _).mono ?_; rintro e w' ⟨rfl, rfl⟩)
  · have h : ([c] == s.toList) = true := by assumption
    go_ret
    refine ⟨?_, rfl⟩
    have e : s.data.toList = [c] := by rw [← Lib.toList_data]; exact (beq_iff_eq.1 h).symm
    rw [e]
    simp [Lib.indexByte]
  · go_ret
    exact ⟨rfl, rfl⟩

set_option maxHeartbeats 1000000 in
theorem index2_one (s : ByteArray) (c : UInt8) (w : World) :
    Calls Try.prog 35 #[.string s, .string ⟨#[c]⟩] w fun e w' => e = .returned (.int .i64 (Lib.indexByte s.data.toList c)) ∧ w' = w := by
  go_enter Try.func35, Try.ntmps35
  go_wp2_with (go_at_call 57; refine (index_one _ _ _).mono ?_; rintro e w' ⟨rfl, rfl⟩)
  go_ret
  exact ⟨rfl, rfl⟩

theorem indexByte_mem (l : List UInt8) (c : UInt8) : (0 ≤ Lib.indexByte l c) ↔ c ∈ l := by
  induction l with
  | nil => simp [Lib.indexByte]
  | cons b r ih =>
    have hg := Lib.indexByte_ge r c
    unfold Lib.indexByte
    by_cases hb : b = c
    · subst hb; simp
    · have hb2 : ¬ c = b := Ne.symm hb
      by_cases h1 : Lib.indexByte r c = -1
      · have : c ∉ r := by rw [← ih]; omega
        simp [hb, h1, hb2, this]
      · have : c ∈ r := by rw [← ih]; omega
        simp [hb, h1, this]; omega
set_option maxHeartbeats 1000000 in
theorem contains_one (s : ByteArray) (c : UInt8) (w : World) :
    Calls Try.prog 25 #[.string s, .string ⟨#[c]⟩] w fun e w' => e = .returned (.bool (decide (c ∈ s.data.toList))) ∧ w' = w := by
  go_enter Try.func25, Try.ntmps25
  go_wp2_with (go_at_call 35; refine (index2_one _ _ _).mono ?_; rintro e w' ⟨rfl, rfl⟩)
  go_ret
  refine ⟨?_, rfl⟩
  have := indexByte_mem s.data.toList c
  simp only [this]
  rfl

/-- Where the first slash is. -/
theorem index_before (l : List UInt8) (h : (47 : UInt8) ∈ l) : Lib.indexByte l 47 = ((before l).length : Int) := by
  induction l with
  | nil => simp at h
  | cons b r ih =>
    unfold Lib.indexByte
    by_cases hb : b = 47
    · subst hb; simp [before]
    · have e1 : before (b :: r) = b :: before r := by simp [before, hb]
      have hr : (47 : UInt8) ∈ r := by
        rcases List.mem_cons.1 h with h | h
        · exact absurd h.symm hb
        · exact h
      rw [e1, ih hr]
      have : ¬ (((before r).length : Int) = -1) := by omega
      simp [hb, this]
theorem cut_take {l : List UInt8} (h : (47 : UInt8) ∈ l) : l.take (before l).length = before l ∧ l.drop ((before l).length + 1) = behind l ∧ (before l).length + 1 ≤ l.length := by
  rcases split_at l with ⟨h1, _, _⟩ | h1
  · exact absurd h h1
  · generalize before l = x at h1 ⊢
    generalize behind l = y at h1 ⊢
    subst h1
    simp
theorem extract_bs (l : List UInt8) (a b : Nat) : (bs l).extract a b = bs ((l.drop a).take (b - a)) := by
  apply ByteArray.ext
  simp [ByteArray.data_extract, List.extract_eq_drop_take']
set_option maxHeartbeats 1000000 in
theorem cut_no (l : List UInt8) (h : (47 : UInt8) ∉ l) (w : World) :
    Calls Try.prog 81 #[S l, .string ⟨#[47]⟩] w fun e w' => e = .returned (.tuple #[S l, S [], .bool false]) ∧ ∃ n, w' = w.drewN n := by
  have hg := Lib.indexByte_ge l 47
  have hm := indexByte_mem l 47
  have hix : Lib.indexByte l 47 = -1 := by
    have : ¬ 0 ≤ Lib.indexByte l 47 := by rw [hm]; exact h
    omega
  go_enter Try.func81, Try.ntmps81
  go_wp2_with (go_at_call 57; refine (index_one _ _ _).mono ?_; rintro e w' ⟨rfl, rfl⟩; rw [show Lib.indexByte (bs l).data.toList 47 = _ from hix])
  go_ret3
  exact ⟨rfl, 0, rfl⟩
set_option maxHeartbeats 1000000 in
theorem cut_yes (l : List UInt8) (h : (47 : UInt8) ∈ l) (w : World) (hl : l.length ≤ 9223372036854775807) :
    Calls Try.prog 81 #[S l, .string ⟨#[47]⟩] w fun e w' => e = .returned (.tuple #[S (before l), S (behind l), .bool true]) ∧ ∃ n, w' = w.drewN n := by
  have hix := index_before l h
  obtain ⟨t1, t2, t3⟩ := cut_take h
  have hsz : (bs l).size = l.length := by simp [ByteArray.size]
  generalize hi : (before l).length = i at *
  have c1 : (0 : Int) ≤ (i : Int) := by omega
  have c2 : (i : Int) ≤ ((bs l).size : Int) := by omega
  have c3 : (0 : Int) ≤ (i : Int) + 1 := by omega
  have c4 : ((i : Int) + 1) ≤ ((bs l).size : Int) := by omega
  have X1 := hide ((extract_bs l 0 i).trans (by rw [List.drop_zero, Nat.sub_zero, t1]))
  have X2 := hide ((extract_bs l (i + 1) l.length).trans (by rw [t2, List.take_of_length_le]; rw [← t2, List.length_drop]; exact Nat.le_refl _))
  clear t1 t2 hi
  go_enter Try.func81, Try.ntmps81
  go_wp2_with (go_at_call 57; refine (index_one _ _ _).mono ?_; rintro e w' ⟨rfl, rfl⟩; rw [show Lib.indexByte (bs l).data.toList 47 = _ from hix])
  go_region
  go_wp2
  go_ret3
  refine ⟨?_, 1, rfl⟩
  rw [unhide X1, unhide X2]
  rfl
set_option maxHeartbeats 1000000 in
theorem cut_any (l : List UInt8) (w : World) (hl : l.length ≤ 9223372036854775807) :
    Calls Try.prog 65 #[S l, .string ⟨#[47]⟩] w fun e w' => (∃ f, e = .returned (.tuple #[S (before l), S (behind l), .bool f])) ∧ ∃ n, w' = w.drewN n := by
  have H : Calls Try.prog 81 #[S l, .string ⟨#[47]⟩] w fun e w' => ∃ f, e = .returned (.tuple #[S (before l), S (behind l), .bool f]) ∧ ∃ n, w' = w.drewN n := by
    by_cases h : (47 : UInt8) ∈ l
    · exact (cut_yes l h w hl).mono fun _ _ ⟨h1, h2⟩ => ⟨_, h1, h2⟩
    · rcases split_at l with ⟨_, h2, h3⟩ | h2
      · rw [h2, h3]
        exact (cut_no l h w).mono fun _ _ ⟨h1, h2⟩ => ⟨_, h1, h2⟩
      · exact absurd (by rw [h2]; simp) h
  have H := hide H
  go_enter Try.func65, Try.ntmps65
  go_wp2_with (go_at_call 81; refine (unhide H).mono ?_; rintro e w' ⟨f, rfl, n, rfl⟩)
  go_ret3
  exact ⟨⟨f, rfl⟩, n, rfl⟩
set_option maxHeartbeats 1000000 in
theorem clone_any (s : ByteArray) (w : World) (hs : s.size ≤ 281474976710656) :
    Calls Try.prog 22 #[.string s] w fun e w' => e = .returned (.string s) ∧ Below w.heap.size w w' := by
  go_enter Try.func22, Try.ntmps22
  go_wp2_with (go_at_call 34; refine (Try.stringslite_Clone _ _ hs).mono ?_; rintro e w' ⟨rfl, hB⟩)
  go_ret
  exact ⟨rfl, hB⟩
theorem str_eq (a b : List UInt8) : ((bs a).toList == (bs b).toList) = decide (a = b) := by
  rw [Lib.toList_data, Lib.toList_data]
  by_cases h : a = b
  · subst h; simp
  · simp [h]
def dots (l : List UInt8) : Bool := l == [46] || l == [46, 46]
set_option maxHeartbeats 1000000 in
theorem dots_any (l : List UInt8) (w : World) : Calls Try.prog 24 #[S l] w fun e w' => e = .returned (.bool (dots l)) ∧ w' = w := by
  go_enter Try.func24, Try.ntmps24
  go_wp2
  all_goals (go_ret; refine ⟨?_, rfl⟩; simp_all [dots])
/-- What refusal answers: the text as a whole. -/
def ref1 (l : List UInt8) : Int := if l = [] then 32 else if 4096 < l.length then 45 else if (0 : UInt8) ∈ l then 39 else 0
set_option maxHeartbeats 1000000 in
theorem refusal_any (l : List UInt8) (w : World) : Calls Try.prog 44 #[S l] w fun e w' => e = .returned (.int .i64 (ref1 l)) ∧ w' = w := by
  unfold ref1
  by_cases h1 : l = []
  · rw [if_pos h1]; subst h1
    go_enter Try.func44, Try.ntmps44
    go_wp2
    go_ret
    exact ⟨rfl, rfl⟩
  · rw [if_neg h1]
    have h0 : l.isEmpty = false := by simpa using h1
    by_cases h2 : 4096 < l.length
    · rw [if_pos h2]
      have h3 : (4096 : Int) < (l.length : Int) := by omega
      go_enter Try.func44, Try.ntmps44
      go_wp2
      all_goals (go_ret; refine ⟨?_, rfl⟩; first | rfl | simp_all)
    · rw [if_neg h2]
      have h3 : ¬ (4096 : Int) < (l.length : Int) := by omega
      by_cases h4 : (0 : UInt8) ∈ l
      · rw [if_pos h4]
        have h5 : decide ((0 : UInt8) ∈ (bs l).data.toList) = true := by simpa using h4
        go_enter Try.func44, Try.ntmps44
        go_wp2_with (go_at_call 25; refine (contains_one _ _ _).mono ?_; rintro e w' ⟨rfl, rfl⟩)
        all_goals (go_ret; refine ⟨?_, rfl⟩; first | rfl | simp_all)
      · rw [if_neg h4]
        have h5 : decide ((0 : UInt8) ∈ (bs l).data.toList) = false := by simpa using h4
        go_enter Try.func44, Try.ntmps44
        go_wp2_with (go_at_call 25; refine (contains_one _ _ _).mono ?_; rintro e w' ⟨rfl, rfl⟩)
        all_goals (go_ret; refine ⟨?_, rfl⟩; first | rfl | simp_all)
/-- May a text be a name? -/
def right (l : List UInt8) : Bool := !(l.isEmpty || decide (255 < l.length) || dots l) && (!decide ((47 : UInt8) ∈ l) && !decide ((0 : UInt8) ∈ l))
set_option maxHeartbeats 1000000 in
theorem right_any (l : List UInt8) (w : World) : Calls Try.prog 15 #[S l] w fun e w' => e = .returned (.bool (right l)) ∧ w' = w := by
  by_cases hd : dots l = true
  · have hr : right l = false := by simp [right, hd]
    rw [hr]
    go_enter Try.func15, Try.ntmps15
    go_wp2_with (first | (go_at_call 25; refine (contains_one _ _ _).mono ?_; rintro e w' ⟨rfl, rfl⟩) | (go_at_call 24; refine (dots_any _ _).mono ?_; rintro e w' ⟨rfl, rfl⟩; rw [hd]))
    all_goals (go_ret; exact ⟨rfl, rfl⟩)
  · replace hd : dots l = false := by simpa using hd
    by_cases h0 : l = []
    · have hr : right l = false := by simp [right, h0]
      rw [hr]; subst h0
      go_enter Try.func15, Try.ntmps15
      go_wp2_with fail
      go_ret; exact ⟨rfl, rfl⟩
    · have h1 : l.isEmpty = false := by simpa using h0
      by_cases h2 : 255 < l.length
      · have hr : right l = false := by simp [right, h2]
        have h3 : (255 : Int) < (l.length : Int) := by omega
        rw [hr]
        go_enter Try.func15, Try.ntmps15
        go_wp2_with fail
        all_goals (go_ret; refine ⟨?_, rfl⟩; first | rfl | simp_all)
      · have hr : right l = (!decide ((47 : UInt8) ∈ l) && !decide ((0 : UInt8) ∈ l)) := by simp [right, h2, hd, h1]
        have h3 : ¬ (255 : Int) < (l.length : Int) := by omega
        rw [hr]
        clear hr
        go_enter Try.func15, Try.ntmps15
        go_wp2_with (first | (go_at_call 25; refine (contains_one _ _ _).mono ?_; rintro e w' ⟨rfl, rfl⟩) | (go_at_call 24; refine (dots_any _ _).mono ?_; rintro e w' ⟨rfl, rfl⟩; rw [hd]))
        all_goals (go_ret; refine ⟨?_, rfl⟩; first | rfl | simp_all)
end Go.Proofs.Ythmdipfdloennaa.Nm

/-
  A strings.Builder over this program: copyCheck and WriteString; the contract of Write.
-/
namespace Go.Proofs.Ythmdipfdloennaa.Nm
open Go.RowKit
attribute [local go_sem ↓] Go.wp_at_zero Go.wp_at_succ

theorem size54 : (Try.prog.info? 143).map (fun i => i.size) = some 2 := by kernel_rfl
set_option maxRecDepth 100000 in
set_option maxHeartbeats 1000000 in
theorem check_used (b : Nat) (w : World) (h0 : w.cell? ⟨b, 0, none⟩ = some (.pointer (some ⟨b, 0, none⟩))) :
    Calls Try.prog 89 #[.pointer (some ⟨b, 0, none⟩)] w fun e w' => e = .returned (.tuple #[]) ∧ w' = w := by
  obtain ⟨j, hj, _⟩ := Option.map_eq_some_iff.1 size54
  go_enter Try.func89, Try.ntmps89
  go_wp2
  rw [Lib.run_neq_ptr_same w _ Try.underlying141 hj]
  go_wp2
  go_end0
  exact ⟨rfl, rfl⟩
set_option maxRecDepth 100000 in
set_option maxHeartbeats 1000000 in
theorem check_fresh (b : Nat) (w : World) (h0 : w.cell? ⟨b, 0, none⟩ = some (.pointer none)) (hsh : w.shape? b = some (143, 2)) (hfz : w.frozen? ⟨b, 0, none⟩ = false) :
    Calls Try.prog 89 #[.pointer (some ⟨b, 0, none⟩)] w fun e w' => e = .returned (.tuple #[]) ∧ w' = w.setCell ⟨b, 0, none⟩ (.pointer (some ⟨b, 0, none⟩)) := by
  obtain ⟨j, hj, hjs⟩ := Option.map_eq_some_iff.1 size54
  go_enter Try.func89, Try.ntmps89
  go_wp2
  rw [Lib.run_to_unsafe w ⟨b, 0, none⟩ Try.underlying141 Try.underlying153 hj (by rw [hjs]; decide) hsh (Nat.zero_lt_succ 1)]
  simp only [Result.andThen]
  rw [Oper.upon_value]
  go_wp2
  rw [run_callFunc_extern Try.func90 (by kernel_rfl) (by kernel_rfl) (by kernel_rfl) (e := Extern.AbiNoEscape.same) (by kernel_rfl)]
  rw [Lib.run_noEscape]
  simp only [Result.andThen]
  rw [Oper.upon_value]
  go_wp2
  rw [Lib.run_from_unsafe w ⟨b, 0, none⟩ Try.underlying153 Try.underlying141 hj hsh (by kernel_rfl)]
  simp only [Result.andThen]
  rw [Oper.upon_value]
  go_wp2
  go_end0
  exact ⟨rfl, rfl⟩

/-- What every writing call does first: behind it the builder holds its own address. -/
theorem check_any (B b : Nat) (xs : List Value) (w : World) (h : Lib.IsBuilder 143 5 B b xs w) :
    Calls Try.prog 89 #[.pointer (some ⟨b, 0, none⟩)] w fun e w' => e = .returned (.tuple #[]) ∧ Lib.BuilderAt 143 5 B b (.pointer (some ⟨b, 0, none⟩)) xs w' ∧ Below B w w' := by
  rcases h with h | h
  · refine (check_fresh b w h.cell0 h.shape h.frozen0).mono ?_
    rintro e w' ⟨rfl, rfl⟩
    exact ⟨rfl, h.used _, (Below.refl B w).setCell (p := ⟨b, 0, none⟩) h.1 _⟩
  · refine (check_used b w h.cell0).mono ?_
    rintro e w' ⟨rfl, rfl⟩
    exact ⟨rfl, h, Below.refl B _⟩
set_option maxRecDepth 100000 in
set_option maxHeartbeats 2000000 in
theorem writes_any (B b : Nat) (xs : List Value) (s : ByteArray) (w : World) (h : Lib.IsBuilder 143 5 B b xs w) (hlen : xs.length + s.size ≤ 140737488355328) (hBw : B ≤ w.heap.size) :
    Calls Try.prog 84 #[.pointer (some ⟨b, 0, none⟩), .string s] w fun e w' => e = .returned (.tuple #[.int .i64 s.size, .nilIface]) ∧ Lib.BuilderAt 143 5 B b (.pointer (some ⟨b, 0, none⟩)) (xs ++ Lib.strCells s) w' ∧ Below B w w' := by
  obtain ⟨i0, hi, hz0, hz1, hz2⟩ := info_parts info5
  go_enter Try.func84, Try.ntmps84
  go_wp2_with (go_at_call 89; refine (check_any B b xs _ h).mono ?_)
  rintro e w1 ⟨rfl, h1, hb1⟩
  obtain ⟨hB, v, hbk, hown, hne⟩ := h1
  have c0 : w1.cell? ⟨b, 0, none⟩ = some (.pointer (some ⟨b, 0, none⟩)) := by rw [cell_of hbk]; rfl
  have c1 : w1.cell? ⟨b, 1, none⟩ = some v := by rw [cell_of hbk]; rfl
  go_wp2_with (at_builtin; refine Lib.wpList_append_own_string _ rfl _ _ 122 9 rfl B 5 i0 Try.underlying122 Try.underlying9 hi hz0 hz1 hz2 _ _ _ rfl hown s rfl ?c3 ?c4 ?c5 ?_)
  case c3 => unfold maxLen; omega
  case c4 => omega
  case c5 => have := hb1.size; omega
  intro v' w2 hown' hgrow _
  have hb2 : w2.heap[b]? = some (.cells #[.pointer (some ⟨b, 0, none⟩), v] 143 (0, 0)) := by
    rw [hgrow.block b (lt_of_heap hbk) (fun e => hne e.symm)]
    exact hbk
  have d0 : w2.cell? ⟨b, 0, none⟩ = some (.pointer (some ⟨b, 0, none⟩)) := by rw [cell_of hb2]; rfl
  have d1 : w2.cell? ⟨b, 1, none⟩ = some v := by rw [cell_of hb2]; rfl
  have f1 : w2.frozen? ⟨b, 1, none⟩ = false := frozen_of hb2 1
  obtain ⟨ao, cap, rfl⟩ := own_form hown'
  go_wp2
  go_ret2
  refine ⟨rfl, ?_, ?_⟩
  · exact Lib.BuilderAt.put (T := 143) (e := 5) hB hb2 (bs' := xs ++ Lib.strCells s) (by simpa [Lib.strCells_length] using hown') (by decide)
  · exact (hb1.grown hgrow (by have := hb1.size; omega) (fun k hk => (hown.lt k hk).1)).setCell (p := ⟨b, 1, none⟩) hB _
theorem cells_bs (l : List UInt8) : Lib.strCells (bs l) = Lib.byteCells l := by
  simp [Lib.strCells, Lib.byteCells]
theorem byte_app (a b : List UInt8) : Lib.byteCells a ++ Lib.byteCells b = Lib.byteCells (a ++ b) := by simp [Lib.byteCells]
theorem byte_len (a : List UInt8) : (Lib.byteCells a).length = a.length := by simp [Lib.byteCells]
/-- WriteString, in lists. -/
theorem write_any (B b : Nat) (a l : List UInt8) (w : World) (h : Lib.IsBuilder 143 5 B b (Lib.byteCells a) w) (hlen : a.length + l.length ≤ 140737488355328) (hBw : B ≤ w.heap.size) :
    Calls Try.prog 84 #[.pointer (some ⟨b, 0, none⟩), S l] w fun e w' => e = .returned (.tuple #[.int .i64 l.length, .nilIface]) ∧ Lib.IsBuilder 143 5 B b (Lib.byteCells (a ++ l)) w' ∧ Below B w w' := by
  have hsz : (bs l).size = l.length := by simp [ByteArray.size]
  refine (writes_any B b _ (bs l) w h (by rw [byte_len, hsz]; exact hlen) hBw).mono ?_
  rintro e w' ⟨rfl, h1, h2⟩
  rw [cells_bs, byte_app] at h1
  exact ⟨by rw [hsz], .inr h1, h2⟩
end Go.Proofs.Ythmdipfdloennaa.Nm
