/-
  Nodes and their names as plain data: what each call answers and leaves.
-/
import Derived.Test.YtlngeaacjbdmhaaCmp
import Derived.Test.YtlngeaacjbdmhaaOpsB
namespace Go.Proofs.Ytlngeaacjbdmhaa
open Go.RowKit Go.Maps

/-- A node. -/
structure Nd where
  kind : Int
  mode : Int
  uid : Int
  gid : Int
  names : Nat
  holds : Nat
  up : Int
  ins : List Ent
  file : Int
  text : ByteArray
/-- A tree: its nodes by their numbers, and what Files hold. -/
structure Tr where
  most : Nat
  made : Nat
  nd : Int → Option Nd
  pool : S
def Tr.set (T : Tr) (n : Int) (o : Option Nd) : Tr := { T with nd := fun k => if k = n then o else T.nd k }
theorem Tr.set_same (T : Tr) (n : Int) (o : Option Nd) : (T.set n o).nd n = o := by simp [Tr.set]
theorem Tr.set_other (T : Tr) {n k : Int} (o : Option Nd) (h : k ≠ n) : (T.set n o).nd k = T.nd k := by simp [Tr.set, h]
def Tr.dir (T : Tr) (n : Int) : Option Nd := (T.nd n).bind fun x => if x.kind = 1 then some x else none
theorem Tr.dir_some {T : Tr} {n : Int} {x : Nd} : T.dir n = some x ↔ T.nd n = some x ∧ x.kind = 1 := by
  simp only [Tr.dir, Option.bind_eq_some_iff]
  constructor
  · rintro ⟨a, h1, h2⟩
    split at h2
    · cases h2; exact ⟨h1, by assumption⟩
    · cases h2
  · rintro ⟨h1, h2⟩
    exact ⟨x, h1, by simp [h2]⟩
def Tr.kindOf (T : Tr) (n : Int) : Int := match T.nd n with | some x => x.kind | none => 0
def Tr.insOf (T : Tr) (n : Int) : List Ent := match T.nd n with | some x => x.ins | none => []
def Tr.live (T : Tr) : Nat := cnt (T.made + 1) fun k => (T.nd (k : Int)).isSome
def Tr.left (T : Tr) : Int := (T.most : Int) - (T.live : Int)
def Tr.links (T : Tr) (x : Nd) : Nat := if x.kind = 1 ∧ 0 < x.names then 2 + x.ins.countP (fun e => decide (T.kindOf e.2 = 1)) else x.names
def Tr.size (T : Tr) (x : Nd) : Nat := if x.kind = 2 then sizeO (T.pool.get x.file) else if x.kind = 3 then x.text.size else x.ins.length
def Tr.up (T : Tr) (n : Int) : Int := match T.dir n with | none => 0 | some x => if x.names = 0 then n else x.up
/-- The Dirs above, the nearest first. -/
def Ab (T : Tr) : Int → List Int → Prop
  | n, [] => T.up n = 0 ∨ T.up n = n
  | n, u :: l => T.up n = u ∧ u ≠ 0 ∧ u ≠ n ∧ Ab T u l
theorem Ab.uniq {T : Tr} : ∀ {l m : List Int} {n : Int}, Ab T n l → Ab T n m → l = m
  | [], [], _, _, _ => rfl
  | [], b :: m, n, h, g => by
    obtain ⟨g1, g2, g3, _⟩ := g
    simp only [Ab] at h
    omega
  | a :: l, [], n, h, g => by
    obtain ⟨g1, g2, g3, _⟩ := h
    simp only [Ab] at g
    omega
  | a :: l, b :: m, n, h, g => by
    obtain ⟨h1, _, _, h4⟩ := h
    obtain ⟨g1, _, _, g4⟩ := g
    obtain rfl : a = b := h1.symm.trans g1
    rw [Ab.uniq h4 g4]
theorem Ab.tail {T : Tr} : ∀ {l : List Int} {n m : Int}, Ab T n l → m ∈ l → ∃ l', Ab T m l' ∧ l'.length < l.length
  | [], _, _, _, h => by simp at h
  | a :: l, n, m, h, hm => by
    obtain ⟨_, _, _, h4⟩ := h
    rcases List.mem_cons.1 hm with rfl | hm
    · exact ⟨l, h4, by simp⟩
    · obtain ⟨l', g1, g2⟩ := Ab.tail h4 hm
      exact ⟨l', g1, by simp; omega⟩
theorem Ab.notin {T : Tr} {l : List Int} {n : Int} (h : Ab T n l) : n ∉ l := fun hm => by
  obtain ⟨l', g1, g2⟩ := h.tail hm
  rw [h.uniq g1] at g2
  omega
/-- A node, new and without names. -/
def Tr.add (T : Tr) (kind mode uid gid : Int) (text : ByteArray) : Tr :=
  ⟨T.most, T.made + 1, fun k => if k = (T.made : Int) + 1 then some ⟨kind, bits .and .i64 mode 4095, uid, gid, 0, 0, 0, [], if kind = 2 then (T.pool.fs.length : Int) + 1 else 0, text⟩ else T.nd k, if kind = 2 then T.pool.add else T.pool⟩
def Nd.named (x : Nd) (dir : Int) : Nd := { x with names := x.names + 1, up := if x.kind = 1 then dir else x.up }
def Tr.give (T : Tr) (dir : Int) (s : ByteArray) (n : Int) : Tr :=
  match T.nd dir, T.nd n with
  | some d, some x => (T.set dir (some { d with ins := putE d.ins s n })).set n (some (x.named dir))
  | _, _ => T
def Tr.leave (T : Tr) (n : Int) : Tr :=
  match T.nd n with
  | some x => if 0 < x.names ∨ 0 < x.holds then T else { (T.set n none) with pool := dropS T.pool x.file }
  | none => T
def Tr.less (T : Tr) (n : Int) : Tr := match T.nd n with | some x => T.set n (some { x with names := x.names - 1 }) | none => T
def Tr.take (T : Tr) (dir : Int) (s : ByteArray) : Tr :=
  match T.nd dir with
  | some d => match getE d.ins s with
    | some n => (((T.set dir (some { d with ins := delE d.ins s })).less n).leave n)
    | none => T
  | none => T

/-! What the calls answer. -/
def dots (l : List UInt8) : Bool := l == [46] || l == [46, 46]
def right (s : ByteArray) : Bool := !(s.data.toList.isEmpty || decide (255 < s.data.toList.length) || dots s.data.toList) && (!decide ((47 : UInt8) ∈ s.data.toList) && !decide ((0 : UInt8) ∈ s.data.toList))
def fitsB (kind : Int) (text : ByteArray) : Bool := if kind = 1 ∨ kind = 2 then decide (text = ⟨#[]⟩) else decide (kind = 3)
def refusesE (d : Nd) (s : ByteArray) : Int := if (getE d.ins s).isSome = true then 35 else if d.names = 0 then 32 else 0
def Tr.makeE (T : Tr) (dir : Int) (s : ByteArray) (kind : Int) (text : ByteArray) : Int :=
  match T.dir dir with
  | none => 1
  | some d => if right s = true ∧ fitsB kind text = true then (if refusesE d s ≠ 0 then refusesE d s else if kind = 1 ∧ T.links d = 16 then 44 else if T.left = 0 then 43 else 0) else 1
def Tr.make (T : Tr) (dir : Int) (s : ByteArray) (kind mode uid gid : Int) (text : ByteArray) : Tr :=
  if T.makeE dir s kind text = 0 then (T.add kind mode uid gid text).give dir s ((T.made : Int) + 1) else T
def Tr.makeN (T : Tr) (dir : Int) (s : ByteArray) (kind : Int) (text : ByteArray) : Int := if T.makeE dir s kind text = 0 then (T.made : Int) + 1 else 0
def Tr.joinE (T : Tr) (dir : Int) (s : ByteArray) (n : Int) : Int :=
  match T.dir dir, T.nd n with
  | some d, some x => if x.kind ≠ 1 ∧ right s = true then (if refusesE d s ≠ 0 then refusesE d s else if T.links x = 16 then 44 else 0) else 1
  | _, _ => 1
def Tr.join (T : Tr) (dir : Int) (s : ByteArray) (n : Int) : Tr := if T.joinE dir s n = 0 then T.give dir s n else T
def Tr.partE (T : Tr) (dir : Int) (s : ByteArray) : Int :=
  match T.dir dir with
  | none => 1
  | some d => match getE d.ins s with
    | none => 32
    | some n => if 0 < (T.insOf n).length then 47 else 0
def Tr.part (T : Tr) (dir : Int) (s : ByteArray) : Tr := if T.partE dir s = 0 then T.take dir s else T
def Tr.yieldsE (T : Tr) (old : Int) (toDir : Bool) : Int :=
  if toDir = true ∧ T.kindOf old ≠ 1 then 37 else if toDir = false ∧ T.kindOf old = 1 then 38 else if 0 < (T.insOf old).length then 47 else 0
/-- l: the Dirs above to. -/
def Tr.moveE (T : Tr) (l : List Int) (dir : Int) (s : ByteArray) (to : Int) (s2 : ByteArray) : Int :=
  match T.dir dir, T.dir to with
  | some f, some i => if right s2 = true then match getE f.ins s with
    | some n => if i.names = 0 then 32 else if T.kindOf n = 1 ∧ (to = n ∨ n ∈ l) then 39 else match getE i.ins s2 with
      | some old => if old = n then 0 else T.yieldsE old (decide (T.kindOf n = 1))
      | none => if T.kindOf n = 1 ∧ dir ≠ to ∧ T.links i = 16 then 44 else 0
    | none => 32
    else 1
  | _, _ => 1
def Tr.move (T : Tr) (l : List Int) (dir : Int) (s : ByteArray) (to : Int) (s2 : ByteArray) : Tr :=
  if T.moveE l dir s to s2 = 0 then
    match getE (T.insOf dir) s with
    | some n => match getE (T.insOf to) s2 with
      | some old => if old = n then T else ((T.take to s2).give to s2 n).take dir s
      | none => (T.give to s2 n).take dir s
    | none => T
  else T
def Tr.holdE (T : Tr) (n : Int) : Int := match T.nd n with | some _ => 0 | none => 1
def Tr.hold (T : Tr) (n : Int) : Tr := match T.nd n with | some x => T.set n (some { x with holds := x.holds + 1 }) | none => T
def Tr.looseE (T : Tr) (n : Int) : Int := match T.nd n with | some x => if x.holds = 0 then 16 else 0 | none => 1
def Tr.loose (T : Tr) (n : Int) : Tr := match T.nd n with | some x => if x.holds = 0 then T else (T.set n (some { x with holds := x.holds - 1 })).leave n | none => T
def Tr.setMode (T : Tr) (n mode : Int) : Tr := match T.nd n with | some x => T.set n (some { x with mode := bits .and .i64 mode 4095 }) | none => T
def Tr.setOwner (T : Tr) (n uid gid : Int) : Tr := match T.nd n with | some x => T.set n (some { x with uid := uid, gid := gid }) | none => T
def Tr.fileOf (T : Tr) (n : Int) : Int := match T.nd n with | some x => x.file | none => 0
def Tr.findN (T : Tr) (dir : Int) (s : ByteArray) : Option Int := (T.dir dir).bind fun d => getE d.ins s
def Tr.textOf (T : Tr) (n : Int) : ByteArray := match T.nd n with | some x => x.text | none => ⟨#[]⟩
def Tr.names (T : Tr) (dir : Int) : List ByteArray := match T.dir dir with | some d => d.ins.map (·.1) | none => []
/-- The live nodes, rising. -/
def Tr.lives (T : Tr) : List Nat := (List.range (T.made + 1)).filter fun k => (T.nd (k : Int)).isSome
theorem Tr.lives_len (T : Tr) : T.lives.length = T.live := rfl
/-- A tree when it is new: the root alone. -/
def Tr.new (nodes blocks : Nat) : Tr := ⟨nodes, 1, fun k => if k = 1 then some ⟨1, 493, 0, 0, 1, 0, 1, [], 0, ⟨#[]⟩⟩ else none, ⟨blocks, []⟩⟩
end Go.Proofs.Ytlngeaacjbdmhaa
