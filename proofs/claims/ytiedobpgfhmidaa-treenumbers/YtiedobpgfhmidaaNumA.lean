/-
  The runs of chapter 10, as plain data.
-/
import Derived.Test.YtiedobpgfhmidaaKnown
import Derived.Test.YtiedobpgfhmidaaTrF
namespace Go.Proofs.Ytiedobpgfhmidaa
open Go.RowKit Go.Maps

abbrev sd : ByteArray := ⟨#[100]⟩
abbrev sf : ByteArray := ⟨#[102]⟩
abbrev sl : ByteArray := ⟨#[108]⟩
abbrev se : ByteArray := ⟨#[101]⟩
abbrev sx : ByteArray := ⟨#[120]⟩
abbrev sdot : ByteArray := ⟨#[46, 46]⟩
abbrev stext : ByteArray := ⟨#[116, 101, 120, 116]⟩
abbrev sdf : ByteArray := ⟨#[100, 47, 102]⟩
abbrev s0 : ByteArray := ⟨#[]⟩
def M1 : Tr := (Tr.new 64 4).make 1 sd 1 8191 0 0 s0
def M2 : Tr := M1.make 2 sf 2 420 3 4 s0
def M3 : Tr := M2.make 1 sl 3 0 0 0 sdf
def M4 : Tr := M3.join 1 se 3
theorem m1 : (Tr.new 64 4).makeN 1 sd 1 s0 = 2 ∧ (Tr.new 64 4).makeE 1 sd 1 s0 = 0 := by decide +kernel
theorem m2 : M1.makeN 2 sf 2 s0 = 3 ∧ M1.makeE 2 sf 2 s0 = 0 := by decide +kernel
theorem m3 : M2.makeN 1 sl 3 sdf = 4 ∧ M2.makeE 1 sl 3 sdf = 0 := by decide +kernel
theorem m3x : M3.makeN 1 sx 2 stext = 0 ∧ M3.makeE 1 sx 2 stext = 1 := by decide +kernel
theorem m3y : M3.makeN 1 sdot 2 s0 = 0 ∧ M3.makeE 1 sdot 2 s0 = 1 := by decide +kernel
theorem m3j : M3.joinE 1 se 2 = 1 ∧ M3.joinE 1 se 3 = 0 := by decide +kernel
theorem m4a : M4.moveE [1] 1 sd 2 sx = 39 ∧ M4.moveE [1] 1 se 2 sf = 0 ∧ M4.moveE [] 1 sl 1 sd = 38 ∧ M4.partE 1 sd = 47 ∧ M4.looseE 3 = 16 := by decide +kernel
theorem m4b : getE (M4.insOf 1) se = some 3 ∧ getE (M4.insOf 2) sf = some 3 := by decide +kernel
theorem m4c : (M4.nd 3).isSome = true ∧ (M4.nd 1).isSome = true ∧ (M4.nd 4).isSome = true ∧ (M4.nd 2).isSome = true ∧ M4.left = 60 ∧ M4.up 2 = 1 ∧ M4.up 3 = 0 ∧ M4.up 1 = 1 ∧ M4.textOf 4 = sdf ∧ M4.names 1 = [sd, se, sl] := by decide +kernel
theorem m4s : M4.stat 3 = stV 3 2 420 3 4 2 0 ∧ M4.stat 1 = stV 1 1 493 0 0 3 3 ∧ M4.stat 4 = stV 4 3 0 0 0 1 3 ∧ M4.stat 2 = stV 2 1 4095 0 0 2 1 := ⟨by kernel_rfl, by kernel_rfl, by kernel_rfl, by kernel_rfl⟩
theorem m4ab : Ab M4 2 [1] ∧ Ab M4 1 [] := ⟨⟨m4c.2.2.2.2.2.1, by decide, by decide, .inr m4c.2.2.2.2.2.2.2.1⟩, .inr m4c.2.2.2.2.2.2.2.1⟩
theorem m4z : M4.loose 3 = M4 := by
  have h : M4.looseE 3 = 16 := m4a.2.2.2.2
  simp only [Tr.looseE, Tr.loose] at h ⊢
  split
  · rename_i x hx
    rw [hx] at h
    simp only at h
    by_cases e : x.holds = 0
    · rw [if_pos e]
    · rw [if_neg e] at h; omega
  · rfl
/-- What the law's calls answer, the trees between them letters. -/
theorem num_facts : ∃ t1 t2 t3 t4 : Tr, ((Tr.new 64 4).makeN 1 sd 1 s0 = 2 ∧ (Tr.new 64 4).makeE 1 sd 1 s0 = 0 ∧ (Tr.new 64 4).make 1 sd 1 8191 0 0 s0 = t1) ∧ (t1.makeN 2 sf 2 s0 = 3 ∧ t1.makeE 2 sf 2 s0 = 0 ∧ t1.make 2 sf 2 420 3 4 s0 = t2) ∧ (t2.makeN 1 sl 3 sdf = 4 ∧ t2.makeE 1 sl 3 sdf = 0 ∧ t2.make 1 sl 3 0 0 0 sdf = t3) ∧
    (t3.makeN 1 sx 2 stext = 0 ∧ t3.makeE 1 sx 2 stext = 1 ∧ t3.make 1 sx 2 0 0 0 stext = t3) ∧ (t3.makeN 1 sdot 2 s0 = 0 ∧ t3.makeE 1 sdot 2 s0 = 1 ∧ t3.make 1 sdot 2 0 0 0 s0 = t3) ∧ (t3.joinE 1 se 2 = 1 ∧ t3.join 1 se 2 = t3) ∧ (t3.joinE 1 se 3 = 0 ∧ t3.join 1 se 3 = t4) ∧
    (Ab t4 2 [1] ∧ t4.moveE [1] 1 sd 2 sx = 39 ∧ t4.move [1] 1 sd 2 sx = t4) ∧ (t4.moveE [1] 1 se 2 sf = 0 ∧ t4.move [1] 1 se 2 sf = t4) ∧ (t4.partE 1 sd = 47 ∧ t4.part 1 sd = t4) ∧ (Ab t4 1 [] ∧ t4.moveE [] 1 sl 1 sd = 38 ∧ t4.move [] 1 sl 1 sd = t4) ∧ (t4.looseE 3 = 16 ∧ t4.loose 3 = t4) ∧
    (t4.stat 3 = stV 3 2 420 3 4 2 0 ∧ t4.stat 1 = stV 1 1 493 0 0 3 3 ∧ t4.stat 4 = stV 4 3 0 0 0 1 3 ∧ t4.stat 2 = stV 2 1 4095 0 0 2 1) ∧ ((t4.nd 3).isSome = true ∧ (t4.nd 1).isSome = true ∧ (t4.nd 4).isSome = true ∧ (t4.nd 2).isSome = true) ∧ (t4.left = 60 ∧ t4.up 2 = 1 ∧ t4.up 3 = 0 ∧ t4.textOf 4 = sdf ∧ t4.names 1 = [sd, se, sl]) := by
  refine ⟨M1, M2, M3, M4, ⟨m1.1, m1.2, rfl⟩, ⟨m2.1, m2.2, rfl⟩, ⟨m3.1, m3.2, rfl⟩, ⟨m3x.1, m3x.2, ?_⟩, ⟨m3y.1, m3y.2, ?_⟩, ⟨m3j.1, ?_⟩, ⟨m3j.2, rfl⟩, ⟨m4ab.1, m4a.1, ?_⟩, ⟨m4a.2.1, ?_⟩, ⟨m4a.2.2.2.1, ?_⟩, ⟨m4ab.2, m4a.2.2.1, ?_⟩, ⟨m4a.2.2.2.2, m4z⟩, m4s, ⟨m4c.1, m4c.2.1, m4c.2.2.1, m4c.2.2.2.1⟩, m4c.2.2.2.2.1, m4c.2.2.2.2.2.1, m4c.2.2.2.2.2.2.1, m4c.2.2.2.2.2.2.2.2.1, m4c.2.2.2.2.2.2.2.2.2⟩
  · rw [Tr.make, if_neg (by rw [m3x.2]; decide)]
  · rw [Tr.make, if_neg (by rw [m3y.2]; decide)]
  · rw [Tr.join, if_neg (by rw [m3j.1]; decide)]
  · rw [Tr.move, if_neg (by rw [m4a.1]; decide)]
  · rw [Tr.move, if_pos m4a.2.1, m4b.1]
    simp only [m4b.2, if_true]
  · rw [Tr.part, if_neg (by rw [m4a.2.2.2.1]; decide)]
  · rw [Tr.move, if_neg (by rw [m4a.2.2.1]; decide)]
end Go.Proofs.Ytiedobpgfhmidaa
