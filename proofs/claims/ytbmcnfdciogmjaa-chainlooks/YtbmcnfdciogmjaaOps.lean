/-
  New, Put and Drop.
-/
import Derived.Test.YtbmcnfdciogmjaaTabB
namespace Go.Proofs.Ytbmcnfdciogmjaa
open Go.RowKit
attribute [local go_sem ↓] Go.wp_at_zero Go.wp_at_succ

def nxo : List E → Option Addr
  | [] => none
  | x :: _ => some ⟨x.blk, x.off, none⟩
theorem nx_eq (l : List E) : nx l = .pointer (nxo l) := by cases l <;> rfl
set_option maxHeartbeats 400000 in
theorem put_busy (base bt bh n : Nat) (ch : Nat → List E) (m : Pairs) (key : ByteArray) (v : Int) (hs : key.size ≤ 9223372036854775807) (w : World) (h : Tb base w bt bh n ch m) (hh : has m key = true) :
    Calls Try.prog 10 #[.pointer (some ⟨bt, 0, none⟩), .string key, .int .i64 v] w fun e w' => e = .returned (.int .i64 15) ∧ Below w.heap.size w w' := by
  have HC := hide (get_any base bt bh n ch m key hs w h)
  rw [hh] at HC
  clear h hh
  go_enter Try.func10, Try.ntmps10
  go_wp2_with fail
  refine (unhide HC).mono ?_
  rintro e w1 ⟨rfl, hB⟩
  replace hB := hide hB
  go_wp2_with fail
  go_ret
  exact ⟨rfl, unhide hB⟩
set_option maxHeartbeats 400000 in
theorem put_full (base bt bh n : Nat) (ch : Nat → List E) (m : Pairs) (key : ByteArray) (v : Int) (hs : key.size ≤ 9223372036854775807) (w : World) (h : Tb base w bt bh n ch m) (hh : has m key = false) (hm : ¬ m.length < 64) :
    Calls Try.prog 10 #[.pointer (some ⟨bt, 0, none⟩), .string key, .int .i64 v] w fun e w' => e = .returned (.int .i64 13) ∧ Below w.heap.size w w' := by
  have HC := hide (get_any base bt bh n ch m key hs w h)
  rw [hh] at HC
  have HT := hide h
  have hm2 : (64 : Int) ≤ (m.length : Int) := by omega
  generalize hml : m.length = ml at *
  replace hml := hide hml
  clear h hh
  go_enter Try.func10, Try.ntmps10
  go_wp2_with fail
  refine (unhide HC).mono ?_
  rintro e w1 ⟨rfl, hB⟩
  obtain ⟨h0, h1, hf⟩ := ((unhide HT).below hB).cells
  rw [unhide hml] at h1
  clear h0 hf
  replace hB := hide hB
  go_wp2_with fail
  go_ret
  exact ⟨rfl, unhide hB⟩
set_option maxHeartbeats 400000 in
theorem put_in (base bt bh n : Nat) (ch : Nat → List E) (m : Pairs) (key : ByteArray) (v : Int) (hs : key.size ≤ 9223372036854775807) (w : World) (h : Tb base w bt bh n ch m) (hh : has m key = false) (hm : m.length < 64) (i : Nat) (hi : slotOf n key = i) :
    Calls Try.prog 10 #[.pointer (some ⟨bt, 0, none⟩), .string key, .int .i64 v] w fun e w' => e = .returned (.int .i64 0) ∧ ∃ N, w.heap.size ≤ N ∧ Tb base w' bt bh n (upd ch i (⟨N, 0, key, v⟩ :: ch i)) (m ++ [(key, v)]) ∧ Fr [(bh, i * 3 + 2), (bt, 1)] w w' := by
  have HC := hide (get_any base bt bh n ch m key hs w h)
  rw [hh] at HC
  have HT := hide h
  have HH := hide hh
  have HM := hide hm
  have hm2 : (m.length : Int) < 64 := by omega
  have hm3 : (0 : Int) ≤ (m.length : Int) := by omega
  clear h hh hm
  go_enter Try.func10, Try.ntmps10
  go_wp2_with fail
  refine (unhide HC).mono ?_
  rintro e w1 ⟨rfl, hB⟩
  have HT1 := hide ((unhide HT).below hB)
  obtain ⟨h0, h1, hf⟩ := (unhide HT1).cells
  have HD := hide (head_any base bt bh n ch m key hs w1 (unhide HT1))
  rw [hi] at HD
  generalize hml : (m.length : Int) = ml at *
  replace hml := hide hml
  replace hB := hide hB
  replace hi := hide hi
  clear h0 hf HC
  go_wp2_with fail
  refine (unhide HD).mono ?_
  rintro e w2 ⟨rfl, hB2⟩
  have HT2 := hide ((unhide HT1).below hB2)
  have hin : i < n := by rw [← unhide hi]; exact slot_lt (unhide HT2).lo key
  obtain ⟨g3, g0, g1, g2, gz⟩ := ((unhide HT2).path i hin).1
  obtain ⟨f0, f1, ff⟩ := (unhide HT2).cells
  rw [unhide hml] at f1
  simp only [headE] at g2 gz
  have nb := (unhide HT2).bh_ne
  have hlt1 := (unhide HT2).own_lt (k := bt) (.inl rfl)
  have hlt2 := (unhide HT2).own_lt (k := bh) (.inr (.inl rfl))
  clear g3 g0 g1 f0 h1
  replace hB2 := hide hB2
  rw [nx_eq] at g2
  generalize hnx : nxo (ch i) = o at *
  replace hnx := hide hnx
  go_wp2_with fail
  go_ret
  have hP := (unhide HT2).put (v := v) (e := ml + 1) (unhide HH) (unhide HM) (by have := (unhide HT2).kt; omega) (by rw [unhide hml]) (unhide hi) (N := w2.heap.size) rfl
  rw [nx_eq, unhide hnx, World.setCell_alloc_past _ _ _ _ hlt2, World.setCell_alloc_past _ _ _ _ (by simpa [World.setCell] using hlt1)] at hP
  exact ⟨rfl, w2.heap.size, Nat.le_trans (unhide hB).size (unhide hB2).size, hP.1, ((Fr.of_below (unhide hB)).trans (.of_below (unhide hB2))).trans hP.2⟩
section
variable {base : Nat} {W : World} {bt bh n : Nat} {ch : Nat → List E} {m : Pairs}
theorem Tb.pd (h : Tb base W bt bh n ch m) {i : Nat} (hi : i < n) {A B : List E} {d p : E} (hc : ch i = A ++ d :: B) (hp : p = (headE bh i :: A).getLast (by simp)) : Node W p (nx (d :: B)) ∧ Node W d (nx B) ∧ p ∈ headE bh i :: ch i := by
  obtain ⟨Q, hQ⟩ : ∃ Q, headE bh i :: A = Q ++ [p] := ⟨_, by rw [hp]; exact (List.dropLast_concat_getLast (by simp)).symm⟩
  have e : headE bh i :: ch i = Q ++ p :: d :: B := by rw [hc, ← List.cons_append, hQ]; simp
  have hpath := h.path i hi
  rw [e] at hpath
  have := Path.append hpath
  exact ⟨this.1, this.2.1, by rw [e]; simp⟩
end
set_option maxHeartbeats 400000 in
theorem drop_no (base bt bh n : Nat) (ch : Nat → List E) (m : Pairs) (key : ByteArray) (hs : key.size ≤ 9223372036854775807) (w : World) (h : Tb base w bt bh n ch m) (hh : has m key = false) :
    Calls Try.prog 9 #[.pointer (some ⟨bt, 0, none⟩), .string key] w fun e w' => e = .returned (.tuple #[.int .i64 0, .int .i64 14]) ∧ Below w.heap.size w w' := by
  have HC := hide (find_any base bt bh n ch m key hs w h)
  obtain ⟨z, t, hg⟩ := h.go_fd key
  rw [hg, hh, val_none hh] at HC
  clear h hg hh
  go_enter Try.func9, Try.ntmps9
  go_wp2_with fail
  refine (unhide HC).mono ?_
  rintro e w1 ⟨lb, rfl, hlb, hL, hB⟩
  have HF := hide (found_any lb key z t true false 0 w1 hL)
  clear hL hlb
  replace hB := hide hB
  go_wp2_with fail
  refine (unhide HF).mono ?_
  rintro e w2 ⟨rfl, hB2⟩
  replace hB2 := hide hB2
  go_wp2_with fail
  go_ret2
  exact ⟨rfl, (unhide hB).trans ((unhide hB2).mono (unhide hB).size)⟩
set_option maxHeartbeats 400000 in
theorem drop_in (base bt bh n : Nat) (ch : Nat → List E) (m : Pairs) (key : ByteArray) (hs : key.size ≤ 9223372036854775807) (w : World) (h : Tb base w bt bh n ch m) (hh : has m key = true) (i : Nat) (hi : slotOf n key = i) :
    Calls Try.prog 9 #[.pointer (some ⟨bt, 0, none⟩), .string key] w fun e w' => e = .returned (.tuple #[.int .i64 (val m key), .int .i64 0]) ∧ ∃ A d B p, ch i = A ++ d :: B ∧ d.key = key ∧ p = (headE bh i :: A).getLast (by simp) ∧ Tb base w' bt bh n (upd ch i (A ++ B)) (drop m key) ∧ Fr [(p.blk, p.off + 2), (bt, 1)] w w' := by
  have HC := hide (find_any base bt bh n ch m key hs w h)
  rcases h.split key with ⟨h1, _⟩ | ⟨_, A, d, B, t, hc, hd, hv, hA, hg⟩
  · rw [hh] at h1; cases h1
  have hin : i < n := by rw [← hi]; exact slot_lt h.lo key
  rw [hg] at HC
  rw [hi] at hc HC
  obtain ⟨p, hp⟩ : ∃ p, p = (headE bh i :: A).getLast (by simp) := ⟨_, rfl⟩
  rw [← hp] at HC
  have hpos : 1 ≤ m.length := by obtain ⟨v, hv⟩ := has_iff.1 hh; exact List.length_pos_of_mem hv
  have hm1 : (1 : Int) ≤ (m.length : Int) := by omega
  have hm2 : (m.length : Int) ≤ 64 := by have := h.mlen; omega
  have HT := hide h
  have HH := hide hh
  replace hin := hide hin
  replace hi := hide hi
  replace hc := hide hc
  replace hd := hide hd
  replace hA := hide hA
  replace hp := hide hp
  clear h hg hh hv hpos
  generalize val m key = v at *
  go_enter Try.func9, Try.ntmps9
  go_wp2_with fail
  refine (unhide HC).mono ?_
  rintro e w1 ⟨lb, rfl, hlb, hL, hB⟩
  have HF := hide (found_any lb key p t true true v w1 hL)
  replace hB := hide hB
  replace hlb := hide hlb
  replace hL := hide hL
  go_wp2_with fail
  refine (unhide HF).mono ?_
  rintro e w2 ⟨rfl, hB2⟩
  have HT2 := hide (((unhide HT).below (unhide hB)).below hB2)
  have HL2 := (unhide hL).below hB2
  obtain ⟨l0, l1, l2, l3, l4, l5, lf⟩ := HL2.cells
  obtain ⟨n1, n2, n3⟩ := (unhide HT2).pd (unhide hin) (unhide hc) (unhide hp)
  have hpt := (unhide HT2).bt_ne (unhide hin) n3
  have p2 := n1.k2
  have pz := n1.fz
  have d2 := n2.k2
  simp only [nx] at p2
  rw [nx_eq] at d2
  obtain ⟨f0, f1, ff⟩ := (unhide HT2).cells
  clear n1 n2 n3 l0 l2 l3 l4 l5 lf f0 HF HL2
  generalize hml : (m.length : Int) = ml at *
  replace hml := hide hml
  replace hB2 := hide hB2
  generalize hnx : nxo B = o at *
  replace hnx := hide hnx
  go_wp2_with fail
  go_region
  go_wp2_with fail
  go_ret2
  have hP := (unhide HT2).drop (e := ml - 1) (unhide HH) (by rw [unhide hml]) (unhide hi) (unhide hc) (unhide hd) (unhide hA) (unhide hp)
  rw [nx_eq, unhide hnx] at hP
  exact ⟨rfl, A, d, B, p, unhide hc, unhide hd, unhide hp, hP.1.drew, (((Fr.of_below (unhide hB)).trans (.of_below (unhide hB2))).trans hP.2).drew⟩

theorem run_make_struct (t e : TypeId) (z : Value) (size bytes : Nat) (ht : Try.prog.underlying t = some (.slice e)) (hinfo : (Try.prog.info? e).map (fun i => (i.zero, i.size, i.bytes)) = some (some z, size, bytes))
    (kl kc : IntKind) (m n : Nat) (hmn : m ≤ n) (hbytes : bytes * n ≤ 281474976710656) (h63 : n ≤ 1000000) (w : World) :
    (Instr.makeSlice t (.int kl (m : Int)) (.int kc (n : Int))).run Try.prog w = .ok (.slice (some ⟨w.heap.size, 0, none⟩) m n) (w.alloc (.cells (madeCells z.cells (n * size)) e)) := by
  obtain ⟨i, hi, hzz⟩ := Option.map_eq_some_iff.1 hinfo
  simp only [Prod.mk.injEq] at hzz
  obtain ⟨hz, hs, hb⟩ := hzz
  have hb' : (i.bytes : Int) * (n : Int) ≤ 281474976710656 := by
    have h : ((i.bytes * n : Nat) : Int) ≤ 281474976710656 := by rw [hb]; omega
    rwa [Int.natCast_mul] at h
  have hr := run_make (P := Try.prog) w t e i z ht hi hz kl kc m n (by omega) (by omega) hb' (by omega)
  simp only [Int.toNat_natCast, hs] at hr
  exact hr
theorem info62 : (Try.prog.info? 62).map (fun i => (i.zero, i.size, i.bytes)) = some (some (.agg #[.string ByteArray.empty, .int .i64 0, .pointer none]), 3, 32) := by kernel_rfl
def zcs : Array Value := #[.string ByteArray.empty, .int .i64 0, .pointer none]
theorem made_at (n i f : Nat) (hi : i < n) (hf : f < 3) : (madeCells zcs (n * 3))[i * 3 + f]? = zcs[f]? := by
  have h1 : i * 3 + f < n * 3 := by omega
  have h2 : (i * 3 + f) % 3 = f := by omega
  have h3 : f < zcs.size := hf
  have h4 : zcs.size = 3 := rfl
  rw [Array.getElem?_eq_getElem (by simpa [madeCells] using h1), Array.getElem?_eq_getElem h3]
  simp only [madeCells, Array.getElem_map, Array.getElem_range, h4, h2]
  rw [getElem!_pos zcs f h3]
set_option maxHeartbeats 400000 in
theorem new_bad (m : Int) (hm : m < 1 ∨ 64 < m) (w : World) :
    Calls Try.prog 8 #[.int .i64 m] w fun e w' => e = .returned (.tuple #[.pointer none, .int .i64 1]) ∧ w' = w := by
  by_cases h1 : m < 1
  · clear hm
    go_enter Try.func8, Try.ntmps8
    go_wp2_with fail
    go_ret2
    exact ⟨rfl, rfl⟩
  · have h2 : 64 < m := by omega
    clear hm
    go_enter Try.func8, Try.ntmps8
    go_wp2_with fail
    go_ret2
    exact ⟨rfl, rfl⟩
set_option maxHeartbeats 400000 in
theorem new_good (n : Nat) (h1 : 1 ≤ n) (h2 : n ≤ 64) (w : World) :
    Calls Try.prog 8 #[.int .i64 (n : Int)] w fun e w' => e = .returned (.tuple #[.pointer (some ⟨w.heap.size + 1, 0, none⟩), .int .i64 0]) ∧ Tb w.heap.size w' (w.heap.size + 1) w.heap.size n (fun _ => []) [] ∧ Below w.heap.size w w' := by
  have hm2 : ∀ w : World, (Instr.makeSlice 57 (.int .i64 (n : Int)) (.int .i64 (n : Int))).run Try.prog w = .ok (.slice (some ⟨w.heap.size, 0, none⟩) n n) (w.alloc (.cells (madeCells zcs (n * 3)) 62)) :=
    fun w => run_make_struct 57 62 _ 3 32 Try.underlying57 info62 .i64 .i64 n n (Nat.le_refl _) (by omega) (by omega) w
  have q1 : ¬ (n : Int) < 1 := by omega
  have q2 : ¬ (64 : Int) < (n : Int) := by omega
  have MA := hide (made_at n)
  generalize madeCells zcs (n * 3) = M at *
  go_enter Try.func8, Try.ntmps8
  go_wp2_with fail
  go_ret2
  have hB := ((Below.refl w.heap.size w).alloc (Nat.le_refl _) (.cells M 62)).alloc (by simp) (.cells #[.slice (some ⟨w.heap.size, 0, none⟩) n n, .int .i64 0] 59)
  have g0 : ((w.alloc (.cells M 62)).alloc (.cells #[.slice (some ⟨w.heap.size, 0, none⟩) n n, .int .i64 0] 59)).heap[w.heap.size]? = some (.cells M 62) := by
    rw [Below.heap_alloc _ _ _ (by simp)]; exact putAll _ _ rfl
  have MA := unhide MA
  refine ⟨rfl, ⟨putAll _ _ (by simp), h1, h2, fun i hi => ⟨⟨?_, ?_, ?_, ?_, ?_⟩, trivial⟩, by simp, by simp, by simp, by simp, by simp, by simp, by simp, by omega, by omega, by simp, ?_⟩, hB⟩
  · simp [headE]
  · exact (cell_of g0 _).trans (MA i 0 hi (by omega))
  · exact (cell_of g0 _).trans (MA i 1 hi (by omega))
  · exact (cell_of g0 _).trans (MA i 2 hi (by omega))
  · exact frozen_of g0 _
  · rintro k (rfl | ⟨i, _, x, hx, _⟩)
    · exact ⟨_, g0⟩
    · simp at hx
end Go.Proofs.Ytbmcnfdciogmjaa
