/-
  Rows that slide: a slice that may open in the midst of its block: appended to, cut at its head.
-/
import Derived.Test.YtfhphamjalpjpaaTurnB
namespace Go.Proofs.Ytfhphamjalpjpaa
open Go.RowKit

/-- A slice value v of n elements of s cells each, xs, in a block of ours, from whatever place on. -/
def Rw (base : Nat) (W : World) (e : TypeId) (s : Nat) (v : Value) (n : Nat) (xs : List Value) : Prop :=
  xs.length = n * s ∧ ((v = .slice none 0 0 ∧ n = 0) ∨
    ∃ g off cap cur, v = .slice (some ⟨g, off, none⟩) n cap ∧ base ≤ g ∧ W.heap[g]? = some (.cells cur e (0, 0)) ∧ n ≤ cap ∧ cap ≤ maxLen ∧ off + cap * s ≤ cur.size ∧ ∀ (j : Nat) (u : Value), xs[j]? = some u → cur[off + j]? = some u)

theorem Rw.nil (base : Nat) (W : World) (e : TypeId) (s : Nat) : Rw base W e s (.slice none 0 0) 0 [] := ⟨by simp, .inl ⟨rfl, rfl⟩⟩
theorem Rw.of_own {base : Nat} {W : World} {e : TypeId} {s n : Nat} {v : Value} {xs : List Value} (h : W.ownsRow base e s v n xs) : Rw base W e s v n xs := by
  obtain ⟨hl, h | ⟨g, cap, cur, rfl, hgb, hgg, hcap, hcm, hcs, htk⟩⟩ := h
  · exact ⟨hl, .inl h⟩
  · refine ⟨hl, .inr ⟨g, 0, cap, cur, rfl, hgb, hgg, hcap, hcm, by omega, fun j u hj => ?_⟩⟩
    have hj2 := (List.getElem?_eq_some_iff.1 hj).1
    rw [← hj, ← htk, List.getElem?_take_of_lt (by omega)]
    simp
theorem Rw.keep {base : Nat} {W W' : World} {e : TypeId} {s n : Nat} {v : Value} {xs : List Value} (h : Rw base W e s v n xs) (hb : ∀ (k : Nat) (cur : Array Value), v.ownBlock = some k → W.heap[k]? = some (Obj.cells cur e (0, 0)) → W'.heap[k]? = W.heap[k]?) : Rw base W' e s v n xs := by
  obtain ⟨h0, h1⟩ := h
  refine ⟨h0, ?_⟩
  rcases h1 with h1 | ⟨g, off, cap, cur, rfl, h2, h3, h4⟩
  · exact .inl h1
  · exact .inr ⟨g, off, cap, cur, rfl, h2, (hb g cur rfl h3).trans h3, h4⟩
theorem Rw.below {base : Nat} {W W' : World} {e : TypeId} {s n : Nat} {v : Value} {xs : List Value} (h : Rw base W e s v n xs) (g : Below W.heap.size W W') : Rw base W' e s v n xs := h.keep fun k _ _ hc => g.block k (lt_of_heap hc)
theorem Rw.ne {base : Nat} {W : World} {e : TypeId} {s n k : Nat} {v : Value} {xs : List Value} {o : Obj} (h : Rw base W e s v n xs) (ho : W.heap[k]? = some o) (hne : ∀ cur, o ≠ .cells cur e (0, 0)) : some k ≠ v.ownBlock := by
  obtain ⟨-, ⟨rfl, hz⟩ | ⟨g, off, cap, cur, rfl, hgb, hgg, _⟩⟩ := h
  · simp [Value.ownBlock]
  · simp only [Value.ownBlock, ne_eq, Option.some.injEq]
    rintro rfl
    rw [hgg] at ho
    exact hne cur (Option.some.inj ho).symm
theorem Rw.lt {base : Nat} {W : World} {e : TypeId} {s n k : Nat} {v : Value} {xs : List Value} (h : Rw base W e s v n xs) (hk : v.ownBlock = some k) : k < W.heap.size ∧ base ≤ k ∧ ∃ cur, W.heap[k]? = some (.cells cur e (0, 0)) := by
  obtain ⟨-, ⟨rfl, hz⟩ | ⟨g, off, cap, cur, rfl, hgb, hgg, _⟩⟩ := h
  · simp [Value.ownBlock] at hk
  · simp only [Value.ownBlock, Option.some.injEq] at hk
    subst hk
    exact ⟨lt_of_heap hgg, hgb, cur, hgg⟩
theorem Rw.form {base : Nat} {W : World} {e : TypeId} {s n : Nat} {v : Value} {xs : List Value} (h : Rw base W e s v n xs) : ∃ (a : Option Addr) (cap : Nat), v = .slice a n cap ∧ n ≤ cap := by
  obtain ⟨-, ⟨rfl, hz⟩ | ⟨g, off, cap, cur, rfl, _, _, hc, _⟩⟩ := h
  · exact ⟨none, 0, by rw [hz], by omega⟩
  · exact ⟨_, _, rfl, hc⟩
theorem Rw.open_ {base : Nat} {W : World} {e : TypeId} {s n : Nat} {v : Value} {xs : List Value} (h : Rw base W e s v n xs) (hn : n ≠ 0) :
    ∃ g off cap, v = .slice (some ⟨g, off, none⟩) n cap ∧ n ≤ cap ∧ cap ≤ maxLen := by
  obtain ⟨-, ⟨rfl, hz⟩ | ⟨g, off, cap, cur, rfl, _, _, hc, hm, _⟩⟩ := h
  · exact absurd hz hn
  · exact ⟨_, _, _, rfl, hc, hm⟩
theorem Rw.cell {base : Nat} {W : World} {e : TypeId} {s n g off cap l : Nat} {xs : List Value} (h : Rw base W e s (.slice (some ⟨g, off, none⟩) l cap) n xs) {j : Nat} {u : Value} (hj : xs[j]? = some u) : W.cell? ⟨g, off + j, none⟩ = some u := by
  obtain ⟨-, ⟨h1, hz⟩ | ⟨g', off', cap', cur, h1, _, hg, _, _, _, hx⟩⟩ := h
  · simp at h1
  · simp only [Value.slice.injEq, Option.some.injEq, Addr.mk.injEq] at h1
    obtain ⟨⟨rfl, rfl, -⟩, -, -⟩ := h1
    rw [cell_of hg]; exact hx j u hj

/-- The head cut off. -/
theorem Rw.tail {base : Nat} {W : World} {e : TypeId} {s n g off cap : Nat} {hd xs : List Value} (h : Rw base W e s (.slice (some ⟨g, off, none⟩) (n + 1) cap) (n + 1) (hd ++ xs)) (hh : hd.length = s) :
    Rw base W e s (.slice (if cap = 1 then some ⟨g, off, none⟩ else some ⟨g, off + s, none⟩) n (cap - 1)) n xs := by
  obtain ⟨hl, ⟨h1, hz⟩ | ⟨g', off', cap', cur, h1, hb, hg, hc, hm, hs, hx⟩⟩ := h
  · simp at h1
  · simp only [Value.slice.injEq, Option.some.injEq, Addr.mk.injEq] at h1
    obtain ⟨⟨rfl, rfl, -⟩, -, rfl⟩ := h1
    have hxl : xs.length = n * s := by simp [hh, Nat.add_mul] at hl; omega
    refine ⟨hxl, .inr ?_⟩
    by_cases h1 : cap = 1
    · rw [if_pos h1]
      have hn : n = 0 := by omega
      subst hn
      refine ⟨g, off, cap - 1, cur, rfl, hb, hg, by omega, by omega, by subst h1; simp; omega, fun j u hj => ?_⟩
      have := (List.getElem?_eq_some_iff.1 hj).1
      omega
    · rw [if_neg h1]
      refine ⟨g, off + s, cap - 1, cur, rfl, hb, hg, by omega, by omega, ?_, fun j u hj => ?_⟩
      · have e1 : cap * s = (cap - 1) * s + s := by
          have : cap = (cap - 1) + 1 := by omega
          conv => lhs; rw [this, Nat.add_mul, Nat.one_mul]
        omega
      · have := hx (s + j) u (by rw [List.getElem?_append_right (by omega), hh]; simpa using hj)
        rw [← this]; congr 1; omega

theorem heap_setCells (g : Nat) (t : TypeId) (f : Nat × Nat) : ∀ (vs : List Value) (o : Nat) (W : World) (cur : Array Value), W.heap[g]? = some (.cells cur t f) →
    ∃ cur', (W.setCells g o vs).heap[g]? = some (.cells cur' t f) ∧ cur'.size = cur.size ∧ (∀ j, j < o → cur'[j]? = cur[j]?) ∧ (∀ (j : Nat) (u : Value), vs[j]? = some u → o + j < cur.size → cur'[o + j]? = some u) ∧
      (W.setCells g o vs).os = W.os ∧ (W.setCells g o vs).tape = W.tape ∧ (W.setCells g o vs).output = W.output ∧ (W.setCells g o vs).heap.size = W.heap.size ∧ ∀ k, k ≠ g → (W.setCells g o vs).heap[k]? = W.heap[k]?
  | [], o, W, cur, h => ⟨cur, h, rfl, fun _ _ => rfl, by simp, rfl, rfl, rfl, rfl, fun _ _ => rfl⟩
  | v :: vs, o, W, cur, h => by
    obtain ⟨cur', h1, h2, h3, h4, h5, h6, h7, h8, h9⟩ := heap_setCells g t f vs (o + 1) (W.setCell ⟨g, o, none⟩ v) _ (heap_set h o v)
    refine ⟨cur', h1, by simpa using h2, fun j hj => ?_, fun j u hj hlt => ?_, h5, h6, h7, by rw [World.setCells, h8]; simp [World.setCell], fun k hk => (h9 k hk).trans (Below.heap_setCell _ _ _ _ hk)⟩
    · rw [h3 j (by omega), Array.getElem?_setIfInBounds_ne (by omega)]
    · cases j with
      | zero =>
        simp at hj; subst hj
        rw [Nat.add_zero, h3 o (by omega), Array.getElem?_setIfInBounds_self_of_lt (by omega)]
      | succ j =>
        have := h4 j u (by simpa using hj) (by simp; omega)
        rw [← this]; congr 1; omega

/-- An append: in place or into a new block. -/
theorem Rw.append {base : Nat} {w : World} {e : TypeId} {s n : Nat} {v : Value} {xs : List Value} (h : Rw base w e s v n xs) (t : TypeId) (i : TypeInfo) (z : Value) (bytes : Nat) (ht : Try.prog.underlying t = some (.slice e)) (hi : Try.prog.info? e = some i) (hz : i.zero = some z)
    (hsize : i.size = s) (hby : i.bytes = bytes) (hzs : z.cells.size = s) (hsz : 0 < s) (a : Addr) (m c : Nat) (news : List Value) (hl : news.length = m * s) (hnews : ∀ (j : Nat) (u : Value), news[j]? = some u → w.cell? (a.add j) = some u) (h1 : ∀ u ∈ news, u.oneCell' = true)
    (h63 : n + m ≤ maxLen) (hbytes : (n + m) * bytes ≤ 140737488355328) (hbase : base ≤ w.heap.size) :
    ∃ v' w', (Builtin.append_ #[t, t] t #[v, .slice (some a) m c]).run Try.prog w = .ok v' w' ∧ Rw base w' e s v' (n + m) (xs ++ news) ∧ w.grownBy w' v.ownBlock ∧ (∀ k, v'.ownBlock = some k → v.ownBlock = some k ∨ w.heap.size ≤ k) := by
  obtain ⟨hlx, ⟨rfl, rfl⟩ | ⟨g, off, cap, cur, rfl, hgb, hgg, hcap, hcm, hcs, hx⟩⟩ := h
  · obtain rfl : xs = [] := List.length_eq_zero_iff.1 (by simpa using hlx)
    obtain ⟨v', w', r, own, gr, -, hat⟩ := run_append_own_at (P := Try.prog) w base t t e i z s bytes ht hi hz hsize hby hzs hsz (.slice none 0 0) 0 [] (World.ownsRow_nil _ _ _ _) a m c news hl hnews h1 h63 hbytes hbase
    refine ⟨v', w', r, Rw.of_own own, gr, fun k hk => ?_⟩
    rcases hat with e | e <;> rw [e] at hk
    · exact .inl hk
    · simp at hk; right; omega
  · have holds : ∀ (j : Nat) (u : Value), xs[j]? = some u → w.cell? ⟨g, off + j, none⟩ = some u := fun j u hj => by rw [cell_of hgg]; exact hx j u hj
    by_cases hr : n + m ≤ cap
    · subst hsize
      have hroom : n * i.size + m * i.size ≤ cap * i.size := by rw [← Nat.add_mul]; exact Nat.mul_le_mul_right _ hr
      have r := run_append_room_cells (P := Try.prog) w t t e i ht hi g off n cap a m c news hl hnews h1 hr
        (fun j hj => by rw [cell_of hgg]; simp; omega) (fun j hj => frozen_of hgg _)
      obtain ⟨cur', g1, g2, g3, g4, g5, g6, g7, g8, g9⟩ := heap_setCells g e (0, 0) news (off + n * i.size) w cur hgg
      refine ⟨_, _, r, ⟨by simp [hlx, hl, Nat.add_mul], .inr ⟨g, off, cap, cur', rfl, hgb, g1, hr, hcm, by omega, fun j u hj => ?_⟩⟩, ⟨g5, g6, g7, by omega, fun k _ hk => g9 k (by simpa [Value.ownBlock] using hk)⟩, fun k hk => .inl hk⟩
      by_cases hj2 : j < xs.length
      · rw [List.getElem?_append_left hj2] at hj
        rw [g3 _ (by omega)]; exact hx j u hj
      · rw [List.getElem?_append_right (by omega)] at hj
        have hj3 := (List.getElem?_eq_some_iff.1 hj).1
        have := g4 _ u hj (by omega)
        rw [← this]; congr 1; omega
    · obtain ⟨v', w', r, own, gr⟩ := run_append_arg_grows (P := Try.prog) w t t e i z s bytes ht hi hz hsize hby hzs hsz ⟨g, off, none⟩ n cap xs hlx (fun j u hj => by rw [addr_add]; exact holds j u hj) a m c news hl hnews (by omega) h63 hbytes
      have hlt : ∀ k, v'.ownBlock = some k → w.heap.size ≤ k := by
        intro k hk
        obtain ⟨-, ⟨rfl, hz⟩ | ⟨g', cap', cur', rfl, hb', _⟩⟩ := own
        · simp [Value.ownBlock] at hk
        · simp only [Value.ownBlock, Option.some.injEq] at hk; omega
      have own2 := Rw.of_own own
      refine ⟨v', w', r, ⟨own2.1, ?_⟩, ⟨gr.os, gr.tape, gr.output, gr.size, fun k hk _ => gr.block k hk (by simp)⟩, fun k hk => .inr (hlt k hk)⟩
      rcases own2.2 with h | ⟨g', off', cap', cur', h1, h2, h3⟩
      · exact .inl h
      · exact .inr ⟨g', off', cap', cur', h1, by omega, h3⟩

/-- The same at an operation of a walk. -/
theorem wpList_append_eq {P : Program} {w : World} {ops : Array Oper} {rest : List Oper} {o : Oper} {a : Act} {Q : Exit → Act → World → Prop} (hgd : o.guard = none) (s x : Operand) (t : TypeId)
    (ho : o.op = .call { callee := .builtin .append, args := #[s, x], argTypes := #[t, t] }) (ty : TypeId) (hty : o.type = ty) (vs vx : Value) (hs : a.eval s = vs) (hx : a.eval x = vx) (v' : Value) (w' : World)
    (hrun : (Builtin.append_ #[t, t] ty #[vs, vx]).run P w = .ok v' w') (h : wpList P ops Q rest (a.put o.dst v') w') : wpList P ops Q (o :: rest) a w := by
  refine wpList_plain hgd fun K hK => ?_
  unfold Oper.wp execOp
  simp only [ho, resolve, invoke, builtin, Sem.run_bind, Sem.run_pure, Result.andThen_ok, List.map_toArray, List.map_cons, List.map_nil, hs, hx, hty, hrun]
  exact hK _ _ h
end Go.Proofs.Ytfhphamjalpjpaa
