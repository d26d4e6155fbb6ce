/-
  The program's Grace and the document's own, side by side: what a call of the one leaves of the other; the calls of both answer alike.
-/
import Derived.Test.YtkgcgfnleabkdaaRefE
namespace Go.Proofs.Ytkgcgfnleabkdaa
open Go.RowKit

theorem Rg.rebase {base base' : Nat} {W : World} {rb rc n : Nat} {ss : List Int} {ps : List Pr} (h : Rg base' W rb rc n ss ps) (hb : base ≤ base') : Rg base W rb rc n ss ps := by
  obtain ⟨a, cap, h1, h2⟩ := h.hb
  exact ⟨⟨a, cap, h1, own_base h2 hb⟩, h.hc, h.len, h.lo, h.hi, Nat.le_trans hb h.kb, Nat.le_trans hb h.kc, fun i x g hi => ⟨(h.wh i x g hi).1, Nat.le_trans hb (h.wh i x g hi).2⟩, h.nd, h.up⟩

/-- Both, and one cell besides that is kept. -/
structure PP (h : Nat) (w : World) (n rb rc : Nat) (p : Addr) (u : Value) (O : Obj) (W : World) (ssG ssR : List Int) (wsG wsR : List Wt) : Prop where
  gr : Gr h W (h + 1) h n ssG wsG
  rg : ∃ ps, wsOfP ps = wsR ∧ Rg h W rb rc n ssR ps
  bx : W.cell? p = some u
  bo : W.heap[p.block]? = some O
  bk : p.block < h ∨ ∃ cur, O = .cells cur 41 (0, 0)
  be : Below h w W
  sp : h + 1 < rb ∧ h + 1 < rc
section
variable {h : Nat} {w : World} {n rb rc : Nat} {p : Addr} {u : Value} {O : Obj} {W W' : World} {ssG ssR ss' : List Int} {wsG wsR ws' : List Wt}
theorem PP.sz (P : PP h w n rb rc p u O W ssG ssR wsG wsR) : h + 1 < W.heap.size ∧ rb < W.heap.size ∧ rc < W.heap.size := by
  obtain ⟨ps, _, R⟩ := P.rg
  exact ⟨P.gr.lt.1, R.lt⟩
theorem PP.below (P : PP h w n rb rc p u O W ssG ssR wsG wsR) (hB : Below W.heap.size W W') : PP h w n rb rc p u O W' ssG ssR wsG wsR := by
  obtain ⟨ps, e, R⟩ := P.rg
  have hb := P.sz
  exact ⟨P.gr.below hB, ⟨ps, e, R.below hB⟩, (World.cell?_of_block (hB.block p.block (cell_lt P.bx))).trans P.bx, (hB.block _ (lt_of_heap P.bo)).trans P.bo, P.bk, P.be.trans (hB.mono (by omega)), P.sp⟩
theorem PP.drew (P : PP h w n rb rc p u O W ssG ssR wsG wsR) : PP h w n rb rc p u O W.drew ssG ssR wsG wsR := P.below ⟨rfl, rfl, rfl, Nat.le_refl _, fun _ _ => rfl⟩
theorem PP.dn (P : PP h w n rb rc p u O W ssG ssR wsG wsR) (m : Nat) : PP h w n rb rc p u O (W.drewN m) ssG ssR wsG wsR := P.below ⟨rfl, rfl, rfl, Nat.le_refl _, fun _ _ => rfl⟩
theorem PP.re {i j : Nat} {b0 : Nat} {u' : Value} (P : PP h w n rb rc ⟨b0, i, none⟩ u O W ssG ssR wsG wsR) (h1 : W.cell? ⟨b0, j, none⟩ = some u') : PP h w n rb rc ⟨b0, j, none⟩ u' O W ssG ssR wsG wsR := ⟨P.gr, P.rg, h1, P.bo, P.bk, P.be, P.sp⟩
theorem PP.opG (P : PP h w n rb rc p u O W ssG ssR wsG wsR) (G : Gr h W' (h + 1) h n ss' ws') (F : Fr h (h + 1) h W W') : PP h w n rb rc p u O W' ss' ssR ws' wsR := by
  obtain ⟨ps, e, R⟩ := P.rg
  obtain ⟨a0, c0, hb0, _⟩ := P.gr.hb
  have hc0 := P.gr.hc
  have hsp := P.sp
  have key : W'.heap[p.block]? = some O := by
    rcases P.bk with q | ⟨cur, rfl⟩
    · exact (F.low _ q).trans P.bo
    · have q := P.bo
      refine F.blk _ _ q ?_ ?_ (by simp)
      · intro e'; rw [e', hb0] at q; simp at q
      · intro e'; rw [e', hc0] at q; simp at q
  refine ⟨G, ⟨ps, e, R.keep fun k cur t hc ho => (F.blk k _ hc ?_ ?_ ?_).trans hc.symm⟩, (World.cell?_of_block (key.trans P.bo.symm)).trans P.bx, key, P.bk, P.be.trans F.below, P.sp⟩
  · rintro rfl
    rcases ho with ho | ho | rfl | rfl
    · omega
    · omega
    · rw [hb0] at hc; simp at hc
    · rw [hb0] at hc; simp at hc
  · rintro rfl
    rcases ho with ho | ho | rfl | rfl
    · omega
    · omega
    · rw [hc0] at hc; simp at hc
    · rw [hc0] at hc; simp at hc
  · intro cur' e'
    simp at e'
    obtain ⟨rfl, rfl⟩ := e'
    rcases ho with rfl | rfl | ho | ho
    · obtain ⟨_, _, q, _⟩ := R.hb
      rw [q] at hc; simp at hc
    · rw [R.hc] at hc; simp at hc
    · simp at ho
    · simp at ho
theorem PP.opR {ps' : List Pr} (P : PP h w n rb rc p u O W ssG ssR wsG wsR) (R' : Rg h W' rb rc n ss' ps') (e : wsOfP ps' = ws') (F : RFr h rb rc W W') : PP h w n rb rc p u O W' ssG ss' wsG ws' := by
  obtain ⟨ps, _, R⟩ := P.rg
  obtain ⟨a0, c0, hb0, _⟩ := R.hb
  have hc0 := R.hc
  have hsp := P.sp
  have key : ∀ (k : Nat) (cur : Array Value) (t : TypeId), W.heap[k]? = some (.cells cur t (0, 0)) → (k = h + 1 ∨ k = h ∨ t = 58 ∨ t = 41) → W'.heap[k]? = W.heap[k]? := by
    intro k cur t hc ho
    refine (F.blk k _ hc ?_ ?_ ?_ ?_).trans hc.symm
    · rintro rfl
      rcases ho with ho | ho | rfl | rfl
      · omega
      · omega
      · rw [hb0] at hc; simp at hc
      · rw [hb0] at hc; simp at hc
    · rintro rfl
      rcases ho with ho | ho | rfl | rfl
      · omega
      · omega
      · rw [hc0] at hc; simp at hc
      · rw [hc0] at hc; simp at hc
    · intro cur' e'
      simp at e'
      obtain ⟨rfl, rfl⟩ := e'
      rcases ho with rfl | rfl | ho | ho
      · obtain ⟨_, _, q, _⟩ := P.gr.hb
        rw [q] at hc; simp at hc
      · rw [P.gr.hc] at hc; simp at hc
      · simp at ho
      · simp at ho
    · intro cur' e'
      simp at e'
      obtain ⟨rfl, rfl⟩ := e'
      rcases ho with rfl | rfl | ho | ho
      · obtain ⟨_, _, q, _⟩ := P.gr.hb
        rw [q] at hc; simp at hc
      · rw [P.gr.hc] at hc; simp at hc
      · simp at ho
      · simp at ho
  have key2 : W'.heap[p.block]? = some O := by
    rcases P.bk with q | ⟨cur, rfl⟩
    · exact (F.low _ q).trans P.bo
    · exact (key _ _ _ P.bo (by simp)).trans P.bo
  exact ⟨P.gr.keep fun k cur t hc ho => key k cur t hc (by rcases ho with ho | ho | ho <;> simp [ho]), ⟨ps', e, R'⟩, (World.cell?_of_block (key2.trans P.bo.symm)).trans P.bx, key2, P.bk, P.be.trans F.below, P.sp⟩
theorem own_rfr {base b c base' m : Nat} {W W' : World} {e : TypeId} {s : Nat} {v : Value} {xs : List Value} (F : RFr base b c W W') (h : W.ownsRow base' e s v m xs) (he : e ≠ 70) (he2 : e ≠ 4) (hb : b < base') (hc : c < base') : W'.ownsRow base' e s v m xs := by
  obtain ⟨h0, h1 | ⟨g, cap, cur, rfl, h2, h3, h4⟩⟩ := h
  · exact ⟨h0, .inl h1⟩
  · exact ⟨h0, .inr ⟨g, cap, cur, rfl, h2, F.blk g _ h3 (by omega) (by omega) (by intro cur' hc'; simp at hc'; exact he hc'.2) (by intro cur' hc'; simp at hc'; exact he2 hc'.2), h4⟩⟩

/-- What is known of sections and of what waits. -/
structure Iv (n : Nat) (t : Int) (ss : List Int) (ws : List Wt) : Prop where
  len : ss.length = n
  bd : ∀ (k : Nat) (s : Int), ss[k]? = some s → 0 ≤ s ∧ s ≤ t
  wl : ws.length ≤ 16
theorem Iv.mono {t t' : Int} {ss : List Int} {ws : List Wt} (I : Iv n t ss ws) (h : t ≤ t') : Iv n t' ss ws := ⟨I.len, fun k s hk => by have := I.bd k s hk; omega, I.wl⟩
theorem Iv.set {t x : Int} {r : Nat} {ss : List Int} {ws : List Wt} (I : Iv n t ss ws) (h0 : 0 ≤ x) (h1 : x ≤ t) : Iv n t (ss.set r x) ws := by
  refine ⟨by simp [I.len], fun k s hk => ?_, I.wl⟩
  rw [List.getElem?_set] at hk
  split at hk
  · split at hk
    · simp at hk; omega
    · simp at hk
  · exact I.bd k s hk
theorem in_range {r : Int} {n : Nat} (h : ¬ (r < 0 ∨ (n : Int) ≤ r)) : ∃ k : Nat, r = (k : Int) ∧ k < n := ⟨r.toNat, by omega, by omega⟩

/-- Enter. -/
theorem both_enter (h : Nat) (w : World) (n rb rc : Nat) (p : Addr) (u : Value) (O : Obj) (r t : Int) (ss : List Int) (ws : List Wt) (I : Iv n t ss ws) (ht : t ≤ 1000) : ∃ (er : Int) (ss' : List Int), Iv n (t + 1) ss' ws ∧
    (∀ W, PP h w n rb rc p u O W ss ss ws ws → Calls Try.prog 10 #[.pointer (some ⟨h + 1, 0, none⟩), .int .i64 r] W fun e w' => e = .returned (.int .i64 er) ∧ w'.cell? p = some u ∧ Hid (PP h w n rb rc p u O w' ss' ss ws ws)) ∧
    (∀ W, PP h w n rb rc p u O W ss' ss ws ws → Calls Try.prog 20 #[.pointer (some ⟨rb, 0, none⟩), .int .i64 r] W fun e w' => e = .returned (.int .i64 er) ∧ w'.cell? p = some u ∧ Hid (PP h w n rb rc p u O w' ss' ss' ws ws)) := by
  by_cases hr : r < 0 ∨ (n : Int) ≤ r
  · refine ⟨1, ss, I.mono (by omega), fun W P => (enter_no h (h + 1) h n r ss ws W P.gr hr).mono ?_, fun W P => ?_⟩
    · rintro e w' ⟨rfl, rfl⟩; exact ⟨rfl, P.bx, P⟩
    · obtain ⟨ps, e, R⟩ := P.rg
      refine (renter_no h rb rc n r ss ps W R hr).mono ?_
      rintro e w' ⟨rfl, rfl⟩; exact ⟨rfl, P.bx, P⟩
  · obtain ⟨k, rfl, hk⟩ := in_range hr
    obtain ⟨s, hs⟩ : ∃ s, ss[k]? = some s := ⟨_, List.getElem?_eq_getElem (by rw [I.len]; exact hk)⟩
    have hb := I.bd k s hs
    refine ⟨0, ss.set k (s + 1), (I.mono (show t ≤ t + 1 by omega)).set (by omega) (by omega), fun W P => (enter_yes h (h + 1) h n k s ss ws W P.gr hs (by omega) (by omega)).mono ?_, fun W P => ?_⟩
    · rintro e w' ⟨rfl, G, F⟩
      have P' := P.opG G F
      exact ⟨rfl, P'.bx, P'⟩
    · obtain ⟨ps, e, R⟩ := P.rg
      refine (renter_yes h rb rc n k s ss ps W R hs (by omega) (by omega)).mono ?_
      rintro e w' ⟨rfl, G, F⟩
      have P' := P.opR G ‹_› F
      exact ⟨rfl, P'.bx, P'⟩
/-- Leave. -/
theorem both_leave (h : Nat) (w : World) (n rb rc : Nat) (p : Addr) (u : Value) (O : Obj) (r t : Int) (ss : List Int) (ws : List Wt) (I : Iv n t ss ws) (ht : t ≤ 1000) : ∃ (er : Int) (ss' : List Int) (ws' : List Wt), Iv n (t + 1) ss' ws' ∧
    (∀ W, PP h w n rb rc p u O W ss ss ws ws → Calls Try.prog 12 #[.pointer (some ⟨h + 1, 0, none⟩), .int .i64 r] W fun e w' => e = .returned (.int .i64 er) ∧ w'.cell? p = some u ∧ Hid (PP h w n rb rc p u O w' ss' ss ws' ws)) ∧
    (∀ W, PP h w n rb rc p u O W ss' ss ws' ws → Calls Try.prog 21 #[.pointer (some ⟨rb, 0, none⟩), .int .i64 r] W fun e w' => e = .returned (.int .i64 er) ∧ w'.cell? p = some u ∧ Hid (PP h w n rb rc p u O w' ss' ss' ws' ws')) := by
  by_cases hr : r < 0 ∨ (n : Int) ≤ r
  · refine ⟨1, ss, ws, I.mono (by omega), fun W P => (leave_no h (h + 1) h n r ss ws W P.gr hr).mono ?_, fun W P => ?_⟩
    · rintro e w' ⟨rfl, rfl⟩; exact ⟨rfl, P.bx, P⟩
    · obtain ⟨ps, e, R⟩ := P.rg
      refine (rleave_no h rb rc n r ss ps W R hr).mono ?_
      rintro e w' ⟨rfl, rfl⟩; exact ⟨rfl, P.bx, P⟩
  · obtain ⟨k, rfl, hk⟩ := in_range hr
    obtain ⟨s, hs⟩ : ∃ s, ss[k]? = some s := ⟨_, List.getElem?_eq_getElem (by rw [I.len]; exact hk)⟩
    have hb := I.bd k s hs
    by_cases s0 : s = 0
    · subst s0
      refine ⟨16, ss, ws, I.mono (by omega), fun W P => (leave_past h (h + 1) h n k ss ws W P.gr hs).mono ?_, fun W P => ?_⟩
      · rintro e w' ⟨rfl, rfl⟩; exact ⟨rfl, P.bx, P⟩
      · obtain ⟨ps, e, R⟩ := P.rg
        refine (rleave_past h rb rc n k ss ps W R hs).mono ?_
        rintro e w' ⟨rfl, rfl⟩; exact ⟨rfl, P.bx, P⟩
    · by_cases s1 : s = 1
      · subst s1
        have I2 := (I.mono (show t ≤ t + 1 by omega)).set (r := k) (x := 0) (by omega) (by omega)
        refine ⟨0, ss.set k 0, ws.map (clr k), ⟨I2.len, I2.bd, by simp [I.wl]⟩, fun W P => (leave_out h (h + 1) h n k ss ws W P.gr I.wl hs).mono ?_, fun W P => ?_⟩
        · rintro e w' ⟨rfl, G, F⟩
          have P' := P.opG G F
          exact ⟨rfl, P'.bx, P'⟩
        · obtain ⟨ps, e, R⟩ := P.rg
          have hpl : ps.length ≤ 16 := by have := I.wl; rw [← e] at this; simpa using this
          refine (rleave_out h rb rc n k ss ps W R hpl hs).mono ?_
          rintro e w' ⟨rfl, G, F⟩
          have P' := P.opR (ws' := ws.map (clr k)) G (by rw [clp_ws, ‹wsOfP ps = ws›]) F
          exact ⟨rfl, P'.bx, P'⟩
      · refine ⟨0, ss.set k (s - 1), ws, (I.mono (show t ≤ t + 1 by omega)).set (by omega) (by omega), fun W P => (leave_deep h (h + 1) h n k s ss ws W P.gr hs (by omega) (by omega)).mono ?_, fun W P => ?_⟩
        · rintro e w' ⟨rfl, G, F⟩
          have P' := P.opG G F
          exact ⟨rfl, P'.bx, P'⟩
        · obtain ⟨ps, e, R⟩ := P.rg
          refine (rleave_deep h rb rc n k s ss ps W R hs (by omega) (by omega)).mono ?_
          rintro e w' ⟨rfl, G, F⟩
          have P' := P.opR G ‹_› F
          exact ⟨rfl, P'.bx, P'⟩
/-- Defer. -/
theorem both_defer (h : Nat) (w : World) (n rb rc : Nat) (p : Addr) (u : Value) (O : Obj) (d t : Int) (ss : List Int) (ws : List Wt) (I : Iv n t ss ws) : ∃ (bo : Bool) (er : Int) (ws' : List Wt), Iv n t ss ws' ∧
    (∀ W, PP h w n rb rc p u O W ss ss ws ws → Calls Try.prog 9 #[.pointer (some ⟨h + 1, 0, none⟩), .int .i64 d] W fun e w' => e = .returned (.tuple #[.bool bo, .int .i64 er]) ∧ w'.cell? p = some u ∧ Hid (PP h w n rb rc p u O w' ss ss ws' ws)) ∧
    (∀ W, PP h w n rb rc p u O W ss ss ws' ws → Calls Try.prog 22 #[.pointer (some ⟨rb, 0, none⟩), .int .i64 d] W fun e w' => e = .returned (.tuple #[.bool bo, .int .i64 er]) ∧ w'.cell? p = some u ∧ Hid (PP h w n rb rc p u O w' ss ss ws' ws')) := by
  by_cases hf : ws.length < 16
  · refine ⟨none8 (ins ss), 0, ws ++ [⟨d, ins ss⟩], ⟨I.len, I.bd, by simp; omega⟩, fun W P => (defer_ok h (h + 1) h n d ss ws W P.gr hf).mono ?_, fun W P => ?_⟩
    · rintro e w' ⟨rfl, G, F⟩
      have P' := P.opG G F
      exact ⟨rfl, P'.bx, P'⟩
    · obtain ⟨ps, e, R⟩ := P.rg
      have hpl : ps.length < 16 := by rw [← e] at hf; simpa using hf
      refine (rdefer_ok h rb rc n d ss ps W R hpl (fun k s hk => (I.bd k s hk).1)).mono ?_
      rintro e w' ⟨rfl, ⟨g, G⟩, F⟩
      have P' := P.opR (ws' := ws ++ [⟨d, ins ss⟩]) G (by rw [wsOfP, List.map_append]; simp; exact ‹wsOfP ps = ws›) F
      exact ⟨rfl, P'.bx, P'⟩
  · refine ⟨false, 13, ws, I, fun W P => (defer_full h (h + 1) h n d ss ws W P.gr (by omega)).mono ?_, fun W P => ?_⟩
    · rintro e w' ⟨rfl, rfl⟩; exact ⟨rfl, P.bx, P⟩
    · obtain ⟨ps, e, R⟩ := P.rg
      have hpl : 16 ≤ ps.length := by rw [← e] at hf; simp at hf; omega
      refine (rdefer_full h rb rc n d ss ps W R hpl).mono ?_
      rintro e w' ⟨rfl, rfl⟩; exact ⟨rfl, P.bx, P⟩
end
end Go.Proofs.Ytkgcgfnleabkdaa
