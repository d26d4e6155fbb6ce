/-
  A machine of the program and a job of the document's run that go hand in hand: a step of the one is a step of the other.
-/
import Derived.Test.YtkgeapmafpeapaaRWrite
import Derived.Test.YtkgeapmafpeapaaRRead
namespace Go.Proofs.Ytkgeapmafpeapaa
open Go.RowKit

structure Sim (i : Nat) (M : Mach) (x : RJ) : Prop where
  jk : x.job.kind = M.kind
  ja : x.job.at_ = (M.at_ : Int)
  jw : x.job.work = M.work
  jA : x.job.A = M.A
  jB : x.job.B = M.B
  mk_ : M.mark = (i : Int) + 1
  dn : x.st.done = M.done
  tr : x.st.tries = M.tries
  nr : ¬ M.kind = 3 → x.st.sA = 0 ∧ x.st.sB = 0 ∧ M.sA = 0 ∧ M.sB = 0
  rd : M.kind = 3 → (M.done = true → x.st.sA = M.sA ∧ x.st.sB = M.sB) ∧ (M.done = false → M.sA = 0 ∧ M.sB = 0)
  ph : M.kind = 1 → M.done = false → (x.pl = 0 ∧ M.next = 0) ∨ (x.pl = 1 ∧ M.next = 3 ∧ ¬ M.left = 0 ∧ x.lft = M.left) ∨ (x.pl = 2 ∧ (M.next = 5 ∨ M.next = 3 ∧ M.left = 0))
  pw : M.kind = 2 → M.done = false → (x.pl = 0 ∧ M.next = 0) ∨ (x.cnt = M.count ∧ ((x.pl = 1 ∧ M.next = 1) ∨ (x.pl = 2 ∧ M.next = 2) ∨ (x.pl = 3 ∧ M.next = 3 ∧ ¬ M.left = 0 ∧ x.lft = M.left) ∨ (x.pl = 4 ∧ (M.next = 4 ∨ M.next = 3 ∧ M.left = 0)) ∨ (x.pl = 5 ∧ M.next = 5)))
  pr : M.kind = 3 → M.done = false → (x.pl = 0 ∧ M.next = 0) ∨ (x.cnt = M.count ∧ ((x.pl = 1 ∧ M.next = 2) ∨ (x.st.sA = M.a ∧ ((x.pl = 2 ∧ M.next = 3 ∧ ¬ M.left = 0 ∧ x.lft = M.left) ∨ (x.pl = 3 ∧ (M.next = 4 ∨ M.next = 3 ∧ M.left = 0)) ∨ (x.pl = 4 ∧ M.next = 5 ∧ x.st.sB = M.b)))))

section
variable {rr b c aa ca la sa n cap k : Nat} {jp : Option Addr} {ws : List Int} {st : Int} {xs : List RJ} {x : RJ} {M : Mach} {w : World}
/-- What a step of the document's run leaves, beside a step of the machine. -/
abbrev Goes2 (rr b c aa ca la sa n cap k : Nat) (jp : Option Addr) (st : Int) (xs : List RJ) (F : Nat) (w : World) (r : Mach × List Int) : Prop :=
  Calls Try.prog F #[.pointer (some ⟨rr, 0, none⟩), .int .i64 (k : Int)] w fun e w' => e = .returned (.tuple #[]) ∧ ∃ x', Sim k r.1 x' ∧ RSys w' rr b c aa ca la sa n jp cap r.2 (st + 1) (xs.set k x') ∧ FrR b c aa ca la sa w w'

theorem rhold_sim (h : RSys w rr b c aa ca la sa n jp cap ws st xs) (hk : xs[k]? = some x) (S : Sim k M x) (ok : M.ok n) (hd : M.done = false) (kd : M.kind = 1) (s0 : 0 ≤ st) (s1 : st ≤ 1000000) (t1 : M.tries ≤ 1000000) : Goes2 rr b c aa ca la sa n cap k jp st xs 29 w (M.stepH ws) := by
  have k8 := h.l8
  have hkl := (List.getElem?_eq_some_iff.1 hk).1
  have ew : IntKind.i64.wrap ((k : Int) + 1) = M.mark := by rw [S.mk_, wrap_small _ (by omega) (by omega)]
  have n2 : ∀ {P : Prop}, M.kind = 2 → P := fun h => by omega
  have n3 : ∀ {P : Prop}, M.kind = 3 → P := fun h => by omega
  have hw := S.jw
  have hw0 := ok.w0
  have ht := S.tr
  have ht0 := ok.t0
  unfold Mach.stepH
  rcases S.ph kd hd with ⟨hp, hn⟩ | ⟨hp, hn, hl, hlf⟩ | ⟨hp, hn⟩
  · rw [if_pos hn]
    by_cases hv : ws.getD M.at_ 0 = 0
    · rw [if_pos hv]
      by_cases hz : M.work = 0
      · refine (rhold0z rr b c aa ca la sa n cap k M.at_ jp ws st xs x w h hk S.ja ok.at1 s0 s1 hp hv (by omega)).mono ?_
        rintro e w' ⟨rfl, R, F⟩
        rw [ew] at R
        refine ⟨rfl, _, ?_, R, F⟩
        exact ⟨S.jk, S.ja, S.jw, S.jA, S.jB, S.mk_, S.dn, S.tr, S.nr, S.rd, fun _ _ => .inr (.inr ⟨rfl, .inr ⟨rfl, hz⟩⟩), fun h => n2 h, fun h => n3 h⟩
      · refine (rhold0y rr b c aa ca la sa n cap k M.at_ jp ws st xs x w h hk S.ja ok.at1 s0 s1 hp hv (by omega)).mono ?_
        rintro e w' ⟨rfl, R, F⟩
        rw [ew] at R
        refine ⟨rfl, _, ?_, R, F⟩
        exact ⟨S.jk, S.ja, S.jw, S.jA, S.jB, S.mk_, S.dn, S.tr, S.nr, S.rd, fun _ _ => .inr (.inl ⟨rfl, rfl, hz, S.jw⟩), fun h => n2 h, fun h => n3 h⟩
    · rw [if_neg hv]
      refine (rhold0n rr b c aa ca la sa n cap k M.at_ jp ws st xs x w h hk S.ja ok.at1 s0 s1 hp hv (by omega) (by omega)).mono ?_
      rintro e w' ⟨rfl, R, F⟩
      refine ⟨rfl, _, ?_, R, F⟩
      exact ⟨S.jk, S.ja, S.jw, S.jA, S.jB, S.mk_, S.dn, by simp [Mach.again, ht], S.nr, S.rd, fun _ _ => .inl ⟨hp, rfl⟩, fun h => n2 h, fun h => n3 h⟩
  · have hl0 := ok.l0
    have hl1 := ok.l1
    rw [if_neg (by omega), if_pos ⟨hn, hl⟩]
    refine (rhold1 rr b c aa ca la sa n cap k M.at_ jp ws st xs x w h hk S.ja ok.at1 s0 s1 hp (by omega) (by omega)).mono ?_
    rintro e w' ⟨rfl, R, F⟩
    refine ⟨rfl, _, ?_, R, F⟩
    refine ⟨S.jk, S.ja, S.jw, S.jA, S.jB, S.mk_, S.dn, S.tr, S.nr, S.rd, fun _ _ => ?_, fun h => n2 h, fun h => n3 h⟩
    by_cases h1 : x.lft = 1
    · exact .inr (.inr ⟨by simp [h1], .inr ⟨hn, by simp [Mach.toil]; omega⟩⟩)
    · exact .inr (.inl ⟨by simp [h1, hp], hn, by simp [Mach.toil]; omega, by simp [Mach.toil]; omega⟩)
  · rw [if_neg (by rcases hn with h | h <;> omega), if_neg (by rintro ⟨h1, h2⟩; rcases hn with h | h <;> omega)]
    refine (rhold2 rr b c aa ca la sa n cap k M.at_ jp ws st xs x w h hk S.ja ok.at1 s0 s1 hp).mono ?_
    rintro e w' ⟨rfl, R, F⟩
    refine ⟨rfl, _, ?_, R, F⟩
    exact ⟨S.jk, S.ja, S.jw, S.jA, S.jB, S.mk_, rfl, S.tr, S.nr, fun h => n3 h, fun _ h => Bool.noConfusion h, fun h => n2 h, fun h => n3 h⟩

theorem rwrite_sim (h : RSys w rr b c aa ca la sa n jp cap ws st xs) (hk : xs[k]? = some x) (S : Sim k M x) (ok : M.ok n) (hd : M.done = false) (kd : M.kind = 2) (s0 : 0 ≤ st) (s1 : st ≤ 1000000) (t1 : M.tries ≤ 1000000) : Goes2 rr b c aa ca la sa n cap k jp st xs 30 w (M.stepW ws) := by
  have n1 : ∀ {P : Prop}, M.kind = 1 → P := fun h => by omega
  have n3 : ∀ {P : Prop}, M.kind = 3 → P := fun h => by omega
  have hw := S.jw
  have hw0 := ok.w0
  have ht := S.tr
  have ht0 := ok.t0
  have ha := ok.at3 (by omega)
  unfold Mach.stepW
  rcases S.pw kd hd with ⟨hp, hn⟩ | ⟨hc, ⟨hp, hn⟩ | ⟨hp, hn⟩ | ⟨hp, hn, hl, hlf⟩ | ⟨hp, hn⟩ | ⟨hp, hn⟩⟩
  · rw [if_pos hn]
    by_cases hv : (ws.getD M.at_ 0).tmod 2 = 0
    · rw [if_pos hv]
      refine (rwrite0e rr b c aa ca la sa n cap k M.at_ jp ws st xs x w h hk S.ja ha s0 s1 hp hv).mono ?_
      rintro e w' ⟨rfl, R, F⟩
      refine ⟨rfl, _, ?_, R, F⟩
      exact ⟨S.jk, S.ja, S.jw, S.jA, S.jB, S.mk_, S.dn, S.tr, S.nr, S.rd, fun h => n1 h, fun _ _ => .inr ⟨rfl, .inl ⟨rfl, rfl⟩⟩, fun h => n3 h⟩
    · rw [if_neg hv]
      refine (rwrite0o rr b c aa ca la sa n cap k M.at_ jp ws st xs x w h hk S.ja ha s0 s1 hp hv (by omega) (by omega)).mono ?_
      rintro e w' ⟨rfl, R, F⟩
      refine ⟨rfl, _, ?_, R, F⟩
      exact ⟨S.jk, S.ja, S.jw, S.jA, S.jB, S.mk_, S.dn, by simp [ht], S.nr, S.rd, fun h => n1 h, fun _ _ => .inl ⟨hp, rfl⟩, fun h => n3 h⟩
  · rw [if_neg (by omega), if_pos hn]
    by_cases hv : ws.getD M.at_ 0 = M.count
    · rw [if_pos hv]
      refine (rwrite1y rr b c aa ca la sa n cap k M.at_ jp ws st xs x w h hk S.ja ha s0 s1 hp (by rw [hc]; exact hv)).mono ?_
      rintro e w' ⟨rfl, R, F⟩
      rw [hc] at R
      refine ⟨rfl, _, ?_, R, F⟩
      exact ⟨S.jk, S.ja, S.jw, S.jA, S.jB, S.mk_, S.dn, S.tr, S.nr, S.rd, fun h => n1 h, fun _ _ => .inr ⟨rfl, .inr (.inl ⟨rfl, rfl⟩)⟩, fun h => n3 h⟩
    · rw [if_neg hv]
      refine (rwrite1n rr b c aa ca la sa n cap k M.at_ jp ws st xs x w h hk S.ja ha s0 s1 hp (by rw [hc]; exact hv) (by omega) (by omega)).mono ?_
      rintro e w' ⟨rfl, R, F⟩
      refine ⟨rfl, _, ?_, R, F⟩
      exact ⟨S.jk, S.ja, S.jw, S.jA, S.jB, S.mk_, S.dn, by simp [Mach.again, ht], S.nr, S.rd, fun h => n1 h, fun _ _ => .inl ⟨rfl, rfl⟩, fun h => n3 h⟩
  · rw [if_neg (by omega), if_neg (by omega), if_pos hn]
    by_cases hz : M.work = 0
    · refine (rwrite2z rr b c aa ca la sa n cap k M.at_ jp ws st xs x w h hk S.ja ha s0 s1 hp (by omega)).mono ?_
      rintro e w' ⟨rfl, R, F⟩
      rw [S.jA] at R
      refine ⟨rfl, _, ?_, R, F⟩
      exact ⟨S.jk, S.ja, S.jw, S.jA, S.jB, S.mk_, S.dn, S.tr, S.nr, S.rd, fun h => n1 h, fun _ _ => .inr ⟨hc, .inr (.inr (.inr (.inl ⟨rfl, .inr ⟨rfl, hz⟩⟩)))⟩, fun h => n3 h⟩
    · refine (rwrite2p rr b c aa ca la sa n cap k M.at_ jp ws st xs x w h hk S.ja ha s0 s1 hp (by omega)).mono ?_
      rintro e w' ⟨rfl, R, F⟩
      rw [S.jA] at R
      refine ⟨rfl, _, ?_, R, F⟩
      exact ⟨S.jk, S.ja, S.jw, S.jA, S.jB, S.mk_, S.dn, S.tr, S.nr, S.rd, fun h => n1 h, fun _ _ => .inr ⟨hc, .inr (.inr (.inl ⟨rfl, rfl, hz, S.jw⟩))⟩, fun h => n3 h⟩
  · have hl0 := ok.l0
    have hl1 := ok.l1
    rw [if_neg (by omega), if_neg (by omega), if_neg (by omega), if_neg (by omega), if_pos ⟨hn, hl⟩]
    refine (rwrite3 rr b c aa ca la sa n cap k M.at_ jp ws st xs x w h hk S.ja ha s0 s1 hp (by omega) (by omega)).mono ?_
    rintro e w' ⟨rfl, R, F⟩
    refine ⟨rfl, _, ?_, R, F⟩
    refine ⟨S.jk, S.ja, S.jw, S.jA, S.jB, S.mk_, S.dn, S.tr, S.nr, S.rd, fun h => n1 h, fun _ _ => .inr ⟨hc, ?_⟩, fun h => n3 h⟩
    by_cases h1 : x.lft = 1
    · exact .inr (.inr (.inr (.inl ⟨by simp [h1], .inr ⟨hn, by simp [Mach.toil]; omega⟩⟩)))
    · exact .inr (.inr (.inl ⟨by simp [h1, hp], hn, by simp [Mach.toil]; omega, by simp [Mach.toil]; omega⟩))
  · rw [if_neg (by rcases hn with h | h <;> omega), if_neg (by rcases hn with h | h <;> omega), if_neg (by rcases hn with h | h <;> omega), if_neg (by rcases hn with h | h <;> omega), if_neg (by rintro ⟨h1, h2⟩; rcases hn with h | h <;> omega)]
    refine (rwrite4 rr b c aa ca la sa n cap k M.at_ jp ws st xs x w h hk S.ja ha s0 s1 hp).mono ?_
    rintro e w' ⟨rfl, R, F⟩
    rw [S.jB] at R
    refine ⟨rfl, _, ?_, R, F⟩
    exact ⟨S.jk, S.ja, S.jw, S.jA, S.jB, S.mk_, S.dn, S.tr, S.nr, S.rd, fun h => n1 h, fun _ _ => .inr ⟨hc, .inr (.inr (.inr (.inr ⟨rfl, rfl⟩)))⟩, fun h => n3 h⟩
  · rw [if_neg (by omega), if_neg (by omega), if_neg (by omega), if_pos hn]
    refine (rwrite5 rr b c aa ca la sa n cap k M.at_ jp ws st xs x w h hk S.ja ha s0 s1 hp).mono ?_
    rintro e w' ⟨rfl, R, F⟩
    rw [hc] at R
    refine ⟨rfl, _, ?_, R, F⟩
    exact ⟨S.jk, S.ja, S.jw, S.jA, S.jB, S.mk_, rfl, S.tr, S.nr, fun h => n3 h, fun h => n1 h, fun _ h => Bool.noConfusion h, fun h => n3 h⟩

theorem rread_sim (h : RSys w rr b c aa ca la sa n jp cap ws st xs) (hk : xs[k]? = some x) (S : Sim k M x) (ok : M.ok n) (hd : M.done = false) (kd : M.kind = 3) (s0 : 0 ≤ st) (s1 : st ≤ 1000000) (t1 : M.tries ≤ 1000000) : Goes2 rr b c aa ca la sa n cap k jp st xs 31 w (M.stepR ws) := by
  have n1 : ∀ {P : Prop}, M.kind = 1 → P := fun h => by omega
  have n2 : ∀ {P : Prop}, M.kind = 2 → P := fun h => by omega
  have hw := S.jw
  have hw0 := ok.w0
  have ht := S.tr
  have ht0 := ok.t0
  have ha := ok.at3 (by omega)
  have hs0 := (S.rd kd).2 hd
  have RD : M.kind = 3 → (M.done = true → x.st.sA = M.sA ∧ x.st.sB = M.sB) ∧ (M.done = false → M.sA = 0 ∧ M.sB = 0) := S.rd
  have rd' : ∀ (sa' sb' : Int), M.kind = 3 → (M.done = true → sa' = M.sA ∧ sb' = M.sB) ∧ (M.done = false → M.sA = 0 ∧ M.sB = 0) := fun _ _ _ => ⟨fun h => by rw [hd] at h; exact Bool.noConfusion h, fun _ => hs0⟩
  have nr' : ∀ (sa' sb' : Int), ¬ M.kind = 3 → sa' = 0 ∧ sb' = 0 ∧ M.sA = 0 ∧ M.sB = 0 := fun _ _ h => absurd kd h
  unfold Mach.stepR
  rcases S.pr kd hd with ⟨hp, hn⟩ | ⟨hc, ⟨hp, hn⟩ | ⟨hA, ⟨hp, hn, hl, hlf⟩ | ⟨hp, hn⟩ | ⟨hp, hn, hB⟩⟩⟩
  · rw [if_pos hn]
    by_cases hv : (ws.getD M.at_ 0).tmod 2 = 0
    · rw [if_pos hv]
      refine (rread0e rr b c aa ca la sa n cap k M.at_ jp ws st xs x w h hk S.ja ha s0 s1 hp hv).mono ?_
      rintro e w' ⟨rfl, R, F⟩
      refine ⟨rfl, _, ?_, R, F⟩
      exact ⟨S.jk, S.ja, S.jw, S.jA, S.jB, S.mk_, S.dn, S.tr, S.nr, S.rd, fun h => n1 h, fun h => n2 h, fun _ _ => .inr ⟨rfl, .inl ⟨rfl, rfl⟩⟩⟩
    · rw [if_neg hv]
      refine (rread0o rr b c aa ca la sa n cap k M.at_ jp ws st xs x w h hk S.ja ha s0 s1 hp hv (by omega) (by omega)).mono ?_
      rintro e w' ⟨rfl, R, F⟩
      refine ⟨rfl, _, ?_, R, F⟩
      exact ⟨S.jk, S.ja, S.jw, S.jA, S.jB, S.mk_, S.dn, by simp [ht], S.nr, S.rd, fun h => n1 h, fun h => n2 h, fun _ _ => .inl ⟨hp, rfl⟩⟩
  · rw [if_neg (by omega), if_pos hn]
    by_cases hz : M.work = 0
    · refine (rread1z rr b c aa ca la sa n cap k M.at_ jp ws st xs x w h hk S.ja ha s0 s1 hp (by omega)).mono ?_
      rintro e w' ⟨rfl, R, F⟩
      refine ⟨rfl, _, ?_, R, F⟩
      exact ⟨S.jk, S.ja, S.jw, S.jA, S.jB, S.mk_, S.dn, S.tr, nr' _ _, rd' _ _, fun h => n1 h, fun h => n2 h, fun _ _ => .inr ⟨hc, .inr ⟨rfl, .inr (.inl ⟨rfl, .inr ⟨rfl, hz⟩⟩)⟩⟩⟩
    · refine (rread1p rr b c aa ca la sa n cap k M.at_ jp ws st xs x w h hk S.ja ha s0 s1 hp (by omega)).mono ?_
      rintro e w' ⟨rfl, R, F⟩
      refine ⟨rfl, _, ?_, R, F⟩
      exact ⟨S.jk, S.ja, S.jw, S.jA, S.jB, S.mk_, S.dn, S.tr, nr' _ _, rd' _ _, fun h => n1 h, fun h => n2 h, fun _ _ => .inr ⟨hc, .inr ⟨rfl, .inl ⟨rfl, rfl, hz, S.jw⟩⟩⟩⟩
  · have hl0 := ok.l0
    have hl1 := ok.l1
    rw [if_neg (by omega), if_neg (by omega), if_neg (by omega), if_pos ⟨hn, hl⟩]
    refine (rread2 rr b c aa ca la sa n cap k M.at_ jp ws st xs x w h hk S.ja ha s0 s1 hp (by omega) (by omega)).mono ?_
    rintro e w' ⟨rfl, R, F⟩
    refine ⟨rfl, _, ?_, R, F⟩
    refine ⟨S.jk, S.ja, S.jw, S.jA, S.jB, S.mk_, S.dn, S.tr, S.nr, S.rd, fun h => n1 h, fun h => n2 h, fun _ _ => .inr ⟨hc, .inr ⟨hA, ?_⟩⟩⟩
    by_cases h1 : x.lft = 1
    · exact .inr (.inl ⟨by simp [h1], .inr ⟨hn, by simp [Mach.toil]; omega⟩⟩)
    · exact .inl ⟨by simp [h1, hp], hn, by simp [Mach.toil]; omega, by simp [Mach.toil]; omega⟩
  · rw [if_neg (by rcases hn with h | h <;> omega), if_neg (by rcases hn with h | h <;> omega), if_neg (by rcases hn with h | h <;> omega), if_neg (by rintro ⟨h1, h2⟩; rcases hn with h | h <;> omega)]
    refine (rread3 rr b c aa ca la sa n cap k M.at_ jp ws st xs x w h hk S.ja ha s0 s1 hp).mono ?_
    rintro e w' ⟨rfl, R, F⟩
    refine ⟨rfl, _, ?_, R, F⟩
    exact ⟨S.jk, S.ja, S.jw, S.jA, S.jB, S.mk_, S.dn, S.tr, nr' _ _, rd' _ _, fun h => n1 h, fun h => n2 h, fun _ _ => .inr ⟨hc, .inr ⟨hA, .inr (.inr ⟨rfl, rfl, rfl⟩)⟩⟩⟩
  · rw [if_neg (by omega), if_neg (by omega), if_pos hn]
    by_cases hv : ws.getD M.at_ 0 = M.count
    · rw [if_pos hv]
      refine (rread4y rr b c aa ca la sa n cap k M.at_ jp ws st xs x w h hk S.ja ha s0 s1 hp (by rw [hc]; exact hv)).mono ?_
      rintro e w' ⟨rfl, R, F⟩
      refine ⟨rfl, _, ?_, R, F⟩
      exact ⟨S.jk, S.ja, S.jw, S.jA, S.jB, S.mk_, rfl, S.tr, fun h => absurd kd h, fun _ => ⟨fun _ => ⟨hA, hB⟩, fun h => Bool.noConfusion h⟩, fun h => n1 h, fun h => n2 h, fun _ h => Bool.noConfusion h⟩
    · rw [if_neg hv]
      refine (rread4n rr b c aa ca la sa n cap k M.at_ jp ws st xs x w h hk S.ja ha s0 s1 hp (by rw [hc]; exact hv) (by omega) (by omega)).mono ?_
      rintro e w' ⟨rfl, R, F⟩
      refine ⟨rfl, _, ?_, R, F⟩
      exact ⟨S.jk, S.ja, S.jw, S.jA, S.jB, S.mk_, S.dn, by simp [Mach.again, ht], nr' _ _, rd' _ _, fun h => n1 h, fun h => n2 h, fun _ _ => .inl ⟨rfl, rfl⟩⟩
end
end Go.Proofs.Ytkgeapmafpeapaa
