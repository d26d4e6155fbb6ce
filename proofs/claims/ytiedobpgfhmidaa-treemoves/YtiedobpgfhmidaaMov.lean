/-
  The walk of TreeMoves.
-/
import Derived.Test.YtiedobpgfhmidaaMovB
import Derived.Test.YtiedobpgfhmidaaTame
import Derived.Test.YtiedobpgfhmidaaInA
import Derived.Deep.CutRange
import Derived.Deep.CutBlock
namespace Go.Proofs.Ytiedobpgfhmidaa
open Go.RowKit Go.Maps

/-- What lies while nodes are made. -/
structure MT (w W : World) (t i : Nat) : Prop where
  t : ∃ T, Tq w.heap.size 4 W t T (1 + 2 * i) ∧ LkB T
  b : Below w.heap.size w W
theorem mwf6 {d : Nat} (h : d ≤ 5) : (kl (1 + (d : Int))).wf = true := wf_of (by omega)
theorem MT.below {w W W' : World} {t i : Nat} (h : MT w W t i) (g : Below W.heap.size W W') : MT w W' t i := by
  obtain ⟨⟨T, h1, h2⟩, h3⟩ := h
  exact ⟨⟨T, h1.below g, h2⟩, h3.trans (g.mono h3.size)⟩
theorem MT.make {w W : World} {t i : Nat} (h : MT w W t i) (hi : i < 50) {d : Nat} (hd : d ≤ 5) (s : ByteArray) (a kind mode uid gid f g : Int) : Calls Try.prog 8 #[P0 t, I (1 + (d : Int)), .string s, stV a kind mode uid gid f g, .string ⟨#[]⟩] W fun e W' => (∃ x y, e = .returned (.tuple #[I x, I y])) ∧ Hid (MT w W' t (i + 1)) := by
  obtain ⟨⟨T, h1, h2⟩, h3⟩ := h
  refine (make_Q h1 (by omega) (mwf6 hd) s a kind mode uid gid f g ⟨#[]⟩ (by decide) _ _ _ rfl rfl rfl).mono ?_
  rintro e W' ⟨rfl, h4, h5⟩
  exact ⟨⟨_, _, rfl⟩, ⟨_, (unhide h4).mono (by omega), h2.make h1.f _ _ _ _ _ _ _⟩, (unhide h5).fst h3 (Nat.le_refl _)⟩
theorem stat_same {T T' : Tr} (h : ∀ k, T'.nd k = T.nd k) {n : Int} {x : Nd} (hx : T.nd n = some x) (hk : x.kind = 1) : T'.stat n = T.stat n := by
  have hl : T'.links x = T.links x := links_congr fun e _ => by simp only [Tr.kindOf, h]
  simp only [Tr.stat, h, hx, Tr.statV, hl]
  simp [Tr.size, hk]
theorem right_abc {s : ByteArray} (h : Abc s) : right s = true := by
  rcases h with rfl | rfl | rfl <;> decide +kernel
set_option maxRecDepth 100000 in
set_option maxHeartbeats 40000000 in
theorem moves_walk (pa : Option Addr) (len cap : Nat) (dir to' ss as' : Int) (w : World) (hl : AsksAt w pa len) : Calls Try.prog 5 #[.slice pa len cap, I dir, I to', I ss, I as'] w fun e w' => e = .returned (.bool true) ∧ Below w.heap.size w w' := by
  have H0 := hide (new_Q 30 4 (by omega) (by omega) w)
  have HK := hide known_any
  have HB := hide hl.2
  have hlen := hl.1
  clear hl
  go_enter Try.func5, Try.ntmps5
  go_wp2_with fail
  refine (unhide H0).mono ?_
  rintro e w1 ⟨t, rfl, T1, B1⟩
  have HR0 : Hid (MT w w1 t 0) := ⟨⟨_, unhide T1, LkB.new _ _⟩, unhide B1⟩
  clear H0 T1 B1
  go_upto_block 0 with fail
  go_cut [] from 13 to 69 (fun wc => ∃ j : Nat, j ≤ 30 ∧ Hid (MT w wc t j))
  case first =>
    go_wp2_with fail
    go_loopw [13] (fun iv wr => ∃ j : Nat, iv = .int .i64 (j : Int) ∧ j ≤ 30 ∧ j ≤ len ∧ Hid (MT w wr t j)) (fun iv _ => 30 - (intOf iv).toNat)
    case atStart => exact ⟨0, rfl, by omega, by omega, HR0⟩
    case round =>
      obtain ⟨j, rfl, hj, hjl, HJ⟩ := hrel
      clear HR0
      by_cases hlt : j < len ∧ j < 30
      · obtain ⟨b, off, kd, dr, tt, n, s, r, a0, a1, a2, a3, a4, a5, a6, ba, bn, bc, rfl, hb, ha⟩ := unhide HB j hlt.1
        have cs := fun i => cell_same ((unhide HJ).b.block b hb) i
        have c0 := (cs _).trans ha.c0
        have c1 := (cs _).trans ha.c1
        have c2 := (cs _).trans ha.c2
        have c3 := (cs _).trans ha.c3
        have c4 := (cs _).trans ha.c4
        have c5 := (cs _).trans ha.c5
        have c6 := (cs _).trans ha.c6
        have c7 := (cs _).trans ha.c7
        have c8 := (cs _).trans ha.c8
        have c9 := (cs _).trans ha.c9
        have c10 := (cs _).trans ha.c10
        have c11 := (cs _).trans ha.c11
        have c12 := (cs _).trans ha.c12
        have c13 := (cs _).trans ha.c13
        have l1 : (j : Int) < (len : Int) := by omega
        have l2 : (j : Int) < 30 := by omega
        have l3 : j < 30 := hlt.2
        have l4 : j < len := hlt.1
        clear cs ha hb hlt HB HK
        go_wp2_with fail
        refine (tame_any kd dr tt n s r a0 a1 a2 a3 a4 a5 a6 ba bn bc _).mono ?_
        rintro e w2 ⟨⟨d, m, k, s', r', hd, hm, hk, hs, hr, rfl⟩, hB2⟩
        have HJ2 := hide ((unhide HJ).below hB2)
        clear HJ hB2
        have hX : Hid (MT w (w2.alloc (Obj.cells #[I kd, I (1 + (d : Int)), I (1 + (m : Int)), I n, .string s', .string r', I a0, I (1 + (k : Int)), I a2, I a3, I a4, I a5, I a6, .slice ba bn bc] 47)) t j) := hide ((unhide HJ2).below ((Below.refl _ w2).alloc (Nat.le_refl _) _))
        have hc := heap_alloc_new w2 (Obj.cells #[I kd, I (1 + (d : Int)), I (1 + (m : Int)), I n, .string s', .string r', I a0, I (1 + (k : Int)), I a2, I a3, I a4, I a5, I a6, .slice ba bn bc] 47)
        generalize hV : w2.alloc (Obj.cells #[I kd, I (1 + (d : Int)), I (1 + (m : Int)), I n, .string s', .string r', I a0, I (1 + (k : Int)), I a2, I a3, I a4, I a5, I a6, .slice ba bn bc] 47) = V at hX hc
        generalize hp : w2.heap.size = p at hc
        obtain ⟨q0, q1, q2, q3, q4, q5, q6, q7, q8, q9, q10, q11, q12, q13, qf⟩ := cells14 hc
        clear hc HJ2 c0 c1 c2 c3 c4 c5 c6 c7 c8 c9 c10 c11 c12 c13
        go_wp2_with fail
        refine (MT.make (unhide hX) (by omega) hd _ _ _ _ _ _ _ _).mono ?_
        rintro e w9 ⟨⟨x, y, rfl⟩, HJ9⟩
        clear hV hp q0 q1 q2 q3 q4 q5 q6 q7 q8 q9 q10 q11 q12 q13 qf
        go_wp2_with fail
        go_roundw
        case rel => exact ⟨j + 1, by go_num, by omega, by omega, HJ9⟩
        case measure => simp [intOf]; omega
      · by_cases l1 : j < len
        · have l2 : ¬ (j : Int) < 30 := by omega
          have l3 : (j : Int) < (len : Int) := by omega
          clear hlt
          go_wp2_with fail
          go_meet
          case rel => exact ⟨j, hj, HJ⟩
        · have l3 : ¬ (j : Int) < (len : Int) := by omega
          clear hlt
          go_wp2_with fail
          go_meet
          case rel => exact ⟨j, hj, HJ⟩
  case rest =>
    obtain ⟨j, hj, HJ⟩ := hcut
    obtain ⟨w2, hw2⟩ : ∃ x, x = wc := ⟨_, rfl⟩
    rw [← hw2] at HJ ⊢
    clear hw2 HR0 HB
    go_wp2_with fail
    refine (within_any dir 5 _ (by decide) (by decide)).mono ?_
    rintro e w' ⟨⟨rd, hrd, rfl⟩, hw'⟩
    rw [hw']
    clear hw'
    go_wp2_with fail
    refine (within_any to' 5 _ (by decide) (by decide)).mono ?_
    rintro e w' ⟨⟨rt, hrt, rfl⟩, hw'⟩
    rw [hw']
    clear hw'
    go_upto_region 11 with fail
    go_cut [15] from 76 to 80 (fun sv wd => ∃ a, Abc a ∧ sv = .string a ∧ Below w2.heap.size w2 wd)
    case first =>
      go_wp2_with fail
      refine (within_any ss 2 _ (by decide) (by decide)).mono ?_
      rintro e w' ⟨⟨r, hr, rfl⟩, hw'⟩
      rw [hw']
      clear hw'
      have h3 : r = 0 ∨ r = 1 ∨ r = 2 := by omega
      rcases h3 with rfl | rfl | rfl
      · go_wp2_with fail
        go_meet
        case rel => exact ⟨_, .inl rfl, rfl, (Below.refl _ w2).alloc (Nat.le_refl _) _⟩
      · go_wp2_with fail
        go_meet
        case rel => exact ⟨_, .inr (.inl rfl), rfl, (Below.refl _ w2).alloc (Nat.le_refl _) _⟩
      · go_wp2_with fail
        go_meet
        case rel => exact ⟨_, .inr (.inr rfl), rfl, (Below.refl _ w2).alloc (Nat.le_refl _) _⟩
    case rest =>
      obtain ⟨a, hab, rfl, b3⟩ := hcut
      obtain ⟨w3, hw3⟩ : ∃ x, x = wc := ⟨_, rfl⟩
      rw [← hw3] at b3 ⊢
      have HJ3 := hide ((unhide HJ).below b3)
      clear hw3 b3 HJ
      go_upto_region 12 with fail
      go_cut [16] from 81 to 85 (fun sv wd => ∃ b, sv = .string b ∧ Below w3.heap.size w3 wd)
      case first =>
        go_wp2_with fail
        refine (within_any as' 3 _ (by decide) (by decide)).mono ?_
        rintro e w' ⟨⟨r, hr, rfl⟩, hw'⟩
        rw [hw']
        clear hw'
        have h3 : r = 0 ∨ r = 1 ∨ r = 2 ∨ r = 3 := by omega
        rcases h3 with rfl | rfl | rfl | rfl
        all_goals
          go_wp2_with fail
          go_meet
          case rel => exact ⟨_, rfl, (Below.refl _ w3).alloc (Nat.le_refl _) _⟩
      case rest =>
        obtain ⟨b, rfl, b4⟩ := hcut
        obtain ⟨w4, hw4⟩ : ∃ x, x = wc := ⟨_, rfl⟩
        rw [← hw4] at b4 ⊢
        have HJ4 := hide ((unhide HJ3).below b4)
        clear hw4 b4 HJ3
        obtain ⟨⟨T, hQ, hLk⟩, hB4⟩ := unhide HJ4
        have hwd := mwf6 (d := rd) (by omega)
        have hwt := mwf6 (d := rt) (by omega)
        obtain ⟨D, hD⟩ : ∃ D : Int, D = 1 + (rd : Int) := ⟨_, rfl⟩
        obtain ⟨E, hE⟩ : ∃ E : Int, E = 1 + (rt : Int) := ⟨_, rfl⟩
        rw [← hD] at hwd ⊢
        rw [← hE] at hwt ⊢
        have HQ := hide hQ
        have HLk := hide hLk
        have HB4 := hide hB4
        have Hwd := hide hwd
        have Hwt := hide hwt
        clear HJ4 hQ hLk hB4 hD hE hwd hwt hrd hrt
        obtain ⟨x1, hx1⟩ : ∃ x, x = (T.findN E b).getD 0 := ⟨_, rfl⟩
        obtain ⟨had, hhad⟩ : ∃ x, x = (T.findN E b).isSome := ⟨_, rfl⟩
        obtain ⟨nn, hnn⟩ : ∃ x, x = (T.findN D a).getD 0 := ⟨_, rfl⟩
        obtain ⟨ok, hok⟩ : ∃ x, x = (T.findN D a).isSome := ⟨_, rfl⟩
        obtain ⟨p0, p1, p2, p3, p4, p5, p6, hp⟩ := T.stat_form D
        obtain ⟨q0, q1, q2, q3, q4, q5, q6, hq⟩ := T.stat_form E
        obtain ⟨l, hl⟩ := (unhide HQ).f.ab E
        obtain ⟨me, hme⟩ : ∃ x, x = T.moveE l D a E b := ⟨_, rfl⟩
        have C1 := hide (fun W (h : Tq w.heap.size 4 W t T (1 + 2 * j)) => find_Q h (by omega) (unhide Hwt) b _ _ hx1.symm hhad.symm)
        have C2 := hide (fun W (h : Tq w.heap.size 4 W t T (1 + 2 * j)) => find_Q h (by omega) (unhide Hwd) a _ _ hnn.symm hok.symm)
        have C3 := hide (fun W (h : Tq w.heap.size 4 W t T (1 + 2 * j)) => stat_Q h (by omega) (unhide Hwd) _ _ hp rfl)
        have C4 := hide (fun W (h : Tq w.heap.size 4 W t T (1 + 2 * j)) => stat_Q h (by omega) (unhide Hwt) _ _ hq rfl)
        have C5 := hide (fun W (h : Tq w.heap.size 4 W t T (1 + 2 * j)) => move_Q h (by omega) (unhide Hwd) (unhide Hwt) a b hl _ _ hme.symm rfl)
        generalize (T.nd D).isSome = i1 at C3
        generalize (T.nd E).isSome = i2 at C4
        have Hx1 := hide hx1
        have Hhad := hide hhad
        have Hnn := hide hnn
        have Hok := hide hok
        have Hp := hide hp
        have Hq := hide hq
        have Hl := hide hl
        have Hme := hide hme
        clear hx1 hhad hnn hok hp hq hl hme
        go_wp2_with fail
        refine (unhide C1 _ (unhide HQ)).mono ?_
        rintro e w5 ⟨rfl, Q5, b5⟩
        have B5 := hide ((unhide HB4).trans ((unhide b5).mono (unhide HB4).size))
        clear C1 HB4 b5
        go_wp2_with fail
        refine (unhide C2 _ (unhide Q5)).mono ?_
        rintro e w6 ⟨rfl, Q6, b6⟩
        have B6 := hide ((unhide B5).trans ((unhide b6).mono (unhide B5).size))
        clear C2 B5 b6
        go_wp2_with fail
        refine (unhide C3 _ (unhide Q6)).mono ?_
        rintro e w7 ⟨rfl, Q7, b7⟩
        have B7 := hide (((unhide B6).trans ((unhide b7).mono (unhide B6).size)).alloc ((unhide B6).trans ((unhide b7).mono (unhide B6).size)).size (Obj.cells #[I p0, I p1, I p2, I p3, I p4, I p5, I p6] 29))
        have hc7 := heap_alloc_new w7 (Obj.cells #[I p0, I p1, I p2, I p3, I p4, I p5, I p6] 29)
        replace Q7 := hide ((unhide Q7).below ((Below.refl _ w7).alloc (Nat.le_refl _) (Obj.cells #[I p0, I p1, I p2, I p3, I p4, I p5, I p6] 29)))
        generalize hV7 : w7.alloc (Obj.cells #[I p0, I p1, I p2, I p3, I p4, I p5, I p6] 29) = V7 at B7 hc7 Q7
        generalize hp7 : w7.heap.size = P7 at hc7
        have Hc7 := hide hc7
        clear C3 B6 b7 hc7
        go_wp2_with fail
        refine (unhide C4 _ (unhide Q7)).mono ?_
        rintro e w8 ⟨rfl, Q8, b8⟩
        have B8 := hide (((unhide B7).trans ((unhide b8).mono (unhide B7).size)).alloc ((unhide B7).trans ((unhide b8).mono (unhide B7).size)).size (Obj.cells #[I q0, I q1, I q2, I q3, I q4, I q5, I q6] 29))
        have hc8 := heap_alloc_new w8 (Obj.cells #[I q0, I q1, I q2, I q3, I q4, I q5, I q6] 29)
        replace Q8 := hide ((unhide Q8).below ((Below.refl _ w8).alloc (Nat.le_refl _) (Obj.cells #[I q0, I q1, I q2, I q3, I q4, I q5, I q6] 29)))
        have hc78 := (Below.heap_alloc w8 (Obj.cells #[I q0, I q1, I q2, I q3, I q4, I q5, I q6] 29) P7 (Nat.lt_of_lt_of_le (lt_of_heap (unhide Hc7)) (unhide b8).size)).trans (((unhide b8).block P7 (lt_of_heap (unhide Hc7))).trans (unhide Hc7))
        generalize hV8 : w8.alloc (Obj.cells #[I q0, I q1, I q2, I q3, I q4, I q5, I q6] 29) = V8 at B8 hc8 Q8 hc78
        generalize hp8 : w8.heap.size = P8 at hc8
        have Hc8 := hide hc8
        have Hc78 := hide hc78
        clear C4 B7 b8 hc8 hc78 Hc7 hV7 hp7
        go_wp2_with fail
        refine (unhide C5 _ (unhide Q8)).mono ?_
        rintro e w9 ⟨rfl, Q9, x9⟩
        have B9 := hide ((unhide x9).fst (unhide B8) (Nat.le_refl _))
        have Hd1 := hide ((unhide x9).oth _ _ _ _ (unhide Hc78) (by decide) (by decide) (by decide) (by decide) (by decide))
        have Hd2 := hide ((unhide x9).oth _ _ _ _ (unhide Hc8) (by decide) (by decide) (by decide) (by decide) (by decide))
        clear C5 B8 Q8 Hc8 Hc78 x9 hV8 hp8
        by_cases hz : me = 0 ∧ had = false
        · obtain ⟨rfl, rfl⟩ := hz
          have hn2 : T.findN E b = none := by
            have := unhide Hhad
            cases hh : T.findN E b with
            | none => rfl
            | some v => rw [hh] at this; simp at this
          obtain ⟨l2, hl2⟩ := (unhide Q9).f.ab D
          obtain ⟨n, m1, m2, m3, m4, m5, f, i, m6, m7, m8, m9⟩ := move_back (unhide HQ).f (unhide HLk) (unhide Hme).symm hn2 (right_abc hab) hl2
          obtain rfl : nn = n := by rw [unhide Hnn, m1]; rfl
          obtain rfl : ok = true := by rw [unhide Hok, m1]; rfl
          obtain ⟨T2, hT2⟩ : ∃ T2, T2 = T.move l D a E b := ⟨_, rfl⟩
          rw [← hT2] at m2 m3 m4 m5 hl2 Q9
          obtain ⟨T3, hT3⟩ : ∃ T3, T3 = T2.move l2 E b D a := ⟨_, rfl⟩
          rw [← hT3] at m5
          have hf3 : T3.findN D a = some nn := by rw [← m1]; simp only [Tr.findN, Tr.dir, m5]
          have hs1 : T3.stat D = stV p0 p1 p2 p3 p4 p5 p6 := (stat_same m5 m6 m7).trans (unhide Hp)
          have hs2 : T3.stat E = stV q0 q1 q2 q3 q4 q5 q6 := (stat_same m5 m8 m9).trans (unhide Hq)
          have D1 := hide (fun W (h : Tq w.heap.size 4 W t T2 (1 + 2 * j + 1)) => find_Q h (by omega) (unhide Hwt) b nn true (by rw [m2]; rfl) (by rw [m2]; rfl))
          have D2 := hide (fun W (h : Tq w.heap.size 4 W t T2 (1 + 2 * j + 1)) => find_Q h (by omega) (unhide Hwd) a 0 false (by rw [m3]; rfl) (by rw [m3]; rfl))
          have D3 := hide (fun W (h : Tq w.heap.size 4 W t T2 (1 + 2 * j + 1)) => move_Q h (by omega) (unhide Hwt) (unhide Hwd) b a hl2 0 T3 m4 hT3.symm)
          have D4 := hide (fun W (h : Tq w.heap.size 4 W t T3 (1 + 2 * j + 1 + 1)) => stat_Q h (by omega) (unhide Hwd) _ _ hs1 rfl)
          have D5 := hide (fun W (h : Tq w.heap.size 4 W t T3 (1 + 2 * j + 1 + 1)) => stat_Q h (by omega) (unhide Hwt) _ _ hs2 rfl)
          have D6 := hide (fun W (h : Tq w.heap.size 4 W t T3 (1 + 2 * j + 1 + 1)) => find_Q h (by omega) (unhide Hwd) a nn true (by rw [hf3]; rfl) (by rw [hf3]; rfl))
          generalize (T3.nd D).isSome = i3 at D4
          generalize (T3.nd E).isSome = i4 at D5
          clear hn2 hl2 m1 m2 m3 m4 m5 m6 m7 m8 m9 hf3 hs1 hs2 hT2 hT3 Hx1 Hhad Hnn Hok Hp Hq Hl Hme HLk HQ
          go_wp2_with fail
          refine (unhide D1 _ (unhide Q9)).mono ?_
          rintro e wa ⟨rfl, Qa, ba⟩
          have Ba := hide ((unhide B9).trans ((unhide ba).mono (unhide B9).size))
          have Ha1 := hide (((unhide ba).block _ (lt_of_heap (unhide Hd1))).trans (unhide Hd1))
          have Ha2 := hide (((unhide ba).block _ (lt_of_heap (unhide Hd2))).trans (unhide Hd2))
          clear D1 ba B9 Hd1 Hd2 Q9
          go_wp2_with fail
          refine (unhide D2 _ (unhide Qa)).mono ?_
          rintro e wb ⟨rfl, Qb, bb⟩
          have Bb := hide ((unhide Ba).trans ((unhide bb).mono (unhide Ba).size))
          have Hb1 := hide (((unhide bb).block _ (lt_of_heap (unhide Ha1))).trans (unhide Ha1))
          have Hb2 := hide (((unhide bb).block _ (lt_of_heap (unhide Ha2))).trans (unhide Ha2))
          clear D2 bb Ba Ha1 Ha2 Qa
          go_wp2_with fail
          refine (unhide D3 _ (unhide Qb)).mono ?_
          rintro e wd ⟨rfl, Qd, xd⟩
          have Bd := hide ((unhide xd).fst (unhide Bb) (Nat.le_refl _))
          have He1 := hide ((unhide xd).oth _ _ _ _ (unhide Hb1) (by decide) (by decide) (by decide) (by decide) (by decide))
          have He2 := hide ((unhide xd).oth _ _ _ _ (unhide Hb2) (by decide) (by decide) (by decide) (by decide) (by decide))
          clear D3 xd Bb Hb1 Hb2 Qb
          go_wp2_with fail
          refine (unhide D4 _ (unhide Qd)).mono ?_
          rintro e we ⟨rfl, Qe, be⟩
          have Be := hide (((unhide Bd).trans ((unhide be).mono (unhide Bd).size)).alloc ((unhide Bd).trans ((unhide be).mono (unhide Bd).size)).size (Obj.cells #[I p0, I p1, I p2, I p3, I p4, I p5, I p6] 29))
          have g1 := heap_alloc_new we (Obj.cells #[I p0, I p1, I p2, I p3, I p4, I p5, I p6] 29)
          replace Qe := hide ((unhide Qe).below ((Below.refl _ we).alloc (Nat.le_refl _) (Obj.cells #[I p0, I p1, I p2, I p3, I p4, I p5, I p6] 29)))
          have g2 := (Below.heap_alloc we (Obj.cells #[I p0, I p1, I p2, I p3, I p4, I p5, I p6] 29) _ (Nat.lt_of_lt_of_le (lt_of_heap (unhide He1)) (unhide be).size)).trans (((unhide be).block _ (lt_of_heap (unhide He1))).trans (unhide He1))
          have g3 := (Below.heap_alloc we (Obj.cells #[I p0, I p1, I p2, I p3, I p4, I p5, I p6] 29) _ (Nat.lt_of_lt_of_le (lt_of_heap (unhide He2)) (unhide be).size)).trans (((unhide be).block _ (lt_of_heap (unhide He2))).trans (unhide He2))
          generalize hVe : we.alloc (Obj.cells #[I p0, I p1, I p2, I p3, I p4, I p5, I p6] 29) = Ve at Be g1 Qe g2 g3
          generalize hpe : we.heap.size = Pe at g1
          have G1 := hide g1
          have G2 := hide g2
          have G3 := hide g3
          clear D4 be Bd He1 He2 Qd g1 g2 g3
          go_wp2_with fail
          refine (unhide D5 _ (unhide Qe)).mono ?_
          rintro e wf ⟨rfl, Qf, bf⟩
          have Bf := hide (((unhide Be).trans ((unhide bf).mono (unhide Be).size)).alloc ((unhide Be).trans ((unhide bf).mono (unhide Be).size)).size (Obj.cells #[I q0, I q1, I q2, I q3, I q4, I q5, I q6] 29))
          have k4 := heap_alloc_new wf (Obj.cells #[I q0, I q1, I q2, I q3, I q4, I q5, I q6] 29)
          replace Qf := hide ((unhide Qf).below ((Below.refl _ wf).alloc (Nat.le_refl _) (Obj.cells #[I q0, I q1, I q2, I q3, I q4, I q5, I q6] 29)))
          have kp : ∀ {b' : Nat} {o : Obj}, Ve.heap[b']? = some o → (wf.alloc (Obj.cells #[I q0, I q1, I q2, I q3, I q4, I q5, I q6] 29)).heap[b']? = some o := fun h => (Below.heap_alloc wf _ _ (Nat.lt_of_lt_of_le (lt_of_heap h) (unhide bf).size)).trans (((unhide bf).block _ (lt_of_heap h)).trans h)
          have k1 := kp (unhide G1)
          have k2 := kp (unhide G2)
          have k3 := kp (unhide G3)
          clear kp
          generalize hVf : wf.alloc (Obj.cells #[I q0, I q1, I q2, I q3, I q4, I q5, I q6] 29) = Vf at Bf k1 k2 k3 k4 Qf
          generalize hpf : wf.heap.size = Pf at k4
          have K1 := hide k1
          have K2 := hide k2
          have K3 := hide k3
          have K4 := hide k4
          clear D5 bf Be G1 G2 G3 Qe k1 k2 k3 k4 hVe hpe
          go_wp2_with fail
          refine (unhide D6 _ (unhide Qf)).mono ?_
          rintro e wg ⟨rfl, Qg, bg⟩
          have Bg := hide ((unhide Bf).trans ((unhide bg).mono (unhide Bf).size))
          obtain ⟨r0, r1, r2, r3, r4, r5, r6, -⟩ := cells7 (((unhide bg).block _ (lt_of_heap (unhide K1))).trans (unhide K1))
          obtain ⟨s0, s1, s2, s3, s4, s5, s6, -⟩ := cells7 (((unhide bg).block _ (lt_of_heap (unhide K2))).trans (unhide K2))
          obtain ⟨t0, t1, t2, t3, t4, t5, t6, -⟩ := cells7 (((unhide bg).block _ (lt_of_heap (unhide K3))).trans (unhide K3))
          obtain ⟨u0, u1, u2, u3, u4, u5, u6, -⟩ := cells7 (((unhide bg).block _ (lt_of_heap (unhide K4))).trans (unhide K4))
          clear D6 bg Bf K1 K2 K3 K4 Qf hVf hpf
          go_wp2_with fail
          refine (unhide HK _).mono ?_
          rintro e wh ⟨rfl, bh⟩
          have Bh := hide ((unhide Bg).trans (bh.mono (unhide Bg).size))
          clear bh Bg r0 r1 r2 r3 r4 r5 r6 s0 s1 s2 s3 s4 s5 s6 t0 t1 t2 t3 t4 t5 t6 u0 u1 u2 u3 u4 u5 u6
          go_wp2_with fail
          go_ret
          exact ⟨rfl, unhide Bh⟩
        · clear Hd1 Hd2 Q9 Hx1 Hhad Hnn Hok Hp Hq Hl Hme HLk HQ
          by_cases hm : me = 0
          · subst hm
            obtain rfl : had = true := by
              cases had with
              | true => rfl
              | false => exact absurd ⟨rfl, rfl⟩ hz
            clear hz
            go_wp2_with fail
            refine (unhide HK _).mono ?_
            rintro e w10 ⟨rfl, b10⟩
            have BF := hide ((unhide B9).trans (b10.mono (unhide B9).size))
            clear b10
            go_wp2_with fail
            go_ret
            exact ⟨rfl, unhide BF⟩
          · have q1 : (me != 0) = true := by simp [hm]
            have q2 : (me == 0) = false := by simp [hm]
            clear hz
            go_wp2_with fail
            refine (unhide HK _).mono ?_
            rintro e w10 ⟨rfl, b10⟩
            have BF := hide ((unhide B9).trans (b10.mono (unhide B9).size))
            clear b10
            go_wp2_with fail
            go_ret
            exact ⟨rfl, unhide BF⟩
end Go.Proofs.Ytiedobpgfhmidaa
