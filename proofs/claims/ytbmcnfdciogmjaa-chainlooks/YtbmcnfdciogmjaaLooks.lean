/-
  ChainLooks: the walk.
-/
import Derived.Test.YtbmcnfdciogmjaaLkT1
import Derived.Test.YtbmcnfdciogmjaaLkT2
import Derived.Test.YtbmcnfdciogmjaaLkT3
import Derived.Deep.CutBlock
namespace Go.Proofs.Ytbmcnfdciogmjaa
open Go.RowKit Go.Sort
attribute [local go_sem ↓] Go.wp_at_zero Go.wp_at_succ

set_option maxRecDepth 100000 in
set_option maxHeartbeats 8000000 in
theorem looks_walk (n : Int) (pb : Option Addr) (lenb capb : Nat) (key : ByteArray) (hs : key.size ≤ 9223372036854775807) (pl : Option Addr) (lenl capl : Nat) (w : World) (hb : AsksAt w pb lenb) (hl : AsksAt w pl lenl) :
    Calls Try.prog 5 #[.int .i64 n, .slice pb lenb capb, .string key, .slice pl lenl capl] w fun e w' => e = .returned (.bool true) ∧ Below w.heap.size w w' := by
  have hmaxb := hb.1
  have hmaxl := hl.1
  replace hb := hide hb
  replace hl := hide hl
  have K0 := hide (within_any n 3 w (by omega) (by omega))
  go_enter Try.func5, Try.ntmps5
  go_wp2_with fail
  refine (unhide K0).mono ?_
  rintro e w1 ⟨⟨r, r0, r1, rfl⟩, rfl⟩
  obtain ⟨nn, hn1, hn2, hnn⟩ : ∃ nn : Nat, 1 ≤ nn ∧ nn ≤ 4 ∧ (nn : Int) = 1 + r := ⟨(1 + r).toNat, by omega, by omega, by omega⟩
  have K2 := hide (new_T nn hn1 (by omega) w1)
  clear K0
  go_wp2_with fail
  rw [← hnn]
  clear hnn r0 r1
  refine (unhide K2).mono ?_
  rintro e w2 ⟨bt, rfl, T2, -⟩
  have K3 := hide (rnew_any w2)
  replace T2 := hide T2
  clear K2
  go_wp2_with fail
  refine (unhide K3).mono ?_
  rintro e w3 ⟨rfl, R3, B3⟩
  have T3 := hide ((unhide T2).below B3)
  have R4 := hide (R3.rebase (unhide T2).base_le)
  generalize w2.heap.size = rb at *
  clear K3 R3 B3 T2
  go_upto_block 0 with fail
  refine wp_cut (R0 w1 bt nn rb lenb capb pb _ _ _ _ _ _ _ _ _ _ _ _ _ _ _ _ _ _ _ _ _ _ _ _ _ _ _ _ _ _ _ _ _ _ _ _ _ _ _ _ _ _ _ _ _ _ _ _ _ _ _ _ _ _ _ _ _ _ _ _ _ _ _ _ _ _ _ _ _ _ _ _ _ _ _ _ _ _ _ _ _ _ _ _ _ _ _ _ _ _ _ _ _ _ _ _ _ _ _ _ _ _ _ _ _ _ _ _ _ _ _ _ _ _ _ _ _ _ _ _ _ _ _ _ _ _ _ _ _ _ _ _ _ _ _ _ _ _ _ _ _ _ _ _ _ _ _ _ _ _ _ _ _ _ _ _ _ _ _ _ _ _ _ _ _ _ _ _ _ _ _ _ _ _ _ _ _ _ _ _ _ _ _ _ _ _ _ _ _ _ _ _ _ _ _ _ _ _ _ _ _ _ _ _ _ _ _ _ _ _ _ _ _ _ _ _ _ _ _ _ _ _ _ _ _ _ _ _ _ _ _ _ _) ?_ (fun J K' h1 h2 => t0 w1 bt nn rb lenb capb pb _ _ _ _ _ _ _ _ _ _ _ _ _ _ _ _ _ _ _ _ _ _ _ _ _ _ _ _ _ _ _ _ _ _ _ _ _ _ _ _ _ _ _ _ _ _ _ _ _ _ _ _ _ _ _ _ _ _ _ _ _ _ _ _ _ _ _ _ _ _ _ _ _ _ _ _ _ _ _ _ _ _ _ _ _ _ _ _ _ _ _ _ _ _ _ _ _ _ _ _ _ _ _ _ _ _ _ _ _ _ _ _ _ _ _ _ _ _ _ _ _ _ _ _ _ _ _ _ _ _ _ _ _ _ _ _ _ _ _ _ _ _ _ _ _ _ _ _ _ _ _ _ _ _ _ _ _ _ _ _ _ _ _ _ _ _ _ _ _ _ _ _ _ _ _ _ _ _ _ _ _ _ _ _ _ _ _ _ _ _ _ _ _ _ _ _ _ _ _ _ _ _ _ _ _ _ _ _ _ _ _ _ _ _ _ _ _ _ _ _ _ _ _ _ _ _ _ _ _ _ _ _ _ _ _ _ _ _ _ _ _ _ _ _ _ _ _ _ _ _ _ _ _ _ _ _ _ _ _ _ _ _ _ _ _ _ _ _ _ _ _ _ _ _ _ _ _ _ _ _ _ _ _ _ _ _ _ _ w3 hmaxb hb T3 R4 J K' h1 h2)
  intro _ wc hinv
  obtain ⟨u12, hinv⟩ := hinv
  obtain ⟨u45, hinv⟩ := hinv
  obtain ⟨u46, hinv⟩ := hinv
  obtain ⟨u47, hinv⟩ := hinv
  obtain ⟨u48, hinv⟩ := hinv
  obtain ⟨u49, hinv⟩ := hinv
  obtain ⟨u50, hinv⟩ := hinv
  obtain ⟨u51, hinv⟩ := hinv
  obtain ⟨u52, hinv⟩ := hinv
  obtain ⟨u53, hinv⟩ := hinv
  obtain ⟨u54, hinv⟩ := hinv
  obtain ⟨u55, hinv⟩ := hinv
  obtain ⟨u56, hinv⟩ := hinv
  obtain ⟨u57, hinv⟩ := hinv
  obtain ⟨u58, hinv⟩ := hinv
  obtain ⟨u59, hinv⟩ := hinv
  obtain ⟨u60, hinv⟩ := hinv
  obtain ⟨u61, hinv⟩ := hinv
  obtain ⟨u62, hinv⟩ := hinv
  obtain ⟨u63, hinv⟩ := hinv
  obtain ⟨u64, hinv⟩ := hinv
  obtain ⟨u65, hinv⟩ := hinv
  obtain ⟨u66, hinv⟩ := hinv
  obtain ⟨u67, hinv⟩ := hinv
  obtain ⟨u68, hinv⟩ := hinv
  obtain ⟨u69, hinv⟩ := hinv
  obtain ⟨u70, hinv⟩ := hinv
  obtain ⟨u71, hinv⟩ := hinv
  obtain ⟨u72, hinv⟩ := hinv
  obtain ⟨u73, hinv⟩ := hinv
  obtain ⟨u74, hinv⟩ := hinv
  obtain ⟨u75, hinv⟩ := hinv
  obtain ⟨u76, hinv⟩ := hinv
  obtain ⟨u77, hinv⟩ := hinv
  obtain ⟨u78, hinv⟩ := hinv
  obtain ⟨u79, hinv⟩ := hinv
  obtain ⟨u80, hinv⟩ := hinv
  obtain ⟨u81, hinv⟩ := hinv
  obtain ⟨u82, hinv⟩ := hinv
  obtain ⟨u83, hinv⟩ := hinv
  obtain ⟨u84, hinv⟩ := hinv
  obtain ⟨u85, hinv⟩ := hinv
  obtain ⟨u86, hinv⟩ := hinv
  obtain ⟨u87, hinv⟩ := hinv
  obtain ⟨u88, hinv⟩ := hinv
  obtain ⟨u89, hinv⟩ := hinv
  obtain ⟨u90, hinv⟩ := hinv
  obtain ⟨u91, hinv⟩ := hinv
  obtain ⟨u92, hinv⟩ := hinv
  obtain ⟨u93, hinv⟩ := hinv
  obtain ⟨u94, hinv⟩ := hinv
  obtain ⟨u95, hinv⟩ := hinv
  obtain ⟨u96, hinv⟩ := hinv
  obtain ⟨u97, hinv⟩ := hinv
  obtain ⟨u98, hinv⟩ := hinv
  obtain ⟨hcut, ha⟩ := hinv
  subst ha
  try dsimp only
  obtain ⟨m, T, R, KK⟩ := hcut
  clear T3 R4 hb
  have hml := (unhide T).mlen
  have e1 : (nn : Int) % 4294967296 = (nn : Int) := by omega
  have e2 : ¬ (nn : Int) = 0 := by omega
  have e3 : (hash key).tmod (nn : Int) = (slotOf nn key : Int) := slot_tmod key nn
  have KH := hide (rhash_any key hs wc)
  have KI := hide (rin_any _ rb nn (slotOf nn key) m hml (unhide KK) hn1 wc (unhide R))
  have KL := hide (l_look (key := key) (unhide T) (unhide R) hs)
  have hC := Nat.le_trans (cnt_le nn (slotOf nn key) m) hml
  have hT0 := hide (unhide T).bel
  clear T R KK
  generalize hash key = HH at *
  generalize hCN : cntP nn (slotOf nn key) m = CN at *
  generalize hsl : slotOf nn key = sl at *
  have C0 : (0 : Int) ≤ (CN : Int) := by omega
  have C1 : (CN : Int) ≤ 64 := by omega
  clear hCN hC
  replace hsl := hide hsl
  go_wp2_with fail
  refine (unhide KH).mono ?_
  rintro e w4 ⟨rfl, rfl⟩
  go_wp2_with fail
  refine (unhide KI).mono ?_
  rintro e w5 ⟨rfl, rfl⟩
  go_wp2_with fail
  refine (unhide KL).mono ?_
  rintro e w6 ⟨lb, rfl, HL⟩
  obtain ⟨P0, M0, pu0, pp0⟩ := unhide HL
  have KG := hide (rget_any _ rb m key hml w6 M0.rf)
  clear HL KH KI KL
  replace M0 := hide M0
  replace pu0 := hide pu0
  replace pp0 := hide pp0
  generalize hv : val m key = v at KG pu0
  replace hv := hide hv
  generalize hhk : has m key = hh at KG pu0 pp0
  replace hhk := hide hhk
  go_wp2_with fail
  refine (unhide KG).mono ?_
  rintro e w7 ⟨rfl, B7⟩
  have M7 := hide ((unhide M0).below B7)
  clear M0 B7 KG e3
  go_upto_if 125 with fail
  go_cut [20] from 30 (fun s20 wx => ∃ a c seen, s20 = .slice a (seen.length) c ∧ seen.length ≤ 1 ∧ Hid (LS w1 bt nn rb lb key v wx m (.slice a seen.length c) seen hh (!hh) false ((CN : Int) + 2) 0 0 64))
  case first =>
    have hB7 := (unhide M7).bel
    have own0 : (w7.alloc (.cells #[] 2)).ownsRow w1.heap.size 2 1 (.slice (some ⟨w7.heap.size, 0, none⟩) 0 0) ([] : List Int).length (ints []) :=
      ⟨rfl, .inr ⟨w7.heap.size, 0, #[], rfl, hB7.size, putAll (w := w7) (.cells #[] 2) w7.heap.size rfl, Nat.le_refl _, by unfold maxLen; omega, rfl, rfl⟩⟩
    have M8 := hide (((unhide M7).below ((Below.refl _ w7).alloc (Nat.le_refl _) (.cells #[] 2))).k2 (W' := w7.alloc (.cells #[] 2)) (fun _ _ _ _ _ => rfl) (hB7.trans (((Below.refl _ w7).alloc (Nat.le_refl _) _).mono hB7.size)) own0)
    have hsz : w1.heap.size ≤ (w7.alloc (.cells #[] 2)).heap.size := by have := hB7.size; simp; omega
    generalize w7.alloc (.cells #[] 2) = w8 at *
    generalize Value.slice (some ⟨w7.heap.size, 0, none⟩) 0 0 = sv0 at *
    obtain ⟨a8, c8, rfl⟩ := own_form own0
    simp only [List.length_nil] at own0 M8 ⊢
    clear M7 hB7
    cases hh with
    | false =>
      clear own0
      go_wp2_with fail
      go_meet
      have e : seenN [] m key = [] := by simp [seenN, unhide hhk]
      have pu := unhide pu0
      have pp := unhide pp0
      rw [e] at pu pp
      exact ⟨_, _, [], rfl, by simp, ⟨pu, by simp, hml, .inl ⟨rfl, P0, 0, unhide M8, pp, by have := pp.b2; omega⟩, by omega, by omega⟩⟩
    | true =>
      obtain ⟨v', w9, r9, o9, k9, b9, a9, c9, rfl⟩ := app_seen (seen := []) v own0 (by simp) hsz
      have M9 := hide ((unhide M8).k2 (seen' := [v]) k9 (b9 _ (unhide M8).bel) (by simpa [ints] using o9))
      clear own0 o9 k9 b9
      go_wp2_with (first
        | (at_builtin; refine wpList_append_eq rfl _ _ 52 rfl 52 rfl _ _ rfl rfl _ _ r9 ?_))
      go_meet
      have e : seenN [] m key = [v] := by simp [seenN, unhide hhk, unhide hv]
      have pu := unhide pu0
      have pp := unhide pp0
      rw [e] at pu pp
      exact ⟨_, _, [v], rfl, by simp, ⟨pu, by simp, hml, .inl ⟨rfl, P0, 0, unhide M9, pp, by have := pp.b2; omega⟩, by omega, by omega⟩⟩
  case rest =>
    obtain ⟨a0, c0, seen0, rfl, hs0, LS0⟩ := hcut
    clear M7 pu0 pp0 hhk hv hml
    obtain ⟨nh, hnh⟩ : ∃ x, (!hh) = x := ⟨_, rfl⟩
    rw [hnh] at LS0
    obtain ⟨most0, hmost0⟩ : ∃ x : Int, (CN : Int) + 2 = x := ⟨_, rfl⟩
    rw [hmost0] at LS0
    go_upto_block 2 with fail
    rw [hnh, hmost0]
    clear hnh hmost0 C0 C1
    refine wp_cut (R2 w1 bt nn rb lb sl lenl capl key v pl _ _ _ _ _ _ _ _ _ _ _ _ _ _ _ _ _ _ _ _ _ _ _ _ _ _ _ _ _ _ _ _ _ _ _ _ _ _ _ _ _ _ _ _ _ _ _ _ _ _ _ _ _ _ _ _ _ _ _ _ _ _ _ _ _ _ _ _ _ _ _ _ _ _ _ _ _ _ _ _ _ _ _ _ _ _ _ _ _ _ _ _ _ _ _ _ _ _ _ _ _ _ _ _ _ _ _ _ _ _ _ _ _ _ _ _ _ _ _ _ _ _ _ _ _ _ _ _ _ _ _ _ _ _ _ _ _ _ _ _ _ _ _ _ _ _ _ _ _ _ _ _ _ _ _ _ _ _ _ _ _ _ _ _ _ _ _ _ _ _ _ _ _ _ _ _ _ _ _ _ _ _) ?_ (fun J K' h1 h2 => t2 w1 bt nn rb lb sl lenl capl key v pl _ _ _ _ _ _ _ _ _ _ _ _ _ _ _ _ _ _ _ _ _ _ _ _ _ _ _ _ _ _ _ _ _ _ _ _ _ _ _ _ _ _ _ _ _ _ _ _ _ _ _ _ _ _ _ _ _ _ _ _ _ _ _ _ _ _ _ _ _ _ _ _ _ _ _ _ _ _ _ _ _ _ _ _ _ _ _ _ _ _ _ _ _ _ _ _ _ _ _ _ _ _ _ _ _ _ _ _ _ _ _ _ _ _ _ _ _ _ _ _ _ _ _ _ _ _ _ _ _ _ _ _ _ _ _ _ _ _ _ _ _ _ _ _ _ _ _ _ _ _ _ _ _ _ _ _ _ _ _ _ _ _ _ _ _ _ _ _ _ _ _ _ _ _ _ _ _ _ _ _ _ _ _ _ _ _ _ _ _ _ _ _ _ _ _ _ _ _ _ _ _ _ _ _ _ _ _ _ _ _ _ _ _ _ _ _ _ _ _ _ _ _ _ _ _ _ _ _ _ _ _ _ _ _ _ _ _ _ _ _ _ _ _ _ _ _ _ _ _ _ _ _ _ _ _ _ _ _ _ _ _ _ _ _ _ _ _ _ _ _ _ _ _ _ _ _ _ _ wc m seen0 hh nh most0 a0 c0 hs0 hmaxl hsl e1 e2 hl LS0 J K' h1 h2)
    intro _ wc hinv
    obtain ⟨u14, hinv⟩ := hinv
    obtain ⟨u18, hinv⟩ := hinv
    obtain ⟨u19, hinv⟩ := hinv
    obtain ⟨u20, hinv⟩ := hinv
    obtain ⟨u21, hinv⟩ := hinv
    obtain ⟨u22, hinv⟩ := hinv
    obtain ⟨u23, hinv⟩ := hinv
    obtain ⟨u24, hinv⟩ := hinv
    obtain ⟨u25, hinv⟩ := hinv
    obtain ⟨u130, hinv⟩ := hinv
    obtain ⟨u131, hinv⟩ := hinv
    obtain ⟨u132, hinv⟩ := hinv
    obtain ⟨u133, hinv⟩ := hinv
    obtain ⟨u134, hinv⟩ := hinv
    obtain ⟨u135, hinv⟩ := hinv
    obtain ⟨u136, hinv⟩ := hinv
    obtain ⟨u137, hinv⟩ := hinv
    obtain ⟨u138, hinv⟩ := hinv
    obtain ⟨u139, hinv⟩ := hinv
    obtain ⟨u140, hinv⟩ := hinv
    obtain ⟨u141, hinv⟩ := hinv
    obtain ⟨u142, hinv⟩ := hinv
    obtain ⟨u143, hinv⟩ := hinv
    obtain ⟨u144, hinv⟩ := hinv
    obtain ⟨u145, hinv⟩ := hinv
    obtain ⟨u146, hinv⟩ := hinv
    obtain ⟨u147, hinv⟩ := hinv
    obtain ⟨u148, hinv⟩ := hinv
    obtain ⟨u149, hinv⟩ := hinv
    obtain ⟨u150, hinv⟩ := hinv
    obtain ⟨u151, hinv⟩ := hinv
    obtain ⟨u152, hinv⟩ := hinv
    obtain ⟨u153, hinv⟩ := hinv
    obtain ⟨u154, hinv⟩ := hinv
    obtain ⟨u155, hinv⟩ := hinv
    obtain ⟨u156, hinv⟩ := hinv
    obtain ⟨u157, hinv⟩ := hinv
    obtain ⟨u158, hinv⟩ := hinv
    obtain ⟨u159, hinv⟩ := hinv
    obtain ⟨u160, hinv⟩ := hinv
    obtain ⟨u161, hinv⟩ := hinv
    obtain ⟨u162, hinv⟩ := hinv
    obtain ⟨u163, hinv⟩ := hinv
    obtain ⟨u164, hinv⟩ := hinv
    obtain ⟨u165, hinv⟩ := hinv
    obtain ⟨u166, hinv⟩ := hinv
    obtain ⟨u167, hinv⟩ := hinv
    obtain ⟨u168, hinv⟩ := hinv
    obtain ⟨u169, hinv⟩ := hinv
    obtain ⟨u170, hinv⟩ := hinv
    obtain ⟨u171, hinv⟩ := hinv
    obtain ⟨u172, hinv⟩ := hinv
    obtain ⟨u173, hinv⟩ := hinv
    obtain ⟨u174, hinv⟩ := hinv
    obtain ⟨u175, hinv⟩ := hinv
    obtain ⟨u176, hinv⟩ := hinv
    obtain ⟨u177, hinv⟩ := hinv
    obtain ⟨u178, hinv⟩ := hinv
    obtain ⟨u179, hinv⟩ := hinv
    obtain ⟨u180, hinv⟩ := hinv
    obtain ⟨u181, hinv⟩ := hinv
    obtain ⟨u182, hinv⟩ := hinv
    obtain ⟨u183, hinv⟩ := hinv
    obtain ⟨u184, hinv⟩ := hinv
    obtain ⟨u185, hinv⟩ := hinv
    obtain ⟨u186, hinv⟩ := hinv
    obtain ⟨u187, hinv⟩ := hinv
    obtain ⟨u188, hinv⟩ := hinv
    obtain ⟨u189, hinv⟩ := hinv
    obtain ⟨u190, hinv⟩ := hinv
    obtain ⟨u191, hinv⟩ := hinv
    obtain ⟨u192, hinv⟩ := hinv
    obtain ⟨u193, hinv⟩ := hinv
    obtain ⟨u194, hinv⟩ := hinv
    obtain ⟨u195, hinv⟩ := hinv
    obtain ⟨u196, hinv⟩ := hinv
    obtain ⟨u197, hinv⟩ := hinv
    obtain ⟨u198, hinv⟩ := hinv
    obtain ⟨u199, hinv⟩ := hinv
    obtain ⟨u200, hinv⟩ := hinv
    obtain ⟨u201, hinv⟩ := hinv
    obtain ⟨u202, hinv⟩ := hinv
    obtain ⟨u203, hinv⟩ := hinv
    obtain ⟨u204, hinv⟩ := hinv
    obtain ⟨u205, hinv⟩ := hinv
    obtain ⟨u206, hinv⟩ := hinv
    obtain ⟨u207, hinv⟩ := hinv
    obtain ⟨u208, hinv⟩ := hinv
    obtain ⟨u209, hinv⟩ := hinv
    obtain ⟨u210, hinv⟩ := hinv
    obtain ⟨u211, hinv⟩ := hinv
    obtain ⟨u212, hinv⟩ := hinv
    obtain ⟨u213, hinv⟩ := hinv
    obtain ⟨u214, hinv⟩ := hinv
    obtain ⟨u215, hinv⟩ := hinv
    obtain ⟨u216, hinv⟩ := hinv
    obtain ⟨u217, hinv⟩ := hinv
    obtain ⟨u218, hinv⟩ := hinv
    obtain ⟨u219, hinv⟩ := hinv
    obtain ⟨u220, hinv⟩ := hinv
    obtain ⟨u221, hinv⟩ := hinv
    obtain ⟨hcut, ha⟩ := hinv
    subst ha
    try dsimp only
    obtain ⟨m2, seen, al, nv, ov, most, a, c, rfl, rfl, rfl, rfl, rfl, L0⟩ := hcut
    clear LS0 hl hT0
    go_upto_block 5 with fail
    refine wp_cut (R5 w1 bt nn rb lb c key v most m2 a seen al nv _ _ _ _ _ _ _ _ _ _ _ _ _ _ _ _ _ _ _ _ _ _ _ _ _ _ _ _ _ _ _ _ _ _ _ _ _ _ _ _ _ _ _ _ _ _ _ _ _ _ _ _ _ _ _ _ _ _ _ _ _ _ _ _ _ _ _ _ _ _ _ _ _ _ _ _ _ _ _ _ _ _ _ _ _ _ _ _ _ _ _ _ _ _ _ _ _ _ _ _ _ _ _ _ _ _ _ _ _ _ _ _ _ _ _ _ _ _ _ _ _ _ _ _ _ _ _ _ _ _ _ _ _ _ _ _ _ _ _ _ _ _ _ _ _ _ _ _ _ _ _ _ _ _ _ _ _ _ _ _ _ _ _ _ _ _ _ _ _ _ _ _ _ _ _ _ _ _ _ _ _ _ _ _ _ _ _ _ _ _ _ _ _ _ _ _ _ _ _ _ _ _ _ _ _ _ _ _ _ _ _ _ _ _ _ _ _ _ _ _ _ _ _ _ _ _ _ _ _ _ _ _ _ _ _ _ _ _ _ _ _ _ _ _ _ _ _ _ _ _ _ _ _ _ _ _ _ _ _ _ _ _ _ _ _ _ _ _ _ _ _ _ _ _ _ _ _ _) ?_ (fun J K' h1 h2 => t5 w1 bt nn rb lb c key v most m2 a seen al nv _ _ _ _ _ _ _ _ _ _ _ _ _ _ _ _ _ _ _ _ _ _ _ _ _ _ _ _ _ _ _ _ _ _ _ _ _ _ _ _ _ _ _ _ _ _ _ _ _ _ _ _ _ _ _ _ _ _ _ _ _ _ _ _ _ _ _ _ _ _ _ _ _ _ _ _ _ _ _ _ _ _ _ _ _ _ _ _ _ _ _ _ _ _ _ _ _ _ _ _ _ _ _ _ _ _ _ _ _ _ _ _ _ _ _ _ _ _ _ _ _ _ _ _ _ _ _ _ _ _ _ _ _ _ _ _ _ _ _ _ _ _ _ _ _ _ _ _ _ _ _ _ _ _ _ _ _ _ _ _ _ _ _ _ _ _ _ _ _ _ _ _ _ _ _ _ _ _ _ _ _ _ _ _ _ _ _ _ _ _ _ _ _ _ _ _ _ _ _ _ _ _ _ _ _ _ _ _ _ _ _ _ _ _ _ _ _ _ _ _ _ _ _ _ _ _ _ _ _ _ _ _ _ _ _ _ _ _ _ _ _ _ _ _ _ _ _ _ _ _ _ _ _ _ _ _ _ _ _ _ _ _ _ _ _ _ _ _ _ _ _ _ _ _ _ _ _ _ _ _ _ _ _ _ _ _ _ _ _ wc ov L0 J K' h1 h2)
    intro _ wc hinv
    obtain ⟨u21, hinv⟩ := hinv
    obtain ⟨u26, hinv⟩ := hinv
    obtain ⟨u222, hinv⟩ := hinv
    obtain ⟨u223, hinv⟩ := hinv
    obtain ⟨u224, hinv⟩ := hinv
    obtain ⟨u225, hinv⟩ := hinv
    obtain ⟨u226, hinv⟩ := hinv
    obtain ⟨u227, hinv⟩ := hinv
    obtain ⟨u228, hinv⟩ := hinv
    obtain ⟨u229, hinv⟩ := hinv
    obtain ⟨u230, hinv⟩ := hinv
    obtain ⟨u231, hinv⟩ := hinv
    obtain ⟨hcut, ha⟩ := hinv
    subst ha
    try dsimp only
    obtain ⟨rfl, HL⟩ := hcut
    obtain ⟨k3, j3, L⟩ := unhide HL
    rcases L.wh with ⟨e, _⟩ | ⟨_, fd, u, st, M, po⟩
    · cases e
    · obtain ⟨x, hx⟩ := M.lk
      have KF := hide (found_any lb key x st true fd u wc hx)
      have pu := hide L.pu
      have hs81 := L.sl
      have nst : ¬ most < st := by have := po.o3; omega
      have HM := hide M
      have HX := hide hx
      replace po := hide po
      clear L0 HL L M hx
      go_wp2_with fail
      refine (unhide KF).mono ?_
      rintro e w4 ⟨rfl, B4⟩
      have M4 := (unhide HM).below B4
      have KS := hide (steps_any lb key x st true fd u w4 ((unhide HX).below B4))
      have KO := hide (step_over lb key x st fd u w4 ((unhide HX).below B4))
      have KN := hide (known_any w4)
      have hB4 := hide M4.bel
      have HSR := hide M4.sr
      clear KF HM HX B4 M4
      cases fd with
      | false =>
        obtain ⟨hu0, hal⟩ := (unhide po).o2 rfl
        subst hu0 hal
        clear HSR po pu
        cases nv with
        | false =>
          go_wp2_with fail
          refine (unhide KS).mono ?_
          rintro e w5 ⟨rfl, rfl⟩
          go_wp2_with fail
          refine (unhide KO).mono ?_
          rintro e w6 ⟨rfl, rfl⟩
          go_wp2_with fail
          refine (unhide KN).mono ?_
          rintro e w7 ⟨rfl, B7⟩
          replace B7 := hide B7
          go_wp2_with fail
          go_ret
          exact ⟨rfl, (unhide hB4).trans ((unhide B7).mono (unhide hB4).size)⟩
        | true =>
          go_wp2_with fail
          refine (unhide KS).mono ?_
          rintro e w5 ⟨rfl, rfl⟩
          go_wp2_with fail
          refine (unhide KO).mono ?_
          rintro e w6 ⟨rfl, rfl⟩
          go_wp2_with fail
          refine (unhide KN).mono ?_
          rintro e w7 ⟨rfl, B7⟩
          replace B7 := hide B7
          go_wp2_with fail
          go_ret
          exact ⟨rfl, (unhide hB4).trans ((unhide B7).mono (unhide hB4).size)⟩
      | true =>
        have hu := hide ((unhide po).o1 rfl)
        cases nv with
        | true =>
          exfalso
          have := (unhide pu).s2 rfl
          have h := unhide hu
          rw [this] at h
          simp at h
        | false =>
          obtain ⟨g, hg⟩ : ∃ g, a = some ⟨g, 0, none⟩ := by
            obtain ⟨-, ⟨e, hz⟩ | ⟨g, cap, cur, e, _⟩⟩ := unhide HSR
            · exfalso
              have h := unhide hu
              rw [List.length_eq_zero_iff.1 hz] at h
              simp at h
            · simp at e; exact ⟨g, e.1⟩
          subst hg
          have HCE := hide (own_cells (unhide HSR))
          clear HSR
          generalize hlen : seen.length = len at *
          replace hlen := hide hlen
          cases al with
          | true =>
            have huv := (unhide pu).s1 rfl u (unhide hu)
            subst huv
            clear po pu
            go_wp2_with fail
            refine (unhide KS).mono ?_
            rintro e w5 ⟨rfl, rfl⟩
            go_wp2_with fail
            go_loopw [29] (fun iv wr => ∃ i : Nat, i ≤ len ∧ iv = .int .i64 (i : Int) ∧ Hid (∀ z ∈ seen.take i, z ≠ u) ∧ wr = w5) (fun iv _ => len - (intOf iv).toNat)
            case atStart => exact ⟨0, by omega, rfl, hide (by simp), rfl⟩
            case round =>
              obtain ⟨i, hi, rfl, hN, rfl⟩ := hrel
              have i0 : (0 : Int) ≤ (i : Int) := by omega
              by_cases hil : i < len
              · have i1 : (i : Int) < (len : Int) := by omega
                obtain ⟨z, hz⟩ : ∃ z, seen[i]? = some z := ⟨_, List.getElem?_eq_getElem (by rw [unhide hlen]; exact hil)⟩
                have cz := unhide HCE i (.int .i64 z) (by simp [ints, hz])
                replace hz := hide hz
                by_cases hzu : z = u
                · subst hzu
                  go_wp2_with fail
                  refine (unhide KO).mono ?_
                  rintro e w6 ⟨rfl, rfl⟩
                  go_wp2_with fail
                  refine (unhide KN).mono ?_
                  rintro e w7 ⟨rfl, B7⟩
                  replace B7 := hide B7
                  go_wp2_with fail
                  go_ret
                  exact ⟨rfl, (unhide hB4).trans ((unhide B7).mono (unhide hB4).size)⟩
                · go_wp2_with fail
                  refine ⟨⟨i + 1, by omega, rfl, hide ?_, trivial⟩, by simp [intOf]; omega⟩
                  intro y hy
                  rw [List.take_add_one, unhide hz] at hy
                  rcases List.mem_append.1 hy with hy | hy
                  · exact unhide hN y hy
                  · simp at hy; rw [hy]; exact hzu
              · exfalso
                refine unhide hN u ?_ rfl
                rw [List.take_of_length_le (by rw [unhide hlen]; omega)]
                exact unhide hu
          | false =>
            clear po pu
            go_wp2_with fail
            refine (unhide KS).mono ?_
            rintro e w5 ⟨rfl, rfl⟩
            go_wp2_with fail
            go_loopw [29] (fun iv wr => ∃ i : Nat, i ≤ len ∧ iv = .int .i64 (i : Int) ∧ Hid (∀ z ∈ seen.take i, z ≠ u) ∧ wr = w5) (fun iv _ => len - (intOf iv).toNat)
            case atStart => exact ⟨0, by omega, rfl, hide (by simp), rfl⟩
            case round =>
              obtain ⟨i, hi, rfl, hN, rfl⟩ := hrel
              have i0 : (0 : Int) ≤ (i : Int) := by omega
              by_cases hil : i < len
              · have i1 : (i : Int) < (len : Int) := by omega
                obtain ⟨z, hz⟩ : ∃ z, seen[i]? = some z := ⟨_, List.getElem?_eq_getElem (by rw [unhide hlen]; exact hil)⟩
                have cz := unhide HCE i (.int .i64 z) (by simp [ints, hz])
                replace hz := hide hz
                by_cases hzu : z = u
                · subst hzu
                  go_wp2_with fail
                  refine (unhide KO).mono ?_
                  rintro e w6 ⟨rfl, rfl⟩
                  go_wp2_with fail
                  refine (unhide KN).mono ?_
                  rintro e w7 ⟨rfl, B7⟩
                  replace B7 := hide B7
                  go_wp2_with fail
                  go_ret
                  exact ⟨rfl, (unhide hB4).trans ((unhide B7).mono (unhide hB4).size)⟩
                · go_wp2_with fail
                  refine ⟨⟨i + 1, by omega, rfl, hide ?_, trivial⟩, by simp [intOf]; omega⟩
                  intro y hy
                  rw [List.take_add_one, unhide hz] at hy
                  rcases List.mem_append.1 hy with hy | hy
                  · exact unhide hN y hy
                  · simp at hy; rw [hy]; exact hzu
              · exfalso
                refine unhide hN u ?_ rfl
                rw [List.take_of_length_le (by rw [unhide hlen]; omega)]
                exact unhide hu
end Go.Proofs.Ytbmcnfdciogmjaa
