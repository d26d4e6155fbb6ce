/-
  The contract of the document's Read.
-/
import Derived.Test.YtnhddendkolfeaaRefC
namespace Go.Proofs.Ytnhddendkolfeaa
open Go.RowKit
attribute [local go_sem ↓] Go.wp_at_zero Go.wp_at_succ

/-- A path is stored into the answer's block. -/
theorem store3 {w W : World} {h : Nat} {x0 x1 x2 y0 y1 y2 : Value} (k0 : W.heap[h]? = some (.cells #[x0, x1, x2] 33)) (be : Below h w W) :
    ∃ X, ((W.setCell ⟨h, 0, none⟩ y0).setCell ⟨h, 1, none⟩ y1).setCell ⟨h, 2, none⟩ y2 = X ∧ X.cell? ⟨h, 0, none⟩ = some y0 ∧ X.cell? ⟨h, 1, none⟩ = some y1 ∧ X.cell? ⟨h, 2, none⟩ = some y2 ∧ Below h w X ∧ ∀ (k : Nat) (o : Obj), W.heap[k]? = some o → k ≠ h → X.heap[k]? = some o := by
  have q0 : (((W.setCell ⟨h, 0, none⟩ y0).setCell ⟨h, 1, none⟩ y1).setCell ⟨h, 2, none⟩ y2).heap[h]? = some (.cells #[y0, y1, y2] 33) := by
    rw [heap_set (heap_set (heap_set k0 0 _) 1 _) 2 _]; simp
  refine ⟨_, rfl, ?_, ?_, ?_, ((be.setCell (p := ⟨h, 0, none⟩) (by simp) _).setCell (p := ⟨h, 1, none⟩) (by simp) _).setCell (p := ⟨h, 2, none⟩) (by simp) _, fun k o h1 h2 => ?_⟩
  · rw [cell_of q0]; rfl
  · rw [cell_of q0]; rfl
  · rw [cell_of q0]; rfl
  · rw [Below.heap_setCell _ _ _ _ h2, Below.heap_setCell _ _ _ _ h2, Below.heap_setCell _ _ _ _ h2]; exact h1
set_option maxRecDepth 100000 in
set_option maxHeartbeats 1000000 in
theorem rread_first (l : List UInt8) (w : World) (x : Int) (hx : (l = [] ∧ x = 32) ∨ (l ≠ [] ∧ 4096 < l.length ∧ x = 45)) :
    Calls Try.prog 15 #[S l] w fun e w' => e = .returned (.tuple #[.agg #[.bool false, .bool false, .slice none 0 0], .int .i64 x]) ∧ Below w.heap.size w w' := by
  obtain ⟨V, hV, BV, bV⟩ := box (W := w) (.cells #[.bool false, .bool false, .slice none 0 0] 33)
  have c0 : V.cell? ⟨w.heap.size, 0, none⟩ = some (.bool false) := by rw [cell_of bV]; rfl
  have c1 : V.cell? ⟨w.heap.size, 1, none⟩ = some (.bool false) := by rw [cell_of bV]; rfl
  have c2 : V.cell? ⟨w.heap.size, 2, none⟩ = some (.slice none 0 0) := by rw [cell_of bV]; rfl
  replace hV := hide hV
  clear bV
  rcases hx with ⟨rfl, rfl⟩ | ⟨h1, h2, rfl⟩
  · go_enter Try.func15, Try.ntmps15
    go_wp2_with fail
    rw [unhide hV]
    exact bodyPost_ret (v := .tuple #[.agg #[.bool false, .bool false, .slice none 0 0], .int .i64 32]) (by simp [results, Try.results15, go_sem, c0, c1, c2]) rfl ⟨rfl, BV⟩
  · have h3 : (4096 : Int) < (l.length : Int) := by omega
    have h0 : l.isEmpty = false := by simpa using h1
    go_enter Try.func15, Try.ntmps15
    go_wp2_with fail
    rw [unhide hV]
    exact bodyPost_ret (v := .tuple #[.agg #[.bool false, .bool false, .slice none 0 0], .int .i64 45]) (by simp [results, Try.results15, go_sem, c0, c1, c2]) rfl ⟨rfl, BV⟩
set_option maxRecDepth 100000 in
set_option maxHeartbeats 4000000 in
theorem rread_rest (l : List UInt8) (w : World) (h1 : l ≠ []) (h2 : l.length ≤ 4096) :
    Calls Try.prog 15 #[S l] w fun e w' => ∃ v, e = .returned (.tuple #[.agg #[.bool (rt l), .bool (sl l), v], .int .i64 (err l)]) ∧ w'.ownsRow w.heap.size 9 1 v (ps l).length (strs (ps l)) ∧ Below w.heap.size w w' := by
  have h3 : ¬ (4096 : Int) < (l.length : Int) := by omega
  have h0 : l.isEmpty = false := by simpa using h1
  have hl0 : 0 < l.length := by cases l with
    | nil => exact absurd rfl h1
    | cons _ _ => simp
  obtain ⟨V, hV, BV, bV⟩ := box (W := w) (.cells #[.bool false, .bool false, .slice none 0 0] 33)
  have HB := hide BV
  have HV := hide bV
  have hVs := hide (show V.heap.size = w.heap.size + 1 by rw [← hV]; simp)
  generalize hH : w.heap.size = h at *
  have HH := hide hH
  replace hV := hide hV
  clear BV bV
  go_enter Try.func15, Try.ntmps15
  go_wp2_with fail
  rw [unhide hV]
  clear hV hH
  go_loopw [4] (fun i wr => ∃ k : Nat, k ≤ l.length ∧ i = .int .i64 k ∧ (0 : UInt8) ∉ l.take k ∧ wr = V) (fun i _ => l.length - (intOf i).toNat)
  case atStart => exact ⟨0, by omega, rfl, by simp, rfl⟩
  case round =>
    obtain ⟨k, hk, rfl, n0, rfl⟩ := hrel
    by_cases hlt : k < l.length
    · have j0 : (0 : Int) ≤ (k : Int) := by omega
      have j1 : (k : Int) < (l.length : Int) := by omega
      have hkb : k < (bs l).size := hlt
      have r0 : l[k] ∈ l := List.getElem_mem hlt
      by_cases c0 : l[k] = 0
      · have he : err l = 39 := by
          unfold err
          rw [if_neg h1, if_neg (by omega), if_pos (by rw [← c0]; exact r0)]
        obtain ⟨d1, d2⟩ := is0 (show (bs l)[k] = 0 from c0)
        obtain ⟨X, hX, x0, x1, x2, xB, -⟩ := store3 (y0 := .bool false) (y1 := .bool false) (y2 := .slice none 0 0) (unhide HV) (unhide HB)
        have y0 : wr.cell? ⟨h, 0, none⟩ = some (.bool false) := by rw [cell_of (unhide HV)]; rfl
        have y1 : wr.cell? ⟨h, 1, none⟩ = some (.bool false) := by rw [cell_of (unhide HV)]; rfl
        have y2 : wr.cell? ⟨h, 2, none⟩ = some (.slice none 0 0) := by rw [cell_of (unhide HV)]; rfl
        have f0 : wr.frozen? ⟨h, 0, none⟩ = false := frozen_of (unhide HV) 0
        have f1 : wr.frozen? ⟨h, 1, none⟩ = false := frozen_of (unhide HV) 1
        have f2 : wr.frozen? ⟨h, 2, none⟩ = false := frozen_of (unhide HV) 2
        replace hX := hide hX
        replace xB := hide xB
        replace he := hide he
        clear n0 r0
        go_wp2_with fail
        rw [unhide hX]
        refine bodyPost_ret (v := .tuple #[.agg #[.bool false, .bool false, .slice none 0 0], .int .i64 39]) (by simp [results, Try.results15, go_sem, x0, x1, x2]) rfl ?_
        have e0 := unhide he
        have e1 : rt l = false := by simp [rt, e0]
        have e2 : sl l = false := by simp [sl, e0]
        have e3 : ps l = [] := by simp [ps, e0]
        rw [e0, e1, e2, e3]
        exact ⟨_, rfl, World.ownsRow_nil _ _ _ _, unhide xB⟩
      · obtain ⟨d1, d2⟩ := not0 (show ¬ (bs l)[k] = 0 from c0)
        have m0 : Hid ((0 : UInt8) ∉ l.take (k + 1)) := hide (by rw [take_mem hlt]; rintro (h | h); exact n0 h; exact c0 h.symm)
        have d5 : (((bs l)[k].toNat : Int) == 0) = false := by simpa using d2
        clear n0 r0
        go_wp2_with fail
        exact ⟨⟨k + 1, by omega, rfl, unhide m0, trivial⟩, by simp [intOf]; omega⟩
    · obtain rfl : k = l.length := by omega
      have j1 : ¬ ((l.length : Nat) : Int) < (l.length : Int) := by omega
      rw [List.take_length] at n0
      replace n0 := hide n0
      have i0 : 0 < (bs l).size := hl0
      obtain ⟨p, hp⟩ : ∃ p, l.length - 1 = p := ⟨_, rfl⟩
      have i1 : p < (bs l).size := by show p < l.length; omega
      have i2 : (0 : Int) ≤ (p : Int) := by omega
      have i3 : (p : Int) < (l.length : Int) := by omega
      have i4 : (l.length : Int) - 1 = (p : Int) := by omega
      have i5 : IntKind.i64.wrap (p : Int) = (p : Int) := by rw [IntKind.wrap_i64]; omega
      have i6 : IntKind.i64.wrap ((l.length : Int) - 1) = (p : Int) := by rw [i4, i5]
      have hp2 : p < l.length := by omega
      have b1 : (((bs l)[0].toNat : Int) == 47) = (l[0] == 47) := by
        by_cases h : l[0] = 47
        · rw [(is47 (show (bs l)[0] = 47 from h)).2]; simp [h]
        · have := (not47 (show ¬ (bs l)[0] = 47 from h)).2
          rw [show (l[0] == 47) = false from by simpa using h]; simpa using this
      have b2 : (((bs l)[p].toNat : Int) == 47) = (l[p] == 47) := by
        by_cases h : l[p] = 47
        · rw [(is47 (show (bs l)[p] = 47 from h)).2]; simp [h]
        · have := (not47 (show ¬ (bs l)[p] = 47 from h)).2
          rw [show (l[p] == 47) = false from by simpa using h]; simpa using this
      obtain ⟨br, hbr⟩ : ∃ br, (l[0] == 47) = br := ⟨_, rfl⟩
      obtain ⟨bl, hbl⟩ : ∃ bl, (l[p] == 47) = bl := ⟨_, rfl⟩
      rw [hbr] at b1
      rw [hbl] at b2
      replace hbr := hide hbr
      replace hbl := hide hbl
      replace hp := hide hp
      go_wp2_with fail
      go_region
      rw [unhide hVs]
      have J0 : DJ w (wr.alloc (.cells #[.bool br, .bool bl, .slice none 0 0] 33)).drew h br bl none 0 0 [] := by
        have hs := unhide hVs
        have hn : (wr.alloc (.cells #[.bool br, .bool bl, .slice none 0 0] 33)).heap[h + 1]? = some (.cells #[.bool br, .bool bl, .slice none 0 0] 33) := putAll _ _ hs.symm
        exact ⟨below_drew ((unhide HB).alloc (by omega) _), (Below.heap_alloc wr _ _ (by omega)).trans (unhide HV), hn, World.ownsRow_nil _ _ _ _⟩
      generalize (wr.alloc (.cells #[.bool br, .bool bl, .slice none 0 0] 33)).drew = W1 at *
      replace J0 := hide J0
      clear b1 b2 i4 i5 i6 HV HB hVs
      go_wp2_with fail
      go_loopw [6, 7] (fun f i wr => ∃ (k g M : Nat) (dn : List (List UInt8)) (a : Option Addr) (cap : Nat), k ≤ l.length + 1 ∧ g ≤ k ∧ M ≤ k ∧ Hid (k = l.length + 1 → g = k) ∧ i = .int .i64 k ∧ f = .int .i64 g ∧ Hid (parts l = dn ++ parts (l.drop g)) ∧ Hid ((47 : UInt8) ∉ mid l g k) ∧ Hid (dn.length = M) ∧ Hid (DJ w wr h br bl a M cap dn)) (fun _ i _ => l.length + 1 - (intOf i).toNat)
      case atStart => exact ⟨0, 0, 0, [], none, 0, by omega, by omega, by omega, hide (by omega), rfl, rfl, hide (by simp), hide (by simp [mid]), hide rfl, J0⟩
      case round =>
        obtain ⟨k, g, M, dn, a, cap, hk, hg, hM, hend, rfl, rfl, hpa, hno, hdn, J⟩ := hrel
        clear J0
        by_cases hlt : k < l.length
        · have j0 : (0 : Int) ≤ (k : Int) := by omega
          have j1 : (k : Int) < (l.length : Int) := by omega
          have j2 : (k : Int) ≤ (l.length : Int) := by omega
          have hkl : k < l.length := hlt
          have hkb : k < (bs l).size := hkl
          by_cases c0 : l[k] = 47
          · obtain ⟨d1, d2⟩ := is47 (show (bs l)[k] = 47 from c0)
            have d5 : (((bs l)[k].toNat : Int) == 47) = true := by rw [d2]; rfl
            have hpa2 := mid_slash hg hkl c0 (unhide hno)
            by_cases hgk : g < k
            · have q1 : (g : Int) < (k : Int) := by omega
              have q2 : (0 : Int) ≤ (g : Int) := by omega
              have q3 : (g : Int) ≤ (k : Int) := by omega
              rw [(mid_piece (by omega)).1 hgk] at hpa2
              have hx := mid_bs l g k
              obtain ⟨a', cap', W6, run1, d0, df, J6⟩ := (unhide J).drew.more (mid l g k) (by omega)
              obtain ⟨-, -, e2, -⟩ := (unhide J).cells
              have hlw : h + 1 < wr.heap.size := lt_of_heap (unhide J).bx
              have hdn2 : Hid ((dn ++ [mid l g k]).length = M + 1) := hide (by rw [List.length_append, unhide hdn]; rfl)
              have hpa3 : Hid (parts l = (dn ++ [mid l g k]) ++ parts (l.drop (k + 1))) := hide (by rw [unhide hpa, hpa2, List.append_assoc])
              generalize mid l g k = x at *
              replace J6 := hide J6
              clear hpa2 J hno hpa hdn hgk
              go_wp2_with fail
              go_region_law (refine step_append_g run1 _ _ (by rfl) (by rfl) (by rfl) (by rfl) (by rfl) ?_)
              all_goals
                generalize W6.setCell ⟨h + 1, 2, none⟩ (.slice a' (M + 1) cap') = W7 at *
                clear run1 d0 df e2
                go_wp2_with fail
                go_roundw
                case rel => exact ⟨k + 1, k + 1, M + 1, dn ++ [x], a', cap', by omega, by omega, by omega, hide (fun _ => rfl), by go_num, by go_num, hpa3, hide (by rw [mid_none]; simp), hdn2, J6⟩
                case measure => simp [intOf]; omega
            · have q1 : ¬ (g : Int) < (k : Int) := by omega
              rw [(mid_piece (by omega)).2 hgk, List.nil_append] at hpa2
              have hpa3 : Hid (parts l = dn ++ parts (l.drop (k + 1))) := hide (by rw [unhide hpa, hpa2])
              clear hpa2 hno hpa hgk
              go_wp2_with fail
              exact ⟨⟨k + 1, k + 1, M, dn, a, cap, by omega, by omega, by omega, hide (fun _ => rfl), rfl, rfl, hpa3, hide (by rw [mid_none]; simp), hdn, J⟩, by simp [intOf]; omega⟩
          · obtain ⟨d1, d2⟩ := not47 (show ¬ (bs l)[k] = 47 from c0)
            have d5 : (((bs l)[k].toNat : Int) == 47) = false := by simpa using d2
            have hno2 := hide (show (47 : UInt8) ∉ mid l g (k + 1) by
              rw [mid_more hg hkl, List.mem_append]
              rintro (h | h)
              · exact unhide hno h
              · simp at h; exact c0 h.symm)
            go_wp2_with fail
            exact ⟨⟨k + 1, g, M, dn, a, cap, by omega, by omega, by omega, hide (by omega), rfl, rfl, hpa, hno2, hdn, J⟩, by simp [intOf]; omega⟩
        · have j1 : ¬ (k : Int) < (l.length : Int) := by omega
          by_cases hke : k = l.length
          · have j2 : (k : Int) ≤ (l.length : Int) := by omega
            have j0 : (0 : Int) ≤ (k : Int) := by omega
            have hpa2 : parts (l.drop g) = piece (mid l g k) ++ parts (l.drop (k + 1)) := by
              subst hke; exact mid_last (unhide hno)
            have hkle : k ≤ l.length := by omega
            clear hke
            by_cases hgk : g < k
            · have q1 : (g : Int) < (k : Int) := by omega
              have q2 : (0 : Int) ≤ (g : Int) := by omega
              have q3 : (g : Int) ≤ (k : Int) := by omega
              rw [(mid_piece (by omega)).1 hgk] at hpa2
              have hx := mid_bs l g k
              obtain ⟨a', cap', W6, run1, d0, df, J6⟩ := (unhide J).drew.more (mid l g k) (by omega)
              obtain ⟨-, -, e2, -⟩ := (unhide J).cells
              have hlw : h + 1 < wr.heap.size := lt_of_heap (unhide J).bx
              have hdn2 : Hid ((dn ++ [mid l g k]).length = M + 1) := hide (by rw [List.length_append, unhide hdn]; rfl)
              have hpa3 : Hid (parts l = (dn ++ [mid l g k]) ++ parts (l.drop (k + 1))) := hide (by rw [unhide hpa, hpa2, List.append_assoc])
              generalize mid l g k = x at *
              replace J6 := hide J6
              clear hpa2 J hno hpa hdn hgk
              go_wp2_with fail
              go_region_law (refine step_append_g run1 _ _ (by rfl) (by rfl) (by rfl) (by rfl) (by rfl) ?_)
              all_goals
                generalize W6.setCell ⟨h + 1, 2, none⟩ (.slice a' (M + 1) cap') = W7 at *
                clear run1 d0 df e2
                go_wp2_with fail
                go_roundw
                case rel => exact ⟨k + 1, k + 1, M + 1, dn ++ [x], a', cap', by omega, by omega, by omega, hide (fun _ => rfl), by go_num, by go_num, hpa3, hide (by rw [mid_none]; simp), hdn2, J6⟩
                case measure => simp [intOf]; omega
            · have q1 : ¬ (g : Int) < (k : Int) := by omega
              rw [(mid_piece (by omega)).2 hgk, List.nil_append] at hpa2
              have hpa3 : Hid (parts l = dn ++ parts (l.drop (k + 1))) := hide (by rw [unhide hpa, hpa2])
              clear hpa2 hno hpa hgk
              go_wp2_with fail
              exact ⟨⟨k + 1, k + 1, M, dn, a, cap, by omega, by omega, by omega, hide (fun _ => rfl), rfl, rfl, hpa3, hide (by rw [mid_none]; simp), hdn, J⟩, by simp [intOf]; omega⟩
          · obtain rfl : k = l.length + 1 := by omega
            have j2 : ¬ (((l.length + 1 : Nat) : Int) ≤ (l.length : Int)) := by omega
            have hge := unhide hend rfl
            have hall : Hid (parts l = dn) := hide (by
              rw [unhide hpa, hge, List.drop_of_length_le (by omega), parts_nil, List.append_nil])
            clear hge hend hno hpa hg
            have RW := hide (RowO.of_own (unhide J).ow)
            obtain ⟨e0, e1, e2, -⟩ := (unhide J).cells
            obtain ⟨z0, z1, z2, f0, f1, f2⟩ := (unhide J).zero
            go_wp2_with fail
            go_loopw [8] (fun i wx => ∃ k : Nat, k ≤ M ∧ i = .int .i64 k ∧ Hid (∀ q ∈ dn.take k, q.length ≤ 255) ∧ wx = wr) (fun i _ => M - (intOf i).toNat)
            case atStart => exact ⟨0, by omega, rfl, hide (by simp), rfl⟩
            case round =>
              obtain ⟨k, hk2, rfl, hle, rfl⟩ := hrel
              by_cases hlt2 : k < M
              · have j3 : (0 : Int) ≤ (k : Int) := by omega
                have j4 : (k : Int) < (M : Int) := by omega
                obtain ⟨x, hx⟩ : ∃ x, dn[k]? = some x := ⟨_, List.getElem?_eq_getElem (by rw [unhide hdn]; exact hlt2)⟩
                obtain ⟨b, off, rfl, hb, cx⟩ := unhide RW k x hx
                by_cases hxl : 255 < x.length
                · have j5 : (255 : Int) < (x.length : Int) := by omega
                  have he : err l = 45 := by
                    unfold err
                    rw [if_neg h1, if_neg (by omega), if_neg (unhide n0), if_pos]
                    rw [List.any_eq_true]
                    exact ⟨x, by rw [unhide hall]; exact List.mem_of_getElem? hx, by simpa using hxl⟩
                  obtain ⟨X, hX, x0, x1, x2, xB, -⟩ := store3 (y0 := .bool false) (y1 := .bool false) (y2 := .slice none 0 0) (unhide J).k0 (unhide J).be
                  replace hX := hide hX
                  replace xB := hide xB
                  replace he := hide he
                  clear hx
                  go_wp2_with fail
                  rw [unhide hX]
                  refine bodyPost_ret (v := .tuple #[.agg #[.bool false, .bool false, .slice none 0 0], .int .i64 45]) (by simp [results, Try.results15, go_sem, x0, x1, x2]) rfl ?_
                  have e0 := unhide he
                  have e1 : rt l = false := by simp [rt, e0]
                  have e2 : sl l = false := by simp [sl, e0]
                  have e3 : ps l = [] := by simp [ps, e0]
                  rw [e0, e1, e2, e3]
                  exact ⟨_, rfl, World.ownsRow_nil _ _ _ _, unhide xB⟩
                · have j5 : ¬ (255 : Int) < (x.length : Int) := by omega
                  have hle2 : Hid (∀ q ∈ dn.take (k + 1), q.length ≤ 255) := hide (by
                    intro q hq
                    rw [List.take_add_one, hx] at hq
                    rcases List.mem_append.1 hq with hq | hq
                    · exact unhide hle q hq
                    · simp at hq; subst hq; omega)
                  clear hx hle
                  go_wp2_with fail
                  exact ⟨⟨k + 1, by omega, rfl, hle2, trivial⟩, by simp [intOf]; omega⟩
              · obtain rfl : k = M := by omega
                have j4 : ¬ (k : Int) < (k : Int) := by omega
                have ht : dn.take k = dn := List.take_of_length_le (by rw [unhide hdn]; exact Nat.le_refl _)
                have hok : err l = 0 := err_of h1 h2 (unhide n0) (by rw [unhide hall]; rw [ht] at hle; exact unhide hle)
                have hR : rt l = br := by rw [rt_byte hok hl0]; exact unhide hbr
                have hS : sl l = bl := by
                  have h5 := unhide hp
                  subst h5
                  rw [sl_byte hok hl0]; exact unhide hbl
                have hP : ps l = dn := by simp only [ps, hok, if_true]; exact unhide hall
                have HN := hide (show _ ∧ _ ∧ _ ∧ _ from ⟨hok, hR, hS, hP⟩)
                obtain ⟨X, hX, x0, x1, x2, xB, xK⟩ := store3 (y0 := .bool br) (y1 := .bool bl) (y2 := .slice a k cap) (unhide J).k0 (unhide J).be
                replace hX := hide hX
                replace xB := hide xB
                replace xK := hide xK
                clear hok hR hS hP ht hle
                go_wp2_with fail
                rw [unhide hX]
                refine bodyPost_ret (v := .tuple #[.agg #[.bool br, .bool bl, .slice a k cap], .int .i64 0]) (by simp [results, Try.results15, go_sem, x0, x1, x2]) rfl ?_
                obtain ⟨n1, n2, n3, n4⟩ := unhide HN
                rw [n1, n2, n3, n4, unhide hdn]
                refine ⟨_, rfl, own_keep (unhide J).ow fun j cur hc => ?_, unhide xB⟩
                rw [unhide xK j _ hc (by rintro rfl; rw [(unhide J).k0] at hc; simp at hc), hc]
theorem rread_any (l : List UInt8) (w : World) : Calls Try.prog 15 #[S l] w fun e w' => ∃ a cap, e = .returned (.tuple #[.agg #[.bool (rt l), .bool (sl l), .slice a (ps l).length cap], .int .i64 (err l)]) ∧ RowO w' a (ps l) ∧ Below w.heap.size w w' := by
  have key : Calls Try.prog 15 #[S l] w fun e w' => ∃ v, e = .returned (.tuple #[.agg #[.bool (rt l), .bool (sl l), v], .int .i64 (err l)]) ∧ w'.ownsRow w.heap.size 9 1 v (ps l).length (strs (ps l)) ∧ Below w.heap.size w w' := by
    by_cases h1 : l = []
    · refine (rread_first l w 32 (.inl ⟨h1, rfl⟩)).mono ?_
      rintro e w' ⟨rfl, hB⟩
      subst h1
      exact ⟨_, rfl, World.ownsRow_nil _ _ _ _, hB⟩
    · by_cases h2 : 4096 < l.length
      · have he := long_err h2
        have e1 : rt l = false := by simp [rt, he]
        have e2 : sl l = false := by simp [sl, he]
        have e3 : ps l = [] := by simp [ps, he]
        rw [e1, e2, e3, he]
        refine (rread_first l w 45 (.inr ⟨h1, h2, rfl⟩)).mono ?_
        rintro e w' ⟨rfl, hB⟩
        exact ⟨_, rfl, World.ownsRow_nil _ _ _ _, hB⟩
      · exact rread_rest l w h1 (by omega)
  refine key.mono ?_
  rintro e w' ⟨v, rfl, own, hB⟩
  obtain ⟨a, cap, rfl⟩ := own_form own
  exact ⟨a, cap, rfl, RowO.of_own own, hB⟩
end Go.Proofs.Ytnhddendkolfeaa
