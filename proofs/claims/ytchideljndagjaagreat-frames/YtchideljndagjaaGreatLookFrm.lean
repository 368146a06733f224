/- A World that owns bytes and items: its looks. -/
import Derived.Test.YtchideljndagjaaGreatOwnFrm
import Derived.Test.YtchideljndagjaaGreatLook2
namespace Go.Proofs.YtchideljndagjaaGreat
open Go.ChangeShapes Go.WideShapes Go.ChangeAt Go.RowKit
set_option linter.unusedVariables false

/-- One list of bytes that is owned, as the walk meets it. -/
theorem bytes_look {w : World} {pw : Nat} {F : Nat → Value} {nx : Int} {ls : Nat → List Ow} (h : InvW w pw F nx ls) (hmk : ∀ o ∈ ls 1, 0 ≤ o.2.2 ∧ o.2.2 ≤ 255) (i : Nat) (hi : i < (ls 1).length) :
    ∃ (g3 g9 c3 c9 : Nat) (ao : Option Addr) (n : Nat) (m : Int), F 4 = .slice (some ⟨g3, 0, none⟩) (ls 1).length c3 ∧ F 10 = .slice (some ⟨g9, 0, none⟩) (ls 1).length c9 ∧
      w.cell? ⟨g3, i, none⟩ = some (.slice ao n n) ∧ w.cell? ⟨g9, i, none⟩ = some (.int .i64 m) ∧ n ≤ maxLen ∧ (ls 1).length ≤ c3 ∧ c3 ≤ maxLen ∧ (ls 1).length ≤ c9 ∧ c9 ≤ maxLen ∧ (0 ≤ m ∧ m ≤ 255) ∧
      ∀ k, k < n → ∃ g, ao = some ⟨g, 0, none⟩ ∧ w.cell? ⟨g, k, none⟩ = some (.int .u8 m) := by
  obtain ⟨h1, h2, h3⟩ := h.own 1 (by omega)
  obtain ⟨a3, c3, e3, l3, m3, v3⟩ := row_view h1
  obtain ⟨a9, c9, e9, l9, m9, v9⟩ := row_view h2
  obtain ⟨g3, rfl, k3⟩ := v3 i hi
  obtain ⟨g9, rfl, k9⟩ := v9 i hi
  have hmem : (ls 1)[i] ∈ ls 1 := List.getElem_mem hi
  obtain ⟨q1, q0, q2⟩ := h3 _ hmem
  have hm := hmk _ hmem
  rw [List.getElem?_map, List.getElem?_eq_getElem hi] at k3 k9
  generalize (ls 1)[i] = o at *
  obtain ⟨ob, n, m⟩ := o
  cases ob with
  | none =>
    have hn : n = 0 := q1 rfl
    subst hn
    exact ⟨g3, g9, c3, c9, none, 0, m, e3, e9, k3, k9, Nat.zero_le _, l3, m3, l9, m9, hm, fun k hk => absurd hk (by omega)⟩
  | some g =>
    obtain ⟨_, _, q3⟩ := q2 g rfl
    refine ⟨g3, g9, c3, c9, some ⟨g, 0, none⟩, n, m, e3, e9, k3, k9, q0, l3, m3, l9, m9, hm, fun k hk => ⟨g, rfl, ?_⟩⟩
    have e1 := owCells_bytes (some g) n m
    rw [e1] at q3
    simp only [World.cell?, q3]
    simp [hk]

/-- One list of items that is owned, as the walk meets it. -/
theorem items_look {w : World} {pw : Nat} {F : Nat → Value} {nx : Int} {ls : Nat → List Ow} (h : InvW w pw F nx ls) (i : Nat) (hi : i < (ls 2).length) :
    ∃ (g3 g9 c3 c9 : Nat) (ao : Option Addr) (n : Nat) (m : Int), F 5 = .slice (some ⟨g3, 0, none⟩) (ls 2).length c3 ∧ F 11 = .slice (some ⟨g9, 0, none⟩) (ls 2).length c9 ∧
      w.cell? ⟨g3, i, none⟩ = some (.slice ao n n) ∧ w.cell? ⟨g9, i, none⟩ = some (.int .i64 m) ∧ n ≤ maxLen ∧ (ls 2).length ≤ c3 ∧ c3 ≤ maxLen ∧ (ls 2).length ≤ c9 ∧ c9 ≤ maxLen ∧
      ∀ k, k < n → ∃ g, ao = some ⟨g, 0, none⟩ ∧ ItemAt w g (k * 4) (m, m, m, m) := by
  obtain ⟨h1, h2, h3⟩ := h.own 2 (by omega)
  obtain ⟨a3, c3, e3, l3, m3, v3⟩ := row_view h1
  obtain ⟨a9, c9, e9, l9, m9, v9⟩ := row_view h2
  obtain ⟨g3, rfl, k3⟩ := v3 i hi
  obtain ⟨g9, rfl, k9⟩ := v9 i hi
  have hmem : (ls 2)[i] ∈ ls 2 := List.getElem_mem hi
  obtain ⟨q1, q0, q2⟩ := h3 _ hmem
  rw [List.getElem?_map, List.getElem?_eq_getElem hi] at k3 k9
  generalize (ls 2)[i] = o at *
  obtain ⟨ob, n, m⟩ := o
  cases ob with
  | none =>
    have hn : n = 0 := q1 rfl
    subst hn
    exact ⟨g3, g9, c3, c9, none, 0, m, e3, e9, k3, k9, Nat.zero_le _, l3, m3, l9, m9, fun k hk => absurd hk (by omega)⟩
  | some g =>
    obtain ⟨_, _, q3⟩ := q2 g rfl
    have e1 := owCells_items (some g) n m
    rw [e1] at q3
    refine ⟨g3, g9, c3, c9, some ⟨g, 0, none⟩, n, m, e3, e9, k3, k9, q0, l3, m3, l9, m9, fun k hk => ⟨g, rfl, ?_⟩⟩
    have key : ∀ o, o < n * 4 → w.cell? ⟨g, o, none⟩ = some (.int .i64 m) := fun o ho => by
      rw [(row_cell q3 o (by simpa using ho)).1, List.getElem?_replicate, if_pos ho]
    exact ⟨key _ (by omega), key _ (by omega), key _ (by omega), key _ (by omega)⟩

set_option maxHeartbeats 4000000 in
set_option maxRecDepth 100000 in
theorem plain_frm (pw : Nat) (F : Nat → Value) (nx : Int) (ls : Nat → List Ow) (w : World) (h : InvW w pw F nx ls) (hmk : ∀ o ∈ ls 1, 0 ≤ o.2.2 ∧ o.2.2 ≤ 255) (n0 : ls 0 = []) :
    Calls Tryz.prog 22 #[.pointer (some ⟨pw, 0, none⟩)] w fun e w' => e = .returned (.bool true) ∧ Below w.heap.size w w' := by
  have hpl := h.pw_lt
  have HMK := hideG hmk
  clear hmk
  have HI := hideG h
  have CF := hideG (fun (wr : World) (hb : Below w.heap.size w wr) (j : Nat) (hj : j < 16) => (cell_f (h.below hb).blk j hj).1)
  obtain ⟨a3, k3, e3, _⟩ := len_view h 0 (by omega)
  obtain ⟨a4, k4, e4, l4, m4⟩ := len_view h 1 (by omega)
  obtain ⟨a5, k5, e5, l5, m5⟩ := len_view h 2 (by omega)
  rw [n0] at e3
  have c3 := CF.out w (Below.refl _ _) 3 (by omega)
  rw [show F 3 = Value.slice a3 0 k3 from e3] at c3
  have E4 := hideG (show F 4 = Value.slice a4 (ls 1).length k4 from e4)
  have E5 := hideG (show F 5 = Value.slice a5 (ls 2).length k5 from e5)
  unfold maxLen at m4 m5
  clear h e3 e4 e5 n0
  go_enter Tryz.func22, Tryz.ntmps22
  go_wp2_with fail
  go_loop [3] (fun i => i = .int .i64 0) (fun _ => 0)
  case atStart => rfl
  case round =>
    subst hrel
    go_wp2_with fail
    go_loopw [5, 6] (fun i _ wr => ∃ ii : Nat, ii ≤ (ls 1).length ∧ i = .int .i64 ii ∧ Below w.heap.size w wr) (fun i _ _ => (ls 1).length - (intOf i).toNat)
    case atStart => exact ⟨0, by omega, rfl, Below.refl _ _⟩
    case round =>
      obtain ⟨ii, hii, rfl, hbel⟩ := hrel
      have HB := hideG hbel
      have zb := hbel.size
      have d4 := CF.out wr hbel 4 (by omega)
      rw [E4.out] at d4
      clear hbel c3
      by_cases hlt : ii < (ls 1).length
      · obtain ⟨g3, g9, c3', c9', ao, n, m, f3, f9, v3, v9, hn, l3', m3', l9', m9', hm, hk⟩ := bytes_look HI.out HMK.out ii hlt
        have ea : a4 = some ⟨g3, 0, none⟩ := by have := E4.out.symm.trans f3; simp at this; exact this.1
        subst ea
        have b3 := World.block_lt_of_cell? w _ v3
        have b9 := World.block_lt_of_cell? w _ v9
        simp at b3 b9
        have F9 := hideG f9
        have V3 := hideG v3
        have V9 := hideG v9
        have HK := hideG hk
        unfold maxLen at hn m9'
        have u3 := HB.out.cell (p := ⟨g3, ii, none⟩) b3
        rw [V3.out] at u3
        have hi0 : (0 : Int) ≤ (ii : Int) := by omega
        have hi1 : (ii : Int) < ((ls 1).length : Int) := by omega
        clear hk f3 f9 v3 v9 l3' m3'
        go_wp2_with fail
        go_loopw [6] (fun k wr => ∃ kk : Nat, kk ≤ n ∧ k = .int .i64 kk ∧ Below w.heap.size w wr) (fun k _ => n - (intOf k).toNat)
        case atStart => exact ⟨0, by omega, rfl, HB.out⟩
        case round =>
          clear HB d4 u3 zb
          obtain ⟨kk, hkk, rfl, hbel⟩ := hrel
          have HB := hideG hbel
          have zb := hbel.size
          have d4 := CF.out wr hbel 4 (by omega)
          rw [E4.out] at d4
          have d10 := CF.out wr hbel 10 (by omega)
          rw [F9.out] at d10
          have d3 := hbel.cell (p := ⟨g3, ii, none⟩) b3
          rw [V3.out] at d3
          have d9 := hbel.cell (p := ⟨g9, ii, none⟩) b9
          rw [V9.out] at d9
          by_cases hlt2 : kk < n
          · obtain ⟨g, rfl, q1⟩ := HK.out kk hlt2
            have bg := World.block_lt_of_cell? w _ q1
            simp at bg
            rw [← hbel.cell (p := ⟨g, kk, none⟩) bg] at q1
            have em : (m != m) = false := by simp
            have hk0 : (0 : Int) ≤ (kk : Int) := by omega
            have hk1 : (kk : Int) < (n : Int) := by omega
            clear hbel
            go_wp2_with fail
            go_quiet (fail)
            go_wp2_with fail
            go_roundw
            case rel => exact ⟨kk + 1, by omega, by go_num, HB.out.trans ((below_drewN _ _).mono (by omega))⟩
            case measure => simp [intOf]; omega
          · clear hbel
            go_wp2_with fail
            go_roundw
            case rel => exact ⟨ii + 1, by omega, by go_num, HB.out⟩
            case measure => simp [intOf]; omega
      · go_wp2_with fail
        go_loopw [7, 8, 9, 10] (fun i _ _ _ wr => ∃ ii : Nat, ii ≤ (ls 2).length ∧ i = .int .i64 ii ∧ Below w.heap.size w wr) (fun i _ _ _ _ => (ls 2).length - (intOf i).toNat)
        case atStart => exact ⟨0, by omega, rfl, HB.out⟩
        case round =>
          clear HB d4 zb hlt hii
          obtain ⟨ii, hii, rfl, hbel⟩ := hrel
          have HB := hideG hbel
          have zb := hbel.size
          have d5 := CF.out wr hbel 5 (by omega)
          rw [E5.out] at d5
          clear hbel
          by_cases hlt : ii < (ls 2).length
          · obtain ⟨g3, g9, c3', c9', ao, n, m, f3, f9, v3, v9, hn, l3', m3', l9', m9', hk⟩ := items_look HI.out ii hlt
            have ea : a5 = some ⟨g3, 0, none⟩ := by have := E5.out.symm.trans f3; simp at this; exact this.1
            subst ea
            have b3 := World.block_lt_of_cell? w _ v3
            have b9 := World.block_lt_of_cell? w _ v9
            simp at b3 b9
            have F9 := hideG f9
            have V3 := hideG v3
            have V9 := hideG v9
            have HK := hideG hk
            unfold maxLen at hn m9'
            have u3 := HB.out.cell (p := ⟨g3, ii, none⟩) b3
            rw [V3.out] at u3
            have hi0 : (0 : Int) ≤ (ii : Int) := by omega
            have hi1 : (ii : Int) < ((ls 2).length : Int) := by omega
            clear hk f3 f9 v3 v9 l3' m3'
            go_wp2_with fail
            go_loopw [8, 9, 10] (fun k _ _ wr => ∃ kk : Nat, kk ≤ n ∧ k = .int .i64 kk ∧ Below w.heap.size w wr) (fun k _ _ _ => n - (intOf k).toNat)
            case atStart => exact ⟨0, by omega, rfl, HB.out⟩
            case round =>
              clear HB d5 u3 zb
              obtain ⟨kk, hkk, rfl, hbel⟩ := hrel
              have HB := hideG hbel
              have zb := hbel.size
              have d5 := CF.out wr hbel 5 (by omega)
              rw [E5.out] at d5
              have d11 := CF.out wr hbel 11 (by omega)
              rw [F9.out] at d11
              have d3 := hbel.cell (p := ⟨g3, ii, none⟩) b3
              rw [V3.out] at d3
              have d9 := hbel.cell (p := ⟨g9, ii, none⟩) b9
              rw [V9.out] at d9
              by_cases hlt2 : kk < n
              · obtain ⟨g, rfl, qi⟩ := HK.out kk hlt2
                have bg := World.block_lt_of_cell? w _ qi.1
                simp at bg
                obtain ⟨q0, q1, q2, q3⟩ := qi.below bg hbel
                simp only at q0 q1 q2 q3
                have em : (m != m) = false := by simp
                have hk0 : (0 : Int) ≤ (kk : Int) := by omega
                have hk1 : (kk : Int) < (n : Int) := by omega
                clear hbel qi
                go_wp2_with fail
                go_roundw
                case rel => exact ⟨kk + 1, by omega, by go_num, HB.out.alloc zb _⟩
                case measure => simp [intOf]; omega
              · clear hbel
                go_wp2_with fail
                go_roundw
                case rel => exact ⟨ii + 1, by omega, by go_num, HB.out⟩
                case measure => simp [intOf]; omega
          · go_wp2_with fail
            go_ret
            exact ⟨rfl, HB.out⟩

set_option maxRecDepth 100000 in
theorem looks_frm (pw : Nat) (F : Nat → Value) (nx : Int) (ls : Nat → List Ow) (w : World) (h : InvW w pw F nx ls) (hmk : ∀ o ∈ ls 1, 0 ≤ o.2.2 ∧ o.2.2 ≤ 255) (n0 : ls 0 = []) (n3 : ls 3 = []) (n4 : ls 4 = []) (n5 : ls 5 = []) :
    Calls Tryz.prog 11 #[.pointer (some ⟨pw, 0, none⟩)] w fun e w' => e = .returned (.bool true) ∧ Below w.heap.size w w' := by
  obtain ⟨c6, c6f⟩ := cell_f h.blk 6 (by omega)
  obtain ⟨c7, c7f⟩ := cell_f h.blk 7 (by omega)
  obtain ⟨c8, c8f⟩ := cell_f h.blk 8 (by omega)
  obtain ⟨a6, k6, e6, _⟩ := len_view h 3 (by omega)
  obtain ⟨a7, k7, e7, _⟩ := len_view h 4 (by omega)
  obtain ⟨a8, k8, e8, _⟩ := len_view h 5 (by omega)
  rw [n3] at e6
  rw [n4] at e7
  rw [n5] at e8
  rw [show F 6 = Value.slice a6 0 k6 from e6] at c6
  rw [show F 7 = Value.slice a7 0 k7 from e7] at c7
  rw [show F 8 = Value.slice a8 0 k8 from e8] at c8
  have HP := hideG (plain_frm pw F nx ls w h hmk n0)
  clear h hmk e6 e7 e8 n0 n3 n4 n5 c6f c7f c8f
  go_enter Tryz.func11, Tryz.ntmps11
  go_wp2_with fail
  go_loop [3] (fun i => i = .int .i64 0) (fun _ => 0)
  case atStart => rfl
  case round =>
    subst hrel
    go_wp2_with fail
    go_loop [6] (fun i => i = .int .i64 0) (fun _ => 0)
    case atStart => rfl
    case round =>
      subst hrel
      go_wp2_with fail
      go_loop [9] (fun i => i = .int .i64 0) (fun _ => 0)
      case atStart => rfl
      case round =>
        subst hrel
        go_wp2_with fail
        refine HP.out.mono ?_
        rintro e w' ⟨rfl, hb⟩
        have HB := hideG hb
        clear hb
        go_wp2_with fail
        go_ret
        exact ⟨rfl, HB.out⟩

end Go.Proofs.YtchideljndagjaaGreat
