/- A World that owns lists of whatever kinds: its looks. -/
import Derived.Test.YtchideljndagjabGreatPkSeAG
import Derived.Test.YtchideljndagjabGreatPkSeAC
import Derived.Deep.Slices
import Derived.ChangeOld
import Derived.SizedLaws
import Derived.Test.YtchideljndagjabGreatPkSeAB
import Derived.Test.YtchideljndagjabGreatPkSeAL
import Derived.Test.YtchideljndagjabGreatPkSeAF
import Derived.Test.YtchideljndagjabGreatPkSeAJ
import Derived.Test.YtchideljndagjabGreatPkSeAH
namespace Go.Proofs.YtchideljndagjabGreat
open Go.ChangeShapes Go.WideShapes Go.ChangeAt Go.RowKit
set_option linter.unusedVariables false

theorem rep_get (p : List Value) (n k j : Nat) (hk : k < n) (hj : j < p.length) : (List.replicate n p).flatten[k * p.length + j]? = p[j]? := by
  induction n generalizing k with
  | zero => omega
  | succ n ih =>
    rw [List.replicate_succ, List.flatten_cons]
    cases k with
    | zero => rw [Nat.zero_mul, Nat.zero_add, List.getElem?_append_left hj]
    | succ k =>
      rw [List.getElem?_append_right (by rw [Nat.add_mul]; omega), show (k + 1) * p.length + j - p.length = k * p.length + j by rw [Nat.add_mul]; omega]
      exact ih k (by omega)

theorem rep_length (p : List Value) (n : Nat) : (List.replicate n p).flatten.length = n * p.length := by
  induction n with
  | zero => simp
  | succ n ih => rw [List.replicate_succ, List.flatten_cons, List.length_append, ih, Nat.add_mul]; omega

/-- One list that is owned, of whatever kind, as the walk meets it. -/
theorem any_look {w : World} {pw : Nat} {F : Nat → Value} {nx : Int} {ls : Nat → List Ow} (h : InvW w pw F nx ls) (c : Nat) (hc : c < 6) (i : Nat) (hi : i < (ls c).length) :
    ∃ (g3 g9 c3 c9 : Nat) (ao : Option Addr) (n : Nat) (m : Int), F (cat c).fi = .slice (some ⟨g3, 0, none⟩) (ls c).length c3 ∧ F (cat c).fm = .slice (some ⟨g9, 0, none⟩) (ls c).length c9 ∧
      w.cell? ⟨g3, i, none⟩ = some (.slice ao n n) ∧ w.cell? ⟨g9, i, none⟩ = some (.int .i64 m) ∧ n ≤ maxLen ∧ (ls c).length ≤ c3 ∧ c3 ≤ maxLen ∧ (ls c).length ≤ c9 ∧ c9 ≤ maxLen ∧ (∃ o ∈ ls c, o.2.2 = m) ∧
      ∀ k, k < n → ∃ g, ao = some ⟨g, 0, none⟩ ∧ ∀ j, j < ((cat c).pat m).length → w.cell? ⟨g, k * ((cat c).pat m).length + j, none⟩ = ((cat c).pat m)[j]? := by
  obtain ⟨h1, h2, h3⟩ := h.own c hc
  obtain ⟨a3, c3, e3, l3, m3, v3⟩ := row_view h1
  obtain ⟨a9, c9, e9, l9, m9, v9⟩ := row_view h2
  obtain ⟨g3, rfl, k3⟩ := v3 i hi
  obtain ⟨g9, rfl, k9⟩ := v9 i hi
  have hmem : (ls c)[i] ∈ ls c := List.getElem_mem hi
  obtain ⟨q1, q0, q2⟩ := h3 _ hmem
  rw [List.getElem?_map, List.getElem?_eq_getElem hi] at k3 k9
  generalize (ls c)[i] = o at *
  obtain ⟨ob, n, m⟩ := o
  cases ob with
  | none =>
    have hn : n = 0 := q1 rfl
    subst hn
    exact ⟨g3, g9, c3, c9, none, 0, m, e3, e9, k3, k9, Nat.zero_le _, l3, m3, l9, m9, ⟨_, hmem, rfl⟩, fun k hk => absurd hk (by omega)⟩
  | some g =>
    obtain ⟨_, _, q3⟩ := q2 g rfl
    refine ⟨g3, g9, c3, c9, some ⟨g, 0, none⟩, n, m, e3, e9, k3, k9, q0, l3, m3, l9, m9, ⟨_, hmem, rfl⟩, fun k hk => ⟨g, rfl, fun j hj => ?_⟩⟩
    have hlen : k * ((cat c).pat m).length + j < (owCells (cat c) (some g, n, m)).length := by
      show _ < ((List.replicate n ((cat c).pat m)).flatten).length
      rw [rep_length]
      have : (k + 1) * ((cat c).pat m).length ≤ n * ((cat c).pat m).length := Nat.mul_le_mul_right _ hk
      rw [Nat.add_mul] at this; omega
    have e : w.cell? ⟨g, k * ((cat c).pat m).length + j, none⟩ = (owCells (cat c) (some g, n, m))[k * ((cat c).pat m).length + j]? := by simp [World.cell?, q3]
    rw [e]
    exact rep_get _ n k j hk hj

set_option maxHeartbeats 4000000 in
set_option maxRecDepth 100000 in
theorem plain_all (pw : Nat) (F : Nat → Value) (nx : Int) (ls : Nat → List Ow) (w : World) (h : InvW w pw F nx ls) (hmk : ∀ o ∈ ls 1, 0 ≤ o.2.2 ∧ o.2.2 ≤ 255) :
    Calls Tryz.prog 60 #[.pointer (some ⟨pw, 0, none⟩)] w fun e w' => e = .returned (.bool true) ∧ Below w.heap.size w w' := by
  have hpl := h.pw_lt
  have HMK := hideG hmk
  have HI := hideG h
  have CF := hideG (fun (wr : World) (hb : Below w.heap.size w wr) (j : Nat) (hj : j < 16) => (cell_f (h.below hb).blk j hj).1)
  obtain ⟨a0, k0, e0, l0, m0⟩ := len_view h 0 (by omega)
  have E0 := hideG (show F 3 = Value.slice a0 (ls 0).length k0 from e0)
  unfold maxLen at m0
  obtain ⟨a1, k1, e1, l1, m1⟩ := len_view h 1 (by omega)
  have E1 := hideG (show F 4 = Value.slice a1 (ls 1).length k1 from e1)
  unfold maxLen at m1
  obtain ⟨a2, k2, e2, l2, m2⟩ := len_view h 2 (by omega)
  have E2 := hideG (show F 5 = Value.slice a2 (ls 2).length k2 from e2)
  unfold maxLen at m2
  clear h hmk e0 e1 e2
  have HB := hideG (Below.refl w.heap.size w)
  go_enter Tryz.func60, Tryz.ntmps60
  go_wp2_with fail
  go_loopw [3, 4] (fun i _ wr => ∃ ii : Nat, ii ≤ (ls 0).length ∧ i = .int .i64 ii ∧ Below w.heap.size w wr) (fun i _ _ => (ls 0).length - (intOf i).toNat)
  case atStart => exact ⟨0, by omega, rfl, HB.out⟩
  case round =>
    clear HB
    obtain ⟨ii, hii, rfl, hbel⟩ := hrel
    have HB := hideG hbel
    have zb := hbel.size
    have d4 := CF.out wr hbel 3 (by omega)
    rw [E0.out] at d4
    clear hbel
    by_cases hlt : ii < (ls 0).length
    · obtain ⟨g3, g9, c3', c9', ao, n, m, f3, f9, v3, v9, hn, l3', m3', l9', m9', hm, hk⟩ := any_look HI.out 0 (by omega) ii hlt
      have ea : a0 = some ⟨g3, 0, none⟩ := by have := E0.out.symm.trans (show F 3 = _ from f3); simp at this; exact this.1
      subst ea
      have b3 := World.block_lt_of_cell? w _ v3
      have b9 := World.block_lt_of_cell? w _ v9
      simp at b3 b9
      have F9 := hideG (show F 9 = _ from f9)
      have V3 := hideG v3
      have V9 := hideG v9
      have HK := hideG hk
      have hm' := True.intro
      unfold maxLen at hn m9'
      have u3 := HB.out.cell (p := ⟨g3, ii, none⟩) b3
      rw [V3.out] at u3
      have hi0 : (0 : Int) ≤ (ii : Int) := by omega
      have hi1 : (ii : Int) < ((ls 0).length : Int) := by omega
      clear hk hm f3 f9 v3 v9 l3' m3'
      go_wp2_with fail
      go_loopw [4] (fun k wr => ∃ kk : Nat, kk ≤ n ∧ k = .int .i64 kk ∧ Below w.heap.size w wr) (fun k _ => n - (intOf k).toNat)
      case atStart => exact ⟨0, by omega, rfl, HB.out⟩
      case round =>
        clear HB d4 u3 zb
        obtain ⟨kk, hkk, rfl, hbel⟩ := hrel
        have HB := hideG hbel
        have zb := hbel.size
        have d4 := CF.out wr hbel 3 (by omega)
        rw [E0.out] at d4
        have d10 := CF.out wr hbel 9 (by omega)
        rw [F9.out] at d10
        have d3 := hbel.cell (p := ⟨g3, ii, none⟩) b3
        rw [V3.out] at d3
        have d9 := hbel.cell (p := ⟨g9, ii, none⟩) b9
        rw [V9.out] at d9
        by_cases hlt2 : kk < n
        · obtain ⟨g, rfl, hcells⟩ := HK.out kk hlt2
          have q0 : w.cell? ⟨g, kk * 1 + 0, none⟩ = some (.int .i64 m) := hcells 0 (show 0 < 1 by omega)
          have bg := World.block_lt_of_cell? w _ q0
          simp at bg
          rw [← hbel.cell (p := ⟨g, kk * 1 + 0, none⟩) bg] at q0
          rw [Nat.mul_one, Nat.add_zero] at q0
          have em : (m != m) = false := by simp
          have hk0 : (0 : Int) ≤ (kk : Int) := by omega
          have hk1 : (kk : Int) < (n : Int) := by omega
          clear hbel hcells
          go_wp2_with fail
          go_quiet (fail)
          go_wp2_with fail
          go_roundw
          case rel => exact ⟨kk + 1, by omega, by go_num, HB.out.trans ((below_drewN _ _).mono zb)⟩
          case measure => simp [intOf]; omega
        · clear hbel
          go_wp2_with fail
          go_roundw
          case rel => exact ⟨ii + 1, by omega, by go_num, HB.out⟩
          case measure => simp [intOf]; omega
    · go_wp2_with fail
      clear d4 zb hlt hii
      go_loopw [5, 6] (fun i _ wr => ∃ ii : Nat, ii ≤ (ls 1).length ∧ i = .int .i64 ii ∧ Below w.heap.size w wr) (fun i _ _ => (ls 1).length - (intOf i).toNat)
      case atStart => exact ⟨0, by omega, rfl, HB.out⟩
      case round =>
        clear HB
        obtain ⟨ii, hii, rfl, hbel⟩ := hrel
        have HB := hideG hbel
        have zb := hbel.size
        have d4 := CF.out wr hbel 4 (by omega)
        rw [E1.out] at d4
        clear hbel
        by_cases hlt : ii < (ls 1).length
        · obtain ⟨g3, g9, c3', c9', ao, n, m, f3, f9, v3, v9, hn, l3', m3', l9', m9', hm, hk⟩ := any_look HI.out 1 (by omega) ii hlt
          have ea : a1 = some ⟨g3, 0, none⟩ := by have := E1.out.symm.trans (show F 4 = _ from f3); simp at this; exact this.1
          subst ea
          have b3 := World.block_lt_of_cell? w _ v3
          have b9 := World.block_lt_of_cell? w _ v9
          simp at b3 b9
          have F9 := hideG (show F 10 = _ from f9)
          have V3 := hideG v3
          have V9 := hideG v9
          have HK := hideG hk
          have hm' : 0 ≤ m ∧ m ≤ 255 := by obtain ⟨o, ho, e⟩ := hm; rw [← e]; exact HMK.out o ho
          unfold maxLen at hn m9'
          have u3 := HB.out.cell (p := ⟨g3, ii, none⟩) b3
          rw [V3.out] at u3
          have hi0 : (0 : Int) ≤ (ii : Int) := by omega
          have hi1 : (ii : Int) < ((ls 1).length : Int) := by omega
          clear hk hm f3 f9 v3 v9 l3' m3'
          go_wp2_with fail
          go_loopw [6] (fun k wr => ∃ kk : Nat, kk ≤ n ∧ k = .int .i64 kk ∧ Below w.heap.size w wr) (fun k _ => n - (intOf k).toNat)
          case atStart => exact ⟨0, by omega, rfl, HB.out⟩
          case round =>
            clear HB d4 u3 zb
            obtain ⟨kk, hkk, rfl, hbel⟩ := hrel
            have HB := hideG hbel
            have zb := hbel.size
            have d4 := CF.out wr hbel 4 (by omega)
            rw [E1.out] at d4
            have d10 := CF.out wr hbel 10 (by omega)
            rw [F9.out] at d10
            have d3 := hbel.cell (p := ⟨g3, ii, none⟩) b3
            rw [V3.out] at d3
            have d9 := hbel.cell (p := ⟨g9, ii, none⟩) b9
            rw [V9.out] at d9
            by_cases hlt2 : kk < n
            · obtain ⟨g, rfl, hcells⟩ := HK.out kk hlt2
              have q0 : w.cell? ⟨g, kk * 1 + 0, none⟩ = some (.int .u8 m) := hcells 0 (show 0 < 1 by omega)
              have bg := World.block_lt_of_cell? w _ q0
              simp at bg
              rw [← hbel.cell (p := ⟨g, kk * 1 + 0, none⟩) bg] at q0
              rw [Nat.mul_one, Nat.add_zero] at q0
              have em : (m != m) = false := by simp
              have hk0 : (0 : Int) ≤ (kk : Int) := by omega
              have hk1 : (kk : Int) < (n : Int) := by omega
              clear hbel hcells
              go_wp2_with fail
              go_quiet (fail)
              go_wp2_with fail
              go_roundw
              case rel => exact ⟨kk + 1, by omega, by go_num, HB.out.trans ((below_drewN _ _).mono zb)⟩
              case measure => simp [intOf]; omega
            · clear hbel
              go_wp2_with fail
              go_roundw
              case rel => exact ⟨ii + 1, by omega, by go_num, HB.out⟩
              case measure => simp [intOf]; omega
        · go_wp2_with fail
          clear d4 zb hlt hii
          go_loopw [7, 8, 9, 10] (fun i _ _ _ wr => ∃ ii : Nat, ii ≤ (ls 2).length ∧ i = .int .i64 ii ∧ Below w.heap.size w wr) (fun i _ _ _ _ => (ls 2).length - (intOf i).toNat)
          case atStart => exact ⟨0, by omega, rfl, HB.out⟩
          case round =>
            clear HB
            obtain ⟨ii, hii, rfl, hbel⟩ := hrel
            have HB := hideG hbel
            have zb := hbel.size
            have d4 := CF.out wr hbel 5 (by omega)
            rw [E2.out] at d4
            clear hbel
            by_cases hlt : ii < (ls 2).length
            · obtain ⟨g3, g9, c3', c9', ao, n, m, f3, f9, v3, v9, hn, l3', m3', l9', m9', hm, hk⟩ := any_look HI.out 2 (by omega) ii hlt
              have ea : a2 = some ⟨g3, 0, none⟩ := by have := E2.out.symm.trans (show F 5 = _ from f3); simp at this; exact this.1
              subst ea
              have b3 := World.block_lt_of_cell? w _ v3
              have b9 := World.block_lt_of_cell? w _ v9
              simp at b3 b9
              have F9 := hideG (show F 11 = _ from f9)
              have V3 := hideG v3
              have V9 := hideG v9
              have HK := hideG hk
              have hm' := True.intro
              unfold maxLen at hn m9'
              have u3 := HB.out.cell (p := ⟨g3, ii, none⟩) b3
              rw [V3.out] at u3
              have hi0 : (0 : Int) ≤ (ii : Int) := by omega
              have hi1 : (ii : Int) < ((ls 2).length : Int) := by omega
              clear hk hm f3 f9 v3 v9 l3' m3'
              go_wp2_with fail
              go_loopw [8, 9, 10] (fun k _ _ wr => ∃ kk : Nat, kk ≤ n ∧ k = .int .i64 kk ∧ Below w.heap.size w wr) (fun k _ _ _ => n - (intOf k).toNat)
              case atStart => exact ⟨0, by omega, rfl, HB.out⟩
              case round =>
                clear HB d4 u3 zb
                obtain ⟨kk, hkk, rfl, hbel⟩ := hrel
                have HB := hideG hbel
                have zb := hbel.size
                have d4 := CF.out wr hbel 5 (by omega)
                rw [E2.out] at d4
                have d10 := CF.out wr hbel 11 (by omega)
                rw [F9.out] at d10
                have d3 := hbel.cell (p := ⟨g3, ii, none⟩) b3
                rw [V3.out] at d3
                have d9 := hbel.cell (p := ⟨g9, ii, none⟩) b9
                rw [V9.out] at d9
                by_cases hlt2 : kk < n
                · obtain ⟨g, rfl, hcells⟩ := HK.out kk hlt2
                  have q0 : w.cell? ⟨g, kk * 4 + 0, none⟩ = some (.int .i64 m) := hcells 0 (show 0 < 4 by omega)
                  have q1 : w.cell? ⟨g, kk * 4 + 1, none⟩ = some (.int .i64 m) := hcells 1 (show 1 < 4 by omega)
                  have q2 : w.cell? ⟨g, kk * 4 + 2, none⟩ = some (.int .i64 m) := hcells 2 (show 2 < 4 by omega)
                  have q3 : w.cell? ⟨g, kk * 4 + 3, none⟩ = some (.int .i64 m) := hcells 3 (show 3 < 4 by omega)
                  have bg := World.block_lt_of_cell? w _ q0
                  simp at bg
                  rw [← hbel.cell (p := ⟨g, kk * 4 + 0, none⟩) bg] at q0
                  rw [← hbel.cell (p := ⟨g, kk * 4 + 1, none⟩) bg] at q1
                  rw [← hbel.cell (p := ⟨g, kk * 4 + 2, none⟩) bg] at q2
                  rw [← hbel.cell (p := ⟨g, kk * 4 + 3, none⟩) bg] at q3
                  rw [Nat.add_zero] at q0
                  have em : (m != m) = false := by simp
                  have hk0 : (0 : Int) ≤ (kk : Int) := by omega
                  have hk1 : (kk : Int) < (n : Int) := by omega
                  clear hbel hcells
                  go_wp2_with fail
                  go_roundw
                  case rel => exact ⟨kk + 1, by omega, by go_num, HB.out.alloc zb _⟩
                  case measure => simp [intOf]; omega
                · clear hbel
                  go_wp2_with fail
                  go_roundw
                  case rel => exact ⟨ii + 1, by omega, by go_num, HB.out⟩
                  case measure => simp [intOf]; omega
            · go_wp2_with fail
              clear d4 zb hlt hii
              go_ret
              exact ⟨rfl, HB.out⟩

set_option maxHeartbeats 4000000 in
set_option maxRecDepth 100000 in
theorem looks_all (pw : Nat) (F : Nat → Value) (nx : Int) (ls : Nat → List Ow) (w : World) (h : InvW w pw F nx ls) (hmk : ∀ o ∈ ls 1, 0 ≤ o.2.2 ∧ o.2.2 ≤ 255) :
    Calls Tryz.prog 27 #[.pointer (some ⟨pw, 0, none⟩)] w fun e w' => e = .returned (.bool true) ∧ Below w.heap.size w w' := by
  have hpl := h.pw_lt
  have HMK := hideG hmk
  have HI := hideG h
  have CF := hideG (fun (wr : World) (hb : Below w.heap.size w wr) (j : Nat) (hj : j < 16) => (cell_f (h.below hb).blk j hj).1)
  obtain ⟨a3, k3, e3, l3, m3⟩ := len_view h 3 (by omega)
  have E3 := hideG (show F 6 = Value.slice a3 (ls 3).length k3 from e3)
  unfold maxLen at m3
  obtain ⟨a4, k4, e4, l4, m4⟩ := len_view h 4 (by omega)
  have E4 := hideG (show F 7 = Value.slice a4 (ls 4).length k4 from e4)
  unfold maxLen at m4
  obtain ⟨a5, k5, e5, l5, m5⟩ := len_view h 5 (by omega)
  have E5 := hideG (show F 8 = Value.slice a5 (ls 5).length k5 from e5)
  unfold maxLen at m5
  have HP := hideG (fun (wr : World) (hb : Below w.heap.size w wr) => plain_all pw F nx ls wr (h.below hb) hmk)
  clear h hmk e3 e4 e5
  have HB := hideG (Below.refl w.heap.size w)
  go_enter Tryz.func27, Tryz.ntmps27
  go_wp2_with fail
  go_loopw [3, 4, 5] (fun i _ _ wr => ∃ ii : Nat, ii ≤ (ls 3).length ∧ i = .int .i64 ii ∧ Below w.heap.size w wr) (fun i _ _ _ => (ls 3).length - (intOf i).toNat)
  case atStart => exact ⟨0, by omega, rfl, HB.out⟩
  case round =>
    clear HB
    obtain ⟨ii, hii, rfl, hbel⟩ := hrel
    have HB := hideG hbel
    have zb := hbel.size
    have d4 := CF.out wr hbel 6 (by omega)
    rw [E3.out] at d4
    clear hbel
    by_cases hlt : ii < (ls 3).length
    · obtain ⟨g3, g9, c3', c9', ao, n, m, f3, f9, v3, v9, hn, l3', m3', l9', m9', hm, hk⟩ := any_look HI.out 3 (by omega) ii hlt
      have ea : a3 = some ⟨g3, 0, none⟩ := by have := E3.out.symm.trans (show F 6 = _ from f3); simp at this; exact this.1
      subst ea
      have b3 := World.block_lt_of_cell? w _ v3
      have b9 := World.block_lt_of_cell? w _ v9
      simp at b3 b9
      have F9 := hideG (show F 12 = _ from f9)
      have V3 := hideG v3
      have V9 := hideG v9
      have HK := hideG hk
      have hm' := True.intro
      unfold maxLen at hn m9'
      have u3 := HB.out.cell (p := ⟨g3, ii, none⟩) b3
      rw [V3.out] at u3
      have hi0 : (0 : Int) ≤ (ii : Int) := by omega
      have hi1 : (ii : Int) < ((ls 3).length : Int) := by omega
      clear hk hm f3 f9 v3 v9 l3' m3'
      go_wp2_with fail
      go_loopw [4, 5] (fun k _ wr => ∃ kk : Nat, kk ≤ n ∧ k = .int .i64 kk ∧ Below w.heap.size w wr) (fun k _ _ => n - (intOf k).toNat)
      case atStart => exact ⟨0, by omega, rfl, HB.out⟩
      case round =>
        clear HB d4 u3 zb
        obtain ⟨kk, hkk, rfl, hbel⟩ := hrel
        have HB := hideG hbel
        have zb := hbel.size
        have d4 := CF.out wr hbel 6 (by omega)
        rw [E3.out] at d4
        have d10 := CF.out wr hbel 12 (by omega)
        rw [F9.out] at d10
        have d3 := hbel.cell (p := ⟨g3, ii, none⟩) b3
        rw [V3.out] at d3
        have d9 := hbel.cell (p := ⟨g9, ii, none⟩) b9
        rw [V9.out] at d9
        by_cases hlt2 : kk < n
        · obtain ⟨g, rfl, hcells⟩ := HK.out kk hlt2
          have q0 : w.cell? ⟨g, kk * 3 + 0, none⟩ = some (.int .i64 m) := hcells 0 (show 0 < 3 by omega)
          have q1 : w.cell? ⟨g, kk * 3 + 1, none⟩ = some (.int .i64 m) := hcells 1 (show 1 < 3 by omega)
          have q2 : w.cell? ⟨g, kk * 3 + 2, none⟩ = some (.slice none 0 0) := hcells 2 (show 2 < 3 by omega)
          have bg := World.block_lt_of_cell? w _ q0
          simp at bg
          rw [← hbel.cell (p := ⟨g, kk * 3 + 0, none⟩) bg] at q0
          rw [← hbel.cell (p := ⟨g, kk * 3 + 1, none⟩) bg] at q1
          rw [← hbel.cell (p := ⟨g, kk * 3 + 2, none⟩) bg] at q2
          rw [Nat.add_zero] at q0
          have em : (m != m) = false := by simp
          have hk0 : (0 : Int) ≤ (kk : Int) := by omega
          have hk1 : (kk : Int) < (n : Int) := by omega
          have al : ∀ (ob : Obj) (b o : Nat), b < wr.heap.size → (wr.alloc ob).cell? ⟨b, o, none⟩ = wr.cell? ⟨b, o, none⟩ := fun ob b o hb => ((Below.refl wr.heap.size wr).alloc (Nat.le_refl _) ob).cell (p := ⟨b, o, none⟩) hb
          have A1 : ∀ ob, (wr.alloc ob).cell? ⟨pw, 12, none⟩ = some (.slice (some ⟨g9, 0, none⟩) (ls 3).length c9') := fun ob => by rw [al _ _ _ (by omega)]; exact d10
          have A2 : ∀ ob, (wr.alloc ob).cell? ⟨g9, ii, none⟩ = some (.int .i64 m) := fun ob => by rw [al _ _ _ (by omega)]; exact d9
          clear al hbel hcells
          go_wp2_with fail
          go_quiet (fail)
          go_wp2_with fail
          go_roundw
          case rel => exact ⟨kk + 1, by omega, by go_num, (HB.out.alloc zb _).trans ((below_drewN _ _).mono (by simp; omega))⟩
          case measure => simp [intOf]; omega
        · clear hbel
          go_wp2_with fail
          go_roundw
          case rel => exact ⟨ii + 1, by omega, by go_num, HB.out⟩
          case measure => simp [intOf]; omega
    · go_wp2_with fail
      clear d4 zb hlt hii
      go_loopw [6, 7, 8] (fun i _ _ wr => ∃ ii : Nat, ii ≤ (ls 5).length ∧ i = .int .i64 ii ∧ Below w.heap.size w wr) (fun i _ _ _ => (ls 5).length - (intOf i).toNat)
      case atStart => exact ⟨0, by omega, rfl, HB.out⟩
      case round =>
        clear HB
        obtain ⟨ii, hii, rfl, hbel⟩ := hrel
        have HB := hideG hbel
        have zb := hbel.size
        have d4 := CF.out wr hbel 8 (by omega)
        rw [E5.out] at d4
        clear hbel
        by_cases hlt : ii < (ls 5).length
        · obtain ⟨g3, g9, c3', c9', ao, n, m, f3, f9, v3, v9, hn, l3', m3', l9', m9', hm, hk⟩ := any_look HI.out 5 (by omega) ii hlt
          have ea : a5 = some ⟨g3, 0, none⟩ := by have := E5.out.symm.trans (show F 8 = _ from f3); simp at this; exact this.1
          subst ea
          have b3 := World.block_lt_of_cell? w _ v3
          have b9 := World.block_lt_of_cell? w _ v9
          simp at b3 b9
          have F9 := hideG (show F 14 = _ from f9)
          have V3 := hideG v3
          have V9 := hideG v9
          have HK := hideG hk
          have hm' := True.intro
          unfold maxLen at hn m9'
          have u3 := HB.out.cell (p := ⟨g3, ii, none⟩) b3
          rw [V3.out] at u3
          have hi0 : (0 : Int) ≤ (ii : Int) := by omega
          have hi1 : (ii : Int) < ((ls 5).length : Int) := by omega
          clear hk hm f3 f9 v3 v9 l3' m3'
          go_wp2_with fail
          go_loopw [7, 8] (fun k _ wr => ∃ kk : Nat, kk ≤ n ∧ k = .int .i64 kk ∧ Below w.heap.size w wr) (fun k _ _ => n - (intOf k).toNat)
          case atStart => exact ⟨0, by omega, rfl, HB.out⟩
          case round =>
            clear HB d4 u3 zb
            obtain ⟨kk, hkk, rfl, hbel⟩ := hrel
            have HB := hideG hbel
            have zb := hbel.size
            have d4 := CF.out wr hbel 8 (by omega)
            rw [E5.out] at d4
            have d10 := CF.out wr hbel 14 (by omega)
            rw [F9.out] at d10
            have d3 := hbel.cell (p := ⟨g3, ii, none⟩) b3
            rw [V3.out] at d3
            have d9 := hbel.cell (p := ⟨g9, ii, none⟩) b9
            rw [V9.out] at d9
            by_cases hlt2 : kk < n
            · obtain ⟨g, rfl, hcells⟩ := HK.out kk hlt2
              have q0 : w.cell? ⟨g, kk * 2 + 0, none⟩ = some (.int .i64 m) := hcells 0 (show 0 < 2 by omega)
              have q1 : w.cell? ⟨g, kk * 2 + 1, none⟩ = some (.int .i64 m) := hcells 1 (show 1 < 2 by omega)
              have bg := World.block_lt_of_cell? w _ q0
              simp at bg
              rw [← hbel.cell (p := ⟨g, kk * 2 + 0, none⟩) bg] at q0
              rw [← hbel.cell (p := ⟨g, kk * 2 + 1, none⟩) bg] at q1
              rw [Nat.add_zero] at q0
              have em : (m != m) = false := by simp
              have hk0 : (0 : Int) ≤ (kk : Int) := by omega
              have hk1 : (kk : Int) < (n : Int) := by omega
              have al : ∀ (ob : Obj) (b o : Nat), b < wr.heap.size → (wr.alloc ob).cell? ⟨b, o, none⟩ = wr.cell? ⟨b, o, none⟩ := fun ob b o hb => ((Below.refl wr.heap.size wr).alloc (Nat.le_refl _) ob).cell (p := ⟨b, o, none⟩) hb
              have A1 : ∀ ob, (wr.alloc ob).cell? ⟨pw, 14, none⟩ = some (.slice (some ⟨g9, 0, none⟩) (ls 5).length c9') := fun ob => by rw [al _ _ _ (by omega)]; exact d10
              have A2 : ∀ ob, (wr.alloc ob).cell? ⟨g9, ii, none⟩ = some (.int .i64 m) := fun ob => by rw [al _ _ _ (by omega)]; exact d9
              clear al hbel hcells
              go_wp2_with fail
              go_quiet (fail)
              go_wp2_with fail
              go_roundw
              case rel => exact ⟨kk + 1, by omega, by go_num, (HB.out.alloc zb _).trans ((below_drewN _ _).mono (by simp; omega))⟩
              case measure => simp [intOf]; omega
            · clear hbel
              go_wp2_with fail
              go_roundw
              case rel => exact ⟨ii + 1, by omega, by go_num, HB.out⟩
              case measure => simp [intOf]; omega
        · go_wp2_with fail
          clear d4 zb hlt hii
          go_loopw [9, 10, 11, 12] (fun i _ _ _ wr => ∃ ii : Nat, ii ≤ (ls 4).length ∧ i = .int .i64 ii ∧ Below w.heap.size w wr) (fun i _ _ _ _ => (ls 4).length - (intOf i).toNat)
          case atStart => exact ⟨0, by omega, rfl, HB.out⟩
          case round =>
            clear HB
            obtain ⟨ii, hii, rfl, hbel⟩ := hrel
            have HB := hideG hbel
            have zb := hbel.size
            have d4 := CF.out wr hbel 7 (by omega)
            rw [E4.out] at d4
            clear hbel
            by_cases hlt : ii < (ls 4).length
            · obtain ⟨g3, g9, c3', c9', ao, n, m, f3, f9, v3, v9, hn, l3', m3', l9', m9', hm, hk⟩ := any_look HI.out 4 (by omega) ii hlt
              have ea : a4 = some ⟨g3, 0, none⟩ := by have := E4.out.symm.trans (show F 7 = _ from f3); simp at this; exact this.1
              subst ea
              have b3 := World.block_lt_of_cell? w _ v3
              have b9 := World.block_lt_of_cell? w _ v9
              simp at b3 b9
              have F9 := hideG (show F 13 = _ from f9)
              have V3 := hideG v3
              have V9 := hideG v9
              have HK := hideG hk
              have hm' := True.intro
              unfold maxLen at hn m9'
              have u3 := HB.out.cell (p := ⟨g3, ii, none⟩) b3
              rw [V3.out] at u3
              have hi0 : (0 : Int) ≤ (ii : Int) := by omega
              have hi1 : (ii : Int) < ((ls 4).length : Int) := by omega
              clear hk hm f3 f9 v3 v9 l3' m3'
              go_wp2_with fail
              go_loopw [10, 11, 12] (fun k _ _ wr => ∃ kk : Nat, kk ≤ n ∧ k = .int .i64 kk ∧ Below w.heap.size w wr) (fun k _ _ _ => n - (intOf k).toNat)
              case atStart => exact ⟨0, by omega, rfl, HB.out⟩
              case round =>
                clear HB d4 u3 zb
                obtain ⟨kk, hkk, rfl, hbel⟩ := hrel
                have HB := hideG hbel
                have zb := hbel.size
                have d4 := CF.out wr hbel 7 (by omega)
                rw [E4.out] at d4
                have d10 := CF.out wr hbel 13 (by omega)
                rw [F9.out] at d10
                have d3 := hbel.cell (p := ⟨g3, ii, none⟩) b3
                rw [V3.out] at d3
                have d9 := hbel.cell (p := ⟨g9, ii, none⟩) b9
                rw [V9.out] at d9
                by_cases hlt2 : kk < n
                · obtain ⟨g, rfl, hcells⟩ := HK.out kk hlt2
                  have q0 : w.cell? ⟨g, kk * 6 + 0, none⟩ = some (.slice none 0 0) := hcells 0 (show 0 < 6 by omega)
                  have q1 : w.cell? ⟨g, kk * 6 + 1, none⟩ = some (.int .i64 m) := hcells 1 (show 1 < 6 by omega)
                  have q2 : w.cell? ⟨g, kk * 6 + 2, none⟩ = some (.int .i64 m) := hcells 2 (show 2 < 6 by omega)
                  have q3 : w.cell? ⟨g, kk * 6 + 3, none⟩ = some (.int .i64 m) := hcells 3 (show 3 < 6 by omega)
                  have q4 : w.cell? ⟨g, kk * 6 + 4, none⟩ = some (.slice none 0 0) := hcells 4 (show 4 < 6 by omega)
                  have q5 : w.cell? ⟨g, kk * 6 + 5, none⟩ = some (.slice none 0 0) := hcells 5 (show 5 < 6 by omega)
                  have bg := World.block_lt_of_cell? w _ q0
                  simp at bg
                  rw [← hbel.cell (p := ⟨g, kk * 6 + 0, none⟩) bg] at q0
                  rw [← hbel.cell (p := ⟨g, kk * 6 + 1, none⟩) bg] at q1
                  rw [← hbel.cell (p := ⟨g, kk * 6 + 2, none⟩) bg] at q2
                  rw [← hbel.cell (p := ⟨g, kk * 6 + 3, none⟩) bg] at q3
                  rw [← hbel.cell (p := ⟨g, kk * 6 + 4, none⟩) bg] at q4
                  rw [← hbel.cell (p := ⟨g, kk * 6 + 5, none⟩) bg] at q5
                  rw [Nat.add_zero] at q0
                  have em : (m != m) = false := by simp
                  have hk0 : (0 : Int) ≤ (kk : Int) := by omega
                  have hk1 : (kk : Int) < (n : Int) := by omega
                  have al : ∀ (ob : Obj) (b o : Nat), b < wr.heap.size → (wr.alloc ob).cell? ⟨b, o, none⟩ = wr.cell? ⟨b, o, none⟩ := fun ob b o hb => ((Below.refl wr.heap.size wr).alloc (Nat.le_refl _) ob).cell (p := ⟨b, o, none⟩) hb
                  have A1 : ∀ ob, (wr.alloc ob).cell? ⟨pw, 13, none⟩ = some (.slice (some ⟨g9, 0, none⟩) (ls 4).length c9') := fun ob => by rw [al _ _ _ (by omega)]; exact d10
                  have A2 : ∀ ob, (wr.alloc ob).cell? ⟨g9, ii, none⟩ = some (.int .i64 m) := fun ob => by rw [al _ _ _ (by omega)]; exact d9
                  clear al
                  clear hbel hcells
                  go_wp2_with fail
                  go_roundw
                  case rel => exact ⟨kk + 1, by omega, by go_num, HB.out.alloc zb _⟩
                  case measure => simp [intOf]; omega
                · clear hbel
                  go_wp2_with fail
                  go_roundw
                  case rel => exact ⟨ii + 1, by omega, by go_num, HB.out⟩
                  case measure => simp [intOf]; omega
            · go_wp2_with fail
              clear d4 zb hlt hii
              refine (HP.out _ HB.out).mono ?_
              rintro e w' ⟨rfl, hb⟩
              have HBB := hideG hb
              have zz := HB.out.size
              clear hb
              go_wp2_with fail
              go_ret
              exact ⟨rfl, HB.out.trans (HBB.out.mono zz)⟩

end Go.Proofs.YtchideljndagjabGreat

namespace Go.Proofs.YtchideljndagjabGreat
open Go.ChangeShapes Go.WideShapes Go.ChangeAt Go.RowKit Go.Deep
set_option linter.unusedVariables false

theorem cellsInt : Tryz.prog.cellsOf 3 = 1 := by kernel_rfl
theorem cellsInts : Tryz.prog.cellsOf 33 = 1 := by kernel_rfl
theorem bytesInt : Tryz.prog.bytesOf 3 = 8 := by kernel_rfl
theorem bytesOp : Tryz.prog.bytesOf 91 = 168 := by kernel_rfl
theorem cellsOp : Tryz.prog.cellsOf 91 = 14 := by kernel_rfl

section
variable {H : Type} {enc : TypeId × Value → H} {w : World} {spare : Nat → Bool} {held : Bool}

theorem cell_block {a : Addr} {v : Value} (h : w.cell? a = some v) : a.block < w.heap.size := by
  have hs := World.cell?_spot h
  obtain ⟨b, off, spot⟩ := a
  refine World.cells?_block (w := w) (base := 0) (a := ⟨b, off, spot⟩) (n := 1) (cs := [v]) ?_ (by omega)
  simp [World.cells?, Addr.add, h]

theorem int_of {n : Nat} {c : Value} {y : DataW H × List MemPlace} (h : DataW.trod enc Tryz.prog w 0 spare held n 3 [c] = some y) : ∃ x : Int, c = .int .i64 x ∧ inI x := by
  obtain ⟨x, e, _, hx⟩ := DataW.trod_int Tryz.underlying3 h
  simp at e
  exact ⟨x, e, bounds_i64 hx⟩

theorem mem_all {P : Program} {e : TypeId} {d : DataW H} : ∀ {l : List (DataW H)}, d ∈ l → ∀ n ∈ d.weights P e, n ∈ DataW.weightsAll P e l
  | [], h, _, _ => by cases h
  | x :: l, h, n, hn => by
    rw [DataW.weightsAll]
    rcases List.mem_cons.1 h with e | h
    · subst e; exact List.mem_append.2 (.inl hn)
    · exact List.mem_append.2 (.inr (mem_all h n hn))

theorem list_of {n : Nat} {c : Value} {y : DataW H × List MemPlace} (h : DataW.trod enc Tryz.prog w 0 spare held n 33 [c] = some y) (hw : ∀ n ∈ y.1.weights Tryz.prog 33, n ≤ reachBytes) : ListIs w c := by
  rcases open_ints Tryz.underlying33 Tryz.underlying3 cellsInt h with ⟨hcs, _⟩ | ⟨x, l, c', zs, hcs, _, hl, hm, hz, hy, hcell, hwz⟩
  · simp at hcs
    exact ⟨[], ⟨none, 0, hcs, by simp, by unfold maxLen; omega, by simp, .inl rfl⟩, by simp⟩
  · simp at hcs
    have hcap : l ≤ zs.length := by rw [hz]; split <;> omega
    have htl : (zs.take l).length = l := by rw [List.length_take]; omega
    have hbytes := hw _ (by rw [hy]; simp only [DataW.weights, Tryz.underlying33]; exact List.mem_cons_self)
    rw [bytesInt] at hbytes
    simp only [lits, List.length_map, List.length_take, List.length_drop, reachBytes] at hbytes
    refine ⟨zs.take l, ⟨some x, c', by rw [htl]; exact hcs, by omega, hm, fun z hz' => bounds_i64 (hwz z (List.mem_of_mem_take hz')), ?_⟩, by rw [htl]; omega⟩
    rcases Nat.eq_zero_or_pos l with h0 | h0
    · exact .inl (by rw [h0]; rfl)
    · right
      obtain ⟨b, off, spot⟩ := x
      have hc0 := hcell 0 (by omega)
      have hspot : spot = none := by simpa [Addr.add] using World.cell?_spot hc0
      subst hspot
      refine ⟨b, off, rfl, ?_, fun i hi => ?_⟩
      · exact cell_block hc0
      · have hci := hcell i (by omega)
        rw [List.getD_eq_getElem?_getD, List.getElem?_take_of_lt (by omega), ← List.getD_eq_getElem?_getD, ← hci]
        unfold Addr.add
        by_cases hi0 : i = 0
        · simp [hi0]
        · simp [hi0]

end
end Go.Proofs.YtchideljndagjabGreat

namespace Go.Proofs.YtchideljndagjabGreat
open Go.ChangeShapes Go.WideShapes Go.ChangeAt Go.RowKit Go.Deep
set_option linter.unusedVariables false

def StrIs (v : Value) : Prop := ∃ s : ByteArray, v = .string s ∧ s.size ≤ 140737488351232
def ItemsIs (w : World) (v : Value) : Prop := ∃ l, ItemsAt w v l ∧ l.length * 32 ≤ 140737488351232
/-- What is known of a step of a script, its string and its frame too. -/
def OpIs2 (w : World) (kd x y z : Int) (r : Nat → Value) : Prop :=
  OpIs w kd x y z r ∧ StrIs (r 1) ∧ (∃ k fr : Int, r 2 = .int .i64 k ∧ r 3 = .int .i64 fr) ∧ ItemsIs w (r 4)

theorem cellsItem : Tryz.prog.cellsOf 147 = 4 := by kernel_rfl
theorem bytesItem : Tryz.prog.bytesOf 147 = 32 := by kernel_rfl
theorem cellsFrame : Tryz.prog.cellsOf 65 = 3 := by kernel_rfl
theorem cellsStr : Tryz.prog.cellsOf 9 = 1 := by kernel_rfl
theorem cellsItems : Tryz.prog.cellsOf 63 = 1 := by kernel_rfl

section
variable {H : Type} {enc : TypeId × Value → H} {w : World} {spare : Nat → Bool} {held : Bool}

set_option maxRecDepth 100000 in
theorem item_of {n : Nat} {cs : List Value} {y : DataW H × List MemPlace} (h : DataW.trod enc Tryz.prog w 0 spare held n 147 cs = some y) :
    ∃ x : Frm.It, inIt x ∧ cs = [.int .i64 x.1, .int .i64 x.2.1, .int .i64 x.2.2.1, .int .i64 x.2.2.2] := by
  obtain ⟨xs, m, _, hy, hl, hlen, hf⟩ := DataW.trod_struct Tryz.underlying147 h
  rw [cellsItem] at hl
  match cs, hl with
  | [c0, c1, c2, c3], _ =>
    have f0 := hf 0 _ rfl
    have f1 := hf 1 _ rfl
    have f2 := hf 2 _ rfl
    have f3 := hf 3 _ rfl
    simp [cellsInt] at f0 f1 f2 f3
    have hlen4 : xs.length = 4 := hlen
    rw [List.getElem?_eq_getElem (by omega)] at f0 f1 f2 f3
    obtain ⟨a, rfl, k0⟩ := int_of f0
    obtain ⟨b, rfl, k1⟩ := int_of f1
    obtain ⟨c, rfl, k2⟩ := int_of f2
    obtain ⟨d, rfl, k3⟩ := int_of f3
    exact ⟨(a, b, c, d), ⟨k0, k1, k2, k3⟩, rfl⟩

theorem items_of {n : Nat} {c : Value} {y : DataW H × List MemPlace} (h : DataW.trod enc Tryz.prog w 0 spare held n 63 [c] = some y) (hw : ∀ n ∈ y.1.weights Tryz.prog 63, n ≤ reachBytes) : ItemsIs w c := by
  rcases open_slice Tryz.underlying63 h with ⟨hcs, _⟩ | ⟨x, l, cp, m, n', D, Pl, hcs, _, hl, hm, hmm, hy, hx⟩
  · simp at hcs
    exact ⟨[], ⟨none, 0, hcs, by simp, by unfold maxLen; omega, by simp, .inl rfl⟩, by simp⟩
  · simp at hcs
    have hbytes := hw _ (by rw [hy]; simp only [DataW.weights, Tryz.underlying63]; exact List.mem_cons_self)
    rw [bytesItem] at hbytes
    simp only [List.length_map, List.length_range, reachBytes] at hbytes
    have hlm : l ≤ m := by rw [hmm]; split <;> omega
    rw [cellsItem] at hx
    have hit : ∀ i, i < l → ∃ t : Frm.It, inIt t ∧ ∀ j, j < 4 → w.cell? (x.add (i * 4 + j)) = some (([.int .i64 t.1, .int .i64 t.2.1, .int .i64 t.2.2.1, .int .i64 t.2.2.2] : List Value).getD j undef) := by
      intro i hi
      obtain ⟨cs, e1, e2⟩ := hx i (by omega)
      obtain ⟨_, e3, e4⟩ := World.cells?_some e1
      obtain ⟨t, ht, hcs'⟩ := item_of e2
      refine ⟨t, ht, fun j hj => ?_⟩
      have e5 := e4 j hj
      rw [List.getElem?_eq_getElem (by omega)] at e5
      rw [← hcs', List.getD_eq_getElem?_getD, List.getElem?_eq_getElem (by omega), Option.getD_some, ← e5, Deep.add_add]
    let T : Nat → Frm.It := fun i => if hi : i < l then (hit i hi).choose else (0, 0, 0, 0)
    have hT : ∀ i, i < l → inIt (T i) ∧ ∀ j, j < 4 → w.cell? (x.add (i * 4 + j)) = some (([.int .i64 (T i).1, .int .i64 (T i).2.1, .int .i64 (T i).2.2.1, .int .i64 (T i).2.2.2] : List Value).getD j undef) := fun i hi => by
      have e : T i = (hit i hi).choose := dif_pos hi
      rw [e]; exact (hit i hi).choose_spec
    have hlen : ((List.range l).map T).length = l := by simp
    refine ⟨(List.range l).map T, ⟨some x, cp, by rw [hlen]; exact hcs, by rw [hlen]; omega, hm, fun t ht => ?_, ?_⟩, by rw [hlen]; omega⟩
    · obtain ⟨i, hi, rfl⟩ := List.mem_map.1 ht
      exact (hT i (List.mem_range.1 hi)).1
    · rcases Nat.eq_zero_or_pos l with h0 | h0
      · exact .inl (by rw [h0]; rfl)
      · right
        obtain ⟨b, off, spot⟩ := x
        have q00 := (hT 0 h0).2 0 (by omega)
        have hspot : spot = none := by simpa [Addr.add] using World.cell?_spot q00
        subst hspot
        refine ⟨b, off, rfl, by simpa [Addr.add] using cell_block q00, fun i hi => ?_⟩
        rw [hlen] at hi
        have hadd : ∀ j, (⟨b, off, none⟩ : Addr).add j = ⟨b, off + j, none⟩ := fun j => by unfold Addr.add; by_cases hz : j = 0 <;> simp [hz]
        have e : Frm.it ((List.range l).map T) i = T i := Frm.it_range l T i hi
        rw [e]
        have g := (hT i hi).2
        have g0 := g 0 (by omega)
        have g1 := g 1 (by omega)
        have g2 := g 2 (by omega)
        have g3 := g 3 (by omega)
        rw [hadd] at g0 g1 g2 g3
        exact ⟨by rw [Nat.add_zero] at g0; exact g0, by rw [Nat.add_assoc]; exact g1, by rw [Nat.add_assoc]; exact g2, by rw [Nat.add_assoc]; exact g3⟩

set_option maxRecDepth 100000 in
theorem frame_of {n : Nat} {cs : List Value} {y : DataW H × List MemPlace} (h : DataW.trod enc Tryz.prog w 0 spare held n 65 cs = some y) (hw : ∀ n ∈ y.1.weights Tryz.prog 65, n ≤ reachBytes) :
    ∃ (k fr : Int) (v : Value), cs = [.int .i64 k, .int .i64 fr, v] ∧ ItemsIs w v := by
  obtain ⟨xs, m, _, hy, hl, hlen, hf⟩ := DataW.trod_struct Tryz.underlying65 h
  rw [cellsFrame] at hl
  match cs, hl with
  | [c0, c1, c2], _ =>
    have f0 := hf 0 _ rfl
    have f1 := hf 1 _ rfl
    have f2 := hf 2 _ rfl
    simp [cellsInt, cellsItems] at f0 f1 f2
    have hlen3 : xs.length = 3 := hlen
    rw [List.getElem?_eq_getElem (by omega)] at f0 f1 f2
    obtain ⟨a, rfl, k0⟩ := int_of f0
    obtain ⟨b, rfl, k1⟩ := int_of f1
    refine ⟨a, b, c2, rfl, items_of f2 (fun n hn => hw n (by
      rw [hy]
      simp only [DataW.weights, Tryz.underlying65]
      refine DataW.weights_mem_each (j := 2) (t := 63) (d := (xs[2]).1) rfl ?_ n hn
      rw [List.getElem?_map, List.getElem?_eq_getElem (by omega)]; rfl))⟩

theorem str_of {n : Nat} {c : Value} {y : DataW H × List MemPlace} (h : DataW.trod enc Tryz.prog w 0 spare held n 9 [c] = some y) (hw : ∀ n ∈ y.1.weights Tryz.prog 9, n ≤ reachBytes) : StrIs c := by
  obtain ⟨s, e, hy, hs⟩ := DataW.trod_string Tryz.underlying9 h
  simp at e
  have hb := hw s.size (by rw [hy]; simp [DataW.weights])
  exact ⟨s, e, hb⟩

end

end Go.Proofs.YtchideljndagjabGreat

namespace Go.Proofs.YtchideljndagjabGreat
end Go.Proofs.YtchideljndagjabGreat

namespace Go.Proofs.YtchideljndagjabGreat
open Go.ChangeShapes Go.WideShapes Go.ChangeAt Go.RowKit
set_option linter.unusedVariables false

set_option maxHeartbeats 1000000 in
theorem rconfig_calls (N T M D : Int) (w : World) :
    Calls Tryz.prog 171 #[.agg #[.int .i64 N, .int .i64 T, .int .i64 M, .int .i64 D]] w fun e w' => e = .returned (.bool (Cli.cfgB N T M D)) ∧ Below w.heap.size w w' := by
  by_cases c0 : 1 ≤ N
  rotate_left
  · have H := hideG (cfg_no (N := N) (T := T) (M := M) (D := D) (by omega))
    go_enter Tryz.func171, Tryz.ntmps171
    go_wp2_with fail
    go_ret
    exact ⟨ret_bool (by rw [H.out]; try simp; try omega), by go_grown⟩
  by_cases c1 : N ≤ 12
  rotate_left
  · have H := hideG (cfg_no (N := N) (T := T) (M := M) (D := D) (by omega))
    go_enter Tryz.func171, Tryz.ntmps171
    go_wp2_with fail
    go_ret
    exact ⟨ret_bool (by rw [H.out]; try simp; try omega), by go_grown⟩
  by_cases c2 : 1 ≤ T
  rotate_left
  · have H := hideG (cfg_no (N := N) (T := T) (M := M) (D := D) (by omega))
    go_enter Tryz.func171, Tryz.ntmps171
    go_wp2_with fail
    go_ret
    exact ⟨ret_bool (by rw [H.out]; try simp; try omega), by go_grown⟩
  by_cases c3 : T ≤ N
  rotate_left
  · have H := hideG (cfg_no (N := N) (T := T) (M := M) (D := D) (by omega))
    go_enter Tryz.func171, Tryz.ntmps171
    go_wp2_with fail
    go_ret
    exact ⟨ret_bool (by rw [H.out]; try simp; try omega), by go_grown⟩
  by_cases c4 : 1 ≤ M
  rotate_left
  · have H := hideG (cfg_no (N := N) (T := T) (M := M) (D := D) (by omega))
    go_enter Tryz.func171, Tryz.ntmps171
    go_wp2_with fail
    go_ret
    exact ⟨ret_bool (by rw [H.out]; try simp; try omega), by go_grown⟩
  by_cases c5 : M ≤ 12
  rotate_left
  · have H := hideG (cfg_no (N := N) (T := T) (M := M) (D := D) (by omega))
    go_enter Tryz.func171, Tryz.ntmps171
    go_wp2_with fail
    go_ret
    exact ⟨ret_bool (by rw [H.out]; try simp; try omega), by go_grown⟩
  by_cases c6 : 1 ≤ D
  rotate_left
  · have H := hideG (cfg_no (N := N) (T := T) (M := M) (D := D) (by omega))
    go_enter Tryz.func171, Tryz.ntmps171
    go_wp2_with fail
    go_ret
    exact ⟨ret_bool (by rw [H.out]; try simp; try omega), by go_grown⟩
  by_cases c7 : D ≤ 50
  rotate_left
  · have H := hideG (cfg_no (N := N) (T := T) (M := M) (D := D) (by omega))
    go_enter Tryz.func171, Tryz.ntmps171
    go_wp2_with fail
    go_ret
    exact ⟨ret_bool (by rw [H.out]; try simp; try omega), by go_grown⟩
  have H := hideG (cfg_yes (N := N) (T := T) (M := M) (D := D) (by omega))
  go_enter Tryz.func171, Tryz.ntmps171
  go_wp2_with fail
  go_ret
  exact ⟨ret_bool (by rw [H.out]; try simp; try omega), by go_grown⟩

end Go.Proofs.YtchideljndagjabGreat

namespace Go.Proofs.YtchideljndagjabGreat
open Go.ChangeShapes Go.WideShapes Go.ChangeAt Go.RowKit
set_option linter.unusedVariables false

end Go.Proofs.YtchideljndagjabGreat

namespace Go.Proofs.YtchideljndagjabGreat
open Go.ChangeShapes Go.WideShapes Go.ChangeAt Go.RowKit
set_option linter.unusedVariables false

end Go.Proofs.YtchideljndagjabGreat
