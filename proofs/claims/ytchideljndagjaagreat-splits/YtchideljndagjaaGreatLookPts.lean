/- A World that owns lists of integers and of points: its looks. -/
import Derived.Test.YtchideljndagjaaGreatOwnPts
import Derived.Test.YtchideljndagjaaGreatLook2
namespace Go.Proofs.YtchideljndagjaaGreat
open Go.ChangeShapes Go.WideShapes Go.ChangeAt Go.RowKit
set_option linter.unusedVariables false

theorem owCells_pts (b : Option Nat) (n : Nat) (m : Int) : owCells (cat 5) (b, n, m) = flat (List.replicate n (m, m)) := by
  induction n with
  | zero => rfl
  | succ n ih =>
    unfold owCells at ih ⊢
    rw [List.replicate_succ, List.replicate_succ, List.flatten_cons, ih]
    rfl

/-- One list of points that is owned, as the walk meets it. -/
theorem pts_look {w : World} {pw : Nat} {F : Nat → Value} {nx : Int} {ls : Nat → List Ow} (h : InvW w pw F nx ls) (i : Nat) (hi : i < (ls 5).length) :
    ∃ (g3 g9 c3 c9 : Nat) (ao : Option Addr) (n : Nat) (m : Int), F 8 = .slice (some ⟨g3, 0, none⟩) (ls 5).length c3 ∧ F 14 = .slice (some ⟨g9, 0, none⟩) (ls 5).length c9 ∧
      w.cell? ⟨g3, i, none⟩ = some (.slice ao n n) ∧ w.cell? ⟨g9, i, none⟩ = some (.int .i64 m) ∧ n ≤ maxLen ∧ (ls 5).length ≤ c3 ∧ c3 ≤ maxLen ∧ (ls 5).length ≤ c9 ∧ c9 ≤ maxLen ∧
      ∀ k, k < n → ∃ g, ao = some ⟨g, 0, none⟩ ∧ w.cell? ⟨g, k * 2, none⟩ = some (.int .i64 m) ∧ w.cell? ⟨g, k * 2 + 1, none⟩ = some (.int .i64 m) := by
  obtain ⟨h1, h2, h3⟩ := h.own 5 (by omega)
  obtain ⟨a3, c3, e3, l3, m3, v3⟩ := row_view h1
  obtain ⟨a9, c9, e9, l9, m9, v9⟩ := row_view h2
  obtain ⟨g3, rfl, k3⟩ := v3 i hi
  obtain ⟨g9, rfl, k9⟩ := v9 i hi
  have hmem : (ls 5)[i] ∈ ls 5 := List.getElem_mem hi
  obtain ⟨q1, q0, q2⟩ := h3 _ hmem
  rw [List.getElem?_map, List.getElem?_eq_getElem hi] at k3 k9
  generalize (ls 5)[i] = o at *
  obtain ⟨ob, n, m⟩ := o
  cases ob with
  | none =>
    have hn : n = 0 := q1 rfl
    subst hn
    exact ⟨g3, g9, c3, c9, none, 0, m, e3, e9, k3, k9, Nat.zero_le _, l3, m3, l9, m9, fun k hk => absurd hk (by omega)⟩
  | some g =>
    obtain ⟨_, _, q3⟩ := q2 g rfl
    rw [owCells_pts] at q3
    refine ⟨g3, g9, c3, c9, some ⟨g, 0, none⟩, n, m, e3, e9, k3, k9, q0, l3, m3, l9, m9, fun k hk => ⟨g, rfl, ?_⟩⟩
    have ff := flat_get (List.replicate n (m, m)) k (by simpa using hk)
    rw [List.getD_eq_getElem?_getD, List.getElem?_replicate, if_pos hk] at ff
    rw [(row_cell q3 (k * 2) (by rw [flat_length]; simp; omega)).1, (row_cell q3 (k * 2 + 1) (by rw [flat_length]; simp; omega)).1]
    exact ff

set_option maxHeartbeats 4000000 in
set_option maxRecDepth 100000 in
theorem looks_pts (pw : Nat) (F : Nat → Value) (nx : Int) (ls : Nat → List Ow) (w : World) (h : InvW w pw F nx ls) (n1 : ls 1 = []) (n2 : ls 2 = []) (n3 : ls 3 = []) (n4 : ls 4 = []) :
    Calls Tryz.prog 11 #[.pointer (some ⟨pw, 0, none⟩)] w fun e w' => e = .returned (.bool true) ∧ Below w.heap.size w w' := by
  have hpl := h.pw_lt
  have HI := hideG h
  have CF := hideG (fun (wr : World) (hb : Below w.heap.size w wr) (j : Nat) (hj : j < 16) => (cell_f (h.below hb).blk j hj).1)
  obtain ⟨a6, k6, e6, _⟩ := len_view h 3 (by omega)
  obtain ⟨a7, k7, e7, _⟩ := len_view h 4 (by omega)
  obtain ⟨a8, k8, e8, l8, m8⟩ := len_view h 5 (by omega)
  rw [n3] at e6
  rw [n4] at e7
  have c6 := CF.out w (Below.refl _ _) 6 (by omega)
  rw [show F 6 = Value.slice a6 0 k6 from e6] at c6
  have E7 := hideG (show F 7 = Value.slice a7 0 k7 from e7)
  have E8 := hideG (show F 8 = Value.slice a8 (ls 5).length k8 from e8)
  have HP := hideG (fun (wr : World) (hb : Below w.heap.size w wr) => plain_ints pw F nx ls wr (h.below hb) n1 n2)
  unfold maxLen at m8
  clear h e6 e7 e8 n1 n2 n3 n4
  go_enter Tryz.func11, Tryz.ntmps11
  go_wp2_with fail
  go_loop [3] (fun i => i = .int .i64 0) (fun _ => 0)
  case atStart => rfl
  case round =>
    subst hrel
    go_wp2_with fail
    go_loopw [6, 7, 8] (fun i _ _ wr => ∃ ii : Nat, ii ≤ (ls 5).length ∧ i = .int .i64 ii ∧ Below w.heap.size w wr) (fun i _ _ _ => (ls 5).length - (intOf i).toNat)
    case atStart => exact ⟨0, by omega, rfl, Below.refl _ _⟩
    case round =>
      obtain ⟨ii, hii, rfl, hbel⟩ := hrel
      have HB := hideG hbel
      have zb := hbel.size
      have c8 := CF.out wr hbel 8 (by omega)
      rw [E8.out] at c8
      clear hbel
      by_cases hlt : ii < (ls 5).length
      · obtain ⟨g3, g9, c3', c9', ao, n, m, f3, f9, v3, v9, hn, l3', m3', l9', m9', hk⟩ := pts_look HI.out ii hlt
        have ea : a8 = some ⟨g3, 0, none⟩ := by have := E8.out.symm.trans f3; simp at this; exact this.1
        subst ea
        have b3 := World.block_lt_of_cell? w _ v3
        have b9 := World.block_lt_of_cell? w _ v9
        simp at b3 b9
        have F9 := hideG f9
        have V3 := hideG v3
        have V9 := hideG v9
        have HK := hideG hk
        unfold maxLen at hn m9'
        have u3 := HB.out.cell (p := ⟨g3, ii, none⟩) b3
        rw [V3.out] at u3
        have hi0 : (0 : Int) ≤ (ii : Int) := by omega
        have hi1 : (ii : Int) < ((ls 5).length : Int) := by omega
        clear hk f3 f9 v3 v9 l3' m3'
        go_wp2_with fail
        go_loopw [7, 8] (fun k _ wr => ∃ kk : Nat, kk ≤ n ∧ k = .int .i64 kk ∧ Below w.heap.size w wr) (fun k _ _ => n - (intOf k).toNat)
        case atStart => exact ⟨0, by omega, rfl, HB.out⟩
        case round =>
          clear HB c8 u3 zb
          obtain ⟨kk, hkk, rfl, hbel⟩ := hrel
          have HB := hideG hbel
          have zb := hbel.size
          have d8 := CF.out wr hbel 8 (by omega)
          rw [E8.out] at d8
          have d14 := CF.out wr hbel 14 (by omega)
          rw [F9.out] at d14
          have d3 := hbel.cell (p := ⟨g3, ii, none⟩) b3
          rw [V3.out] at d3
          have d9 := hbel.cell (p := ⟨g9, ii, none⟩) b9
          rw [V9.out] at d9
          by_cases hlt2 : kk < n
          · obtain ⟨g, rfl, q1, q2⟩ := HK.out kk hlt2
            have bg := World.block_lt_of_cell? w _ q1
            simp at bg
            rw [← hbel.cell (p := ⟨g, kk * 2, none⟩) bg] at q1
            rw [← hbel.cell (p := ⟨g, kk * 2 + 1, none⟩) bg] at q2
            have al : ∀ (ob : Obj) (b o : Nat), b < wr.heap.size → (wr.alloc ob).cell? ⟨b, o, none⟩ = wr.cell? ⟨b, o, none⟩ := fun ob b o hb => ((Below.refl wr.heap.size wr).alloc (Nat.le_refl _) ob).cell (p := ⟨b, o, none⟩) hb
            have A1 : ∀ ob, (wr.alloc ob).cell? ⟨pw, 14, none⟩ = some (.slice (some ⟨g9, 0, none⟩) (ls 5).length c9') := fun ob => by rw [al _ _ _ (by omega)]; exact d14
            have A2 : ∀ ob, (wr.alloc ob).cell? ⟨g9, ii, none⟩ = some (.int .i64 m) := fun ob => by rw [al _ _ _ (by omega)]; exact d9
            have em : (m != m) = false := by simp
            have hk0 : (0 : Int) ≤ (kk : Int) := by omega
            have hk1 : (kk : Int) < (n : Int) := by omega
            clear al hbel
            go_wp2_with fail
            go_quiet (fail)
            go_wp2_with fail
            go_roundw
            case rel => exact ⟨kk + 1, by omega, by go_num, (HB.out.alloc (by omega) _).trans ((below_drewN _ _).mono (by simp; omega))⟩
            case measure => simp [intOf]; omega
          · clear hbel
            go_wp2_with fail
            go_roundw
            case rel => exact ⟨ii + 1, by omega, by go_num, HB.out⟩
            case measure => simp [intOf]; omega
      · go_wp2_with fail
        have c7 := CF.out wr HB.out 7 (by omega)
        rw [E7.out] at c7
        go_loopw [9] (fun i wr' => i = .int .i64 0 ∧ wr' = wr) (fun _ _ => 0)
        case atStart => exact ⟨rfl, rfl⟩
        case round =>
          obtain ⟨rfl, rfl⟩ := hrel
          go_wp2_with fail
          refine (HP.out _ HB.out).mono ?_
          rintro e w' ⟨rfl, nq, rfl⟩
          go_wp2_with fail
          go_ret
          exact ⟨rfl, HB.out.trans ((below_drewN _ nq).mono (by omega))⟩

end Go.Proofs.YtchideljndagjaaGreat
