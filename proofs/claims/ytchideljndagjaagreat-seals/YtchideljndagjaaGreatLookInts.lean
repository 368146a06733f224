/- What a World owns is looked at: all reads as it was written. -/
import Derived.Test.YtchideljndagjaaGreatOwnInts
import Derived.Test.YtchideljndagjaaGreatLaw
namespace Go.Proofs.YtchideljndagjaaGreat
open Go.ChangeShapes Go.WideShapes Go.ChangeAt Go.RowKit
set_option linter.unusedVariables false

theorem row_view {w : World} {B : Nat} {e : TypeId} {v : Value} {n : Nat} {xs : List Value} (h : w.ownsRow B e 1 v n xs) :
    ∃ (a : Option Addr) (c : Nat), v = .slice a n c ∧ n ≤ c ∧ c ≤ maxLen ∧ ∀ i, i < n → ∃ g, a = some ⟨g, 0, none⟩ ∧ w.cell? ⟨g, i, none⟩ = xs[i]? := by
  have h0 := h
  rcases h.2 with ⟨rfl, rfl⟩ | ⟨g, cap, cur, rfl, _, _, hnc, hcm, _⟩
  · exact ⟨none, 0, rfl, Nat.le_refl _, Nat.zero_le _, fun i hi => absurd hi (by omega)⟩
  · exact ⟨some ⟨g, 0, none⟩, cap, rfl, hnc, hcm, fun i hi => ⟨g, rfl, h0.cellAt i (by omega)⟩⟩

/-- One list that is owned, as the walk meets it. -/
theorem ints_view {w : World} {pw : Nat} {F : Nat → Value} {nx : Int} {ls : Nat → List Ow} (h : InvW w pw F nx ls) (i : Nat) (hi : i < (ls 0).length) :
    ∃ (g3 g9 c3 c9 : Nat) (ao : Option Addr) (n : Nat) (m : Int), F 3 = .slice (some ⟨g3, 0, none⟩) (ls 0).length c3 ∧ F 9 = .slice (some ⟨g9, 0, none⟩) (ls 0).length c9 ∧
      w.cell? ⟨g3, i, none⟩ = some (.slice ao n n) ∧ w.cell? ⟨g9, i, none⟩ = some (.int .i64 m) ∧ n ≤ maxLen ∧ (ls 0).length ≤ c3 ∧ c3 ≤ maxLen ∧ (ls 0).length ≤ c9 ∧ c9 ≤ maxLen ∧
      ∀ k, k < n → ∃ g, ao = some ⟨g, 0, none⟩ ∧ w.cell? ⟨g, k, none⟩ = some (.int .i64 m) := by
  obtain ⟨h1, h2, h3⟩ := h.own 0 (by omega)
  obtain ⟨a3, c3, e3, l3, m3, v3⟩ := row_view h1
  obtain ⟨a9, c9, e9, l9, m9, v9⟩ := row_view h2
  obtain ⟨g3, rfl, k3⟩ := v3 i hi
  obtain ⟨g9, rfl, k9⟩ := v9 i hi
  have hmem : (ls 0)[i] ∈ ls 0 := List.getElem_mem hi
  obtain ⟨q1, q0, q2⟩ := h3 _ hmem
  rw [List.getElem?_map, List.getElem?_eq_getElem hi] at k3 k9
  generalize (ls 0)[i] = o at *
  obtain ⟨ob, n, m⟩ := o
  cases ob with
  | none =>
    have hn : n = 0 := q1 rfl
    subst hn
    exact ⟨g3, g9, c3, c9, none, 0, m, e3, e9, k3, k9, Nat.zero_le _, l3, m3, l9, m9, fun k hk => absurd hk (by omega)⟩
  | some g =>
    obtain ⟨_, _, q3⟩ := q2 g rfl
    refine ⟨g3, g9, c3, c9, some ⟨g, 0, none⟩, n, m, e3, e9, k3, k9, q0, l3, m3, l9, m9, fun k hk => ⟨g, rfl, ?_⟩⟩
    have e1 := owCells_ints (some g) n m
    rw [e1] at q3
    simp only [World.cell?, q3]
    simp [hk]

theorem len_view {w : World} {pw : Nat} {F : Nat → Value} {nx : Int} {ls : Nat → List Ow} (h : InvW w pw F nx ls) (c : Nat) (hc : c < 6) : ∃ a cap, F (cat c).fi = .slice a (ls c).length cap ∧ (ls c).length ≤ cap ∧ cap ≤ maxLen := by
  obtain ⟨a, cap, e, l, m, _⟩ := row_view (h.own c hc).1
  exact ⟨a, cap, e, l, m⟩

set_option maxHeartbeats 2000000 in
set_option maxRecDepth 100000 in
theorem plain_ints (pw : Nat) (F : Nat → Value) (nx : Int) (ls : Nat → List Ow) (w : World) (h : InvW w pw F nx ls) (n1 : ls 1 = []) (n2 : ls 2 = []) :
    Calls Tryz.prog 22 #[.pointer (some ⟨pw, 0, none⟩)] w fun e w' => e = .returned (.bool true) ∧ ∃ nq, w' = w.drewN nq := by
  obtain ⟨c3, c3f⟩ := cell_f h.blk 3 (by omega)
  obtain ⟨c4, c4f⟩ := cell_f h.blk 4 (by omega)
  obtain ⟨c5, c5f⟩ := cell_f h.blk 5 (by omega)
  obtain ⟨c9, c9f⟩ := cell_f h.blk 9 (by omega)
  obtain ⟨a3, k3, e3, l3, m3⟩ := len_view h 0 (by omega)
  obtain ⟨a4, k4, e4, l4, m4⟩ := len_view h 1 (by omega)
  obtain ⟨a5, k5, e5, l5, m5⟩ := len_view h 2 (by omega)
  rw [n1] at e4
  rw [n2] at e5
  rw [show F 3 = Value.slice a3 (ls 0).length k3 from e3] at c3
  rw [show F 4 = Value.slice a4 0 k4 from e4] at c4
  rw [show F 5 = Value.slice a5 0 k5 from e5] at c5
  have HI := hideG h
  have E3 := hideG e3
  unfold maxLen at m3
  clear h e3 e4 e5 n1 n2 c3f c4f c5f c9f l4 m4 l5 m5
  go_enter Tryz.func22, Tryz.ntmps22
  go_wp2_with fail
  go_loopw [3, 4] (fun i _ wr => ∃ ii nq : Nat, ii ≤ (ls 0).length ∧ i = .int .i64 ii ∧ wr = w.drewN nq) (fun i _ _ => (ls 0).length - (intOf i).toNat)
  case atStart => exact ⟨0, 0, by omega, rfl, rfl⟩
  case round =>
    obtain ⟨ii, nq, hii, rfl, rfl⟩ := hrel
    by_cases hlt : ii < (ls 0).length
    · obtain ⟨g3, g9, c3', c9', ao, n, m, f3, f9, v3, v9, hn, l3', m3', l9', m9', hk⟩ := ints_view HI.out ii hlt
      have ea : a3 = some ⟨g3, 0, none⟩ := by have := E3.out.symm.trans f3; simp at this; exact this.1
      subst ea
      rw [f9] at c9
      have HK := hideG hk
      unfold maxLen at hn m9'
      clear hk f3 f9 l3' m3'
      go_wp2_with fail
      go_loopw [4] (fun k wr => ∃ kk nq : Nat, kk ≤ n ∧ k = .int .i64 kk ∧ wr = w.drewN nq) (fun k _ => n - (intOf k).toNat)
      case atStart => exact ⟨0, nq, by omega, rfl, rfl⟩
      case round =>
        obtain ⟨kk, nq2, hkk, rfl, rfl⟩ := hrel
        by_cases hlt2 : kk < n
        · obtain ⟨g, rfl, ck⟩ := HK.out kk hlt2
          have em : (m != m) = false := by simp
          go_wp2_with fail
          go_quiet (fail)
          go_wp2_with fail
          go_roundw
          case rel => exact ⟨kk + 1, _, by omega, by go_num, by first | rfl | (simp [World.drewN_drewN]; done) | exact ⟨_, rfl⟩⟩
          case measure => simp [intOf]; omega
        · go_wp2_with fail
          go_roundw
          case rel => exact ⟨ii + 1, _, by omega, by go_num, rfl⟩
          case measure => simp [intOf]; omega
    · go_wp2_with fail
      go_loopw [5] (fun i wr => i = .int .i64 0 ∧ wr = w.drewN nq) (fun _ _ => 0)
      case atStart => exact ⟨rfl, rfl⟩
      case round =>
        obtain ⟨rfl, rfl⟩ := hrel
        go_wp2_with fail
        go_loopw [7] (fun i wr => i = .int .i64 0 ∧ wr = w.drewN nq) (fun _ _ => 0)
        case atStart => exact ⟨rfl, rfl⟩
        case round =>
          obtain ⟨rfl, rfl⟩ := hrel
          go_wp2_with fail
          go_ret
          exact ⟨rfl, nq, rfl⟩

end Go.Proofs.YtchideljndagjaaGreat
