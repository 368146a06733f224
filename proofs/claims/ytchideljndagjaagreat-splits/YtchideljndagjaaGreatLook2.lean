/- A World that owns lists of integers: its looks, its ends; two lists compared. -/
import Derived.Test.YtchideljndagjaaGreatLookInts
import Derived.Test.YtchideljndagjaaGreatStretch
import Derived.Test.YtchideljndagjaaGreatPlays
namespace Go.Proofs.YtchideljndagjaaGreat
open Go.ChangeShapes Go.WideShapes Go.ChangeAt Go.RowKit
set_option linter.unusedVariables false

set_option maxRecDepth 100000 in
theorem looks_ints (pw : Nat) (F : Nat → Value) (nx : Int) (ls : Nat → List Ow) (w : World) (h : InvW w pw F nx ls) (n1 : ls 1 = []) (n2 : ls 2 = []) (n3 : ls 3 = []) (n4 : ls 4 = []) (n5 : ls 5 = []) :
    Calls Tryz.prog 11 #[.pointer (some ⟨pw, 0, none⟩)] w fun e w' => e = .returned (.bool true) ∧ ∃ nq, w' = w.drewN nq := by
  obtain ⟨c6, c6f⟩ := cell_f h.blk 6 (by omega)
  obtain ⟨c7, c7f⟩ := cell_f h.blk 7 (by omega)
  obtain ⟨c8, c8f⟩ := cell_f h.blk 8 (by omega)
  obtain ⟨a6, k6, e6, _⟩ := len_view h 3 (by omega)
  obtain ⟨a7, k7, e7, _⟩ := len_view h 4 (by omega)
  obtain ⟨a8, k8, e8, _⟩ := len_view h 5 (by omega)
  rw [n3] at e6
  rw [n4] at e7
  rw [n5] at e8
  rw [show F 6 = Value.slice a6 0 k6 from e6] at c6
  rw [show F 7 = Value.slice a7 0 k7 from e7] at c7
  rw [show F 8 = Value.slice a8 0 k8 from e8] at c8
  have HP := hideG (plain_ints pw F nx ls w h n1 n2)
  clear h e6 e7 e8 n1 n2 n3 n4 n5 c6f c7f c8f
  go_enter Tryz.func11, Tryz.ntmps11
  go_wp2_with fail
  go_loop [3] (fun i => i = .int .i64 0) (fun _ => 0)
  case atStart => rfl
  case round =>
    subst hrel
    go_wp2_with fail
    go_loop [6] (fun i => i = .int .i64 0) (fun _ => 0)
    case atStart => rfl
    case round =>
      subst hrel
      go_wp2_with fail
      go_loop [9] (fun i => i = .int .i64 0) (fun _ => 0)
      case atStart => rfl
      case round =>
        subst hrel
        go_wp2_with fail
        refine HP.out.mono ?_
        rintro e w' ⟨rfl, nq, rfl⟩
        go_wp2_with fail
        go_ret
        exact ⟨rfl, nq, rfl⟩

set_option maxRecDepth 100000 in
theorem ends_none (b : Nat) (w : World) (h0 : w.cell? ⟨b, 0, none⟩ = some (.slice none 0 0)) (h1 : w.cell? ⟨b, 1, none⟩ = some (.slice none 0 0)) (h2 : w.cell? ⟨b, 2, none⟩ = some (.slice none 0 0)) :
    Calls Tryz.prog 10 #[.pointer (some ⟨b, 0, none⟩)] w fun e w' => e = .returned (.bool true) ∧ w' = w := by
  go_enter Tryz.func10, Tryz.ntmps10
  go_wp2_with fail
  go_loop [3] (fun i => i = .int .i64 0) (fun _ => 0)
  case atStart => rfl
  case round =>
    subst hrel
    go_wp2_with fail
    go_loop [5] (fun i => i = .int .i64 0) (fun _ => 0)
    case atStart => rfl
    case round =>
      subst hrel
      go_wp2_with fail
      go_loop [8] (fun i => i = .int .i64 0) (fun _ => 0)
      case atStart => rfl
      case round =>
        subst hrel
        go_wp2_with fail
        go_ret
        exact ⟨rfl, rfl⟩

set_option maxHeartbeats 1000000 in
theorem sameInts_same (va vb : Value) (zs : List Int) (w : World) (ha : ListAt w va zs) (hb : ListAt w vb zs) :
    Calls Tryz.prog 32 #[va, vb] w fun e w' => e = .returned (.bool true) ∧ ∃ nq, w' = w.drewN nq := by
  obtain ⟨a, ca, rfl, a2, a3, a4, a5⟩ := ha
  obtain ⟨b, cb, rfl, b2, b3, b4, b5⟩ := hb
  unfold maxLen at a3 b3
  have hA : Hid (zs = [] ∨ ∃ g off, a = some ⟨g, off, none⟩ ∧ ∀ i, i < zs.length → w.cell? ⟨g, off + i, none⟩ = some (.int .i64 (zs.getD i 0))) := by
    rcases a5 with h | ⟨g, off, h1, _, h2⟩
    · exact .inl h
    · exact .inr ⟨g, off, h1, h2⟩
  have hB : Hid (zs = [] ∨ ∃ g off, b = some ⟨g, off, none⟩ ∧ ∀ i, i < zs.length → w.cell? ⟨g, off + i, none⟩ = some (.int .i64 (zs.getD i 0))) := by
    rcases b5 with h | ⟨g, off, h1, _, h2⟩
    · exact .inl h
    · exact .inr ⟨g, off, h1, h2⟩
  clear a4 a5 b4 b5
  have el : ((zs.length : Int) != (zs.length : Int)) = false := by simp
  generalize hn : zs.length = n at *
  have HN := hideG hn
  clear hn
  go_enter Tryz.func32, Tryz.ntmps32
  go_wp2_with fail
  go_loopw [5] (fun i wr => ∃ k nq : Nat, k ≤ n ∧ i = .int .i64 k ∧ wr = w.drewN nq) (fun i _ => n - (intOf i).toNat)
  case atStart => exact ⟨0, 0, by omega, rfl, rfl⟩
  case round =>
    obtain ⟨k, nq, hk, rfl, rfl⟩ := hrel
    by_cases hlt : k < n
    · obtain ⟨g1, o1, rfl, q1⟩ : ∃ g off, a = some ⟨g, off, none⟩ ∧ w.cell? ⟨g, off + k, none⟩ = some (.int .i64 (zs.getD k 0)) := by
        rcases hA.out with h | ⟨g, off, h1, h2⟩
        · have := HN.out; rw [h] at this; simp at this; omega
        · exact ⟨g, off, h1, h2 k hlt⟩
      obtain ⟨g2, o2, rfl, q2⟩ : ∃ g off, b = some ⟨g, off, none⟩ ∧ w.cell? ⟨g, off + k, none⟩ = some (.int .i64 (zs.getD k 0)) := by
        rcases hB.out with h | ⟨g, off, h1, h2⟩
        · have := HN.out; rw [h] at this; simp at this; omega
        · exact ⟨g, off, h1, h2 k hlt⟩
      generalize zs.getD k 0 = z at *
      have ez : (z != z) = false := by simp
      go_wp2_with fail
      go_quiet (fail)
      go_wp2_with fail
      go_roundw
      case rel => exact ⟨k + 1, _, by omega, by go_num, rfl⟩
      case measure => simp [intOf]; omega
    · go_wp2_with fail
      go_ret
      exact ⟨rfl, nq, rfl⟩

theorem strL_inI (seed : Int) (n : Nat) : ∀ z ∈ Num.strL seed n, inI z := by
  intro z hz
  unfold Num.strL at hz
  obtain ⟨i, _, rfl⟩ := List.mem_map.1 hz
  unfold Num.strAt inI
  omega

end Go.Proofs.YtchideljndagjaaGreat
