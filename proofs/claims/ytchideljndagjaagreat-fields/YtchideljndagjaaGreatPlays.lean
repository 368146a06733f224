/- A script, played: each step by its own contract, the ends, the looks. -/
import Derived.Test.YtchideljndagjaaGreatLaw
import Derived.Test.YtchideljndagjaaGreatMemAll
namespace Go.Proofs.YtchideljndagjaaGreat
open Go.ChangeShapes Go.WideShapes Go.ChangeAt Go.RowKit
set_option linter.unusedVariables false

def ListIs (w : World) (v : Value) : Prop := ∃ zs, ListAt w v zs ∧ zs.length * 8 ≤ 140737488351232

/-- What is known of a step of a script. -/
def OpIs (w : World) (kd x y z : Int) (r : Nat → Value) : Prop := inI kd ∧ inI x ∧ inI y ∧ inI z ∧ ListIs w (r 0)

/-- The cells of a step: four integers and ten values more. -/
def opCells (kd x y z : Int) (r : Nat → Value) : List Value :=
  [.int .i64 kd, .int .i64 x, .int .i64 y, .int .i64 z, r 0, r 1, r 2, r 3, r 4, r 5, r 6, r 7, r 8, r 9]

/-- A script in memory: each step's fourteen cells. -/
def Scr (w : World) (a : Option Addr) (len : Nat) : Prop :=
  len * 168 ≤ 140737488351232 ∧ (len = 0 ∨ ∃ b off, a = some ⟨b, off, none⟩ ∧ b < w.heap.size ∧ ∀ i, i < len → ∃ kd x y z r, OpIs w kd x y z r ∧
    ∀ j, j < 14 → w.cell? ⟨b, off + i * 14 + j, none⟩ = some ((opCells kd x y z r).getD j undef))

set_option maxHeartbeats 1000000 in
set_option maxRecDepth 100000 in
theorem plays_any (lo hi : Int) (a : Option Addr) (len cap : Nat) (w : World) (hs : Scr w a len) (J : Nat → World → Prop)
    (h0 : J 0 (w.alloc (.cells #[.slice none 0 0, .slice none 0 0, .slice none 0 0, .slice none 0 0, .slice none 0 0, .slice none 0 0, .slice none 0 0, .slice none 0 0, .slice none 0 0, .slice none 0 0, .slice none 0 0, .slice none 0 0, .slice none 0 0, .slice none 0 0, .slice none 0 0, .int .i64 0] 37)))
    (hB : ∀ k wr, J k wr → Below w.heap.size w wr)
    (hskip : ∀ k wr, J k wr → J (k + 1) wr)
    (hstep : ∀ k wr kd x y z r, k < len → J k wr → lo ≤ kd → kd ≤ hi → OpIs w kd x y z r → Calls Tryz.prog 9 #[.pointer (some ⟨w.heap.size, 0, none⟩), .agg #[.int .i64 kd, .int .i64 x, .int .i64 y, .int .i64 z, r 0, r 1, r 2, r 3, r 4, r 5, r 6, r 7, r 8, r 9]] wr fun e w' => e = .returned (.bool true) ∧ J (k + 1) w')
    (hend : ∀ wr, J len wr → Calls Tryz.prog 10 #[.pointer (some ⟨w.heap.size, 0, none⟩)] wr fun e w' => e = .returned (.bool true) ∧ J len w')
    (hlook : ∀ wr, J len wr → Calls Tryz.prog 11 #[.pointer (some ⟨w.heap.size, 0, none⟩)] wr fun e w' => e = .returned (.bool true) ∧ Below w.heap.size w w') :
    Calls Tryz.prog 8 #[.slice a len cap, .int .i64 lo, .int .i64 hi] w fun e w' => e = .returned (.bool true) ∧ Below w.heap.size w w' := by
  obtain ⟨hl, hs⟩ := hs
  have HS := hideH hs
  have H0 := hideH h0
  have HB := hideH hB
  have HK := hideH hskip
  have HT := hideH hstep
  have HE := hideH hend
  have HL := hideH hlook
  clear hs h0 hB hskip hstep hend hlook
  go_enter Tryz.func8, Tryz.ntmps8
  go_wp2_with fail
  go_loopw [8] (fun i wr => ∃ k : Nat, k ≤ len ∧ i = .int .i64 k ∧ J k wr) (fun i _ => len - (intOf i).toNat)
  case atStart => exact ⟨0, Nat.zero_le _, rfl, H0.out⟩
  case round =>
    obtain ⟨k, hk, rfl, hj⟩ := hrel
    have HJ := hideH hj
    clear hj
    by_cases hlt : k < len
    · obtain ⟨b, off, rfl, hblk, hops⟩ : ∃ b off, a = some ⟨b, off, none⟩ ∧ b < w.heap.size ∧ ∀ i, i < len → ∃ kd x y z r, OpIs w kd x y z r ∧
          ∀ j, j < 14 → w.cell? ⟨b, off + i * 14 + j, none⟩ = some ((opCells kd x y z r).getD j undef) := by
        rcases HS.out with h | h
        · omega
        · exact h
      obtain ⟨kd, x, y, z, r, hop, hc0⟩ := hops k hlt
      have HOP := hideH hop
      have hc : ∀ j, j < 14 → wr.cell? ⟨b, off + k * 14 + j, none⟩ = some ((opCells kd x y z r).getD j undef) := fun j hj => by
        rw [(HB.out _ _ HJ.out).cell (p := ⟨b, off + k * 14 + j, none⟩) hblk]; exact hc0 j hj
      clear hc0 hops hop HS
      have c0 := hc 0 (by omega)
      have c1 := hc 1 (by omega)
      have c2 := hc 2 (by omega)
      have c3 := hc 3 (by omega)
      have c4 := hc 4 (by omega)
      have c5 := hc 5 (by omega)
      have c6 := hc 6 (by omega)
      have c7 := hc 7 (by omega)
      have c8 := hc 8 (by omega)
      have c9 := hc 9 (by omega)
      have c10 := hc 10 (by omega)
      have c11 := hc 11 (by omega)
      have c12 := hc 12 (by omega)
      have c13 := hc 13 (by omega)
      simp only [opCells, List.getD_cons_zero, List.getD_cons_succ, Nat.add_zero] at c0 c1 c2 c3 c4 c5 c6 c7 c8 c9 c10 c11 c12 c13
      clear hc
      by_cases k1 : lo ≤ kd
      · by_cases k2 : kd ≤ hi
        · go_wp2_with fail
          refine (HT.out k _ kd x y z r hlt HJ.out k1 k2 HOP.out).mono ?_
          rintro e w' ⟨rfl, hj2⟩
          have HJ2 := hideH hj2
          clear hj2
          go_wp2_with fail
          go_roundw
          case rel => exact ⟨k + 1, by omega, by go_num, HJ2.out⟩
          case measure => simp [intOf]; omega
        · go_wp2_with fail
          go_roundw
          case rel => exact ⟨k + 1, by omega, by go_num, HK.out _ _ HJ.out⟩
          case measure => simp [intOf]; omega
      · go_wp2_with fail
        go_roundw
        case rel => exact ⟨k + 1, by omega, by go_num, HK.out _ _ HJ.out⟩
        case measure => simp [intOf]; omega
    · have ek : k = len := by omega
      subst ek
      go_wp2_with fail
      refine (HE.out _ HJ.out).mono ?_
      rintro e w' ⟨rfl, hj2⟩
      have HJ2 := hideH hj2
      clear hj2
      go_wp2_with fail
      refine (HL.out _ HJ2.out).mono ?_
      rintro e w' ⟨rfl, hb⟩
      have HBB := hideH hb
      clear hb
      go_wp2_with fail
      go_ret
      exact ⟨rfl, HBB.out⟩

end Go.Proofs.YtchideljndagjaaGreat
