/- Contracts of Stretch, the program's and the document's: the same numbers in memory of the call's own. -/
import Derived.Test.YtchideljndagjaaGreatMemAll
import Derived.Test.YtchideljndagjaaGreatPadAll
import Derived.Test.YtchideljndagjaaGreatRefSeal
import Derived.WalkSpells
namespace Go.Proofs.YtchideljndagjaaGreat
open Go.ChangeShapes Go.WideShapes Go.ChangeAt Go.RowKit
set_option linter.unusedVariables false

theorem infoInt : (Tryz.prog.info? 3).map (fun i => (i.zero, i.size, i.bytes)) = some (some (.int .i64 0), 1, 8) := by kernel_rfl

set_option maxHeartbeats 1000000 in
set_option maxRecDepth 100000 in
theorem stretch_yes (seed : Int) (n : Nat) (w : World) (hseed : 0 ≤ seed) (hseed' : seed < 2305843009213693951) (hn : n ≤ 12) :
    Calls Tryz.prog 89 #[.int .i64 seed, .int .i64 (n : Int)] w fun e w' => ∃ v, e = .returned (.tuple #[v, .int .i64 0]) ∧ w'.ownsRow w.heap.size 3 1 v n ((Num.strL seed n).map (Value.int .i64)) ∧ Below w.heap.size w w' := by
  obtain ⟨i0, hi, hz0, hz1, hz2⟩ := info_parts infoInt
  have q1 := Num.elB_yes hseed hseed'
  go_enter Tryz.func89, Tryz.ntmps89
  go_wp2_with fail
  refine (element_calls _ _).mono ?_
  rintro e w ⟨rfl, rfl⟩
  go_wp2_with (at_make; refine wpList_make_own _ rfl _ _ 35 rfl w.heap.size 3 i0 (.int .i64 0) 1 Tryz.underlying35 hi hz0 hz1 _ _ _ n rfl rfl rfl ?m1 ?m2 ?m3 ?_)
  case m1 => rw [hz2]; omega
  case m2 => unfold maxLen; omega
  case m3 => exact Nat.le_refl _
  intro w1 hown1 hgrow1
  have hb1 := (Below.refl w.heap.size w).grown hgrow1 (Nat.le_refl _) (by simp)
  have HB1 := hideG hb1
  have HO1 := hideG hown1
  clear hb1 hown1 hgrow1
  go_wp2_with fail
  clear q1
  go_loopw [6, 7] (fun v i wr => ∃ k : Nat, k ≤ n ∧ i = .int .i64 ((k : Int) + 1) ∧ wr.ownsRow w.heap.size 3 1 v k ((Num.strL seed k).map (Value.int .i64)) ∧ Below w.heap.size w wr) (fun _ i _ => n + 1 - (intOf i).toNat)
  case atStart => exact ⟨0, by omega, rfl, HO1.out, HB1.out⟩
  case round =>
    obtain ⟨k, hk, rfl, hown, hbel⟩ := hrel
    have HO := hideG hown
    have HB := hideG hbel
    have hsz := hbel.size
    clear hown hbel
    by_cases hlt : k < n
    · go_wp2_with fail
      refine (maskNumber_calls _ k _ hseed hseed' (by omega)).mono ?_
      rintro e wr ⟨rfl, rfl⟩
      obtain ⟨p, hp⟩ : ∃ p, p = Num.strAt seed k := ⟨_, rfl⟩
      rw [← hp]
      have HP := hideG hp
      clear hp
      go_wp2_with (at_builtin; refine wpList_append_own _ rfl _ _ 35 rfl w.heap.size 3 i0 (.int .i64 0) 1 8 Tryz.underlying35 hi hz0 hz1 hz2 rfl (by decide) _ _ _ rfl (HO.out.alloc _) ⟨wr.heap.size, 0, none⟩ 1 1 [.int .i64 p] rfl rfl ?c1 ?c2 ?c3 ?c4 ?c5 ?_)
      case c1 => exact cell_one_new _ _ _
      case c2 => intro u hu; simp at hu; subst hu; rfl
      case c3 => unfold maxLen; omega
      case c4 => omega
      case c5 => simp; omega
      intro v' w2 hown' hgrow' _
      have hbk := fun x (h : Value.ownBlock _ = some x) => HO.out.lt x h
      have hb2 := (HB.out.alloc hsz _).grown hgrow' (by simp; omega) (fun x h => (hbk x h).1)
      have HB2 := hideG hb2
      have ho2 : w2.ownsRow w.heap.size 3 1 v' (k + 1) ((Num.strL seed (k + 1)).map (Value.int .i64)) := by
        rw [Num.strL_succ, List.map_append]; rw [← HP.out]; exact hown'
      have HO2 := hideG ho2
      clear hown' hgrow' hbk hb2 ho2
      go_wp2_with fail
      go_roundw
      case rel => exact ⟨k + 1, by omega, by go_num, HO2.out, HB2.out⟩
      case measure => simp [intOf]; omega
    · have ek : k = n := by omega
      subst ek
      go_wp2_with fail
      go_ret2
      exact ⟨_, rfl, HO.out, HB.out⟩

theorem stretch_no (seed n : Int) (w : World) (h : Num.elB seed = false ∨ n < 0 ∨ 12 < n) :
    Calls Tryz.prog 89 #[.int .i64 seed, .int .i64 n] w fun e w' => e = .returned (.tuple #[.slice none 0 0, .int .i64 1]) ∧ w' = w := by
  cases q1 : Num.elB seed
  · clear h
    go_enter Tryz.func89, Tryz.ntmps89
    go_wp2_with fail
    refine (element_calls _ _).mono ?_
    rintro e w' ⟨rfl, rfl⟩
    go_wp2_with fail
    go_ret2
    exact ⟨rfl, rfl⟩
  · rw [q1] at h
    by_cases h1 : n < 0
    · clear h
      go_enter Tryz.func89, Tryz.ntmps89
      go_wp2_with fail
      refine (element_calls _ _).mono ?_
      rintro e w' ⟨rfl, rfl⟩
      go_wp2_with fail
      go_ret2
      exact ⟨rfl, rfl⟩
    · have h2 : 12 < n := by rcases h with h | h | h; (exact absurd h (by decide)); (omega); exact h
      clear h
      go_enter Tryz.func89, Tryz.ntmps89
      go_wp2_with fail
      refine (element_calls _ _).mono ?_
      rintro e w' ⟨rfl, rfl⟩
      go_wp2_with fail
      go_ret2
      exact ⟨rfl, rfl⟩

set_option maxHeartbeats 1000000 in
set_option maxRecDepth 100000 in
theorem rstretch_yes (seed : Int) (n : Nat) (w : World) (hseed : 0 ≤ seed) (hseed' : seed < 2305843009213693951) (hn : n ≤ 12) :
    Calls Tryz.prog 31 #[.int .i64 seed, .int .i64 (n : Int)] w fun e w' => ∃ v, e = .returned (.tuple #[v, .int .i64 0]) ∧ w'.ownsRow w.heap.size 3 1 v n ((Num.strL seed n).map (Value.int .i64)) ∧ Below w.heap.size w w' := by
  obtain ⟨i0, hi, hz0, hz1, hz2⟩ := info_parts infoInt
  have q1 := Num.elB_yes hseed hseed'
  go_enter Tryz.func31, Tryz.ntmps31
  go_wp2_with fail
  refine (relement_calls _ _).mono ?_
  rintro e w ⟨rfl, rfl⟩
  go_wp2_with fail
  clear q1
  go_loopw [6, 7] (fun v i wr => ∃ k : Nat, k ≤ n ∧ i = .int .i64 ((k : Int) + 1) ∧ wr.ownsRow w.heap.size 3 1 v k ((Num.strL seed k).map (Value.int .i64)) ∧ Below w.heap.size w wr) (fun _ i _ => n + 1 - (intOf i).toNat)
  case atStart => exact ⟨0, by omega, rfl, World.ownsRow_nil _ _ _ _, Below.refl _ _⟩
  case round =>
    obtain ⟨k, hk, rfl, hown, hbel⟩ := hrel
    have HO := hideG hown
    have HB := hideG hbel
    have hsz := hbel.size
    clear hown hbel
    by_cases hlt : k < n
    · go_wp2_with fail
      refine (rpad_calls _ _ _ hseed hseed' (by omega) (by omega)).mono ?_
      rintro e wr ⟨rfl, rfl⟩
      obtain ⟨p, hp⟩ : ∃ p, p = Num.padN seed ((k : Int) + 1) := ⟨_, rfl⟩
      rw [← hp]
      have p1 : 0 ≤ p := by rw [hp]; exact Num.padN_lo _ _
      have p2 : p < 2305843009213693951 := by rw [hp]; exact Num.padN_hi _ _
      have HP := hideG hp
      clear hp
      go_wp2_with (at_builtin; refine wpList_append_own _ rfl _ _ 35 rfl w.heap.size 3 i0 (.int .i64 0) 1 8 Tryz.underlying35 hi hz0 hz1 hz2 rfl (by decide) _ _ _ rfl (HO.out.alloc _) ⟨wr.heap.size, 0, none⟩ 1 1 [.int .i64 (p / 1048576 % 4294967296)] rfl rfl ?c1 ?c2 ?c3 ?c4 ?c5 ?_)
      case c1 => exact cell_one_new _ _ _
      case c2 => intro u hu; simp at hu; subst hu; rfl
      case c3 => unfold maxLen; omega
      case c4 => omega
      case c5 => simp; omega
      intro v' w2 hown' hgrow' _
      have hbk := fun x (h : Value.ownBlock _ = some x) => HO.out.lt x h
      have hb2 := (HB.out.alloc hsz _).grown hgrow' (by simp; omega) (fun x h => (hbk x h).1)
      have HB2 := hideG hb2
      have ho2 : w2.ownsRow w.heap.size 3 1 v' (k + 1) ((Num.strL seed (k + 1)).map (Value.int .i64)) := by
        rw [Num.strL_succ, List.map_append]; rw [show Num.strAt seed k = p / 1048576 % 4294967296 by rw [HP.out]; rfl]; exact hown'
      have HO2 := hideG ho2
      clear hown' hgrow' hbk hb2 ho2
      go_wp2_with fail
      go_roundw
      case rel => exact ⟨k + 1, by omega, by go_num, HO2.out, HB2.out⟩
      case measure => simp [intOf]; omega
    · have ek : k = n := by omega
      subst ek
      go_wp2_with fail
      go_ret2
      exact ⟨_, rfl, HO.out, HB.out⟩

theorem rstretch_no (seed n : Int) (w : World) (h : Num.elB seed = false ∨ n < 0 ∨ 12 < n) :
    Calls Tryz.prog 31 #[.int .i64 seed, .int .i64 n] w fun e w' => e = .returned (.tuple #[.slice none 0 0, .int .i64 1]) ∧ w' = w := by
  cases q1 : Num.elB seed
  · clear h
    go_enter Tryz.func31, Tryz.ntmps31
    go_wp2_with fail
    refine (relement_calls _ _).mono ?_
    rintro e w' ⟨rfl, rfl⟩
    go_wp2_with fail
    go_ret2
    exact ⟨rfl, rfl⟩
  · rw [q1] at h
    by_cases h1 : n < 0
    · clear h
      go_enter Tryz.func31, Tryz.ntmps31
      go_wp2_with fail
      refine (relement_calls _ _).mono ?_
      rintro e w' ⟨rfl, rfl⟩
      go_wp2_with fail
      go_ret2
      exact ⟨rfl, rfl⟩
    · have h2 : 12 < n := by rcases h with h | h | h; (exact absurd h (by decide)); (omega); exact h
      clear h
      go_enter Tryz.func31, Tryz.ntmps31
      go_wp2_with fail
      refine (relement_calls _ _).mono ?_
      rintro e w' ⟨rfl, rfl⟩
      go_wp2_with fail
      go_ret2
      exact ⟨rfl, rfl⟩

end Go.Proofs.YtchideljndagjaaGreat
