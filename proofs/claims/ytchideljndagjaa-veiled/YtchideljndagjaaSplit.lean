/- Contracts of Split: the shares, in memory of the call's own. -/
import Derived.Test.YtchideljndagjaaField
import Derived.Test.YtchideljndagjaaMemAll
import Derived.Test.YtchideljndagjaaNumAll
import Derived.WalkSpells
namespace Go.Proofs.Ytchideljndagjaa
open Go.ChangeShapes Go.WideShapes Go.ChangeAt Go.RowKit
set_option linter.unusedVariables false

theorem list_view {w : World} {v : Value} {zs : List Int} (h : ListAt w v zs) : ∃ (a : Option Addr) (cap : Nat), v = .slice a zs.length cap ∧ zs.length ≤ cap ∧ cap ≤ 9223372036854775807 ∧
    ∀ k, k < zs.length → ∃ b off, a = some ⟨b, off, none⟩ ∧ w.cell? ⟨b, off + k, none⟩ = some (.int .i64 (zs.getD k 0)) := by
  obtain ⟨a, cap, h1, h2, h3, h4, h5⟩ := h
  refine ⟨a, cap, h1, h2, by unfold maxLen at h3; omega, fun k hk => ?_⟩
  rcases h5 with h5 | ⟨b, off, e, _, hc⟩
  · rw [h5] at hk; simp at hk
  · exact ⟨b, off, e, hc k hk⟩

theorem infoSp : (Try.prog.info? 3).map (fun i => (i.zero, i.size, i.bytes)) = some (some (.int .i64 0), 1, 8) := by kernel_rfl

set_option maxHeartbeats 400000 in
theorem elements_calls (v : Value) (zs : List Int) (w : World) (h : ListAt w v zs) :
    Calls Try.prog 67 #[v] w fun e w' => e = .returned (.bool (zs.all Num.elB)) ∧ w' = w := by
  obtain ⟨a, cap, rfl, h2, h3, hc⟩ := list_view h
  have HC := hideG hc
  clear hc h
  generalize hn : zs.length = n at *
  have HN := hideG hn
  clear hn
  go_enter Try.func67, Try.ntmps67
  go_wp2_with fail
  go_loop [7] (fun i => ∃ k : Nat, k ≤ n ∧ i = .int .i64 k ∧ (zs.take k).all Num.elB = true) (fun i => n - (intOf i).toNat)
  case atStart => exact ⟨0, Nat.zero_le _, rfl, rfl⟩
  case round =>
    obtain ⟨k, hk, rfl, hall⟩ := hrel
    have HA := hideG hall
    clear hall
    by_cases hlt : k < n
    · obtain ⟨b, off, rfl, c0⟩ := HC.out k hlt
      obtain ⟨z, hz⟩ : ∃ z, z = zs.getD k 0 := ⟨_, rfl⟩
      rw [← hz] at c0
      have HZ := hideG hz
      clear hz
      cases q : Num.elB z
      · go_wp2_with fail
        refine (element_calls _ _).mono ?_
        rintro e w' ⟨rfl, rfl⟩
        go_wp2_with fail
        go_ret
        exact ⟨congrArg (fun x => Ending.returned (.bool x)) (Num.all_off zs k (by rw [HN.out]; exact hlt) (by rw [← HZ.out]; exact Num.elB_off.1 q)).symm, rfl⟩
      · go_wp2_with fail
        refine (element_calls _ _).mono ?_
        rintro e w' ⟨rfl, rfl⟩
        go_wp2_with fail
        go_round
        case rel => exact ⟨k + 1, by omega, by go_num, Num.all_on zs k (by rw [HN.out]; exact hlt) HA.out (by rw [← HZ.out]; exact Num.elB_iff.1 q)⟩
        case measure => simp [intOf]; omega
    · go_wp2_with fail
      go_ret
      exact ⟨congrArg (fun x => Ending.returned (.bool x)) (Num.all_end zs k (by rw [HN.out]; omega) HA.out).symm, rfl⟩

theorem all_el {zs : List Int} (h : zs.all Num.elB = true) (k : Nat) (hk : k < zs.length) : 0 ≤ zs.getD k 0 ∧ zs.getD k 0 < 2305843009213693951 := by
  rw [List.all_eq_true] at h
  rw [List.getD_eq_getElem?_getD, List.getElem?_eq_getElem hk]
  exact Num.elB_iff.1 (h _ (List.getElem_mem hk))

set_option maxHeartbeats 400000 in
theorem valueAt_calls (s : Int) (v : Value) (zs : List Int) (x : Int) (w : World) (h : ListAt w v zs) (hall : zs.all Num.elB = true) (hs : 0 ≤ s) (hs' : s < 2305843009213693951) (hx : 0 ≤ x) (hx' : x < 2305843009213693951) :
    Calls Try.prog 68 #[.int .i64 s, v, .int .i64 x] w fun e w' => e = .returned (.int .i64 (Pol.polyP s zs x)) ∧ w' = w := by
  obtain ⟨a, cap, rfl, h2, h3, hc⟩ := list_view h
  have HC := hideG hc
  have HA := hideG hall
  clear hc h hall
  generalize hn : zs.length = n at *
  have HN := hideG hn
  clear hn
  go_enter Try.func68, Try.ntmps68
  go_wp2_with fail
  go_loop [7, 8] (fun u i => ∃ k : Nat, k ≤ n ∧ i = .int .i64 ((k : Int) - 1) ∧ u = .int .i64 (Pol.hor (zs.drop k) x)) (fun _ i => (intOf i + 1).toNat)
  case atStart => exact ⟨n, Nat.le_refl _, rfl, by rw [List.drop_of_length_le (by rw [HN.out]; exact Nat.le_refl _)]; rfl⟩
  case round =>
    obtain ⟨k, hk, rfl, rfl⟩ := hrel
    by_cases hlt : 0 < k
    · obtain ⟨j, rfl⟩ : ∃ j, k = j + 1 := ⟨k - 1, by omega⟩
      obtain ⟨b, off, rfl, c0⟩ := HC.out j (by omega)
      obtain ⟨z, hz⟩ : ∃ z, z = zs.getD j 0 := ⟨_, rfl⟩
      have hel := all_el HA.out j (by rw [HN.out]; omega)
      rw [← hz] at c0 hel
      have HP := hideG (Pol.hor_drop zs j (by rw [HN.out]; omega) x)
      have HZ := hideG hz
      clear hz
      obtain ⟨e1, e2⟩ := hel
      have l1 := Pol.hor_lo (zs.drop (j + 1)) x
      have l2 := Pol.hor_hi (zs.drop (j + 1)) x
      generalize Pol.hor (zs.drop (j + 1)) x = u at *
      go_wp2_with fail
      refine (plus_calls _ _ _ l1 l2 e1 e2).mono ?_
      rintro e w' ⟨rfl, rfl⟩
      go_wp2_with fail
      refine (times_calls _ _ _ (Num.addP_lo _ _) (Num.addP_hi _ _) hx hx').mono ?_
      rintro e w' ⟨rfl, rfl⟩
      go_wp2_with fail
      go_round
      case rel => exact ⟨j, by omega, by go_num, by rw [← HP.out, HZ.out]⟩
      case measure => simp [intOf]
    · have ek : k = 0 := by omega
      subst ek
      have HP := hideG (Pol.hor_poly s zs x)
      have l1 := Pol.hor_lo zs x
      have l2 := Pol.hor_hi zs x
      rw [List.drop_zero]
      generalize Pol.hor zs x = u at *
      go_wp2_with fail
      refine (plus_calls _ _ _ l1 l2 hs hs').mono ?_
      rintro e w' ⟨rfl, rfl⟩
      go_wp2_with fail
      go_ret
      exact ⟨congrArg (fun x => Ending.returned (.int .i64 x)) HP.out, rfl⟩

/-- May the arguments of Split be? -/
def spB (s : Int) (zs : List Int) (n : Int) : Bool := decide (1 ≤ n ∧ n ≤ 12 ∧ (zs.length : Int) < n) && (Num.elB s && zs.all Num.elB)

set_option maxHeartbeats 1000000 in
set_option maxRecDepth 100000 in
theorem split_yes (s : Int) (v : Value) (zs : List Int) (n : Nat) (w : World) (h : ListAt w v zs) (hall : zs.all Num.elB = true) (hs : 0 ≤ s) (hs' : s < 2305843009213693951) (hn : n ≤ 12) (hzn : zs.length < n) :
    Calls Try.prog 46 #[.int .i64 s, v, .int .i64 (n : Int)] w fun e w' => ∃ u, e = .returned (.tuple #[u, .int .i64 0]) ∧ w'.ownsRow w.heap.size 3 1 u n ((Pol.shL s zs n).map (Value.int .i64)) ∧ Below w.heap.size w w' := by
  obtain ⟨i0, hi, hz0, hz1, hz2⟩ := info_parts infoSp
  obtain ⟨a, cap, hv, h2, h3, hc⟩ := list_view h
  have HL := hideG h
  have HA := hideG hall
  have q1 := Num.elB_yes hs hs'
  have t1 : ¬ ((n : Int) ≤ (zs.length : Int)) := by omega
  have t2 : ¬ ((n : Int) < 1) := by omega
  have t3 : ¬ (12 < (n : Int)) := by omega
  clear hc h
  rw [hv] at HL ⊢
  clear hv
  go_enter Try.func46, Try.ntmps46
  go_wp2_with fail
  refine (element_calls _ _).mono ?_
  rintro e w ⟨rfl, rfl⟩
  go_wp2_with fail
  refine (elements_calls _ zs _ HL.out).mono ?_
  rintro e w ⟨rfl, rfl⟩
  rw [HA.out]
  go_wp2_with (at_make; refine wpList_make_own _ rfl _ _ 28 rfl w.heap.size 3 i0 (.int .i64 0) 1 Try.underlying28 hi hz0 hz1 _ _ _ n rfl rfl rfl ?m1 ?m2 ?m3 ?_)
  case m1 => rw [hz2]; omega
  case m2 => unfold maxLen; omega
  case m3 => exact Nat.le_refl _
  intro w1 hown1 hgrow1
  have hb1 := (Below.refl w.heap.size w).grown hgrow1 (Nat.le_refl _) (by simp)
  have HB1 := hideG hb1
  have HO1 := hideG hown1
  clear hb1 hown1 hgrow1 q1 t1 t2 t3
  go_wp2_with fail
  go_loopw [8, 9] (fun u i wr => ∃ k : Nat, k ≤ n ∧ i = .int .i64 ((k : Int) + 1) ∧ wr.ownsRow w.heap.size 3 1 u k ((Pol.shL s zs k).map (Value.int .i64)) ∧ Below w.heap.size w wr) (fun _ i _ => n + 1 - (intOf i).toNat)
  case atStart => exact ⟨0, by omega, rfl, HO1.out, HB1.out⟩
  case round =>
    obtain ⟨k, hk, rfl, hown, hbel⟩ := hrel
    have HO := hideG hown
    have HB := hideG hbel
    have hsz := hbel.size
    clear hown hbel
    by_cases hlt : k < n
    · go_wp2_with fail
      refine (valueAt_calls s _ zs _ _ (HL.out.below HB.out) HA.out hs hs' (by omega) (by omega)).mono ?_
      rintro e wr ⟨rfl, rfl⟩
      obtain ⟨p, hp⟩ : ∃ p, p = Pol.polyP s zs ((k : Int) + 1) := ⟨_, rfl⟩
      rw [← hp]
      have HP := hideG hp
      clear hp
      go_wp2_with (at_builtin; refine wpList_append_own _ rfl _ _ 28 rfl w.heap.size 3 i0 (.int .i64 0) 1 8 Try.underlying28 hi hz0 hz1 hz2 rfl (by decide) _ _ _ rfl (HO.out.alloc _) ⟨wr.heap.size, 0, none⟩ 1 1 [.int .i64 p] rfl rfl ?c1 ?c2 ?c3 ?c4 ?c5 ?_)
      case c1 => exact cell_one_new _ _ _
      case c2 => intro u hu; simp at hu; subst hu; rfl
      case c3 => unfold maxLen; omega
      case c4 => omega
      case c5 => simp; omega
      intro v' w2 hown' hgrow' _
      have hbk := fun x (h : Value.ownBlock _ = some x) => HO.out.lt x h
      have hb2 := (HB.out.alloc hsz _).grown hgrow' (by simp; omega) (fun x h => (hbk x h).1)
      have HB2 := hideG hb2
      have ho2 : w2.ownsRow w.heap.size 3 1 v' (k + 1) ((Pol.shL s zs (k + 1)).map (Value.int .i64)) := by
        rw [Pol.shL_succ, List.map_append]; rw [show Pol.shAt s zs k = p by rw [HP.out]; rfl]; exact hown'
      have HO2 := hideG ho2
      clear hown' hgrow' hbk hb2 ho2
      go_wp2_with fail
      go_roundw
      case rel => exact ⟨k + 1, by omega, by go_num, HO2.out, HB2.out⟩
      case measure => simp [intOf]; omega
    · have ek : k = n := by omega
      subst ek
      go_wp2_with fail
      go_ret2
      exact ⟨_, rfl, HO.out, HB.out⟩

set_option maxHeartbeats 400000 in
set_option maxRecDepth 100000 in
theorem split_no (s : Int) (v : Value) (zs : List Int) (n : Int) (w : World) (h : ListAt w v zs) (hno : spB s zs n = false) :
    Calls Try.prog 46 #[.int .i64 s, v, .int .i64 n] w fun e w' => e = .returned (.tuple #[.slice none 0 0, .int .i64 1]) ∧ w' = w := by
  obtain ⟨a, cap, hv, h2, h3, hc⟩ := list_view h
  have HL := hideG h
  clear hc h
  rw [hv] at HL ⊢
  clear hv
  by_cases t1 : n < 1
  · clear hno
    go_enter Try.func46, Try.ntmps46
    go_wp2_with fail
    go_ret2
    exact ⟨rfl, rfl⟩
  · by_cases t2 : 12 < n
    · clear hno
      go_enter Try.func46, Try.ntmps46
      go_wp2_with fail
      go_ret2
      exact ⟨rfl, rfl⟩
    · by_cases t3 : n ≤ (zs.length : Int)
      · clear hno
        go_enter Try.func46, Try.ntmps46
        go_wp2_with fail
        go_ret2
        exact ⟨rfl, rfl⟩
      · have hno2 : (Num.elB s && zs.all Num.elB) = false := by
          unfold spB at hno
          rw [decide_eq_true (show 1 ≤ n ∧ n ≤ 12 ∧ (zs.length : Int) < n by omega), Bool.true_and] at hno
          exact hno
        clear hno
        cases q1 : Num.elB s
        · clear hno2
          go_enter Try.func46, Try.ntmps46
          go_wp2_with fail
          refine (element_calls _ _).mono ?_
          rintro e w' ⟨rfl, rfl⟩
          go_wp2_with fail
          go_ret2
          exact ⟨rfl, rfl⟩
        · rw [q1, Bool.true_and] at hno2
          have HN2 := hideG hno2
          clear hno2
          go_enter Try.func46, Try.ntmps46
          go_wp2_with fail
          refine (element_calls _ _).mono ?_
          rintro e w' ⟨rfl, rfl⟩
          go_wp2_with fail
          refine (elements_calls _ zs _ HL.out).mono ?_
          rintro e w' ⟨rfl, rfl⟩
          rw [HN2.out]
          go_wp2_with fail
          go_ret2
          exact ⟨rfl, rfl⟩

/-- The call of package veil hands on what package share answers. -/
theorem veilSplit (x : Int) (v : Value) (y : Int) (w : World) (Q : Value → Value → World → Prop)
    (h : Calls Try.prog 46 #[.int .i64 x, v, .int .i64 y] w fun e w' => ∃ u c, e = .returned (.tuple #[u, c]) ∧ Q u c w') :
    Calls Try.prog 14 #[.int .i64 x, v, .int .i64 y] w fun e w' => ∃ u c, e = .returned (.tuple #[u, c]) ∧ Q u c w' := by
  have H := hideG h
  clear h
  go_enter Try.func14, Try.ntmps14
  go_wp2_with fail
  refine H.out.mono ?_
  rintro e w' ⟨v, c, rfl, hq⟩
  have HQ := hideG hq
  clear hq
  go_wp2_with fail
  go_ret2
  exact ⟨_, _, rfl, HQ.out⟩

end Go.Proofs.Ytchideljndagjaa
