/- Contracts of Join: the value at 0, or what is refused. -/
import Derived.Test.YtchideljndagjaaPts
namespace Go.Proofs.Ytchideljndagjaa
open Go.ChangeShapes Go.WideShapes Go.ChangeAt Go.RowKit
set_option linter.unusedVariables false

/-- The products so far. -/
theorem ab_step (X : List Int) (k : Nat) (x c : Int) : (if c = x then Lag.ab X x % 2305843009213693951 else Num.mulP (Lag.ab X x % 2305843009213693951) c) = Lag.ab (X ++ [c]) x % 2305843009213693951 := by
  rw [Lag.ab_snoc]
  by_cases e : c = x
  · rw [if_pos e, if_pos e, Int.mul_one]
  · rw [if_neg e, if_neg e]; unfold Num.mulP; rw [Int.mul_emod, Int.emod_emod, ← Int.mul_emod]
theorem be_step (X : List Int) (k : Nat) (x c : Int) : (if c = x then Lag.be X x % 2305843009213693951 else Num.mulP (Lag.be X x % 2305843009213693951) (Num.subP c x)) = Lag.be (X ++ [c]) x % 2305843009213693951 := by
  rw [Lag.be_snoc]
  by_cases e : c = x
  · rw [if_pos e, if_pos e, Int.mul_one]
  · rw [if_neg e, if_neg e]; unfold Num.mulP Num.subP
    rw [Int.mul_emod, Int.emod_emod, show (c - x + 2305843009213693951) % 2305843009213693951 = (c - x) % 2305843009213693951 by omega, Int.emod_emod, ← Int.mul_emod]

theorem inverse_calls (a : Int) (w : World) (ha : 0 ≤ a) (ha' : a < 2305843009213693951) :
    Calls Try.prog 95 #[.int .i64 a] w fun e w' => e = .returned (.int .i64 (Pol.inv a)) ∧ w' = w := by
  go_enter Try.func95, Try.ntmps95
  go_wp2_with fail
  refine (power_calls _ _ _ ha ha' (by omega)).mono ?_
  rintro e w' ⟨rfl, rfl⟩
  go_wp2_with fail
  go_ret
  exact ⟨rfl, rfl⟩

set_option maxHeartbeats 1000000 in
set_option maxRecDepth 100000 in
theorem weight_calls (v : Value) (ps : List (Int × Int)) (x : Int) (w : World) (h : PtsAt w v ps) (hg : ∀ k ∈ Lag.xs ps, Lag.small k) (hx : Lag.small x) :
    Calls Try.prog 70 #[v, .int .i64 x] w fun e w' => e = .returned (.int .i64 (Lag.wt (Lag.xs ps) x)) ∧ Below w.heap.size w w' := by
  obtain ⟨a, cap, rfl, l2, l3, hc⟩ := pts_view h
  have HC := hideG hc
  have HG := hideG hg
  obtain ⟨x1, x2⟩ := hx
  clear hc h hg
  generalize hn : ps.length = n at *
  have HN := hideG hn
  clear hn
  go_enter Try.func70, Try.ntmps70
  go_wp2_with fail
  go_loopw [5, 6, 12] (fun u d i wr => ∃ k : Nat, k ≤ n ∧ i = .int .i64 k ∧ u = .int .i64 (Lag.ab (Lag.xs (ps.take k)) x % 2305843009213693951) ∧ d = .int .i64 (Lag.be (Lag.xs (ps.take k)) x % 2305843009213693951) ∧ Below w.heap.size w wr) (fun _ _ i _ => n - (intOf i).toNat)
  case atStart => exact ⟨0, by omega, rfl, rfl, rfl, Below.refl _ _⟩
  case round =>
    obtain ⟨k, hk, rfl, rfl, rfl, hbel⟩ := hrel
    have HB := hideG hbel
    have hsz := hbel.size
    have A1 : 0 ≤ Lag.ab (Lag.xs (ps.take k)) x % 2305843009213693951 := by omega
    have A2 : Lag.ab (Lag.xs (ps.take k)) x % 2305843009213693951 < 2305843009213693951 := by omega
    have D1 : 0 ≤ Lag.be (Lag.xs (ps.take k)) x % 2305843009213693951 := by omega
    have D2 : Lag.be (Lag.xs (ps.take k)) x % 2305843009213693951 < 2305843009213693951 := by omega
    by_cases hlt : k < n
    · obtain ⟨b, off, rfl, hb, c0, c1⟩ := HC.out k hlt
      rw [← hbel.cell (p := ⟨b, off + k * 2, none⟩) hb] at c0
      rw [← hbel.cell (p := ⟨b, off + k * 2 + 1, none⟩) hb] at c1
      obtain ⟨c, hcx⟩ : ∃ c, c = (ps.getD k (0, 0)).1 := ⟨_, rfl⟩
      obtain ⟨y, hy⟩ : ∃ y, y = (ps.getD k (0, 0)).2 := ⟨_, rfl⟩
      have hcs : Lag.small c := HG.out c (by rw [hcx, List.getD_eq_getElem?_getD, List.getElem?_eq_getElem (by rw [HN.out]; exact hlt)]; exact List.mem_map.2 ⟨_, List.getElem_mem _, rfl⟩)
      obtain ⟨s1, s2⟩ := hcs
      have ex : Lag.xs (ps.take (k + 1)) = Lag.xs (ps.take k) ++ [c] := by rw [pget ps k (by rw [HN.out]; exact hlt), Lag.xs_append, hcx]; rfl
      have EA := hideG (ab_step (Lag.xs (ps.take k)) k x c)
      have EB := hideG (be_step (Lag.xs (ps.take k)) k x c)
      have EX := hideG ex
      rw [← hcx] at c0
      rw [← hy] at c1
      clear hcx hy hbel ex
      generalize Lag.ab (Lag.xs (ps.take k)) x % 2305843009213693951 = A at *
      generalize Lag.be (Lag.xs (ps.take k)) x % 2305843009213693951 = D at *
      by_cases e : c = x
      · have et : (c != x) = false := by simp [e]
        have H1 := hideG (show A = Lag.ab (Lag.xs (ps.take (k + 1))) x % 2305843009213693951 by rw [EX.out, ← EA.out, if_pos e])
        have H2 := hideG (show D = Lag.be (Lag.xs (ps.take (k + 1))) x % 2305843009213693951 by rw [EX.out, ← EB.out, if_pos e])
        clear e
        go_wp2_with fail
        go_roundw
        case rel => exact ⟨k + 1, by omega, by go_num, by rw [← H1.out], by rw [← H2.out], HB.out.alloc hsz _⟩
        case measure => simp [intOf]; omega
      · have et : (c != x) = true := by simp [e]
        have H1 := hideG (show Num.mulP A c = Lag.ab (Lag.xs (ps.take (k + 1))) x % 2305843009213693951 by rw [EX.out, ← EA.out, if_neg e])
        have H2 := hideG (show Num.mulP D (Num.subP c x) = Lag.be (Lag.xs (ps.take (k + 1))) x % 2305843009213693951 by rw [EX.out, ← EB.out, if_neg e])
        clear e
        go_wp2_with fail
        refine (minus_calls _ _ _ (by omega) (by omega) (by omega) (by omega)).mono ?_
        rintro e w' ⟨rfl, rfl⟩
        go_wp2_with fail
        refine (times_calls _ _ _ A1 A2 (by omega) (by omega)).mono ?_
        rintro e w' ⟨rfl, rfl⟩
        go_wp2_with fail
        refine (times_calls _ _ _ D1 D2 (Num.subP_lo _ _) (Num.subP_hi _ _)).mono ?_
        rintro e w' ⟨rfl, rfl⟩
        go_wp2_with fail
        go_roundw
        case rel => exact ⟨k + 1, by omega, by go_num, by rw [← H1.out], by rw [← H2.out], HB.out.alloc hsz _⟩
        case measure => simp [intOf]; omega
    · have ek : k = n := by omega
      subst ek
      have et : ps.take k = ps := List.take_of_length_le (by rw [HN.out]; exact Nat.le_refl _)
      have H := hideG (show Num.mulP (Lag.ab (Lag.xs (ps.take k)) x % 2305843009213693951) (Pol.inv (Lag.be (Lag.xs (ps.take k)) x % 2305843009213693951)) = Lag.wt (Lag.xs ps) x by rw [et]; rfl)
      clear et hbel
      generalize Lag.ab (Lag.xs (ps.take k)) x % 2305843009213693951 = A at *
      generalize Lag.be (Lag.xs (ps.take k)) x % 2305843009213693951 = D at *
      go_wp2_with fail
      refine (inverse_calls _ _ D1 D2).mono ?_
      rintro e w' ⟨rfl, rfl⟩
      go_wp2_with fail
      refine (times_calls _ _ _ A1 A2 (Pol.inv_lo _) (Pol.inv_hi _)).mono ?_
      rintro e w' ⟨rfl, rfl⟩
      go_wp2_with fail
      go_ret
      exact ⟨congrArg (fun x => Ending.returned (.int .i64 x)) H.out, HB.out⟩

theorem sum_step (f : Int → Int) (l : List (Int × Int)) (p : Int × Int) : Num.addP (Lag.sm f l % 2305843009213693951) (Num.mulP p.2 (f p.1)) = Lag.sm f (l ++ [p]) % 2305843009213693951 := by
  rw [Lag.sm_append]
  show _ = (Lag.sm f l + (p.2 * f p.1 + 0)) % _
  unfold Num.addP Num.mulP
  omega

set_option maxHeartbeats 1000000 in
set_option maxRecDepth 100000 in
theorem join_yes (v : Value) (ps : List (Int × Int)) (w : World) (h : PtsAt w v ps) (hb : ptsB ps = true) :
    Calls Try.prog 47 #[v] w fun e w' => e = .returned (.tuple #[.int .i64 (Lag.joinN ps), .int .i64 0]) ∧ Below w.heap.size w w' := by
  have HP := hideG h
  obtain ⟨hgood, n1, n2, hel⟩ := ptsB_good hb
  obtain ⟨a, cap, hv, l2, l3, hc⟩ := pts_view h
  rw [hv] at HP ⊢
  have HC := hideG hc
  have HG := hideG hgood
  have HE := hideG hel
  have HBB := hideG hb
  clear hc h hgood hel hb hv
  generalize hn : ps.length = n at *
  have HN := hideG hn
  clear hn
  go_enter Try.func47, Try.ntmps47
  go_wp2_with fail
  refine (arePoints_calls _ ps _ HP.out).mono ?_
  rintro e w1 ⟨rfl, hb1⟩
  rw [HBB.out]
  have B1 := hideG hb1
  have z1 := hb1.size
  clear hb1
  go_wp2_with fail
  go_loopw [4, 13] (fun u i wr => ∃ k : Nat, k ≤ n ∧ i = .int .i64 k ∧ u = .int .i64 (Lag.sm (Lag.wt (Lag.xs ps)) (ps.take k) % 2305843009213693951) ∧ Below w.heap.size w wr) (fun _ i _ => n - (intOf i).toNat)
  case atStart => exact ⟨0, by omega, rfl, rfl, B1.out⟩
  case round =>
    obtain ⟨k, hk, rfl, rfl, hbel⟩ := hrel
    have HB := hideG hbel
    have hsz := hbel.size
    have A1 : 0 ≤ Lag.sm (Lag.wt (Lag.xs ps)) (ps.take k) % 2305843009213693951 := by omega
    have A2 : Lag.sm (Lag.wt (Lag.xs ps)) (ps.take k) % 2305843009213693951 < 2305843009213693951 := by omega
    by_cases hlt : k < n
    · obtain ⟨b, off, rfl, hb, c0, c1⟩ := HC.out k hlt
      rw [← hbel.cell (p := ⟨b, off + k * 2, none⟩) hb] at c0
      rw [← hbel.cell (p := ⟨b, off + k * 2 + 1, none⟩) hb] at c1
      obtain ⟨c, hcx⟩ : ∃ c, c = (ps.getD k (0, 0)).1 := ⟨_, rfl⟩
      obtain ⟨y, hy⟩ : ∃ y, y = (ps.getD k (0, 0)).2 := ⟨_, rfl⟩
      have hmem : ps.getD k (0, 0) ∈ ps := by rw [List.getD_eq_getElem?_getD, List.getElem?_eq_getElem (by rw [HN.out]; exact hlt)]; exact List.getElem_mem _
      have hcs : Lag.small c := HG.out.1 c (by rw [hcx]; exact List.mem_map.2 ⟨_, hmem, rfl⟩)
      have hye := HE.out _ hmem
      rw [← hy] at hye
      obtain ⟨y1, y2⟩ := hye
      have HS := hideG hcs
      have ES := hideG (show Num.addP (Lag.sm (Lag.wt (Lag.xs ps)) (ps.take k) % 2305843009213693951) (Num.mulP y (Lag.wt (Lag.xs ps) c)) = Lag.sm (Lag.wt (Lag.xs ps)) (ps.take (k + 1)) % 2305843009213693951 by
        rw [pget ps k (by rw [HN.out]; exact hlt), ← sum_step, hcx, hy])
      rw [← hcx] at c0
      rw [← hy] at c1
      clear hcx hy hbel hmem hcs
      generalize Lag.sm (Lag.wt (Lag.xs ps)) (ps.take k) % 2305843009213693951 = A at *
      have t1 := Lag.wt_lo (Lag.xs ps) c
      have t2 := Lag.wt_hi (Lag.xs ps) c
      go_wp2_with fail
      refine wp_region_grow (by kernel_rfl) (by kernel_rfl) ?_
      intro I G hI hG hGc hGn
      repeat (go_big_quiet_step (first | (go_at_call 70; exact call_grow hG hGn (weight_calls _ ps c _ ((HP.out.below HB.out).below (((Below.refl _ _).alloc (Nat.le_refl _) _).trans ((hG.out _).mono (by simp)))) HG.out.1 HS.out)) | (go_at_call 66; exact call_same (times_calls _ _ _ y1 y2 t1 t2))))
      refine wpQuiet_nil ?_
      intro wn hw'
      obtain ⟨u, hw''⟩ := hw'
      have hwn := hG.out u
      rw [← hw''] at hwn
      clear hw'' hGc hGn hG u hI G I
      have HW := hideG hwn
      clear hwn
      go_wp2_with fail
      refine (plus_calls _ _ _ A1 A2 (Num.mulP_lo _ _) (Num.mulP_hi _ _)).mono ?_
      rintro e wn ⟨rfl, rfl⟩
      go_wp2_with fail
      go_roundw
      case rel => exact ⟨k + 1, by omega, by go_num, by rw [ES.out], (HB.out.alloc hsz _).trans (HW.out.mono (by simp; omega))⟩
      case measure => simp [intOf]; omega
    · have ek : k = n := by omega
      subst ek
      have et : ps.take k = ps := List.take_of_length_le (by rw [HN.out]; exact Nat.le_refl _)
      have H := hideG (show Lag.sm (Lag.wt (Lag.xs ps)) (ps.take k) % 2305843009213693951 = Lag.joinN ps by rw [et]; rfl)
      clear et hbel
      generalize Lag.sm (Lag.wt (Lag.xs ps)) (ps.take k) % 2305843009213693951 = A at *
      go_wp2_with fail
      go_ret2
      exact ⟨congrArg (fun x => Ending.returned (.tuple #[.int .i64 x, .int .i64 0])) H.out, HB.out⟩

theorem join_no (v : Value) (ps : List (Int × Int)) (w : World) (h : PtsAt w v ps) (hb : ptsB ps = false) :
    Calls Try.prog 47 #[v] w fun e w' => e = .returned (.tuple #[.int .i64 0, .int .i64 2]) ∧ Below w.heap.size w w' := by
  have HP := hideG h
  have HBB := hideG hb
  clear h hb
  go_enter Try.func47, Try.ntmps47
  go_wp2_with fail
  refine (arePoints_calls _ ps _ HP.out).mono ?_
  rintro e w1 ⟨rfl, hb1⟩
  rw [HBB.out]
  have B1 := hideG hb1
  clear hb1
  go_wp2_with fail
  go_ret2
  exact ⟨rfl, B1.out⟩

theorem veilJoin (v : Value) (w : World) (x c : Int)
    (h : Calls Try.prog 47 #[v] w fun e w' => e = .returned (.tuple #[.int .i64 x, .int .i64 c]) ∧ Below w.heap.size w w') :
    Calls Try.prog 19 #[v] w fun e w' => e = .returned (.tuple #[.int .i64 x, .int .i64 c]) ∧ Below w.heap.size w w' := by
  have H := hideG h
  clear h
  go_enter Try.func19, Try.ntmps19
  go_wp2_with fail
  refine H.out.mono ?_
  rintro e w' ⟨rfl, hb⟩
  have HB := hideG hb
  clear hb
  go_wp2_with fail
  go_ret2
  exact ⟨rfl, HB.out⟩

end Go.Proofs.Ytchideljndagjaa
