/- Contracts of points and of inverse of package veilref. -/
import Derived.Test.YtchideljndagjaaGreatRef
import Derived.Test.YtchideljndagjaaGreatPts
namespace Go.Proofs.YtchideljndagjaaGreat
open Go.ChangeShapes Go.WideShapes Go.ChangeAt Go.RowKit
set_option linter.unusedVariables false

set_option maxHeartbeats 1000000 in
set_option maxRecDepth 100000 in
theorem rpoints_calls (v : Value) (ps : List (Int × Int)) (w : World) (h : PtsAt w v ps) :
    Calls Tryz.prog 141 #[v] w fun e w' => e = .returned (.bool (ptsB ps)) ∧ Below w.heap.size w w' := by
  obtain ⟨a, cap, rfl, l2, l3, hc⟩ := pts_view h
  have HC := hideG hc
  clear hc h
  by_cases t1 : (ps.length : Int) = 0
  · have t1b : ((ps.length : Int) == 0) = true := beq_iff_eq.2 t1
    have H := hideG (show ptsB ps = false by unfold ptsB; rw [decide_eq_false (by omega)]; rfl)
    go_enter Tryz.func141, Tryz.ntmps141
    go_wp2_with fail
    go_ret
    exact ⟨congrArg (fun x => Ending.returned (.bool x)) H.out.symm, Below.refl _ _⟩
  · have t1b : ((ps.length : Int) == 0) = false := beq_eq_false_iff_ne.2 t1
    by_cases t2 : 12 < (ps.length : Int)
    · have H := hideG (show ptsB ps = false by unfold ptsB; rw [decide_eq_false (by omega)]; rfl)
      go_enter Tryz.func141, Tryz.ntmps141
      go_wp2_with fail
      go_ret
      exact ⟨congrArg (fun x => Ending.returned (.bool x)) H.out.symm, Below.refl _ _⟩
    · generalize hn : ps.length = n at *
      have HN := hideG hn
      clear hn
      go_enter Tryz.func141, Tryz.ntmps141
      go_wp2_with fail
      go_loopw [4] (fun i wr => ∃ k : Nat, k ≤ n ∧ i = .int .i64 k ∧ SeenIs wr w.heap.size 127 (Lag.xs (ps.take k)) ∧ (ps.take k).all okP = true ∧ (Lag.xs (ps.take k)).Nodup ∧ Below w.heap.size w wr ∧ w.heap.size < wr.heap.size) (fun i _ => n - (intOf i).toNat)
      case atStart =>
        refine ⟨0, by omega, rfl, ⟨_, heap_alloc_new w _, rfl, fun x h0 h1 => ?_⟩, rfl, List.nodup_nil, (Below.refl _ _).alloc (Nat.le_refl _) _, by simp⟩
        have hx : x.toNat ≤ 12 := by omega
        rw [show decide (x ∈ Lag.xs (ps.take 0)) = false from decide_eq_false (by simp [Lag.xs])]
        match x.toNat, hx with
        | 0, _ => rfl
        | 1, _ => rfl
        | 2, _ => rfl
        | 3, _ => rfl
        | 4, _ => rfl
        | 5, _ => rfl
        | 6, _ => rfl
        | 7, _ => rfl
        | 8, _ => rfl
        | 9, _ => rfl
        | 10, _ => rfl
        | 11, _ => rfl
        | 12, _ => rfl
        | n + 13, h => exact absurd h (by omega)
      case round =>
        obtain ⟨k, hk, rfl, hseen, hall, hnd, hbel, hsz⟩ := hrel
        have HS := hideG hseen
        have HA := hideG hall
        have HD := hideG hnd
        have HB := hideG hbel
        clear hall hnd
        by_cases hlt : k < n
        · obtain ⟨b, off, rfl, hb, c0, c1⟩ := HC.out k hlt
          rw [← hbel.cell (p := ⟨b, off + k * 2, none⟩) hb] at c0
          rw [← hbel.cell (p := ⟨b, off + k * 2 + 1, none⟩) hb] at c1
          obtain ⟨x, hx⟩ : ∃ x, x = (ps.getD k (0, 0)).1 := ⟨_, rfl⟩
          obtain ⟨y, hy⟩ : ∃ y, y = (ps.getD k (0, 0)).2 := ⟨_, rfl⟩
          rw [← hx] at c0
          rw [← hy] at c1
          have HP := hideG (show ps.getD k (0, 0) = (x, y) by rw [hx, hy])
          clear hx hy hbel
          by_cases x1 : x < 1
          · clear hseen
            have H := hideG (ptsB_bad1 ps k (by rw [HN.out]; exact hlt) (by rw [HP.out]; show (Num.clB x && Num.elB y) = false; rw [Num.clB_no (by omega)]; rfl))
            go_wp2_with fail
            go_ret
            exact ⟨congrArg (fun x => Ending.returned (.bool x)) H.out.symm, HB.out.alloc (by omega) _⟩
          · by_cases x2 : 12 < x
            · clear hseen
              have H := hideG (ptsB_bad1 ps k (by rw [HN.out]; exact hlt) (by rw [HP.out]; show (Num.clB x && Num.elB y) = false; rw [Num.clB_no (by omega)]; rfl))
              go_wp2_with fail
              go_ret
              exact ⟨congrArg (fun x => Ending.returned (.bool x)) H.out.symm, HB.out.alloc (by omega) _⟩
            · by_cases y1 : y < 0
              · clear hseen
                have H := hideG (ptsB_bad1 ps k (by rw [HN.out]; exact hlt) (by rw [HP.out]; show (Num.clB x && Num.elB y) = false; rw [Num.elB_no (by omega)]; simp))
                go_wp2_with fail
                go_ret
                exact ⟨congrArg (fun x => Ending.returned (.bool x)) H.out.symm, HB.out.alloc (by omega) _⟩
              · by_cases y2 : y < 2305843009213693951
                · obtain ⟨s1, s2⟩ := hseen.cell x (by omega) (by omega)
                  have hok : okP (ps.getD k (0, 0)) = true := by rw [HP.out]; show (Num.clB x && Num.elB y) = true; rw [Num.clB_yes (by omega) (by omega), Num.elB_yes (by omega) y2]; rfl
                  have HK := hideG hok
                  clear hseen hok
                  cases q3 : decide (x ∈ Lag.xs (ps.take k))
                  · rw [q3] at s1
                    have HX := hideG (of_decide_eq_false q3)
                    clear q3
                    go_wp2_with fail
                    go_roundw
                    case rel =>
                      have e := pget ps k (by rw [HN.out]; exact hlt)
                      have ex : Lag.xs (ps.take (k + 1)) = Lag.xs (ps.take k) ++ [x] := by rw [e, Lag.xs_append, HP.out]; rfl
                      refine ⟨k + 1, by omega, by go_num, ?_, ?_, ?_, (HB.out.setCell (p := ⟨w.heap.size, x.toNat, none⟩) (Nat.le_refl _) _).alloc (by simp [World.setCell]; omega) _, by simp [World.setCell]; omega⟩
                      · rw [ex]; exact (HS.out.set x (by omega) (by omega)).alloc (by simp [World.setCell]; omega) _
                      · rw [e, List.all_append, HA.out, Bool.true_and, List.all_cons, List.all_nil, Bool.and_true]; exact HK.out
                      · rw [ex, List.nodup_append]
                        refine ⟨HD.out, by simp, fun u hu z hz e => ?_⟩
                        simp at hz; subst hz; subst e; exact HX.out hu
                    case measure => simp [intOf]; omega
                  · rw [q3] at s1
                    have H := hideG (ptsB_bad2 ps k (by rw [HN.out]; exact hlt) (by rw [HP.out]; exact of_decide_eq_true q3))
                    clear q3
                    go_wp2_with fail
                    go_ret
                    exact ⟨congrArg (fun x => Ending.returned (.bool x)) H.out.symm, HB.out.alloc (by omega) _⟩
                · clear hseen
                  have H := hideG (ptsB_bad1 ps k (by rw [HN.out]; exact hlt) (by rw [HP.out]; show (Num.clB x && Num.elB y) = false; rw [Num.elB_no (by omega)]; simp))
                  go_wp2_with fail
                  go_ret
                  exact ⟨congrArg (fun x => Ending.returned (.bool x)) H.out.symm, HB.out.alloc (by omega) _⟩
        · have ek : k = n := by omega
          subst ek
          clear hseen hbel
          have et : ps.take k = ps := List.take_of_length_le (by rw [HN.out]; exact Nat.le_refl _)
          have H := hideG (ptsB_done ps (by rw [HN.out]; omega) (by rw [HN.out]; omega) (by have := HA.out; rw [et] at this; exact this) (by have := HD.out; rw [et] at this; exact this))
          clear et
          go_wp2_with fail
          go_ret
          exact ⟨congrArg (fun x => Ending.returned (.bool x)) H.out.symm, HB.out⟩


/-- Euclid's way: what holds ahead of each round. -/
def EI (a r0 r1 t0 t1 : Int) : Prop :=
  0 ≤ r1 ∧ r1 < r0 ∧ r0 ≤ 2305843009213693951 ∧ (r1 = 0 → r0 < 2305843009213693951) ∧ Lag.Cg (t0 * a) r0 ∧ Lag.Cg (t1 * a) r1 ∧ -2305843009213693951 < t0 ∧ t0 < 2305843009213693951 ∧
    (t0 ≤ 0 ∧ 0 ≤ t1 ∧ t1 * r0 - t0 * r1 = 2305843009213693951 ∨ 0 ≤ t0 ∧ t1 ≤ 0 ∧ t0 * r1 - t1 * r0 = 2305843009213693951)

theorem ei_start (a : Int) (h : 0 < a) (h' : a < 2305843009213693951) : EI a 2305843009213693951 a 0 1 := by
  refine ⟨by omega, h', by omega, by omega, ?_, ?_, by omega, by omega, .inl ⟨by omega, by omega, by omega⟩⟩
  · unfold Lag.Cg; omega
  · rw [Int.one_mul]; exact Lag.cg_refl _

theorem pos_mul_le {a b : Int} (ha : 0 ≤ a) (hb : 1 ≤ b) : a ≤ a * b := by
  have := Int.mul_le_mul_of_nonneg_left hb ha
  omega

/-- The bounds of a round. -/
theorem ei_bounds {a r0 r1 t0 t1 : Int} (h : EI a r0 r1 t0 t1) (h1 : 0 < r1) :
    0 ≤ r0 / r1 ∧ r0 / r1 * r1 ≤ r0 ∧ 0 ≤ r0 / r1 * r1 ∧ -2305843009213693951 ≤ r0 / r1 * t1 ∧ r0 / r1 * t1 ≤ 2305843009213693951 ∧ -2305843009213693951 < t1 ∧ t1 < 2305843009213693951 := by
  obtain ⟨a1, a2, a3, a4, a5, a6, a7, a8, a9⟩ := h
  have q0 : 0 ≤ r0 / r1 := Int.ediv_nonneg (by omega) a1
  have e : r0 = r1 * (r0 / r1) + r0 % r1 := (Int.mul_ediv_add_emod r0 r1).symm
  have m0 : 0 ≤ r0 % r1 := Int.emod_nonneg _ (by omega)
  have c : r1 * (r0 / r1) = r0 / r1 * r1 := Int.mul_comm _ _
  have n0 : 0 ≤ r0 / r1 * r1 := Int.mul_nonneg q0 a1
  have qle : r0 / r1 ≤ r0 := by
    have := pos_mul_le q0 (show 1 ≤ r1 by omega)
    omega
  rcases a9 with ⟨s1, s2, s3⟩ | ⟨s1, s2, s3⟩
  · have b1 : 0 ≤ -t0 * r1 := Int.mul_nonneg (by omega) a1
    have b2 : t1 * r0 ≤ 2305843009213693951 := by rw [Int.neg_mul] at b1; omega
    have b3 : r0 / r1 * t1 ≤ r0 * t1 := Int.mul_le_mul_of_nonneg_right qle s2
    have b4 : 0 ≤ r0 / r1 * t1 := Int.mul_nonneg q0 s2
    rw [Int.mul_comm r0 t1] at b3
    have b5 := Int.mul_le_mul_of_nonneg_left (show 2 ≤ r0 by omega) s2
    exact ⟨q0, by omega, n0, by omega, by omega, by omega, by omega⟩
  · have b1 : 0 ≤ t0 * r1 := Int.mul_nonneg s1 a1
    have b2 : -t1 * r0 ≤ 2305843009213693951 := by rw [Int.neg_mul]; omega
    have b3 : r0 / r1 * -t1 ≤ r0 * -t1 := Int.mul_le_mul_of_nonneg_right qle (by omega)
    have b4 : 0 ≤ r0 / r1 * -t1 := Int.mul_nonneg q0 (by omega)
    rw [Int.mul_comm r0 (-t1)] at b3
    rw [Int.mul_neg] at b3 b4
    have b5 := Int.mul_le_mul_of_nonneg_left (show 2 ≤ r0 by omega) (show 0 ≤ -t1 by omega)
    exact ⟨q0, by omega, n0, by omega, by omega, by omega, by omega⟩

theorem ei_next {a r0 r1 t0 t1 : Int} (h : EI a r0 r1 t0 t1) (h1 : 0 < r1) : EI a r1 (r0 - r0 / r1 * r1) t1 (t0 - r0 / r1 * t1) := by
  obtain ⟨c1, c2, c3, c4, c5, c6, c7⟩ := ei_bounds h h1
  obtain ⟨a1, a2, a3, a4, a5, a6, a7, a8, a9⟩ := h
  have e : r0 = r1 * (r0 / r1) + r0 % r1 := (Int.mul_ediv_add_emod r0 r1).symm
  have c : r1 * (r0 / r1) = r0 / r1 * r1 := Int.mul_comm _ _
  have m0 : 0 ≤ r0 % r1 := Int.emod_nonneg _ (by omega)
  have m1 : r0 % r1 < r1 := Int.emod_lt_of_pos _ h1
  generalize r0 / r1 = q at *
  refine ⟨by omega, by omega, by omega, fun _ => by omega, a6, ?_, c6, c7, ?_⟩
  · have e1 : (t0 - q * t1) * a = t0 * a - q * (t1 * a) := by grind
    rw [e1]; exact Lag.cg_sub a5 (Lag.cg_mul (Lag.cg_refl q) a6)
  · rcases a9 with ⟨s1, s2, s3⟩ | ⟨s1, s2, s3⟩
    · right
      have n : 0 ≤ q * t1 := Int.mul_nonneg c1 s2
      refine ⟨s2, by omega, ?_⟩
      have : t1 * (r0 - q * r1) - (t0 - q * t1) * r1 = t1 * r0 - t0 * r1 := by grind
      rw [this]; exact s3
    · left
      have n : 0 ≤ q * -t1 := Int.mul_nonneg c1 (by omega)
      rw [Int.mul_neg] at n
      refine ⟨s2, by omega, ?_⟩
      have : (t0 - q * t1) * r1 - t1 * (r0 - q * r1) = t0 * r1 - t1 * r0 := by grind
      rw [this]; exact s3

theorem ei_end {a r0 t0 t1 : Int} (ha : 0 < a) (ha' : a < 2305843009213693951) (h : EI a r0 0 t0 t1) : (if t0 < 0 then t0 + 2305843009213693951 else t0) = Pol.inv a := by
  obtain ⟨a1, a2, a3, a4, a5, a6, a7, a8, a9⟩ := h
  have hd : ∃ u : Int, u * r0 = 2305843009213693951 := by
    rcases a9 with ⟨_, _, s3⟩ | ⟨_, _, s3⟩
    · exact ⟨t1, by omega⟩
    · exact ⟨-t1, by rw [Int.neg_mul]; omega⟩
  have hr : r0 = 1 := by
    obtain ⟨u, hu⟩ := hd
    have hdv : r0 ∣ 2305843009213693951 := ⟨u, by rw [Int.mul_comm]; exact hu.symm⟩
    have hn : r0.natAbs ∣ 2305843009213693951 := Int.ofNat_dvd_right.1 hdv
    have := Prm.isP_prime.2 _ hn
    have := a4 rfl
    omega
  subst hr
  have h1 := Pol.inv_mul a ha ha'
  have l1 := Pol.inv_lo a
  have l2 := Pol.inv_hi a
  have c1 : Lag.Cg (t0 * a) (Pol.inv a * a) := by
    refine Lag.cg_trans a5 ?_
    rw [Lag.cg_iff, Int.mul_comm, h1]; rfl
  have c2 : Lag.Cg t0 (Pol.inv a) := Lag.cg_cancel (by unfold Lag.Cg; omega) c1
  unfold Lag.Cg at c2
  split <;> omega

theorem round_form {a r0 r1 t0 t1 : Int} (h : EI a r0 r1 t0 t1) (h1 : 0 < r1) : wrap64 (r0 - wrap64 (r0 / r1 * r1)) = r0 - r0 / r1 * r1 ∧ wrap64 (t0 - wrap64 (r0 / r1 * t1)) = t0 - r0 / r1 * t1 := by
  obtain ⟨c1, c2, c3, c4, c5, c6, c7⟩ := ei_bounds h h1
  obtain ⟨a1, a2, a3, a4, a5, a6, a7, a8, a9⟩ := h
  generalize r0 / r1 = q at *
  generalize q * r1 = A at *
  generalize q * t1 = B at *
  rw [IntWalk.wrap64_in A (by omega), IntWalk.wrap64_in B (by omega), IntWalk.wrap64_in _ (by omega), IntWalk.wrap64_in _ (by omega)]
  exact ⟨rfl, rfl⟩

set_option maxHeartbeats 1000000 in
theorem rinverse_calls (a : Int) (w : World) (ha : 0 < a) (ha' : a < 2305843009213693951) :
    Calls Tryz.prog 143 #[.int .i64 a] w fun e w' => e = .returned (.int .i64 (Pol.inv a)) ∧ w' = w := by
  have HS := hideG (ei_start a ha ha')
  go_enter Tryz.func143, Tryz.ntmps143
  go_wp2_with fail
  go_loop [3, 4, 5, 6] (fun x0 x1 y0 y1 => ∃ r0 r1 t0 t1 : Int, x0 = .int .i64 r0 ∧ x1 = .int .i64 r1 ∧ y0 = .int .i64 t0 ∧ y1 = .int .i64 t1 ∧ EI a r0 r1 t0 t1) (fun _ x1 _ _ => (intOf x1).toNat)
  case atStart => exact ⟨_, _, _, _, rfl, rfl, rfl, rfl, HS.out⟩
  case round =>
    obtain ⟨r0, r1, t0, t1, rfl, rfl, rfl, rfl, hE⟩ := hrel
    have HE := hideG hE
    obtain ⟨a1, a2, a3, a4, a5, a6, a7, a8, a9⟩ := hE
    clear a4 a5 a6 a9
    by_cases h1 : r1 = 0
    · subst h1
      have H := hideG (ei_end ha ha' HE.out)
      by_cases ht : t0 < 0
      · have H2 := hideG (show t0 + 2305843009213693951 = Pol.inv a by rw [← H.out, if_pos ht])
        go_wp2_with fail
        go_ret
        exact ⟨congrArg (fun x => Ending.returned (.int .i64 x)) H2.out, rfl⟩
      · have H2 := hideG (show t0 = Pol.inv a by rw [← H.out, if_neg ht])
        go_wp2_with fail
        go_ret
        exact ⟨congrArg (fun x => Ending.returned (.int .i64 x)) H2.out, rfl⟩
    · have hp : 0 < r1 := by omega
      have hne : (r1 != 0) = true := by simp [h1]
      have RF := hideG (round_form HE.out hp)
      have NX := hideG (ei_next HE.out hp)
      clear h1
      go_wp2_with fail
      go_round
      case rel => exact ⟨_, _, _, _, rfl, rfl, rfl, rfl, by rw [RF.out.1, RF.out.2]; exact NX.out⟩
      case measure => rw [RF.out.1]; have := NX.out.1; have := NX.out.2.1; simp [intOf]; omega

end Go.Proofs.YtchideljndagjaaGreat
