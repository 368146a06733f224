/- Contracts of points and of inverse of package veilref. -/
import Derived.Test.YtchideljndagjabGreatPkSeAC
import Derived.Test.YtchideljndagjabGreatPkSeAT
import Derived.Test.YtchideljndagjabGreatPkSeAH
import Derived.Test.YtchideljndagjabGreatPkSeBA
import Derived.Test.YtchideljndagjabGreatPkSeAU
namespace Go.Proofs.YtchideljndagjabGreat
open Go.ChangeShapes Go.WideShapes Go.ChangeAt Go.RowKit
set_option linter.unusedVariables false

set_option maxHeartbeats 1000000 in
set_option maxRecDepth 100000 in
theorem rpoints_calls (v : Value) (ps : List (Int × Int)) (w : World) (h : PtsAt w v ps) :
    Calls Tryz.prog 214 #[v] w fun e w' => e = .returned (.bool (ptsB ps)) ∧ Below w.heap.size w w' := by
  obtain ⟨a, cap, rfl, l2, l3, hc⟩ := pts_view h
  have HC := hideG hc
  clear hc h
  by_cases t1 : (ps.length : Int) = 0
  · have t1b : ((ps.length : Int) == 0) = true := beq_iff_eq.2 t1
    have H := hideG (show ptsB ps = false by unfold ptsB; rw [decide_eq_false (by omega)]; rfl)
    go_enter Tryz.func214, Tryz.ntmps214
    go_wp2_with fail
    go_ret
    exact ⟨congrArg (fun x => Ending.returned (.bool x)) H.out.symm, Below.refl _ _⟩
  · have t1b : ((ps.length : Int) == 0) = false := beq_eq_false_iff_ne.2 t1
    by_cases t2 : 12 < (ps.length : Int)
    · have H := hideG (show ptsB ps = false by unfold ptsB; rw [decide_eq_false (by omega)]; rfl)
      go_enter Tryz.func214, Tryz.ntmps214
      go_wp2_with fail
      go_ret
      exact ⟨congrArg (fun x => Ending.returned (.bool x)) H.out.symm, Below.refl _ _⟩
    · generalize hn : ps.length = n at *
      have HN := hideG hn
      clear hn
      go_enter Tryz.func214, Tryz.ntmps214
      go_wp2_with fail
      go_loopw [4] (fun i wr => ∃ k : Nat, k ≤ n ∧ i = .int .i64 k ∧ SeenIs wr w.heap.size 36 (Lag.xs (ps.take k)) ∧ (ps.take k).all okP = true ∧ (Lag.xs (ps.take k)).Nodup ∧ Below w.heap.size w wr ∧ w.heap.size < wr.heap.size) (fun i _ => n - (intOf i).toNat)
      case atStart =>
        refine ⟨0, by omega, rfl, ⟨_, heap_alloc_new w _, rfl, fun x h0 h1 => ?_⟩, rfl, List.nodup_nil, (Below.refl _ _).alloc (Nat.le_refl _) _, by simp⟩
        have hx : x.toNat ≤ 12 := by omega
        rw [show decide (x ∈ Lag.xs (ps.take 0)) = false from decide_eq_false (by simp [Lag.xs])]
        match x.toNat, hx with
        | 0, _ => rfl
        | 1, _ => rfl
        | 2, _ => rfl
        | 3, _ => rfl
        | 4, _ => rfl
        | 5, _ => rfl
        | 6, _ => rfl
        | 7, _ => rfl
        | 8, _ => rfl
        | 9, _ => rfl
        | 10, _ => rfl
        | 11, _ => rfl
        | 12, _ => rfl
        | n + 13, h => exact absurd h (by omega)
      case round =>
        obtain ⟨k, hk, rfl, hseen, hall, hnd, hbel, hsz⟩ := hrel
        have HS := hideG hseen
        have HA := hideG hall
        have HD := hideG hnd
        have HB := hideG hbel
        clear hall hnd
        by_cases hlt : k < n
        · obtain ⟨b, off, rfl, hb, c0, c1⟩ := HC.out k hlt
          rw [← hbel.cell (p := ⟨b, off + k * 2, none⟩) hb] at c0
          rw [← hbel.cell (p := ⟨b, off + k * 2 + 1, none⟩) hb] at c1
          obtain ⟨x, hx⟩ : ∃ x, x = (ps.getD k (0, 0)).1 := ⟨_, rfl⟩
          obtain ⟨y, hy⟩ : ∃ y, y = (ps.getD k (0, 0)).2 := ⟨_, rfl⟩
          rw [← hx] at c0
          rw [← hy] at c1
          have HP := hideG (show ps.getD k (0, 0) = (x, y) by rw [hx, hy])
          clear hx hy hbel
          by_cases x1 : x < 1
          · clear hseen
            have H := hideG (ptsB_bad1 ps k (by rw [HN.out]; exact hlt) (by rw [HP.out]; show (Num.clB x && Num.elB y) = false; rw [Num.clB_no (by omega)]; rfl))
            go_wp2_with fail
            go_ret
            exact ⟨congrArg (fun x => Ending.returned (.bool x)) H.out.symm, HB.out.alloc (by omega) _⟩
          · by_cases x2 : 12 < x
            · clear hseen
              have H := hideG (ptsB_bad1 ps k (by rw [HN.out]; exact hlt) (by rw [HP.out]; show (Num.clB x && Num.elB y) = false; rw [Num.clB_no (by omega)]; rfl))
              go_wp2_with fail
              go_ret
              exact ⟨congrArg (fun x => Ending.returned (.bool x)) H.out.symm, HB.out.alloc (by omega) _⟩
            · by_cases y1 : y < 0
              · clear hseen
                have H := hideG (ptsB_bad1 ps k (by rw [HN.out]; exact hlt) (by rw [HP.out]; show (Num.clB x && Num.elB y) = false; rw [Num.elB_no (by omega)]; simp))
                go_wp2_with fail
                go_ret
                exact ⟨congrArg (fun x => Ending.returned (.bool x)) H.out.symm, HB.out.alloc (by omega) _⟩
              · by_cases y2 : y < 2305843009213693951
                · obtain ⟨s1, s2⟩ := hseen.cell x (by omega) (by omega)
                  have hok : okP (ps.getD k (0, 0)) = true := by rw [HP.out]; show (Num.clB x && Num.elB y) = true; rw [Num.clB_yes (by omega) (by omega), Num.elB_yes (by omega) y2]; rfl
                  have HK := hideG hok
                  clear hseen hok
                  cases q3 : decide (x ∈ Lag.xs (ps.take k))
                  · rw [q3] at s1
                    have HX := hideG (of_decide_eq_false q3)
                    clear q3
                    go_wp2_with fail
                    go_roundw
                    case rel =>
                      have e := pget ps k (by rw [HN.out]; exact hlt)
                      have ex : Lag.xs (ps.take (k + 1)) = Lag.xs (ps.take k) ++ [x] := by rw [e, Lag.xs_append, HP.out]; rfl
                      refine ⟨k + 1, by omega, by go_num, ?_, ?_, ?_, (HB.out.setCell (p := ⟨w.heap.size, x.toNat, none⟩) (Nat.le_refl _) _).alloc (by simp [World.setCell]; omega) _, by simp [World.setCell]; omega⟩
                      · rw [ex]; exact (HS.out.set x (by omega) (by omega)).alloc (by simp [World.setCell]; omega) _
                      · rw [e, List.all_append, HA.out, Bool.true_and, List.all_cons, List.all_nil, Bool.and_true]; exact HK.out
                      · rw [ex, List.nodup_append]
                        refine ⟨HD.out, by simp, fun u hu z hz e => ?_⟩
                        simp at hz; subst hz; subst e; exact HX.out hu
                    case measure => simp [intOf]; omega
                  · rw [q3] at s1
                    have H := hideG (ptsB_bad2 ps k (by rw [HN.out]; exact hlt) (by rw [HP.out]; exact of_decide_eq_true q3))
                    clear q3
                    go_wp2_with fail
                    go_ret
                    exact ⟨congrArg (fun x => Ending.returned (.bool x)) H.out.symm, HB.out.alloc (by omega) _⟩
                · clear hseen
                  have H := hideG (ptsB_bad1 ps k (by rw [HN.out]; exact hlt) (by rw [HP.out]; show (Num.clB x && Num.elB y) = false; rw [Num.elB_no (by omega)]; simp))
                  go_wp2_with fail
                  go_ret
                  exact ⟨congrArg (fun x => Ending.returned (.bool x)) H.out.symm, HB.out.alloc (by omega) _⟩
        · have ek : k = n := by omega
          subst ek
          clear hseen hbel
          have et : ps.take k = ps := List.take_of_length_le (by rw [HN.out]; exact Nat.le_refl _)
          have H := hideG (ptsB_done ps (by rw [HN.out]; omega) (by rw [HN.out]; omega) (by have := HA.out; rw [et] at this; exact this) (by have := HD.out; rw [et] at this; exact this))
          clear et
          go_wp2_with fail
          go_ret
          exact ⟨congrArg (fun x => Ending.returned (.bool x)) H.out.symm, HB.out⟩


/-- Euclid's way: what holds ahead of each round. -/
def EI (a r0 r1 t0 t1 : Int) : Prop :=
  0 ≤ r1 ∧ r1 < r0 ∧ r0 ≤ 2305843009213693951 ∧ (r1 = 0 → r0 < 2305843009213693951) ∧ Lag.Cg (t0 * a) r0 ∧ Lag.Cg (t1 * a) r1 ∧ -2305843009213693951 < t0 ∧ t0 < 2305843009213693951 ∧
    (t0 ≤ 0 ∧ 0 ≤ t1 ∧ t1 * r0 - t0 * r1 = 2305843009213693951 ∨ 0 ≤ t0 ∧ t1 ≤ 0 ∧ t0 * r1 - t1 * r0 = 2305843009213693951)

theorem ei_start (a : Int) (h : 0 < a) (h' : a < 2305843009213693951) : EI a 2305843009213693951 a 0 1 := by
  refine ⟨by omega, h', by omega, by omega, ?_, ?_, by omega, by omega, .inl ⟨by omega, by omega, by omega⟩⟩
  · unfold Lag.Cg; omega
  · rw [Int.one_mul]; exact Lag.cg_refl _

theorem pos_mul_le {a b : Int} (ha : 0 ≤ a) (hb : 1 ≤ b) : a ≤ a * b := by
  have := Int.mul_le_mul_of_nonneg_left hb ha
  omega

/-- The bounds of a round. -/
theorem ei_bounds {a r0 r1 t0 t1 : Int} (h : EI a r0 r1 t0 t1) (h1 : 0 < r1) :
    0 ≤ r0 / r1 ∧ r0 / r1 * r1 ≤ r0 ∧ 0 ≤ r0 / r1 * r1 ∧ -2305843009213693951 ≤ r0 / r1 * t1 ∧ r0 / r1 * t1 ≤ 2305843009213693951 ∧ -2305843009213693951 < t1 ∧ t1 < 2305843009213693951 := by
  obtain ⟨a1, a2, a3, a4, a5, a6, a7, a8, a9⟩ := h
  have q0 : 0 ≤ r0 / r1 := Int.ediv_nonneg (by omega) a1
  have e : r0 = r1 * (r0 / r1) + r0 % r1 := (Int.mul_ediv_add_emod r0 r1).symm
  have m0 : 0 ≤ r0 % r1 := Int.emod_nonneg _ (by omega)
  have c : r1 * (r0 / r1) = r0 / r1 * r1 := Int.mul_comm _ _
  have n0 : 0 ≤ r0 / r1 * r1 := Int.mul_nonneg q0 a1
  have qle : r0 / r1 ≤ r0 := by
    have := pos_mul_le q0 (show 1 ≤ r1 by omega)
    omega
  rcases a9 with ⟨s1, s2, s3⟩ | ⟨s1, s2, s3⟩
  · have b1 : 0 ≤ -t0 * r1 := Int.mul_nonneg (by omega) a1
    have b2 : t1 * r0 ≤ 2305843009213693951 := by rw [Int.neg_mul] at b1; omega
    have b3 : r0 / r1 * t1 ≤ r0 * t1 := Int.mul_le_mul_of_nonneg_right qle s2
    have b4 : 0 ≤ r0 / r1 * t1 := Int.mul_nonneg q0 s2
    rw [Int.mul_comm r0 t1] at b3
    have b5 := Int.mul_le_mul_of_nonneg_left (show 2 ≤ r0 by omega) s2
    exact ⟨q0, by omega, n0, by omega, by omega, by omega, by omega⟩
  · have b1 : 0 ≤ t0 * r1 := Int.mul_nonneg s1 a1
    have b2 : -t1 * r0 ≤ 2305843009213693951 := by rw [Int.neg_mul]; omega
    have b3 : r0 / r1 * -t1 ≤ r0 * -t1 := Int.mul_le_mul_of_nonneg_right qle (by omega)
    have b4 : 0 ≤ r0 / r1 * -t1 := Int.mul_nonneg q0 (by omega)
    rw [Int.mul_comm r0 (-t1)] at b3
    rw [Int.mul_neg] at b3 b4
    have b5 := Int.mul_le_mul_of_nonneg_left (show 2 ≤ r0 by omega) (show 0 ≤ -t1 by omega)
    exact ⟨q0, by omega, n0, by omega, by omega, by omega, by omega⟩

theorem ei_next {a r0 r1 t0 t1 : Int} (h : EI a r0 r1 t0 t1) (h1 : 0 < r1) : EI a r1 (r0 - r0 / r1 * r1) t1 (t0 - r0 / r1 * t1) := by
  obtain ⟨c1, c2, c3, c4, c5, c6, c7⟩ := ei_bounds h h1
  obtain ⟨a1, a2, a3, a4, a5, a6, a7, a8, a9⟩ := h
  have e : r0 = r1 * (r0 / r1) + r0 % r1 := (Int.mul_ediv_add_emod r0 r1).symm
  have c : r1 * (r0 / r1) = r0 / r1 * r1 := Int.mul_comm _ _
  have m0 : 0 ≤ r0 % r1 := Int.emod_nonneg _ (by omega)
  have m1 : r0 % r1 < r1 := Int.emod_lt_of_pos _ h1
  generalize r0 / r1 = q at *
  refine ⟨by omega, by omega, by omega, fun _ => by omega, a6, ?_, c6, c7, ?_⟩
  · have e1 : (t0 - q * t1) * a = t0 * a - q * (t1 * a) := by grind
    rw [e1]; exact Lag.cg_sub a5 (Lag.cg_mul (Lag.cg_refl q) a6)
  · rcases a9 with ⟨s1, s2, s3⟩ | ⟨s1, s2, s3⟩
    · right
      have n : 0 ≤ q * t1 := Int.mul_nonneg c1 s2
      refine ⟨s2, by omega, ?_⟩
      have : t1 * (r0 - q * r1) - (t0 - q * t1) * r1 = t1 * r0 - t0 * r1 := by grind
      rw [this]; exact s3
    · left
      have n : 0 ≤ q * -t1 := Int.mul_nonneg c1 (by omega)
      rw [Int.mul_neg] at n
      refine ⟨s2, by omega, ?_⟩
      have : (t0 - q * t1) * r1 - t1 * (r0 - q * r1) = t0 * r1 - t1 * r0 := by grind
      rw [this]; exact s3

theorem ei_end {a r0 t0 t1 : Int} (ha : 0 < a) (ha' : a < 2305843009213693951) (h : EI a r0 0 t0 t1) : (if t0 < 0 then t0 + 2305843009213693951 else t0) = Pol.inv a := by
  obtain ⟨a1, a2, a3, a4, a5, a6, a7, a8, a9⟩ := h
  have hd : ∃ u : Int, u * r0 = 2305843009213693951 := by
    rcases a9 with ⟨_, _, s3⟩ | ⟨_, _, s3⟩
    · exact ⟨t1, by omega⟩
    · exact ⟨-t1, by rw [Int.neg_mul]; omega⟩
  have hr : r0 = 1 := by
    obtain ⟨u, hu⟩ := hd
    have hdv : r0 ∣ 2305843009213693951 := ⟨u, by rw [Int.mul_comm]; exact hu.symm⟩
    have hn : r0.natAbs ∣ 2305843009213693951 := Int.ofNat_dvd_right.1 hdv
    have := Prm.isP_prime.2 _ hn
    have := a4 rfl
    omega
  subst hr
  have h1 := Pol.inv_mul a ha ha'
  have l1 := Pol.inv_lo a
  have l2 := Pol.inv_hi a
  have c1 : Lag.Cg (t0 * a) (Pol.inv a * a) := by
    refine Lag.cg_trans a5 ?_
    rw [Lag.cg_iff, Int.mul_comm, h1]; rfl
  have c2 : Lag.Cg t0 (Pol.inv a) := Lag.cg_cancel (by unfold Lag.Cg; omega) c1
  unfold Lag.Cg at c2
  split <;> omega

theorem round_form {a r0 r1 t0 t1 : Int} (h : EI a r0 r1 t0 t1) (h1 : 0 < r1) : wrap64 (r0 - wrap64 (r0 / r1 * r1)) = r0 - r0 / r1 * r1 ∧ wrap64 (t0 - wrap64 (r0 / r1 * t1)) = t0 - r0 / r1 * t1 := by
  obtain ⟨c1, c2, c3, c4, c5, c6, c7⟩ := ei_bounds h h1
  obtain ⟨a1, a2, a3, a4, a5, a6, a7, a8, a9⟩ := h
  generalize r0 / r1 = q at *
  generalize q * r1 = A at *
  generalize q * t1 = B at *
  rw [IntWalk.wrap64_in A (by omega), IntWalk.wrap64_in B (by omega), IntWalk.wrap64_in _ (by omega), IntWalk.wrap64_in _ (by omega)]
  exact ⟨rfl, rfl⟩

set_option maxHeartbeats 1000000 in
theorem rinverse_calls (a : Int) (w : World) (ha : 0 < a) (ha' : a < 2305843009213693951) :
    Calls Tryz.prog 216 #[.int .i64 a] w fun e w' => e = .returned (.int .i64 (Pol.inv a)) ∧ w' = w := by
  have HS := hideG (ei_start a ha ha')
  go_enter Tryz.func216, Tryz.ntmps216
  go_wp2_with fail
  go_loop [3, 4, 5, 6] (fun x0 x1 y0 y1 => ∃ r0 r1 t0 t1 : Int, x0 = .int .i64 r0 ∧ x1 = .int .i64 r1 ∧ y0 = .int .i64 t0 ∧ y1 = .int .i64 t1 ∧ EI a r0 r1 t0 t1) (fun _ x1 _ _ => (intOf x1).toNat)
  case atStart => exact ⟨_, _, _, _, rfl, rfl, rfl, rfl, HS.out⟩
  case round =>
    obtain ⟨r0, r1, t0, t1, rfl, rfl, rfl, rfl, hE⟩ := hrel
    have HE := hideG hE
    obtain ⟨a1, a2, a3, a4, a5, a6, a7, a8, a9⟩ := hE
    clear a4 a5 a6 a9
    by_cases h1 : r1 = 0
    · subst h1
      have H := hideG (ei_end ha ha' HE.out)
      by_cases ht : t0 < 0
      · have H2 := hideG (show t0 + 2305843009213693951 = Pol.inv a by rw [← H.out, if_pos ht])
        go_wp2_with fail
        go_ret
        exact ⟨congrArg (fun x => Ending.returned (.int .i64 x)) H2.out, rfl⟩
      · have H2 := hideG (show t0 = Pol.inv a by rw [← H.out, if_neg ht])
        go_wp2_with fail
        go_ret
        exact ⟨congrArg (fun x => Ending.returned (.int .i64 x)) H2.out, rfl⟩
    · have hp : 0 < r1 := by omega
      have hne : (r1 != 0) = true := by simp [h1]
      have RF := hideG (round_form HE.out hp)
      have NX := hideG (ei_next HE.out hp)
      clear h1
      go_wp2_with fail
      go_round
      case rel => exact ⟨_, _, _, _, rfl, rfl, rfl, rfl, by rw [RF.out.1, RF.out.2]; exact NX.out⟩
      case measure => rw [RF.out.1]; have := NX.out.1; have := NX.out.2.1; simp [intOf]; omega

end Go.Proofs.YtchideljndagjabGreat

namespace Go.Proofs.YtchideljndagjabGreat
open Go.ChangeShapes Go.WideShapes Go.ChangeAt Go.RowKit
set_option linter.unusedVariables false

/-- A row of integers that the call has made, full. -/
def IR (w : World) (B g : Nat) (zs : List Int) : Prop := w.ownsRow B 3 1 (.slice (some ⟨g, 0, none⟩) zs.length zs.length) zs.length (zs.map (Value.int .i64))

theorem IR.cell {w : World} {B g : Nat} {zs : List Int} (h : IR w B g zs) (j : Nat) (hj : j < zs.length) : w.cell? ⟨g, j, none⟩ = some (.int .i64 (zs.getD j 0)) ∧ w.frozen? ⟨g, j, none⟩ = false := by
  refine ⟨?_, World.ownsRow.frozenAt h j⟩
  rw [World.ownsRow.cellAt h j (by omega), List.getElem?_map, List.getD_eq_getElem?_getD, List.getElem?_eq_getElem hj]; rfl

theorem IR.set {w : World} {B g : Nat} {zs : List Int} (h : IR w B g zs) (j : Nat) (z : Int) : IR (w.setCell ⟨g, j, none⟩ (.int .i64 z)) B g (zs.set j z) := by
  have := (World.ownsRow.stored h j (.int .i64 z)).1
  rw [← List.map_set] at this
  unfold IR
  rw [List.length_set]
  exact this

theorem IR.lt {w : World} {B g : Nat} {zs : List Int} (h : IR w B g zs) : B ≤ g ∧ g < w.heap.size := World.ownsRow.lt h g rfl

theorem IR.other {w : World} {B g g' : Nat} {zs : List Int} (h : IR w B g zs) (hg : g ≠ g') (j : Nat) (z : Value) : IR (w.setCell ⟨g', j, none⟩ z) B g zs := by
  obtain ⟨h1, h2⟩ := h
  refine ⟨h1, ?_⟩
  rcases h2 with ⟨h2, _⟩ | ⟨g0, cap, cur, e, h3, h4, h5⟩
  · cases h2
  · have eg : g = g0 := by simp at e; exact e.1
    subst eg
    exact .inr ⟨g, cap, cur, e, h3, by rw [Below.heap_setCell _ _ _ _ hg]; exact h4, h5⟩

theorem IR.below {w w' : World} {B g : Nat} {zs : List Int} (h : IR w B g zs) (hb : Below w.heap.size w w') : IR w' B g zs := by
  have hl := h.lt
  obtain ⟨h1, h2⟩ := h
  refine ⟨h1, ?_⟩
  rcases h2 with ⟨h2, _⟩ | ⟨g0, cap, cur, e, h3, h4, h5⟩
  · cases h2
  · have eg : g = g0 := by simp at e; exact e.1
    subst eg
    exact .inr ⟨g, cap, cur, e, h3, by rw [hb.block g hl.2]; exact h4, h5⟩

theorem IR.like {w w' : World} {B g : Nat} {zs : List Int} (h : IR w B g zs) (e : w'.heap = w.heap) : IR w' B g zs := by
  unfold IR World.ownsRow at *
  rw [e]; exact h

theorem below_like {B : Nat} {w a b : World} (h : Below B w a) (e : b.heap = a.heap) (e1 : b.os = a.os) (e2 : b.tape = a.tape) (e3 : b.output = a.output) : Below B w b :=
  ⟨e1.trans h.os, e2.trans h.tape, e3.trans h.output, by rw [e]; exact h.size, fun k hk => by rw [e]; exact h.block k hk⟩


/-- A list by its places. -/
def tab (n : Nat) (f : Nat → Int) : List Int := (List.range n).map f
theorem tab_length (n : Nat) (f : Nat → Int) : (tab n f).length = n := by simp [tab]
theorem tab_get (n : Nat) (f : Nat → Int) (i : Nat) (h : i < n) : (tab n f).getD i 0 = f i := by
  unfold tab; rw [List.getD_eq_getElem?_getD, List.getElem?_map, List.getElem?_range h]; rfl
theorem tab_set (n : Nat) (f : Nat → Int) (i : Nat) (y : Int) : (tab n f).set i y = tab n (fun j => if j = i then y else f j) := by
  apply List.ext_getElem?
  intro j
  rw [List.getElem?_set]
  by_cases hj : j < n
  · have e1 : (tab n f)[j]? = some (f j) := by unfold tab; rw [List.getElem?_map, List.getElem?_range hj]; rfl
    have e2 : (tab n (fun j => if j = i then y else f j))[j]? = some (if j = i then y else f j) := by unfold tab; rw [List.getElem?_map, List.getElem?_range hj]; rfl
    rw [e1, e2]
    by_cases e : i = j
    · subst e; rw [if_pos rfl, if_pos rfl, if_pos (by rw [tab_length]; exact hj)]
    · rw [if_neg e, if_neg (fun h => e h.symm)]
  · rw [List.getElem?_eq_none (by rw [tab_length]; omega), List.getElem?_eq_none (by rw [tab_length]; omega), tab_length]
    by_cases e : i = j
    · rw [if_pos e, if_neg (by omega)]
    · rw [if_neg e]
theorem tab_congr {n : Nat} {f g : Nat → Int} (h : ∀ j, j < n → f j = g j) : tab n f = tab n g := List.map_congr_left fun j hj => h j (List.mem_range.1 hj)

/-- Some neighbours: number i and the s behind it. -/
def seg (ps : List (Int × Int)) (i s : Nat) : List (Int × Int) := (ps.drop i).take (s + 1)

theorem seg_sub (ps : List (Int × Int)) (i s : Nat) : (seg ps i s).Sublist ps := (List.take_sublist _ _).trans (List.drop_sublist _ _)
theorem seg_good {ps : List (Int × Int)} (h : Lag.good ps) (i s : Nat) : Lag.good (seg ps i s) :=
  ⟨fun k hk => by
    obtain ⟨p, hp, rfl⟩ := List.mem_map.1 hk
    exact h.1 _ (List.mem_map.2 ⟨p, (seg_sub ps i s).mem hp, rfl⟩), List.Nodup.sublist ((seg_sub ps i s).map _) h.2⟩

theorem seg_zero (ps : List (Int × Int)) (i : Nat) (hi : i < ps.length) : seg ps i 0 = [ps.getD i (0, 0)] := by
  unfold seg
  rw [List.drop_eq_getElem_cons hi, List.getD_eq_getElem?_getD, List.getElem?_eq_getElem hi]; rfl

theorem seg_split (ps : List (Int × Int)) (i s : Nat) (h : i + (s + 1) < ps.length) : ∃ m, seg ps i (s + 1) = ps.getD i (0, 0) :: m ++ [ps.getD (i + (s + 1)) (0, 0)] ∧ seg ps i s = ps.getD i (0, 0) :: m ∧ seg ps (i + 1) s = m ++ [ps.getD (i + (s + 1)) (0, 0)] := by
  have hi : i < ps.length := by omega
  have e0 : ps.drop i = ps.getD i (0, 0) :: ps.drop (i + 1) := by
    rw [List.drop_eq_getElem_cons hi, List.getD_eq_getElem?_getD, List.getElem?_eq_getElem hi]; rfl
  have e1 : (ps.drop (i + 1)).take (s + 1) = (ps.drop (i + 1)).take s ++ [ps.getD (i + (s + 1)) (0, 0)] := by
    rw [List.take_add_one, List.getElem?_drop, show i + 1 + s = i + (s + 1) by omega, List.getElem?_eq_getElem h, List.getD_eq_getElem?_getD, List.getElem?_eq_getElem h]; rfl
  refine ⟨(ps.drop (i + 1)).take s, ?_, ?_, ?_⟩
  · unfold seg; rw [e0, List.take_succ_cons, e1]; rfl
  · unfold seg; rw [e0, List.take_succ_cons]
  · unfold seg; exact e1

theorem lam_cg (ps : List (Int × Int)) : Lag.Cg (Lag.joinN ps) (Lag.lam ps) := Lag.cg_emod _

/-- One step of the narrowing. -/
theorem narrow (ps : List (Int × Int)) (hg : Lag.good ps) (i s : Nat) (h : i + (s + 1) < ps.length) :
    0 < Num.subP (ps.getD (i + (s + 1)) (0, 0)).1 (ps.getD i (0, 0)).1 ∧
    Num.mulP (Num.subP (Num.mulP (ps.getD (i + (s + 1)) (0, 0)).1 (Lag.joinN (seg ps i s))) (Num.mulP (ps.getD i (0, 0)).1 (Lag.joinN (seg ps (i + 1) s)))) (Pol.inv (Num.subP (ps.getD (i + (s + 1)) (0, 0)).1 (ps.getD i (0, 0)).1)) = Lag.joinN (seg ps i (s + 1)) := by
  obtain ⟨m, e1, e2, e3⟩ := seg_split ps i s h
  have g1 := seg_good hg i (s + 1)
  rw [e1] at g1
  have nv := Lag.neville (ps.getD i (0, 0)) (ps.getD (i + (s + 1)) (0, 0)) m g1
  obtain ⟨_, sa, na⟩ := Lag.good_tail (l := m ++ [ps.getD (i + (s + 1)) (0, 0)]) g1
  obtain ⟨_, sb, nb⟩ := Lag.good_init g1
  have hne := na (ps.getD (i + (s + 1)) (0, 0)) (by simp)
  rw [← e1, ← e2, ← e3] at nv
  generalize ps.getD i (0, 0) = a at *
  generalize ps.getD (i + (s + 1)) (0, 0) = b at *
  have c1 := lam_cg (seg ps i s)
  have c2 := lam_cg (seg ps (i + 1) s)
  have l1 := Lag.joinN_lo (seg ps i (s + 1))
  have l2 := Lag.joinN_hi (seg ps i (s + 1))
  have c3 := lam_cg (seg ps i (s + 1))
  generalize Lag.joinN (seg ps i s) = J1 at *
  generalize Lag.joinN (seg ps (i + 1) s) = J2 at *
  generalize Lag.joinN (seg ps i (s + 1)) = J at *
  have hd : 0 < Num.subP b.1 a.1 := by unfold Lag.small at *; unfold Num.subP; omega
  refine ⟨hd, ?_⟩
  have hd2 := Num.subP_hi b.1 a.1
  have hi := Pol.inv_mul (Num.subP b.1 a.1) hd hd2
  have d1 : Lag.Cg (Num.subP b.1 a.1) (b.1 - a.1) := by unfold Num.subP Lag.Cg; omega
  have t1 : Lag.Cg (Num.subP (Num.mulP b.1 J1) (Num.mulP a.1 J2)) (b.1 * J1 - a.1 * J2) := by
    unfold Num.subP Num.mulP Lag.Cg
    generalize b.1 * J1 = X
    generalize a.1 * J2 = Y
    omega
  have t2 : Lag.Cg (b.1 * J1 - a.1 * J2) (Num.subP b.1 a.1 * J) := by
    refine Lag.cg_trans (Lag.cg_sub (Lag.cg_mul (Lag.cg_refl _) c1) (Lag.cg_mul (Lag.cg_refl _) c2)) ?_
    refine Lag.cg_trans (Lag.cg_symm nv) ?_
    exact Lag.cg_mul (Lag.cg_symm d1) (Lag.cg_symm c3)
  have t3 := Lag.cg_trans t1 t2
  generalize Num.subP (Num.mulP b.1 J1) (Num.mulP a.1 J2) = T at *
  generalize Num.subP b.1 a.1 = D at *
  have t4 : Lag.Cg (T * Pol.inv D) J := by
    refine Lag.cg_trans (Lag.cg_mul t3 (Lag.cg_refl _)) ?_
    have e : D * J * Pol.inv D = D * Pol.inv D * J := by grind
    rw [e]
    refine Lag.cg_trans (Lag.cg_mul (b := 1) (by rw [Lag.cg_iff, hi]; rfl) (Lag.cg_refl J)) ?_
    rw [Int.one_mul]; exact Lag.cg_refl _
  unfold Num.mulP
  unfold Lag.Cg at t4
  omega

def isEl (f : Nat → Int) (n : Nat) : Prop := ∀ j, j < n → 0 ≤ f j ∧ f j < 2305843009213693951

set_option maxHeartbeats 4000000 in
set_option maxRecDepth 100000 in
theorem rjoin_yes (v : Value) (ps : List (Int × Int)) (w : World) (h : PtsAt w v ps) (hb : ptsB ps = true) :
    Calls Tryz.prog 155 #[v] w fun e w' => e = .returned (.tuple #[.int .i64 (Lag.joinN ps), .int .i64 0]) ∧ Below w.heap.size w w' := by
  obtain ⟨i0, hi, hz0, hz1, hz2⟩ := info_parts infoSp
  have HP := hideG h
  obtain ⟨hgood, n1, n2, hel⟩ := ptsB_good hb
  obtain ⟨a, cap, hv, l2, l3, hc⟩ := pts_view h
  rw [hv] at HP ⊢
  have HC := hideG hc
  have HG := hideG hgood
  have HE := hideG hel
  have HBB := hideG hb
  clear hc h hgood hel hb hv
  generalize hn : ps.length = n at *
  have HN := hideG hn
  clear hn
  go_enter Tryz.func155, Tryz.ntmps155
  go_wp2_with fail
  refine (rpoints_calls _ ps _ HP.out).mono ?_
  rintro e w1 ⟨rfl, hb1⟩
  rw [HBB.out]
  have B1 := hideG hb1
  have z1 := hb1.size
  clear hb1
  go_wp2_with (at_make; refine wpList_make_full _ rfl _ _ 33 rfl w.heap.size 3 i0 (.int .i64 0) 1 Tryz.underlying33 hi hz0 hz1 _ _ _ _ n rfl rfl rfl rfl ?m1 ?m2 ?m3 ?_)
  case m1 => rw [hz2]; omega
  case m2 => unfold maxLen; omega
  case m3 => exact z1
  intro w2 hown2 hgrow2
  have hb2 : Below w1.heap.size w1 w2 := (Below.refl _ _).grown hgrow2 (Nat.le_refl _) (by simp)
  have hr2 : IR w2 w.heap.size w1.heap.size (tab n (fun _ => 0)) := by
    unfold IR
    rw [tab_length, show tab n (fun _ => 0) = List.replicate n 0 by unfold tab; exact List.map_const' .. |>.trans (by simp), List.map_replicate, ← toList_madeCells_one]
    exact hown2
  have HR2 := hideG hr2
  have HB2 := hideG (B1.out.trans (hb2.mono z1))
  have hgv : w.heap.size ≤ w1.heap.size := z1
  generalize hgg : w1.heap.size = gv at *
  clear hgg hown2 hgrow2 hb2 hr2
  go_wp2_with fail
  go_loopw [7] (fun i wr => ∃ k : Nat, k ≤ n ∧ i = .int .i64 k ∧ IR wr w.heap.size gv (tab n (fun j => if j < k then (ps.getD j (0, 0)).2 else 0)) ∧ Below w.heap.size w wr) (fun i _ => n - (intOf i).toNat)
  case atStart => exact ⟨0, by omega, rfl, by rw [show (fun j => if j < 0 then (ps.getD j (0, 0)).2 else 0) = fun _ => (0 : Int) by funext j; rw [if_neg (by omega)]]; exact HR2.out, HB2.out⟩
  case round =>
    obtain ⟨k, hk, rfl, hr, hbel⟩ := hrel
    have HR := hideG hr
    have HB := hideG hbel
    by_cases hlt : k < n
    · obtain ⟨b, off, rfl, hbk, c0, c1⟩ := HC.out k hlt
      rw [← hbel.cell (p := ⟨b, off + k * 2 + 1, none⟩) hbk] at c1
      have tl := tab_length n (fun j => if j < k then (ps.getD j (0, 0)).2 else 0)
      obtain ⟨x1, x2⟩ := hr.cell k (by rw [tl]; exact hlt)
      obtain ⟨y, hy⟩ : ∃ y, y = (ps.getD k (0, 0)).2 := ⟨_, rfl⟩
      rw [← hy] at c1
      have HY := hideG hy
      obtain ⟨x, hx⟩ : ∃ x, x = (tab n (fun j => if j < k then (ps.getD j (0, 0)).2 else 0)).getD k 0 := ⟨_, rfl⟩
      rw [← hx] at x1
      clear hy c0 hr hbel tl hx
      go_wp2_with fail
      go_roundw
      case rel =>
        have R := HR.out.set k y
        rw [tab_set] at R
        refine ⟨k + 1, by omega, by go_num, ?_, HB.out.setCell (p := ⟨gv, k, none⟩) hgv _⟩
        rw [show tab n (fun j => if j < k + 1 then (ps.getD j (0, 0)).2 else 0) = tab n (fun j => if j = k then y else if j < k then (ps.getD j (0, 0)).2 else 0) from tab_congr fun j hj => by
          by_cases e : j = k
          · subst e; rw [if_pos (by omega), if_pos rfl, HY.out]
          · rw [if_neg e]
            by_cases e2 : j < k
            · rw [if_pos e2, if_pos (by omega)]
            · rw [if_neg e2, if_neg (by omega)]]
        exact R
      case measure => simp [intOf]; omega
    · have ek : k = n := by omega
      subst ek
      clear hr hbel
      go_wp2_with fail
      go_loopw [8] (fun st wr => ∃ (s : Nat) (f : Nat → Int), 1 ≤ s ∧ s ≤ k ∧ st = .int .i64 s ∧ IR wr w.heap.size gv (tab k f) ∧ (∀ j, j + (s - 1) < k → f j = Lag.joinN (seg ps j (s - 1))) ∧ isEl f k ∧ Below w.heap.size w wr) (fun st _ => k - (intOf st).toNat)
      case atStart =>
        refine ⟨1, _, by omega, by omega, rfl, HR.out, fun j hj => ?_, fun j hj => ?_, HB.out⟩
        · have hj' : j < ps.length := by rw [HN.out]; omega
          rw [if_pos (by omega), show 1 - 1 = 0 from rfl, seg_zero ps j hj']
          have := HE.out (ps.getD j (0, 0)) (by rw [List.getD_eq_getElem?_getD, List.getElem?_eq_getElem hj']; exact List.getElem_mem hj')
          have c := Lag.lam_one (ps.getD j (0, 0))
          rw [Lag.cg_iff] at c
          unfold Lag.joinN
          rw [c]; omega
        · show 0 ≤ (if j < k then (ps.getD j (0, 0)).2 else 0) ∧ (if j < k then (ps.getD j (0, 0)).2 else 0) < 2305843009213693951
          rw [if_pos hj]
          have hj' : j < ps.length := by rw [HN.out]; omega
          exact HE.out (ps.getD j (0, 0)) (by rw [List.getD_eq_getElem?_getD, List.getElem?_eq_getElem hj']; exact List.getElem_mem hj')
      case round =>
        clear HR HB
        obtain ⟨s, f, s1, s2, rfl, hr, hf, he, hbel⟩ := hrel
        have HR := hideG hr
        have HF := hideG hf
        have HEL := hideG he
        have HB := hideG hbel
        clear hr hf he hbel
        by_cases hlt2 : s < k
        · go_wp2_with fail
          go_loopw [9, 10, 11, 12, 13] (fun i _ _ _ _ wr => ∃ (ii : Nat) (f : Nat → Int), ii + s ≤ k ∧ i = .int .i64 ii ∧ IR wr w.heap.size gv (tab k f) ∧ (∀ j, j < ii → f j = Lag.joinN (seg ps j s)) ∧ (∀ j, ii ≤ j → j + (s - 1) < k → f j = Lag.joinN (seg ps j (s - 1))) ∧ isEl f k ∧ Below w.heap.size w wr) (fun i _ _ _ _ _ => k - (intOf i).toNat)
          case atStart => exact ⟨0, f, by omega, rfl, HR.out, fun j hj => by omega, fun j _ hj => HF.out j hj, HEL.out, HB.out⟩
          case round =>
            clear HR HF HEL HB
            obtain ⟨ii, f, i1, rfl, hr, hf1, hf2, he, hbel⟩ := hrel
            have HR := hideG hr
            have HF1 := hideG hf1
            have HF2 := hideG hf2
            have HEL := hideG he
            have HB := hideG hbel
            by_cases hlt3 : ii + s < k
            · obtain ⟨b, off, rfl, hbk, c0, _⟩ := HC.out ii (by omega)
              obtain ⟨b', off', eb, _, c2, _⟩ := HC.out (ii + s) hlt3
              obtain ⟨rfl, rfl⟩ : b = b' ∧ off = off' := by simpa using eb
              rw [← hbel.cell (p := ⟨b, off + ii * 2, none⟩) hbk] at c0
              rw [← hbel.cell (p := ⟨b, off + (ii + s) * 2, none⟩) hbk] at c2
              have tl := tab_length k f
              obtain ⟨x1, x1f⟩ := hr.cell ii (by rw [tl]; omega)
              obtain ⟨x2, _⟩ := hr.cell (ii + 1) (by rw [tl]; omega)
              rw [tab_get _ _ _ (by omega)] at x1 x2
              have y1 := he ii (by omega)
              have y2 := he (ii + 1) (by omega)
              have hm1 : ps.getD ii (0, 0) ∈ ps := by rw [List.getD_eq_getElem?_getD, List.getElem?_eq_getElem (by rw [HN.out]; omega)]; exact List.getElem_mem _
              have hm2 : ps.getD (ii + s) (0, 0) ∈ ps := by rw [List.getD_eq_getElem?_getD, List.getElem?_eq_getElem (by rw [HN.out]; omega)]; exact List.getElem_mem _
              have w1' := HG.out.1 _ (List.mem_map.2 ⟨_, hm1, rfl⟩)
              have w2' := HG.out.1 _ (List.mem_map.2 ⟨_, hm2, rfl⟩)
              have nr := narrow ps HG.out ii (s - 1) (by rw [HN.out]; omega)
              rw [show s - 1 + 1 = s by omega] at nr
              have g1 := hf2 ii (Nat.le_refl _) (by omega)
              have g2 := hf2 (ii + 1) (by omega) (by omega)
              rw [← g1, ← g2] at nr
              unfold Lag.small at w1' w2'
              generalize (ps.getD ii (0, 0)).1 = Xa at *
              generalize (ps.getD (ii + s) (0, 0)).1 = Xb at *
              have GU := hideG (show ∀ j, j < ii → f j = Lag.joinN (seg ps j s) from hf1)
              obtain ⟨u, hu⟩ : ∃ u, u = f ii := ⟨_, rfl⟩
              obtain ⟨v, hv⟩ : ∃ v, v = f (ii + 1) := ⟨_, rfl⟩
              rw [← hu] at x1 y1 nr
              rw [← hv] at x2 y2 nr
              obtain ⟨nr1, nr2⟩ := nr
              have NR := hideG nr2
              obtain ⟨w1a, w1b⟩ := w1'
              obtain ⟨w2a, w2b⟩ := w2'
              obtain ⟨y1a, y1b⟩ := y1
              obtain ⟨y2a, y2b⟩ := y2
              have sb := Num.subP_hi Xb Xa
              clear hr hf1 hf2 he hbel tl eb hm1 hm2 nr2 g1 g2 hu hv
              have P1 : ∀ W, Calls Tryz.prog 146 #[.int .i64 Xb, .int .i64 u] W fun e w' => e = .returned (.int .i64 (Num.mulP Xb u)) ∧ w' = W := fun W => product_calls _ _ _ (by omega) (by omega) y1a y1b
              have P2 : ∀ W, Calls Tryz.prog 146 #[.int .i64 Xa, .int .i64 v] W fun e w' => e = .returned (.int .i64 (Num.mulP Xa v)) ∧ w' = W := fun W => product_calls _ _ _ (by omega) (by omega) y2a y2b
              have P3 : ∀ W, Calls Tryz.prog 215 #[.int .i64 Xb, .int .i64 Xa] W fun e w' => e = .returned (.int .i64 (Num.subP Xb Xa)) ∧ w' = W := fun W => rless_calls _ _ _ (by omega) (by omega) (by omega) (by omega)
              have Q1 := hideG P1
              have Q2 := hideG P2
              have Q3 := hideG P3
              clear P1 P2 P3
              have hi1 : (ii : Int) < (k : Int) := by omega
              have hi2 : (ii : Int) + 1 < (k : Int) := by omega
              have hi0 : (0 : Int) ≤ (ii : Int) := by omega
              have hi3 : (0 : Int) ≤ (ii : Int) + 1 := by omega
              have hk12 : (k : Int) ≤ 12 := by omega
              have hwr : IntKind.i64.wrap ((ii : Int) + 1) = (ii : Int) + 1 := by rw [IntWalk.i64_left, IntWalk.wrap64_in _ (by omega)]
              have htn : ((ii : Int) + 1).toNat = ii + 1 := by omega
              go_wp2_with fail
              go_quiet ((go_at_call 146; exact Calls.quiet_of_same (Q1.out _)))
              go_wp2_with fail
              go_quiet ((go_at_call 146; exact (Q2.out _).mono (fun e w' h => ⟨h.1, _, h.2⟩)))
              go_wp2_with fail
              go_quiet ((go_at_call 215; exact (Q3.out _).mono (fun e w' h => ⟨h.1, _, h.2⟩)))
              go_wp2_with fail
              refine (rinverse_calls _ _ nr1 sb).mono ?_
              rintro e wx ⟨rfl, rfl⟩
              go_wp2_with fail
              refine (rless_calls _ _ _ (Num.mulP_lo _ _) (Num.mulP_hi _ _) (Num.mulP_lo _ _) (Num.mulP_hi _ _)).mono ?_
              rintro e wx ⟨rfl, rfl⟩
              go_wp2_with fail
              refine (product_calls _ _ _ (Num.subP_lo _ _) (Num.subP_hi _ _) (Pol.inv_lo _) (Pol.inv_hi _)).mono ?_
              rintro e wx ⟨rfl, rfl⟩
              obtain ⟨y, hy⟩ : ∃ y, y = Num.mulP (Num.subP (Num.mulP Xb u) (Num.mulP Xa v)) (Pol.inv (Num.subP Xb Xa)) := ⟨_, rfl⟩
              rw [← hy]
              have HY := hideG hy
              clear hy
              go_wp2_with fail
              go_roundw
              case rel =>
                have R := HR.out.set ii y
                rw [tab_set] at R
                have ey : y = Lag.joinN (seg ps ii s) := by rw [HY.out]; exact NR.out
                refine ⟨ii + 1, _, by omega, by go_num, R.like rfl, fun j hj => ?_, fun j hj hjk => ?_, fun j hj => ?_, below_like (HB.out.setCell (p := ⟨gv, ii, none⟩) hgv _) rfl rfl rfl rfl⟩
                · show (if j = ii then y else f j) = _
                  by_cases e : j = ii
                  · rw [if_pos e, e, ey]
                  · rw [if_neg e]; exact GU.out j (by omega)
                · show (if j = ii then y else f j) = _
                  rw [if_neg (by omega)]; exact HF2.out j (by omega) hjk
                · show 0 ≤ (if j = ii then y else f j) ∧ (if j = ii then y else f j) < 2305843009213693951
                  by_cases e : j = ii
                  · rw [if_pos e, HY.out]; exact ⟨Num.mulP_lo _ _, Num.mulP_hi _ _⟩
                  · rw [if_neg e]; exact HEL.out j hj
              case measure => simp [intOf]; omega
            · clear hr hf1 hf2 he hbel
              go_wp2_with fail
              go_roundw
              case rel => exact ⟨s + 1, f, by omega, by omega, by go_num, HR.out, fun j hj => by rw [Nat.add_sub_cancel]; exact HF1.out j (by omega), HEL.out, HB.out⟩
              case measure => simp [intOf]; omega
        · have es : s = k := by omega
          subst es
          have tl := tab_length s f
          obtain ⟨x1, _⟩ := HR.out.cell 0 (by rw [tl]; omega)
          rw [tab_get _ _ _ (by omega)] at x1
          have H := hideG (show f 0 = Lag.joinN ps by
            rw [HF.out 0 (by omega)]
            unfold seg
            rw [List.drop_zero, show s - 1 + 1 = s by omega, List.take_of_length_le (by rw [HN.out]; exact Nat.le_refl _)])
          generalize f 0 = z at *
          clear tl
          go_wp2_with fail
          go_ret2
          exact ⟨congrArg (fun x => Ending.returned (.tuple #[.int .i64 x, .int .i64 0])) H.out, HB.out⟩

end Go.Proofs.YtchideljndagjabGreat

namespace Go.Proofs.YtchideljndagjabGreat
open Go.ChangeShapes Go.WideShapes Go.ChangeAt Go.RowKit
set_option linter.unusedVariables false

theorem HTab.view {w : World} {H : Nat → RF} {G : Srv.Tab} (h : HTab w H G) {r u : Nat} (hr : r < 4) (hu : u < 13) : (Srv.mem (G r) u = false ∧ H (r * 13 + u) = RF.z) ∨ (Srv.mem (G r) u = true ∧ ∃ a n c, H (r * 13 + u) = (2 * (r : Int) + 1, (u : Int), .slice a n c) ∧ ItemsAt w (.slice a n c) (Srv.its (G r) u)) := by
  cases e : G r u with
  | none => exact .inl ⟨by unfold Srv.mem; rw [e]; rfl, (h r u hr hu).1 e⟩
  | some l =>
    obtain ⟨x, e1, e2⟩ := (h r u hr hu).2 l e
    obtain ⟨a, n, c, rfl⟩ := items_formR e2
    exact .inr ⟨by unfold Srv.mem; rw [e]; rfl, a, n, c, e1, by rw [Srv.its_some e]; exact e2⟩
theorem cells_frame {w : World} {b : Nat} {T : TypeId} {H : Nat → RF} (h : FRow w b T 156 (cellF H)) (t o : Nat) (ho : o = t * 3) (ht : t < 52) : w.cell? ⟨b, o, none⟩ = some (.int .i64 (H t).1) ∧ w.cell? ⟨b, o + 1, none⟩ = some (.int .i64 (H t).2.1) ∧ w.cell? ⟨b, o + 2, none⟩ = some (H t).2.2 := by
  subst ho
  exact ⟨by rw [h.cell _ (by omega), cellF_0], by rw [h.cell _ (by omega), cellF_1], by rw [h.cell _ (by omega), cellF_2]⟩

set_option maxHeartbeats 2000000 in
set_option maxRecDepth 100000 in
theorem rsecret_calls (H : Nat → RF) (G : Srv.Tab) (v : Nat) (w : World) (hH : HTab w H G) (hz : ∀ r, G r 0 = none) (hp : ptsB (Srv.tellPts G v) = true) :
    Calls Tryz.prog 283 #[.agg (tabL H).toArray, .int .i64 (v : Int)] w fun e w' => e = .returned (.int .i64 (Srv.secret G v)) ∧ Below w.heap.size w w' := by
  obtain ⟨i1, hi1, hy0, hy1, hy2⟩ := info_parts infoPn
  have HVW := hideG (fun u hu => hH.view (r := 3) (by omega) (u := u) hu)
  have HJ := hideG (fun (w1 : World) (x : Value) (hx : PtsAt w1 x (Srv.tellPts G v)) => rjoin_yes x _ w1 hx hp)
  obtain ⟨g1, g2, g3, g4⟩ := ptsB_good hp
  have HPT := hideG (fun (w1 : World) (x : Value) (hx : w1.ownsRow w.heap.size 139 2 x (Srv.tellPts G v).length (flatV ((Srv.tellPts G v).map ptV))) => ptsAt_owns hx (by omega) (fun p hpp => by
    have q1 := g1.1 p.1 (List.mem_map.2 ⟨p, hpp, rfl⟩)
    have q2 := g4 p hpp
    unfold Lag.small at q1
    unfold inI
    exact ⟨by omega, by omega⟩))
  have H0 := hideG (show Srv.tellN G v 1 = [] by rw [Srv.tellN_succ]; unfold Srv.mem; rw [hz 3]; rfl)
  have HIM := hideG (fun (w1 : World) (u : Nat) (x : Value) (hb : Below w.heap.size w w1) (hx : ItemsAt w x (Srv.its (G 3) u)) => ritem_calls 7 (u : Int) x (Srv.its (G 3) u) (v : Int) w1 (hx.below hb))
  clear hH hz hp g1 g2 g3 g4
  have HF := hideG (tab_new w H)
  have BB := hideG (show Below w.heap.size w (w.alloc (.cells (tabL H).toArray 238)) from (Below.refl _ _).alloc (Nat.le_refl _) _)
  obtain ⟨X, hX⟩ : ∃ X, X = tabL H := ⟨_, rfl⟩
  rw [← hX] at HF BB ⊢
  clear hX
  obtain ⟨W, hW⟩ : ∃ W, W = w.alloc (.cells X.toArray 238) := ⟨_, rfl⟩
  rw [← hW] at HF BB
  have hszW := HF.out.lt
  have HW := hideG hW
  clear hW
  have hT : (139 : TypeId) ≠ 238 := by decide
  go_enter Tryz.func283, Tryz.ntmps283
  go_wp2_with fail
  rw [← HW.out]
  go_loopw [5, 6] (fun ro i wr => ∃ k : Nat, k ≤ 12 ∧ i = .int .i64 ((k : Int) + 1) ∧ wr.ownsRow W.heap.size 139 2 ro (Srv.tellN G v (k + 1)).length (flatV ((Srv.tellN G v (k + 1)).map ptV)) ∧ Below W.heap.size W wr) (fun _ i _ => 13 - (intOf i).toNat)
  case atStart => exact ⟨0, by omega, rfl, by rw [H0.out]; exact World.ownsRow_nil _ _ _ _, Below.refl _ _⟩
  case round =>
    obtain ⟨k, hk, rfl, hown, hbel⟩ := hrel
    have HO := hideG hown
    have HB := hideG hbel
    have HBW := hideG (BB.out.trans (hbel.mono BB.out.size))
    have hsz := hbel.size
    obtain ⟨a3, c3, hv3⟩ := owns_form hown
    subst hv3
    have hl13 : (Srv.tellN G v (k + 1)).length ≤ 13 := by unfold Srv.tellN; rw [List.length_map]; exact Nat.le_trans (Srv.lstN_le _ _) (by omega)
    have HSU := hideG (Srv.tellN_succ G v (k + 1))
    by_cases hlt : k < 12
    · have hlt' : (k : Int) + 1 ≤ 12 := by omega
      have hk13 : (k : Int) + 1 < 13 := by omega
      obtain ⟨cc0, cc1, cc2⟩ := cells_frame (HF.out.block (hbel.block _ hszW)) (3 * 13 + (k + 1)) (117 + (k + 1) * 3) (by omega) (by omega)
      clear hown hbel
      rcases HVW.out (k + 1) (by omega) with ⟨hm, hh⟩ | ⟨hm, fa, fn, fc, hh, hit⟩
      · rw [hh] at cc0 cc1 cc2
        have HS2 := hideG (show Srv.tellN G v (k + 1 + 1) = Srv.tellN G v (k + 1) by rw [HSU.out, hm]; simp)
        change wr.cell? _ = some (.int .i64 0) at cc0
        clear hh hm cc1 cc2
        go_wp2_with fail
        go_roundw
        case rel => exact ⟨k + 1, by omega, by go_num, by rw [HS2.out]; exact HO.out, HB.out⟩
        case measure => simp [intOf]; omega
      · rw [hh] at cc0 cc1 cc2
        have HS2 := hideG (show Srv.tellN G v (k + 1 + 1) = Srv.tellN G v (k + 1) ++ [(((k + 1 : Nat) : Int), (Cli.itemOf (Srv.its (G 3) (k + 1)) v).2.2.1)] by rw [HSU.out, hm]; simp)
        change wr.cell? _ = some (.int .i64 7) at cc0
        change wr.cell? _ = some (.int .i64 ((k + 1 : Nat) : Int)) at cc1
        change wr.cell? _ = some (.slice fa fn fc) at cc2
        have IM := hideG (HIM.out wr (k + 1) _ HBW.out hit)
        clear hh hm hit
        obtain ⟨y0, y1, y2, y3, hy⟩ : ∃ y0 y1 y2 y3, Cli.itemOf (Srv.its (G 3) (k + 1)) (v : Int) = (y0, y1, y2, y3) := ⟨_, _, _, _, rfl⟩
        rw [hy] at IM HS2
        clear hy
        obtain ⟨q, hq⟩ : ∃ q : Int, q = ((k + 1 : Nat) : Int) := ⟨_, rfl⟩
        rw [← hq] at cc1 IM HS2
        have hq' : (k : Int) + 1 = q := by omega
        have HQ := hideG hq'
        clear hq hq'
        go_wp2_with fail
        refine IM.out.mono ?_
        rintro e w1 ⟨rfl, hb1⟩
        have s1 := hb1.size
        have B1 := hideG (HB.out.trans (hb1.mono HB.out.size))
        have O1 := hideG (ownsRow_chg (S := fun _ => False) HO.out (Chg.of_below hb1) (fun _ _ h => h))
        clear hb1 cc0 cc1 cc2
        go_wp2_with (at_builtin; refine wpList_append_own _ rfl _ _ 137 rfl W.heap.size 139 i1 (.agg #[.int .i64 0, .int .i64 0]) 2 16 Tryz.underlying137 hi1 hy0 hy1 hy2 rfl (by decide) _ _ _ rfl ((O1.out.alloc _).alloc _) ⟨w1.heap.size + 1, 0, none⟩ 1 1 [.int .i64 ((k : Int) + 1), .int .i64 y2] rfl rfl ?c1 ?c2 ?c3 ?c4 ?c5 ?_)
        case c1 => have := cell_two_n (w1.alloc (.cells #[.int .i64 y0, .int .i64 y1, .int .i64 y2, .int .i64 y3] 147)) (.int .i64 ((k : Int) + 1)) (.int .i64 y2) 139; simpa using this
        case c2 => intro u hu; simp at hu; rcases hu with rfl | rfl <;> rfl
        case c3 => unfold maxLen; omega
        case c4 => omega
        case c5 => simp; omega
        intro v' w4 hown' hgrow' _
        have hb4 := ((B1.out.alloc (by omega) _).alloc (by simp; omega) _).grown hgrow' (by simp; omega) (fun y hy => (O1.out.lt y hy).1)
        have B4 := hideG hb4
        have O4 := hideG (show w4.ownsRow W.heap.size 139 2 v' (Srv.tellN G v (k + 1 + 1)).length (flatV ((Srv.tellN G v (k + 1 + 1)).map ptV)) by
          rw [HS2.out, List.map_append, flatV_append, List.length_append, ← HQ.out]; exact hown')
        clear hown' hgrow' hb4
        go_wp2_with fail
        go_roundw
        case rel => exact ⟨k + 1, by omega, by go_num, O4.out, B4.out⟩
        case measure => simp [intOf]; omega
    · have ek : k = 12 := by omega
      subst ek
      clear hown hbel
      have JJ := hideG (HJ.out wr _ (HPT.out wr _ (ownsRow_base HO.out BB.out.size)))
      go_wp2_with fail
      refine JJ.out.mono ?_
      rintro e w1 ⟨rfl, hb1⟩
      have B1 := hideG (HBW.out.trans (hb1.mono HBW.out.size))
      clear hb1
      go_wp2_with fail
      go_ret
      exact ⟨rfl, B1.out⟩

end Go.Proofs.YtchideljndagjabGreat
