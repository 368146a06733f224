/- Contracts of the steps of a script: Split, and the owning of what was handed in and of what it gave. -/
import Derived.Test.YtchideljndagjaaGreatGiveInts
import Derived.Test.YtchideljndagjaaGreatLaw2
import Derived.Test.YtchideljndagjaaGreatRefSplit
namespace Go.Proofs.YtchideljndagjaaGreat
open Go.ChangeShapes Go.WideShapes Go.ChangeAt Go.RowKit
set_option linter.unusedVariables false

theorem inI_el {zs : List Int} (h : ∀ z ∈ zs, 0 ≤ z ∧ z < 2305843009213693951) : ∀ z ∈ zs, inI z := fun z hz => by
  have := h z hz
  unfold inI
  omega

/-- Both answer alike: the same shares, in rows of their own, or nil. -/
theorem both_split (x y : Int) (zs : List Int) : ∃ (rs : List Int) (c : Int), (∀ z ∈ rs, inI z) ∧ (∀ w v, ListAt w v zs →
    Calls Tryz.prog 81 #[.int .i64 x, v, .int .i64 y] w fun e w' => ∃ u, e = .returned (.tuple #[u, .int .i64 c]) ∧ w'.ownsRow w.heap.size 3 1 u rs.length (rs.map (Value.int .i64)) ∧ Below w.heap.size w w') ∧
    (∀ w v, ListAt w v zs → Calls Tryz.prog 82 #[.int .i64 x, v, .int .i64 y] w fun e w' => ∃ u, e = .returned (.tuple #[u, .int .i64 c]) ∧ w'.ownsRow w.heap.size 3 1 u rs.length (rs.map (Value.int .i64)) ∧ Below w.heap.size w w') := by
  cases h : spB x zs y with
  | false =>
    refine ⟨[], 1, by simp, fun w v hv => ?_, fun w v hv => ?_⟩
    · refine (veilSplit x v y w (fun u c w' => u = .slice none 0 0 ∧ c = .int .i64 1 ∧ w' = w) ((split_no x v zs y w hv h).mono ?_)).mono ?_
      · rintro e w' ⟨rfl, rfl⟩; exact ⟨_, _, rfl, rfl, rfl, rfl⟩
      · rintro e w' ⟨u, c, rfl, rfl, rfl, rfl⟩; exact ⟨_, rfl, World.ownsRow_nil _ _ _ _, Below.refl _ _⟩
    · refine (rsplit_no x v zs y w hv h).mono ?_
      rintro e w' ⟨rfl, rfl⟩; exact ⟨_, rfl, World.ownsRow_nil _ _ _ _, Below.refl _ _⟩
  | true =>
    unfold spB at h
    rw [Bool.and_eq_true, Bool.and_eq_true] at h
    obtain ⟨h1, h2, h3⟩ := h
    have h1 := of_decide_eq_true h1
    have h2 := Num.elB_iff.1 h2
    obtain ⟨n, rfl⟩ := Int.eq_ofNat_of_zero_le (show 0 ≤ y by omega)
    have hlen := Pol.shL_length x zs n
    refine ⟨Pol.shL x zs n, 0, inI_el (Pol.shL_el x zs n), fun w v hv => ?_, fun w v hv => ?_⟩
    · rw [hlen]
      refine (veilSplit x v n w (fun u c w' => c = .int .i64 0 ∧ w'.ownsRow w.heap.size 3 1 u n ((Pol.shL x zs n).map (Value.int .i64)) ∧ Below w.heap.size w w') ((split_yes x v zs n w hv h3 h2.1 h2.2 (by omega) (by omega)).mono ?_)).mono ?_
      · rintro e w' ⟨u, rfl, ho, hb⟩; exact ⟨_, _, rfl, rfl, ho, hb⟩
      · rintro e w' ⟨u, c, rfl, rfl, ho, hb⟩; exact ⟨_, rfl, ho, hb⟩
    · rw [hlen]; exact rsplit_yes x v zs n w hv h3 h2.1 h2.2 (by omega) (by omega)

theorem given_list {w : World} {g : Nat} {zs : List Int} (hg : w.heap[g]? = some (.cells (given zs 3).toArray 3 (0, 0))) (hz : ∀ z ∈ zs, inI z) (hb : zs.length * 8 ≤ 140737488351232) :
    ListAt w (.slice (some ⟨g, 0, none⟩) zs.length (zs.length + 3)) zs := by
  refine ⟨_, _, rfl, by omega, by unfold maxLen; omega, hz, .inr ⟨g, 0, rfl, ?_, fun i hi => ?_⟩⟩
  · by_cases h : g < w.heap.size
    · exact h
    · rw [Array.getElem?_eq_none (by omega)] at hg; cases hg
  · rw [Nat.zero_add, (row_cell hg i (by rw [given_length _ _ (Nat.le_refl _)]; omega)).1]
    unfold given
    rw [List.getElem?_append_left (by simpa using hi), List.getElem?_map, List.getElem?_eq_getElem hi, List.getD_eq_getElem?_getD, List.getElem?_eq_getElem hi]; rfl

set_option maxHeartbeats 1000000 in
set_option maxRecDepth 100000 in
theorem split_step (pw : Nat) (F : Nat → Value) (nx : Int) (ls : Nat → List Ow) (kd x y z : Int) (l s f0 f1 f2 g0 g1 g2 g3 d : Value) (w : World) (h : InvW w pw F nx ls) (h0 : 0 ≤ nx) (h1 : nx + 1 ≤ 1000000000000000000)
    (hlen : ((ls 0).length + 2) * 24 ≤ 140737488355328) (hl : ListIs w l) :
    Calls Tryz.prog 28 #[.pointer (some ⟨pw, 0, none⟩), .agg #[.int .i64 kd, .int .i64 x, .int .i64 y, .int .i64 z, l, s, f0, f1, f2, g0, g1, g2, g3, d]] w fun e w' => e = .returned (.bool true) ∧ ∃ F' o o', InvW w' pw F' (nx + 1 + 1) (updL ls 0 (ls 0 ++ [o] ++ [o'])) ∧
      (∀ j, j < 3 → F' j = F j) ∧ Below pw w w' := by
  obtain ⟨zs, hz, hzb⟩ := hl
  have hzi : ∀ z ∈ zs, inI z := hz.choose_spec.choose_spec.2.2.2.1
  obtain ⟨rs, c, hr, hs1, hs2⟩ := both_split x y zs
  have HS1 := hideG hs1
  have HS2 := hideG hs2
  have HZ := hideG hz
  have HZI := hideG hzi
  have HRI := hideG hr
  have HI := hideG h
  have hpl := h.pw_lt
  have ec : (c == c) = true := by simp
  clear hs1 hs2 hz hzi hr h
  go_enter Tryz.func28, Tryz.ntmps28
  go_wp2_with fail
  refine (giveInts_calls l zs _ (HZ.out.below ((Below.refl _ _).alloc (Nat.le_refl _) _)) hzb).mono ?_
  rintro e w1 ⟨g, hg0, rfl, hg1, hb1⟩
  simp at hg0
  have G1 := hideG hg1
  have B1 := hideG hb1
  obtain ⟨hc1, hf1⟩ := bcell hb1
  have z1 : w.heap.size + 1 ≤ w1.heap.size := by have := hb1.size; simp at this; omega
  have gl : g < w1.heap.size := by
    by_cases h : g < w1.heap.size
    · exact h
    · rw [Array.getElem?_eq_none (by omega)] at hg1; cases hg1
  have BA1 := hideG (((Below.refl w.heap.size w).alloc (Nat.le_refl _) _).trans (hb1.mono (by simp)))
  clear hg1 hb1
  go_wp2_with fail
  refine (HS1.out _ _ (given_list G1.out HZI.out hzb)).mono ?_
  rintro e w2 ⟨va, rfl, hoa, hb2⟩
  have OA := hideG hoa
  have B2 := hideG hb2
  obtain ⟨hc2, hf2⟩ := bcell hb2
  have z2 := hb2.size
  have G2 := hideG ((hb2.block g gl).trans G1.out)
  have BA2 := hideG (BA1.out.trans (hb2.mono (by omega)))
  have LZ2 := hideG (HZ.out.below BA2.out)
  have bx : w2.cell? ⟨w.heap.size, 1, none⟩ = some (.int .i64 x) := by rw [hc2 _ _ (by omega), hc1 _ _ (by simp)]; simp [go_sem]
  have bl : w2.cell? ⟨w.heap.size, 4, none⟩ = some l := by rw [hc2 _ _ (by omega), hc1 _ _ (by simp)]; simp [go_sem]
  have bz : w2.cell? ⟨w.heap.size, 2, none⟩ = some (.int .i64 y) := by rw [hc2 _ _ (by omega), hc1 _ _ (by simp)]; simp [go_sem]
  clear hoa hb2 hc1 hf1 hc2 hf2
  go_wp2_with fail
  refine (HS2.out _ _ LZ2.out).mono ?_
  rintro e w3 ⟨vb, rfl, hob, hb3⟩
  have OB := hideG hob
  have B3 := hideG hb3
  obtain ⟨hc3, hf3⟩ := bcell hb3
  have z3 := hb3.size
  have G3 := hideG ((hb3.block g (by omega)).trans G2.out)
  have BA3 := hideG (BA2.out.trans (hb3.mono (by omega)))
  have OA3 := hideG (ownsRow_chg (S := fun _ => False) OA.out (Chg.of_below hb3) (fun _ _ h => h))
  clear hob hb3
  have LA := hideG (listAt_of_owns OA3.out HRI.out)
  have LB := hideG (listAt_of_owns OB.out HRI.out)
  go_wp2_with fail
  refine (sameInts_same va vb rs _ LA.out LB.out).mono ?_
  rintro e w4 ⟨rfl, nq, hw4⟩
  have b4 : Below w3.heap.size w3 w4 := by rw [hw4]; exact below_drewN _ _
  have B4 := hideG b4
  obtain ⟨hc4, hf4⟩ := bcell b4
  have z4 := b4.size
  have G4 := hideG ((b4.block g (by omega)).trans G3.out)
  have BA4 := hideG (BA3.out.trans (b4.mono (by omega)))
  have OA4 := hideG (ownsRow_chg (S := fun _ => False) OA3.out (Chg.of_below b4) (fun _ _ h => h))
  have LZ4 := hideG (HZ.out.below BA4.out)
  have bl4 : w4.cell? ⟨w.heap.size, 4, none⟩ = some l := by rw [hc4 _ _ (by omega), hc3 _ _ (by omega)]; exact bl
  clear hw4 b4 hc3 hf3 hc4 hf4 bx bl bz
  go_wp2_with fail
  refine (stillInts_calls l zs _ g LZ4.out hzb G4.out).mono ?_
  rintro e w5 ⟨rfl, nq, hw5⟩
  have b5 : Below w4.heap.size w4 w5 := by rw [hw5]; exact below_drewN _ _
  have z5 := b5.size
  have G5 := hideG ((b5.block g (by omega)).trans G4.out)
  have BA5 := hideG (BA4.out.trans (b5.mono (by omega)))
  have OA5 := hideG (ownsRow_chg (S := fun _ => False) OA4.out (Chg.of_below b5) (fun _ _ h => h))
  clear hw5 b5
  have HI5 := hideG (HI.out.below BA5.out)
  have NF := hideG (show ∀ b, w.heap.size ≤ b → ¬ Foot F ls b from fun b hb hf => by have := (HI.out.foot_lt hf).2; omega)
  go_wp2_with fail
  refine (ownInts_calls pw F nx ls g zs.length (zs.length + 3) _ _ HI5.out h0 (by omega) (by omega) G5.out (by simp [given_length]) (by omega) (by unfold maxLen; omega) (by omega) (fun hf => NF.out g (by omega) hf)).mono ?_
  rintro e w6 ⟨rfl, F1, i1, i2, i3, i4⟩
  have I1 := hideG i1
  have I3 := hideG i3
  have OA6 := hideG (ownsRow_chg OA5.out i4 (fun b hb hS => by
    have := (OA5.out.lt b hb).1
    rcases hS with e | e | e
    · omega
    · omega
    · exact NF.out b (by omega) e))
  have FO6 := hideG (fun (b : Nat) (hb : va.ownBlock = some b) => i2 b (OA5.out.lt b hb).2 (by have := (OA5.out.lt b hb).1; omega) (fun e => NF.out b (by have := (OA5.out.lt b hb).1; omega) e))
  have I4 := hideG (i4.below (B := pw) (by omega) (fun b hb => by
    rcases hb with hb | hb | hb
    · omega
    · omega
    · have h1 := HI5.out.foot_lt hb; omega))
  have z6 := i4.size
  clear i1 i2 i3 i4
  go_wp2_with fail
  refine (own_list pw F1 (nx + 1) _ va _ _ _ _ I1.out (by omega) h1 (by simp [updL]; omega) OA6.out (by omega) FO6.out).mono ?_
  rintro e w7 ⟨rfl, F2, o, i1, i2, i3, i4⟩
  have J1 := hideG i1
  have J3 := hideG i3
  have J4 := hideG (i4.below (B := pw) (by omega) (fun b hb => by
    rcases hb with hb | hb | hb
    · omega
    · have h2 := OA6.out.lt b hb; omega
    · have h1 := I1.out.foot_lt hb; omega))
  clear i1 i2 i3 i4
  go_wp2_with fail
  refine (num_calls _ _).mono ?_
  rintro e w8 ⟨rfl, rfl⟩
  go_wp2_with fail
  refine (num_calls _ _).mono ?_
  rintro e w8 ⟨rfl, rfl⟩
  go_wp2_with fail
  go_ret
  refine ⟨rfl, F2, (some g, zs.length + 3, mkN nx), o, ?_, fun j hj => by rw [J3.out j hj, I3.out j hj], ((BA5.out.mono (by omega)).trans I4.out).trans J4.out⟩
  have e : updL (updL ls 0 (ls 0 ++ [(some g, zs.length + 3, mkN nx)])) 0 ((updL ls 0 (ls 0 ++ [(some g, zs.length + 3, mkN nx)])) 0 ++ [o]) = updL ls 0 (ls 0 ++ [(some g, zs.length + 3, mkN nx)] ++ [o]) := by
    funext j
    by_cases hj : j = 0 <;> simp [updL, hj]
  rw [← e]
  exact J1.out

set_option maxHeartbeats 1000000 in
set_option maxRecDepth 100000 in
theorem numbers_split (pw : Nat) (F : Nat → Value) (nx : Int) (ls : Nat → List Ow) (x y z : Int) (l s f0 f1 f2 g0 g1 g2 g3 d : Value) (w : World) (h : InvW w pw F nx ls) (h0 : 0 ≤ nx) (h1 : nx + 1 ≤ 1000000000000000000)
    (hlen : ((ls 0).length + 2) * 24 ≤ 140737488355328) (hl : ListIs w l) :
    Calls Tryz.prog 12 #[.pointer (some ⟨pw, 0, none⟩), .agg #[.int .i64 3, .int .i64 x, .int .i64 y, .int .i64 z, l, s, f0, f1, f2, g0, g1, g2, g3, d]] w fun e w' => e = .returned (.bool true) ∧ ∃ F' o o', InvW w' pw F' (nx + 1 + 1) (updL ls 0 (ls 0 ++ [o] ++ [o'])) ∧
      (∀ j, j < 3 → F' j = F j) ∧ Below pw w w' := by
  have hpl := h.pw_lt
  have HI := hideG h
  have HL := hideG (fun w1 (h : Below w.heap.size w w1) => (show ListIs w1 l from by obtain ⟨zs, a, b⟩ := hl; exact ⟨zs, a.below h, b⟩))
  clear h hl
  go_enter Tryz.func12, Tryz.ntmps12
  go_wp2_with fail
  refine (split_step pw F nx ls 3 x y z l s f0 f1 f2 g0 g1 g2 g3 d _ (HI.out.below ((Below.refl _ _).alloc (Nat.le_refl _) _)) h0 h1 hlen (HL.out _ ((Below.refl _ _).alloc (Nat.le_refl _) _))).mono ?_
  rintro e w1 ⟨rfl, F', o, o', i1, i2, i3⟩
  have I1 := hideG i1
  have I2 := hideG i2
  have I3 := hideG i3
  clear i1 i2 i3
  go_wp2_with fail
  go_ret
  exact ⟨rfl, F', o, o', I1.out, I2.out, ((Below.refl _ _).alloc (by omega) _).trans I3.out⟩

end Go.Proofs.YtchideljndagjaaGreat
