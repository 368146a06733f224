/- Contracts of the steps of a script: Stretch, and the owning of what it gave. -/
import Derived.Test.YtchideljndagjaaGreatLook2
import Derived.Test.YtchideljndagjaaGreatSealLaw
namespace Go.Proofs.YtchideljndagjaaGreat
open Go.ChangeShapes Go.WideShapes Go.ChangeAt Go.RowKit
set_option linter.unusedVariables false

theorem veilStretch (x y : Int) (w : World) (Q : Value → Value → World → Prop)
    (h : Calls Tryz.prog 89 #[.int .i64 x, .int .i64 y] w fun e w' => ∃ v c, e = .returned (.tuple #[v, c]) ∧ Q v c w') :
    Calls Tryz.prog 30 #[.int .i64 x, .int .i64 y] w fun e w' => ∃ v c, e = .returned (.tuple #[v, c]) ∧ Q v c w' := by
  have H := hideG h
  clear h
  go_enter Tryz.func30, Tryz.ntmps30
  go_wp2_with fail
  refine H.out.mono ?_
  rintro e w' ⟨v, c, rfl, hq⟩
  have HQ := hideG hq
  clear hq
  go_wp2_with fail
  go_ret2
  exact ⟨_, _, rfl, HQ.out⟩

/-- Both answer alike: the same numbers, in rows of their own, or nil. -/
theorem both_stretch (x y : Int) (hy : inI y) : ∃ (zs : List Int) (c : Int), (∀ z ∈ zs, inI z) ∧ (∀ w,
    Calls Tryz.prog 30 #[.int .i64 x, .int .i64 y] w fun e w' => ∃ v, e = .returned (.tuple #[v, .int .i64 c]) ∧ w'.ownsRow w.heap.size 3 1 v zs.length (zs.map (Value.int .i64)) ∧ Below w.heap.size w w') ∧
    (∀ w, Calls Tryz.prog 31 #[.int .i64 x, .int .i64 y] w fun e w' => ∃ v, e = .returned (.tuple #[v, .int .i64 c]) ∧ w'.ownsRow w.heap.size 3 1 v zs.length (zs.map (Value.int .i64)) ∧ Below w.heap.size w w') := by
  by_cases h : Num.elB x = false ∨ y < 0 ∨ 12 < y
  · refine ⟨[], 1, by simp, fun w => ?_, fun w => ?_⟩
    · refine (veilStretch x y w (fun v c w' => v = .slice none 0 0 ∧ c = .int .i64 1 ∧ w' = w) ((stretch_no x y w h).mono ?_)).mono ?_
      · rintro e w' ⟨rfl, rfl⟩; exact ⟨_, _, rfl, rfl, rfl, rfl⟩
      · rintro e w' ⟨v, c, rfl, rfl, rfl, rfl⟩; exact ⟨_, rfl, World.ownsRow_nil _ _ _ _, Below.refl _ _⟩
    · refine (rstretch_no x y w h).mono ?_
      rintro e w' ⟨rfl, rfl⟩; exact ⟨_, rfl, World.ownsRow_nil _ _ _ _, Below.refl _ _⟩
  · have hx : Num.elB x = true := by
      cases hx : Num.elB x
      · exact absurd (.inl hx) h
      · rfl
    have h1 : ¬ y < 0 := fun e => h (.inr (.inl e))
    have h2 : ¬ 12 < y := fun e => h (.inr (.inr e))
    obtain ⟨n, rfl⟩ := Int.eq_ofNat_of_zero_le (show 0 ≤ y by omega)
    have hx' := Num.elB_iff.1 hx
    have hlen := Num.strL_length x n
    refine ⟨Num.strL x n, 0, strL_inI x n, fun w => ?_, fun w => ?_⟩
    · rw [hlen]
      refine (veilStretch x n w (fun v c w' => c = .int .i64 0 ∧ w'.ownsRow w.heap.size 3 1 v n ((Num.strL x n).map (Value.int .i64)) ∧ Below w.heap.size w w') ((stretch_yes x n w hx'.1 hx'.2 (by omega)).mono ?_)).mono ?_
      · rintro e w' ⟨v, rfl, ho, hb⟩; exact ⟨_, _, rfl, rfl, ho, hb⟩
      · rintro e w' ⟨v, c, rfl, rfl, ho, hb⟩; exact ⟨_, rfl, ho, hb⟩
    · rw [hlen]; exact rstretch_yes x n w hx'.1 hx'.2 (by omega)

/-- A list of integers, nil or a row of the call's own, is owned. -/
theorem own_list (pw : Nat) (F : Nat → Value) (nx : Int) (ls : Nat → List Ow) (v : Value) (n B : Nat) (xs : List Value) (w : World) (h : InvW w pw F nx ls) (h0 : 0 ≤ nx) (h1 : nx ≤ 1000000000000000000)
    (hlen : ((ls 0).length + 1) * 24 ≤ 140737488355328) (hown : w.ownsRow B 3 1 v n xs) (hB : pw < B) (hfoot : ∀ b, v.ownBlock = some b → ¬ Foot F ls b) :
    Calls Tryz.prog 33 #[.pointer (some ⟨pw, 0, none⟩), v] w fun e w' => e = .returned (.tuple #[]) ∧ ∃ F' o, InvW w' pw F' (nx + 1) (updL ls 0 (ls 0 ++ [o])) ∧
      (∀ b, b < w.heap.size → v.ownBlock ≠ some b → ¬ Foot F ls b → ¬ Foot F' (updL ls 0 (ls 0 ++ [o])) b) ∧ (∀ j, j < 3 → F' j = F j) ∧
      Chg (fun b => b = pw ∨ v.ownBlock = some b ∨ Foot F ls b) w w' := by
  rcases hown.2 with ⟨rfl, rfl⟩ | ⟨g, cap, cur, rfl, hg, hblk, hnc, hcm, hcs, _⟩
  · refine (ownNil_calls pw F nx ls w h h0 h1 hlen).mono ?_
    rintro e w' ⟨rfl, F', i1, i2, i3, i4⟩
    exact ⟨rfl, F', _, i1, fun b hb _ hf => i2 b hb hf, i3, i4.mono (fun b e _ => by rcases e with e | e; exact .inl e; exact .inr (.inr e))⟩
  · refine (ownInts_calls pw F nx ls g n cap cur w h h0 h1 hlen hblk (by omega) hnc hcm (by omega) (hfoot g rfl)).mono ?_
    rintro e w' ⟨rfl, F', i1, i2, i3, i4⟩
    refine ⟨rfl, F', _, i1, fun b hb hne hf => i2 b hb (fun e => hne (by rw [e]; rfl)) hf, i3, i4.mono (fun b e _ => ?_)⟩
    rcases e with e | e | e
    · exact .inl e
    · exact .inr (.inl (by rw [e]; rfl))
    · exact .inr (.inr e)

set_option maxHeartbeats 1000000 in
set_option maxRecDepth 100000 in
theorem numbers_stretch (pw : Nat) (F : Nat → Value) (nx : Int) (ls : Nat → List Ow) (x y z : Int) (l s f0 f1 f2 g0 g1 g2 g3 d : Value) (w : World) (h : InvW w pw F nx ls) (h0 : 0 ≤ nx) (h1 : nx ≤ 1000000000000000000)
    (hlen : ((ls 0).length + 1) * 24 ≤ 140737488355328) (hy : inI y) :
    Calls Tryz.prog 12 #[.pointer (some ⟨pw, 0, none⟩), .agg #[.int .i64 5, .int .i64 x, .int .i64 y, .int .i64 z, l, s, f0, f1, f2, g0, g1, g2, g3, d]] w fun e w' => e = .returned (.bool true) ∧ ∃ F' o, InvW w' pw F' (nx + 1) (updL ls 0 (ls 0 ++ [o])) ∧
      (∀ j, j < 3 → F' j = F j) ∧ Below pw w w' := by
  obtain ⟨zs, c, hz, hs1, hs2⟩ := both_stretch x y hy
  have HS1 := hideG hs1
  have HS2 := hideG hs2
  have HZ := hideG hz
  have HI := hideG h
  have hpl := h.pw_lt
  have ec : (c == c) = true := by simp
  clear hs1 hs2 hz h
  go_enter Tryz.func12, Tryz.ntmps12
  go_wp2_with fail
  refine (HS1.out _).mono ?_
  rintro e w1 ⟨va, rfl, hoa, hb1⟩
  have OA := hideG hoa
  have B1 := hideG hb1
  obtain ⟨hc1, hf1⟩ := bcell hb1
  have z1 : w.heap.size + 1 ≤ w1.heap.size := by have := hb1.size; simp at this; omega
  clear hoa hb1
  go_wp2_with fail
  refine (HS2.out _).mono ?_
  rintro e w2 ⟨vb, rfl, hob, hb2⟩
  have OB := hideG hob
  have B2 := hideG hb2
  have z2 := hb2.size
  clear hob hb2 hc1 hf1
  have OA2 := hideG (ownsRow_chg (S := fun _ => False) OA.out (Chg.of_below B2.out) (fun _ _ h => h))
  have LA := hideG (listAt_of_owns OA2.out HZ.out)
  have LB := hideG (listAt_of_owns OB.out HZ.out)
  go_wp2_with fail
  refine (sameInts_same va vb zs _ LA.out LB.out).mono ?_
  rintro e w3 ⟨rfl, nq, hw3⟩
  have B3 := hideG (show Below w2.heap.size w2 w3 by rw [hw3]; exact below_drewN _ _)
  have z3 := B3.out.size
  clear hw3
  have BA := hideG ((((Below.refl w.heap.size w).alloc (Nat.le_refl _) _).trans (B1.out.mono (by simp))).trans ((B2.out.mono (by omega)).trans (B3.out.mono (by omega))))
  have HI3 := hideG (HI.out.below BA.out)
  have OA3 := hideG (ownsRow_chg (S := fun _ => False) OA2.out (Chg.of_below B3.out) (fun _ _ h => h))
  go_wp2_with fail
  refine (own_list pw F nx ls va _ _ _ _ HI3.out h0 h1 hlen OA3.out (by simp; omega) (fun b hb hf => by have h1 := HI.out.foot_lt hf; have h2 := OA3.out.lt b hb; simp at h2; omega)).mono ?_
  rintro e w4 ⟨rfl, F', o, i1, i2, i3, i4⟩
  have I1 := hideG i1
  have I3 := hideG i3
  have I4 := hideG (i4.below (B := pw) (by omega) (fun b hb => by
    rcases hb with hb | hb | hb
    · omega
    · have h2 := OA3.out.lt b hb; simp at h2; omega
    · have h1 := HI3.out.foot_lt hb; omega))
  clear i1 i2 i3 i4
  go_wp2_with fail
  refine (num_calls _ _).mono ?_
  rintro e w5 ⟨rfl, rfl⟩
  go_wp2_with fail
  refine (num_calls _ _).mono ?_
  rintro e w5 ⟨rfl, rfl⟩
  go_wp2_with fail
  go_ret
  exact ⟨rfl, F', o, I1.out, I3.out, (BA.out.mono (by omega)).trans I4.out⟩

set_option maxHeartbeats 1000000 in
set_option maxRecDepth 100000 in
theorem numbers_sealed (pw : Value) (k x y z : Int) (l s f0 f1 f2 g0 g1 g2 g3 d : Value) (w : World) (hk : k = 6 ∨ k = 7)
    (hl : ListIs w l) :
    Calls Tryz.prog 12 #[pw, .agg #[.int .i64 k, .int .i64 x, .int .i64 y, .int .i64 z, l, s, f0, f1, f2, g0, g1, g2, g3, d]] w fun e w' => e = .returned (.bool true) ∧ Below w.heap.size w w' := by
  obtain ⟨zs, hz, _⟩ := hl
  have HM := hideG fun (w1 : World) (h : Below w.heap.size w w1) => hz.below h
  clear hz
  rcases hk with rfl | rfl
  · go_enter Tryz.func12, Tryz.ntmps12
    go_wp2_with fail
    refine (sealed_seal x y z l s f0 f1 f2 g0 g1 g2 g3 d zs _ (HM.out _ ((Below.refl _ _).alloc (Nat.le_refl _) _))).mono ?_
    rintro e w1 ⟨rfl, hb⟩
    have HB := hideG hb
    clear hb
    go_wp2_with fail
    go_ret
    exact ⟨rfl, ((Below.refl _ _).alloc (Nat.le_refl _) _).trans (HB.out.mono (by simp))⟩
  · go_enter Tryz.func12, Tryz.ntmps12
    go_wp2_with fail
    refine (sealed_open x y z l s f0 f1 f2 g0 g1 g2 g3 d zs _ (HM.out _ ((Below.refl _ _).alloc (Nat.le_refl _) _))).mono ?_
    rintro e w1 ⟨rfl, hb⟩
    have HB := hideG hb
    clear hb
    go_wp2_with fail
    go_ret
    exact ⟨rfl, ((Below.refl _ _).alloc (Nat.le_refl _) _).trans (HB.out.mono (by simp))⟩

end Go.Proofs.YtchideljndagjaaGreat
