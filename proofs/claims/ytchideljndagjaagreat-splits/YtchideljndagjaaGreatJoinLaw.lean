/- Contracts of the steps of a script: Join, and the owning of what was handed in. -/
import Derived.Test.YtchideljndagjaaGreatOwnPts
import Derived.Test.YtchideljndagjaaGreatLaw2
import Derived.Test.YtchideljndagjaaGreatRefJoin
import Derived.Test.YtchideljndagjaaGreatJoin
import Derived.Deep.RegionHeld3
import Derived.Deep.AppendLies
namespace Go.Proofs.YtchideljndagjaaGreat
open Go.ChangeShapes Go.WideShapes Go.ChangeAt Go.RowKit
set_option linter.unusedVariables false

/-- The first k points that a list's numbers make, two by two. -/
def pairsN (zs : List Int) (k : Nat) : List (Int × Int) := (List.range k).map fun j => (zs.getD (2 * j) 0, zs.getD (2 * j + 1) 0)
theorem pairsN_succ (zs : List Int) (k : Nat) : pairsN zs (k + 1) = pairsN zs k ++ [(zs.getD (2 * k) 0, zs.getD (2 * k + 1) 0)] := by
  unfold pairsN; rw [List.range_succ, List.map_append]; rfl
theorem pairsN_length (zs : List Int) (k : Nat) : (pairsN zs k).length = k := by unfold pairsN; simp
theorem getD_inI {zs : List Int} (h : ∀ z ∈ zs, inI z) (j : Nat) : inI (zs.getD j 0) := by
  by_cases hj : j < zs.length
  · rw [List.getD_eq_getElem?_getD, List.getElem?_eq_getElem hj]; exact h _ (List.getElem_mem hj)
  · rw [List.getD_eq_getElem?_getD, List.getElem?_eq_none (by omega)]; unfold inI; simp
theorem pairsN_inI {zs : List Int} (h : ∀ z ∈ zs, inI z) (k : Nat) : ∀ p ∈ pairsN zs k, inI p.1 ∧ inI p.2 := by
  intro p hp
  unfold pairsN at hp
  obtain ⟨j, _, rfl⟩ := List.mem_map.1 hp
  exact ⟨getD_inI h _, getD_inI h _⟩

/-- Both answer alike. -/
theorem both_join (ps : List (Int × Int)) : ∃ (x c : Int), (∀ w v, PtsAt w v ps →
    Calls Tryz.prog 85 #[v] w fun e w' => e = .returned (.tuple #[.int .i64 x, .int .i64 c]) ∧ Below w.heap.size w w') ∧
    (∀ w v, PtsAt w v ps → Calls Tryz.prog 86 #[v] w fun e w' => e = .returned (.tuple #[.int .i64 x, .int .i64 c]) ∧ Below w.heap.size w w') := by
  cases h : ptsB ps with
  | false => exact ⟨0, 2, fun w v hv => veilJoin v w 0 2 (join_no v ps w hv h), fun w v hv => rjoin_no v ps w hv h⟩
  | true => exact ⟨Lag.joinN ps, 0, fun w v hv => veilJoin v w _ 0 (join_yes v ps w hv h), fun w v hv => rjoin_yes v ps w hv h⟩

theorem pgiven_pts {w : World} {g : Nat} {ps : List (Int × Int)} (hg : w.heap[g]? = some (.cells (flat (pgiven ps 3)).toArray 72 (0, 0))) (hz : ∀ p ∈ ps, inI p.1 ∧ inI p.2) (hb : ps.length * 16 ≤ 140737488355328) :
    PtsAt w (.slice (some ⟨g, 0, none⟩) ps.length (ps.length + 3)) ps := by
  refine ⟨_, _, rfl, by omega, by unfold maxLen; omega, hz, .inr ⟨g, 0, rfl, ?_, fun i hi => ?_⟩⟩
  · by_cases h : g < w.heap.size
    · exact h
    · rw [Array.getElem?_eq_none (by omega)] at hg; cases hg
  · have hpl := pgiven_length ps 3 (Nat.le_refl _)
    have ff := flat_get (pgiven ps 3) i (by rw [hpl]; omega)
    rw [pgiven_get ps i (by omega), if_pos hi] at ff
    rw [Nat.zero_add, (row_cell hg (i * 2) (by rw [flat_length, hpl]; omega)).1, (row_cell hg (i * 2 + 1) (by rw [flat_length, hpl]; omega)).1]
    exact ff

set_option maxHeartbeats 4000000 in
set_option maxRecDepth 100000 in
theorem join_step (pw : Nat) (F : Nat → Value) (nx : Int) (ls : Nat → List Ow) (kd x y z : Int) (l s f0 f1 f2 g0 g1 g2 g3 d : Value) (w : World) (h : InvW w pw F nx ls) (h0 : 0 ≤ nx) (h1 : nx ≤ 1000000000000000000)
    (hlen : ((ls 5).length + 1) * 24 ≤ 140737488355328) (hl : ListIs w l) :
    Calls Tryz.prog 29 #[.pointer (some ⟨pw, 0, none⟩), .agg #[.int .i64 kd, .int .i64 x, .int .i64 y, .int .i64 z, l, s, f0, f1, f2, g0, g1, g2, g3, d]] w fun e w' => e = .returned (.bool true) ∧ ∃ F' o, InvW w' pw F' (nx + 1) (updL ls 5 (ls 5 ++ [o])) ∧
      (∀ j, j < 3 → F' j = F j) ∧ Below pw w w' := by
  obtain ⟨i0, hi0, hz0, hz1, hz2⟩ := info_parts infoGp
  obtain ⟨zs, hz, hzb⟩ := hl
  obtain ⟨a, cap, rfl, l2, l3, l4, l5⟩ := hz
  unfold maxLen at l3
  have HL := hideG l5
  have HZI := hideG l4
  have HI := hideG h
  have hpl := h.pw_lt
  clear l4 l5 h
  obtain ⟨n, hn⟩ : ∃ n, n = zs.length := ⟨_, rfl⟩
  rw [← hn] at l2 hzb ⊢
  have HN := hideG hn
  clear hn
  obtain ⟨bx, hbx⟩ : ∃ bx, bx = w.alloc (.cells #[.int .i64 kd, .int .i64 x, .int .i64 y, .int .i64 z, .slice a n cap, s, f0, f1, f2, g0, g1, g2, g3, d] 45) := ⟨_, rfl⟩
  have sbx : bx.heap.size = w.heap.size + 1 := by rw [hbx]; simp
  have cbx : bx.cell? ⟨w.heap.size, 4, none⟩ = some (.slice a n cap) := by rw [hbx]; simp [go_sem]
  have BX := hideG (show Below w.heap.size w bx by rw [hbx]; exact (Below.refl _ _).alloc (Nat.le_refl _) _)
  go_enter Tryz.func29, Tryz.ntmps29
  go_wp2_with fail
  rw [← hbx]
  clear hbx
  go_loopw [5, 6] (fun v i wr => ∃ (k j : Nat), j = 2 * k ∧ j ≤ n ∧ i = .int .i64 j ∧ wr.ownsRow (w.heap.size + 1) 72 2 v k (flat (pairsN zs k)) ∧ Below (w.heap.size + 1) bx wr) (fun _ i _ => n - (intOf i).toNat)
  case atStart => exact ⟨0, 0, rfl, by omega, rfl, World.ownsRow_nil _ _ _ _, Below.refl _ _⟩
  case round =>
    obtain ⟨k, j, hj, hjn, rfl, hown, hbel⟩ := hrel
    have zb := hbel.size
    have OW := hideG hown
    have HB := hideG hbel
    have cb : wr.cell? ⟨w.heap.size, 4, none⟩ = some (.slice a n cap) := by rw [hbel.cell (p := ⟨w.heap.size, 4, none⟩) (by simp)]; exact cbx
    clear hown hbel
    by_cases hlt : j + 1 < n
    · obtain ⟨b, off, rfl, e2, e3⟩ : ∃ b off, a = some ⟨b, off, none⟩ ∧ b < w.heap.size ∧ ∀ i, i < zs.length → w.cell? ⟨b, off + i, none⟩ = some (.int .i64 (zs.getD i 0)) := by
        rcases HL.out with e | ⟨b, off, h1, h0, h2⟩
        · have := HN.out; rw [e] at this; simp at this; omega
        · exact ⟨b, off, h1, h0, h2⟩
      have cc : ∀ i, i < n → wr.cell? ⟨b, off + i, none⟩ = some (.int .i64 (zs.getD i 0)) := fun i hi => by
        rw [HB.out.cell (p := ⟨b, off + i, none⟩) (by simp; omega), BX.out.cell (p := ⟨b, off + i, none⟩) e2]
        exact e3 i (by rw [← HN.out]; exact hi)
      have c1 := cc j (by omega)
      have c2 := cc (j + 1) hlt
      have hlts := fun q hq => (OW.out.lt q hq).1
      have ab : u5.ownBlock ≠ some b := fun e => by have := hlts b e; omega
      have ax : u5.ownBlock ≠ some w.heap.size := fun e => by have := hlts _ e; omega
      clear hlts
      obtain ⟨z1, hz1'⟩ : ∃ z1, z1 = zs.getD j 0 := ⟨_, rfl⟩
      obtain ⟨z2, hz2'⟩ : ∃ z2, z2 = zs.getD (j + 1) 0 := ⟨_, rfl⟩
      rw [← hz1'] at c1
      rw [← hz2'] at c2
      have HP := hideG (show pairsN zs (k + 1) = pairsN zs k ++ [(z1, z2)] by rw [pairsN_succ, hz1', hz2', hj])
      have HJ := hideG hj
      have hk16 : (k + 1) * 16 ≤ 140737488355328 := by omega
      have hk63 : k + 1 ≤ maxLen := by unfold maxLen; omega
      clear hz1' hz2' cc e3 hj
      have hj0 : (0 : Int) ≤ (j : Int) := by omega
      have hj1 : (j : Int) < (n : Int) := by omega
      have hj2 : (0 : Int) ≤ (j : Int) + 1 := by omega
      have hj3 : (j : Int) + 1 < (n : Int) := by omega
      have hwr : IntKind.i64.wrap ((j : Int) + 1) = (j : Int) + 1 := by rw [IntWalk.i64_left, IntWalk.wrap64_in _ (by omega)]
      have htn : ((j : Int) + 1).toNat = j + 1 := by omega
      have hbl : b < wr.heap.size := by omega
      have al : ∀ (ob : Obj) (b o : Nat), b < wr.heap.size → (wr.alloc ob).cell? ⟨b, o, none⟩ = wr.cell? ⟨b, o, none⟩ := fun ob b o hb => ((Below.refl wr.heap.size wr).alloc (Nat.le_refl _) ob).cell (p := ⟨b, o, none⟩) hb
      go_wp2_with fail
      go_region_held3 (fun w' => w'.cell? ⟨w.heap.size, 4, none⟩ = some (.slice (some ⟨b, off, none⟩) n cap) ∧ w'.cell? ⟨b, off + j, none⟩ = some (.int .i64 z1) ∧ w'.cell? ⟨b, off + (j + 1), none⟩ = some (.int .i64 z2))
        (first
          | go_keep
          | exact ⟨cb, c1, c2⟩
          | exact ⟨(al _ _ _ (by omega)).trans cb, (al _ _ _ (by omega)).trans c1, (al _ _ _ (by omega)).trans c2⟩
          | (go_split_ands
             refine ⟨?_, ?_, ?_⟩
             · (rw [hgrow.cell_far _ (by simp; omega) (Ne.symm ax)]; assumption)
             · (rw [hgrow.cell_far _ (by simp; omega) (Ne.symm ab)]; assumption)
             · (rw [hgrow.cell_far _ (by simp; omega) (Ne.symm ab)]; assumption)))
        ((refine step_append_lies _ (by rfl) _ _ _ (by rfl) (w.heap.size + 1) 72 i0 _ 2 16 Tryz.underlying70 hi0 hz0 hz1 hz2 rfl (by omega) u5 k (flat (pairsN zs k)) (by rfl) ((OW.out.alloc _).drew)
            ⟨wr.heap.size, 0, none⟩ 1 1 [.int .i64 z1, .int .i64 z2] (by rfl) (by rfl) (World.news_of_block (cs := #[.int .i64 z1, .int .i64 z2]) (t := 72) (fr := (0, 0)) (heap_alloc_new wr _)) (by simp [Value.oneCell'])
            (by omega) hk63 hk16 (by simp; omega) (wr.heap.size + 1) (by simp) ?_; intro gg cap' w1 hown1 hgrow hat hlt'))
      go_wp2_with fail
      go_roundw
      case rel =>
        refine ⟨k + 1, j + 2, by have := HJ.out; omega, by omega, by go_num, ?_, ?_⟩
        · rw [HP.out, flat_append]; exact hown1
        · have hb0 : Below (w.heap.size + 1) bx (wr.alloc (.cells #[.int .i64 z1, .int .i64 z2] 72)).drew := (HB.out.alloc (by omega) _).trans ⟨rfl, rfl, rfl, Nat.le_refl _, fun _ _ => rfl⟩
          exact hb0.grown hgrow (by simp; omega) (fun q hq => (OW.out.lt q hq).1)
      case measure => simp [intOf]; omega
    · have hk2 : k * 16 ≤ 140737488355328 := by omega
      obtain ⟨ps, hps⟩ : ∃ ps, ps = pairsN zs k := ⟨_, rfl⟩
      have hpl2 : ps.length = k := by rw [hps, pairsN_length]
      have HPI := hideG (show ∀ p ∈ ps, inI p.1 ∧ inI p.2 by rw [hps]; exact pairsN_inI HZI.out k)
      have OW2 := OW.out
      rw [← hps, ← hpl2] at OW2
      have hpb : ps.length * 16 ≤ 140737488355328 := by omega
      have LP := hideG (ptsAt_of_owns OW2 HPI.out)
      have W0 := hideG ((BX.out).trans (HB.out.mono (by omega)))
      obtain ⟨x1, c, hs1, hs2⟩ := both_join ps
      have HS1 := hideG hs1
      have HS2 := hideG hs2
      have ec : (c == c) = true := by simp
      have ex : (x1 == x1) = true := by simp
      clear hs1 hs2 hps hj OW2 hpl2
      go_wp2_with fail
      refine (givePoints_calls u5 ps _ LP.out hpb).mono ?_
      rintro e w1 ⟨g, hg0, rfl, hg1, hb1⟩
      have G1 := hideG hg1
      have z1 := hb1.size
      have gl : g < w1.heap.size := by
        by_cases h : g < w1.heap.size
        · exact h
        · rw [Array.getElem?_eq_none (by omega)] at hg1; cases hg1
      have BA1 := hideG (W0.out.trans (hb1.mono (by omega)))
      have LP1 := hideG (LP.out.below hb1)
      clear hg1 hb1
      go_wp2_with fail
      refine (HS1.out _ _ (pgiven_pts G1.out HPI.out hpb)).mono ?_
      rintro e w2 ⟨rfl, hb2⟩
      have z2 := hb2.size
      have G2 := hideG ((hb2.block g gl).trans G1.out)
      have BA2 := hideG (BA1.out.trans (hb2.mono (by omega)))
      have LP2 := hideG (LP1.out.below hb2)
      clear hb2
      go_wp2_with fail
      refine (HS2.out _ _ LP2.out).mono ?_
      rintro e w3 ⟨rfl, hb3⟩
      have z3 := hb3.size
      have G3 := hideG ((hb3.block g (by omega)).trans G2.out)
      have BA3 := hideG (BA2.out.trans (hb3.mono (by omega)))
      have LP3 := hideG (LP2.out.below hb3)
      clear hb3
      go_wp2_with fail
      refine (stillPoints_calls u5 ps _ g LP3.out hpb G3.out).mono ?_
      rintro e w4 ⟨rfl, hb4⟩
      have z4 := hb4.size
      have G4 := hideG ((hb4.block g (by omega)).trans G3.out)
      have BA4 := hideG (BA3.out.trans (hb4.mono (by omega)))
      clear hb4
      have HI4 := hideG (HI.out.below BA4.out)
      go_wp2_with fail
      refine (ownPoints_calls pw F nx ls g ps.length (ps.length + 3) _ _ HI4.out h0 h1 hlen G4.out (pgiven_length _ _ (Nat.le_refl _)) (by omega) (by unfold maxLen; omega) (by omega) (fun hf => by have := (HI.out.foot_lt hf).2; omega)).mono ?_
      rintro e w5 ⟨rfl, F1, i1, i2, i3, i4⟩
      have I1 := hideG i1
      have I3 := hideG i3
      have I4 := hideG (i4.below (B := pw) (by omega) (fun b hb => by
        rcases hb with hb | hb | hb
        · omega
        · omega
        · have h1 := HI4.out.foot_lt hb; omega))
      clear i1 i2 i3 i4
      go_wp2_with fail
      refine (num_calls _ _).mono ?_
      rintro e w6 ⟨rfl, rfl⟩
      go_wp2_with fail
      refine (num_calls _ _).mono ?_
      rintro e w6 ⟨rfl, rfl⟩
      go_wp2_with fail
      go_ret
      exact ⟨rfl, F1, _, I1.out, I3.out, (BA4.out.mono (by omega)).trans I4.out⟩

set_option maxHeartbeats 1000000 in
set_option maxRecDepth 100000 in
theorem numbers_join (pw : Nat) (F : Nat → Value) (nx : Int) (ls : Nat → List Ow) (x y z : Int) (l s f0 f1 f2 g0 g1 g2 g3 d : Value) (w : World) (h : InvW w pw F nx ls) (h0 : 0 ≤ nx) (h1 : nx ≤ 1000000000000000000)
    (hlen : ((ls 5).length + 1) * 24 ≤ 140737488355328) (hl : ListIs w l) :
    Calls Tryz.prog 12 #[.pointer (some ⟨pw, 0, none⟩), .agg #[.int .i64 4, .int .i64 x, .int .i64 y, .int .i64 z, l, s, f0, f1, f2, g0, g1, g2, g3, d]] w fun e w' => e = .returned (.bool true) ∧ ∃ F' o, InvW w' pw F' (nx + 1) (updL ls 5 (ls 5 ++ [o])) ∧
      (∀ j, j < 3 → F' j = F j) ∧ Below pw w w' := by
  have hpl := h.pw_lt
  have HI := hideG h
  have HL := hideG (fun w1 (h : Below w.heap.size w w1) => (show ListIs w1 l from by obtain ⟨zs, a, b⟩ := hl; exact ⟨zs, a.below h, b⟩))
  clear h hl
  go_enter Tryz.func12, Tryz.ntmps12
  go_wp2_with fail
  refine (join_step pw F nx ls 4 x y z l s f0 f1 f2 g0 g1 g2 g3 d _ (HI.out.below ((Below.refl _ _).alloc (Nat.le_refl _) _)) h0 h1 hlen (HL.out _ ((Below.refl _ _).alloc (Nat.le_refl _) _))).mono ?_
  rintro e w1 ⟨rfl, F', o, i1, i2, i3⟩
  have I1 := hideG i1
  have I2 := hideG i2
  have I3 := hideG i3
  clear i1 i2 i3
  go_wp2_with fail
  go_ret
  exact ⟨rfl, F', o, I1.out, I2.out, ((Below.refl _ _).alloc (by omega) _).trans I3.out⟩

end Go.Proofs.YtchideljndagjaaGreat
