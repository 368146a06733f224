/- PROVED: veilkeep.Veiled answers true at every input, and its arguments read afterwards as they read before. No condition. -/
import Derived.Test.YtchideljndagjaaArgOpen
import Derived.Test.YtchideljndagjaaVeilA
import Derived.Below
import Derived.ChangeMaps5
import Derived.SizedLaws
namespace Go.Proofs.Ytchideljndagjaa.veiled
open Go.ChangeShapes Go.WideShapes Go.ChangeAt Go.RowKit
set_option linter.unusedVariables false

theorem own : ownKnob Try.prog.godebug = none := by kernel_rfl
theorem laidOut : laidOutB Try.prog = true := by kernel_rfl

/-- The two clients, side by side. -/
structure Inv (W0 : World) (b1 b2 : Nat) (c1 c2 : Cli.Cl) (wr : World) (s : Cli.St) (S1 S2 : PS) : Prop where
  one : CliW wr b1 c1 s S1
  two : CliW wr b2 c2 s S2
  apart : ∀ x, CFoot b1 S1 x → ¬ CFoot b2 S2 x
  below : Below W0.heap.size W0 wr
  lo : W0.heap.size ≤ b1 ∧ W0.heap.size ≤ b2
theorem Inv.grow {W0 : World} {b1 b2 : Nat} {c1 c2 : Cli.Cl} {wr wr' : World} {s : Cli.St} {S1 S2 : PS} (h : Inv W0 b1 b2 c1 c2 wr s S1 S2) (hb : Below wr.heap.size wr wr') : Inv W0 b1 b2 c1 c2 wr' s S1 S2 :=
  ⟨h.one.below hb, h.two.below hb, h.apart, h.below.trans (hb.mono h.below.size), h.lo⟩

theorem relL_in {c : Cli.Cl} (hc : Cli.Good c) (s : Cli.St) : ∀ x ∈ relL c s, inIt x := by
  unfold relL
  split
  · exact okF_in (Cli.tells_ok hc _ _ _)
  · intro x hx; cases hx

/-- The boxes of the arguments. -/
def boxes (w : World) (N T M D : Int) (vi vy vm vs : Value) (ch mk sd : Int) : World :=
  ((w.alloc (.cells #[.int .i64 N, .int .i64 T, .int .i64 M, .int .i64 D] 65)).alloc (.cells #[vi, .int .i64 ch, .int .i64 mk, .int .i64 sd, vm, vs] 67)).alloc (.cells #[vy, .int .i64 ch, .int .i64 mk, .int .i64 sd, vm, vs] 67)
theorem boxes_facts (w : World) (N T M D : Int) (vi vy vm vs : Value) (ch mk sd : Int) {W : World} (hb : Below (boxes w N T M D vi vy vm vs ch mk sd).heap.size (boxes w N T M D vi vy vm vs ch mk sd) W) :
    (W.cell? ⟨w.heap.size, 0, none⟩ = some (.int .i64 N) ∧ W.cell? ⟨w.heap.size, 1, none⟩ = some (.int .i64 T) ∧ W.cell? ⟨w.heap.size, 2, none⟩ = some (.int .i64 M) ∧ W.cell? ⟨w.heap.size, 3, none⟩ = some (.int .i64 D)) ∧
    SixAt W (w.heap.size + 1) 67 vi (.int .i64 ch) (.int .i64 mk) (.int .i64 sd) vm vs ∧ SixAt W (w.heap.size + 2) 67 vy (.int .i64 ch) (.int .i64 mk) (.int .i64 sd) vm vs := by
  have hs : (boxes w N T M D vi vy vm vs ch mk sd).heap.size = w.heap.size + 3 := by simp [boxes]
  have e0 : ∀ o, W.cell? ⟨w.heap.size, o, none⟩ = (boxes w N T M D vi vy vm vs ch mk sd).cell? ⟨w.heap.size, o, none⟩ := fun o => hb.cell (p := ⟨w.heap.size, o, none⟩) (by show w.heap.size < _; omega)
  have k1 : Below (w.heap.size + 1) (w.alloc (.cells #[.int .i64 N, .int .i64 T, .int .i64 M, .int .i64 D] 65)) (boxes w N T M D vi vy vm vs ch mk sd) := ((Below.refl _ _).alloc (by simp) _).alloc (by simp) _
  have k3 := heap_alloc2_old (w.alloc (.cells #[.int .i64 N, .int .i64 T, .int .i64 M, .int .i64 D] 65)) (.cells #[vi, .int .i64 ch, .int .i64 mk, .int .i64 sd, vm, vs] 67) (.cells #[vy, .int .i64 ch, .int .i64 mk, .int .i64 sd, vm, vs] 67)
  have k4 := heap_alloc2_new (w.alloc (.cells #[.int .i64 N, .int .i64 T, .int .i64 M, .int .i64 D] 65)) (.cells #[vi, .int .i64 ch, .int .i64 mk, .int .i64 sd, vm, vs] 67) (.cells #[vy, .int .i64 ch, .int .i64 mk, .int .i64 sd, vm, vs] 67)
  simp only [World.size_alloc] at k3 k4
  refine ⟨⟨?_, ?_, ?_, ?_⟩, (hb.block _ (by omega)).trans k3, (hb.block _ (by omega)).trans k4⟩
  all_goals (rw [e0, k1.cell (p := ⟨w.heap.size, _, none⟩) (by show w.heap.size < _; omega)]; simp)
theorem boxes_below (w : World) (N T M D : Int) (vi vy vm vs : Value) (ch mk sd : Int) : Below w.heap.size w (boxes w N T M D vi vy vm vs ch mk sd) ∧ w.heap.size + 3 ≤ (boxes w N T M D vi vy vm vs ch mk sd).heap.size :=
  ⟨(((Below.refl _ _).alloc (Nat.le_refl _) _).alloc (by simp) _).alloc (by simp; omega) _, by simp [boxes]⟩

set_option maxHeartbeats 1000000 in
set_option maxRecDepth 100000 in
theorem walk_11 (N T M D id : Int) (vi vy vm vs : Value) (inp oth sm ss : List Int) (ch mk sd : Int) (a3 : Option Addr) (n3 cap3 : Nat) (Sx : Nat → ByteArray) (w : World) (hi : ListAt w vi inp) (hy : ListAt w vy oth) (hm : ListAt w vm sm) (hs : ListAt w vs ss) (h1 : inI ch) (h2 : inI mk) (h3 : inI sd) (hE1 : newE N T M D id inp ch mk sd sm ss ≠ 0) (hE2 : newE N T M D id oth ch mk sd sm ss ≠ 0) :
    Calls Try.prog 9 #[.agg #[.int .i64 N, .int .i64 T, .int .i64 M, .int .i64 D], .int .i64 id, .agg #[vi, .int .i64 ch, .int .i64 mk, .int .i64 sd, vm, vs], vy, .slice a3 n3 cap3] w fun e w' => e = .returned (.bool true) ∧ Below w.heap.size w w' := by
  have HM1 := hideG (fun (W : World) (hb : Below w.heap.size w W) => kmay_calls N T M D id vi vm vs inp sm ss ch mk sd W (hi.below hb) (hm.below hb) (hs.below hb) h1 h2 h3)
  have HM2 := hideG (fun (W : World) (hb : Below w.heap.size w W) => kmay_calls N T M D id vy vm vs oth sm ss ch mk sd W (hy.below hb) (hm.below hb) (hs.below hb) h1 h2 h3)
  have HN1 := hideG (fun (W : World) (hb : Below w.heap.size w W) => veilNew_no N T M D id vi vm vs inp sm ss ch mk sd W (hi.below hb) (hm.below hb) (hs.below hb) hE1)
  have hEE1 : (newE N T M D id inp ch mk sd sm ss != 0) = true := by simpa using hE1
  generalize newE N T M D id inp ch mk sd sm ss = E1 at *
  have eEE1 : (E1 != E1) = false := by simp
  have HN2 := hideG (fun (W : World) (hb : Below w.heap.size w W) => veilNew_no N T M D id vy vm vs oth sm ss ch mk sd W (hy.below hb) (hm.below hb) (hs.below hb) hE2)
  have hEE2 : (newE N T M D id oth ch mk sd sm ss != 0) = true := by simpa using hE2
  generalize newE N T M D id oth ch mk sd sm ss = E2 at *
  have eEE2 : (E2 != E2) = false := by simp
  obtain ⟨a1, c1', rfl, -⟩ := hi
  obtain ⟨a5, c5', rfl, -⟩ := hy
  obtain ⟨a2, c2', rfl, -⟩ := hm
  obtain ⟨a4, c4', rfl, -⟩ := hs
  generalize inp.length = m1 at *
  generalize oth.length = m5 at *
  generalize sm.length = m2 at *
  generalize ss.length = m3 at *
  have HFA := hideG (fun W hb => boxes_facts w N T M D (.slice a1 m1 c1') (.slice a5 m5 c5') (.slice a2 m2 c2') (.slice a4 m3 c4') ch mk sd (W := W) hb)
  have HBB := hideG (boxes_below w N T M D (.slice a1 m1 c1') (.slice a5 m5 c5') (.slice a2 m2 c2') (.slice a4 m3 c4') ch mk sd)
  obtain ⟨W0, hW0⟩ : ∃ W0, W0 = boxes w N T M D (.slice a1 m1 c1') (.slice a5 m5 c5') (.slice a2 m2 c2') (.slice a4 m3 c4') ch mk sd := ⟨_, rfl⟩
  rw [← hW0] at HFA HBB
  have HW0 := hideG (show W0 = ((w.alloc (.cells #[.int .i64 N, .int .i64 T, .int .i64 M, .int .i64 D] 65)).alloc (.cells #[.slice a1 m1 c1', .int .i64 ch, .int .i64 mk, .int .i64 sd, .slice a2 m2 c2', .slice a4 m3 c4'] 67)).alloc (.cells #[.slice a5 m5 c5', .int .i64 ch, .int .i64 mk, .int .i64 sd, .slice a2 m2 c2', .slice a4 m3 c4'] 67) from hW0)
  have B0 := hideG HBB.out.1
  have z0 : w.heap.size + 3 ≤ W0.heap.size := HBB.out.2
  clear hW0
  clear hE1 hE2
  go_enter Try.func9, Try.ntmps9
  go_wp2_with fail
  rw [← HW0.out]
  refine (HN1.out W0 B0.out).mono ?_
  rintro e w1 ⟨rfl, hb1⟩
  have BW1 := hideG hb1
  have B1 := hideG (B0.out.trans (hb1.mono B0.out.size))
  clear hb1
  obtain ⟨⟨x0, x1, x2, x3⟩, six1, six2⟩ := HFA.out w1 BW1.out
  obtain ⟨⟨u0, u1, u2, u3, u4, u5⟩, uf⟩ := six1.cells
  obtain ⟨⟨t0, t1, t2, t3, t4, t5⟩, tf⟩ := six2.cells
  clear six1 six2
  go_wp2_with fail
  refine (HN2.out w1 B1.out).mono ?_
  rintro e w2 ⟨rfl, hb2⟩
  have BW2 := hideG (BW1.out.trans (hb2.mono BW1.out.size))
  have B2 := hideG (B1.out.trans (hb2.mono B1.out.size))
  clear hb2
  clear x0 x1 x2 x3 u0 u1 u2 u3 u4 u5 uf t0 t1 t2 t3 t4 t5 tf
  obtain ⟨⟨x0, x1, x2, x3⟩, six1, six2⟩ := HFA.out w2 BW2.out
  obtain ⟨⟨u0, u1, u2, u3, u4, u5⟩, uf⟩ := six1.cells
  obtain ⟨⟨t0, t1, t2, t3, t4, t5⟩, tf⟩ := six2.cells
  clear six1 six2
  go_wp2_with fail
  refine (HM1.out w2 B2.out).mono ?_
  rintro e w3 ⟨rfl, hb3⟩
  have BW3 := hideG (BW2.out.trans (hb3.mono BW2.out.size))
  have B3 := hideG (B2.out.trans (hb3.mono B2.out.size))
  clear hb3
  clear x0 x1 x2 x3 u0 u1 u2 u3 u4 u5 uf t0 t1 t2 t3 t4 t5 tf
  obtain ⟨⟨x0, x1, x2, x3⟩, six1, six2⟩ := HFA.out w3 BW3.out
  obtain ⟨⟨u0, u1, u2, u3, u4, u5⟩, uf⟩ := six1.cells
  obtain ⟨⟨t0, t1, t2, t3, t4, t5⟩, tf⟩ := six2.cells
  clear six1 six2
  go_wp2_with fail
  refine (HM2.out w3 B3.out).mono ?_
  rintro e w4 ⟨rfl, hb4⟩
  have B4 := hideG (B3.out.trans (hb4.mono B3.out.size))
  clear hb4
  clear x0 x1 x2 x3 u0 u1 u2 u3 u4 u5 uf t0 t1 t2 t3 t4 t5 tf
  go_wp2_with fail
  go_ret
  exact ⟨rfl, B4.out⟩

set_option maxHeartbeats 1000000 in
set_option maxRecDepth 100000 in
theorem walk_10 (N T M D id : Int) (vi vy vm vs : Value) (inp oth sm ss : List Int) (ch mk sd : Int) (a3 : Option Addr) (n3 cap3 : Nat) (Sx : Nat → ByteArray) (w : World) (hi : ListAt w vi inp) (hy : ListAt w vy oth) (hm : ListAt w vm sm) (hs : ListAt w vs ss) (h1 : inI ch) (h2 : inI mk) (h3 : inI sd) (hE1 : newE N T M D id inp ch mk sd sm ss ≠ 0) (hE2 : newE N T M D id oth ch mk sd sm ss = 0) :
    Calls Try.prog 9 #[.agg #[.int .i64 N, .int .i64 T, .int .i64 M, .int .i64 D], .int .i64 id, .agg #[vi, .int .i64 ch, .int .i64 mk, .int .i64 sd, vm, vs], vy, .slice a3 n3 cap3] w fun e w' => e = .returned (.bool true) ∧ Below w.heap.size w w' := by
  have HM1 := hideG (fun (W : World) (hb : Below w.heap.size w W) => kmay_calls N T M D id vi vm vs inp sm ss ch mk sd W (hi.below hb) (hm.below hb) (hs.below hb) h1 h2 h3)
  have HM2 := hideG (fun (W : World) (hb : Below w.heap.size w W) => kmay_calls N T M D id vy vm vs oth sm ss ch mk sd W (hy.below hb) (hm.below hb) (hs.below hb) h1 h2 h3)
  have HN1 := hideG (fun (W : World) (hb : Below w.heap.size w W) => veilNew_no N T M D id vi vm vs inp sm ss ch mk sd W (hi.below hb) (hm.below hb) (hs.below hb) hE1)
  have hEE1 : (newE N T M D id inp ch mk sd sm ss != 0) = true := by simpa using hE1
  generalize newE N T M D id inp ch mk sd sm ss = E1 at *
  have eEE1 : (E1 != E1) = false := by simp
  have HN2 := hideG (fun (W : World) (hb : Below w.heap.size w W) => veilNew_ok N T M D id vy vm vs oth sm ss ch mk sd W (hy.below hb) (hm.below hb) (hs.below hb) hE2)
  rw [hE2] at HM2
  obtain ⟨a1, c1', rfl, -⟩ := hi
  obtain ⟨a5, c5', rfl, -⟩ := hy
  obtain ⟨a2, c2', rfl, -⟩ := hm
  obtain ⟨a4, c4', rfl, -⟩ := hs
  generalize inp.length = m1 at *
  generalize oth.length = m5 at *
  generalize sm.length = m2 at *
  generalize ss.length = m3 at *
  have HFA := hideG (fun W hb => boxes_facts w N T M D (.slice a1 m1 c1') (.slice a5 m5 c5') (.slice a2 m2 c2') (.slice a4 m3 c4') ch mk sd (W := W) hb)
  have HBB := hideG (boxes_below w N T M D (.slice a1 m1 c1') (.slice a5 m5 c5') (.slice a2 m2 c2') (.slice a4 m3 c4') ch mk sd)
  obtain ⟨W0, hW0⟩ : ∃ W0, W0 = boxes w N T M D (.slice a1 m1 c1') (.slice a5 m5 c5') (.slice a2 m2 c2') (.slice a4 m3 c4') ch mk sd := ⟨_, rfl⟩
  rw [← hW0] at HFA HBB
  have HW0 := hideG (show W0 = ((w.alloc (.cells #[.int .i64 N, .int .i64 T, .int .i64 M, .int .i64 D] 65)).alloc (.cells #[.slice a1 m1 c1', .int .i64 ch, .int .i64 mk, .int .i64 sd, .slice a2 m2 c2', .slice a4 m3 c4'] 67)).alloc (.cells #[.slice a5 m5 c5', .int .i64 ch, .int .i64 mk, .int .i64 sd, .slice a2 m2 c2', .slice a4 m3 c4'] 67) from hW0)
  have B0 := hideG HBB.out.1
  have z0 : w.heap.size + 3 ≤ W0.heap.size := HBB.out.2
  clear hW0
  clear hE1
  go_enter Try.func9, Try.ntmps9
  go_wp2_with fail
  rw [← HW0.out]
  refine (HN1.out W0 B0.out).mono ?_
  rintro e w1 ⟨rfl, hb1⟩
  have BW1 := hideG hb1
  have B1 := hideG (B0.out.trans (hb1.mono B0.out.size))
  clear hb1
  obtain ⟨⟨x0, x1, x2, x3⟩, six1, six2⟩ := HFA.out w1 BW1.out
  obtain ⟨⟨u0, u1, u2, u3, u4, u5⟩, uf⟩ := six1.cells
  obtain ⟨⟨t0, t1, t2, t3, t4, t5⟩, tf⟩ := six2.cells
  clear six1 six2
  go_wp2_with fail
  refine (HN2.out w1 B1.out).mono ?_
  rintro e w2 ⟨b2, rfl, S2, -, hb2, -⟩
  have BW2 := hideG (BW1.out.trans (hb2.mono BW1.out.size))
  have B2 := hideG (B1.out.trans (hb2.mono B1.out.size))
  clear hb2
  clear x0 x1 x2 x3 u0 u1 u2 u3 u4 u5 uf t0 t1 t2 t3 t4 t5 tf
  obtain ⟨⟨x0, x1, x2, x3⟩, six1, six2⟩ := HFA.out w2 BW2.out
  obtain ⟨⟨u0, u1, u2, u3, u4, u5⟩, uf⟩ := six1.cells
  obtain ⟨⟨t0, t1, t2, t3, t4, t5⟩, tf⟩ := six2.cells
  clear six1 six2
  go_wp2_with fail
  refine (HM1.out w2 B2.out).mono ?_
  rintro e w3 ⟨rfl, hb3⟩
  have BW3 := hideG (BW2.out.trans (hb3.mono BW2.out.size))
  have B3 := hideG (B2.out.trans (hb3.mono B2.out.size))
  clear hb3
  clear x0 x1 x2 x3 u0 u1 u2 u3 u4 u5 uf t0 t1 t2 t3 t4 t5 tf
  obtain ⟨⟨x0, x1, x2, x3⟩, six1, six2⟩ := HFA.out w3 BW3.out
  obtain ⟨⟨u0, u1, u2, u3, u4, u5⟩, uf⟩ := six1.cells
  obtain ⟨⟨t0, t1, t2, t3, t4, t5⟩, tf⟩ := six2.cells
  clear six1 six2
  go_wp2_with fail
  refine (HM2.out w3 B3.out).mono ?_
  rintro e w4 ⟨rfl, hb4⟩
  have B4 := hideG (B3.out.trans (hb4.mono B3.out.size))
  clear hb4
  clear x0 x1 x2 x3 u0 u1 u2 u3 u4 u5 uf t0 t1 t2 t3 t4 t5 tf
  go_wp2_with fail
  go_ret
  exact ⟨rfl, B4.out⟩

set_option maxHeartbeats 1000000 in
set_option maxRecDepth 100000 in
theorem walk_01 (N T M D id : Int) (vi vy vm vs : Value) (inp oth sm ss : List Int) (ch mk sd : Int) (a3 : Option Addr) (n3 cap3 : Nat) (Sx : Nat → ByteArray) (w : World) (hi : ListAt w vi inp) (hy : ListAt w vy oth) (hm : ListAt w vm sm) (hs : ListAt w vs ss) (h1 : inI ch) (h2 : inI mk) (h3 : inI sd) (hE1 : newE N T M D id inp ch mk sd sm ss = 0) (hE2 : newE N T M D id oth ch mk sd sm ss ≠ 0) :
    Calls Try.prog 9 #[.agg #[.int .i64 N, .int .i64 T, .int .i64 M, .int .i64 D], .int .i64 id, .agg #[vi, .int .i64 ch, .int .i64 mk, .int .i64 sd, vm, vs], vy, .slice a3 n3 cap3] w fun e w' => e = .returned (.bool true) ∧ Below w.heap.size w w' := by
  have HM1 := hideG (fun (W : World) (hb : Below w.heap.size w W) => kmay_calls N T M D id vi vm vs inp sm ss ch mk sd W (hi.below hb) (hm.below hb) (hs.below hb) h1 h2 h3)
  have HM2 := hideG (fun (W : World) (hb : Below w.heap.size w W) => kmay_calls N T M D id vy vm vs oth sm ss ch mk sd W (hy.below hb) (hm.below hb) (hs.below hb) h1 h2 h3)
  have HN1 := hideG (fun (W : World) (hb : Below w.heap.size w W) => veilNew_ok N T M D id vi vm vs inp sm ss ch mk sd W (hi.below hb) (hm.below hb) (hs.below hb) hE1)
  rw [hE1] at HM1
  have HN2 := hideG (fun (W : World) (hb : Below w.heap.size w W) => veilNew_no N T M D id vy vm vs oth sm ss ch mk sd W (hy.below hb) (hm.below hb) (hs.below hb) hE2)
  have hEE2 : (newE N T M D id oth ch mk sd sm ss != 0) = true := by simpa using hE2
  generalize newE N T M D id oth ch mk sd sm ss = E2 at *
  have eEE2 : (E2 != E2) = false := by simp
  obtain ⟨a1, c1', rfl, -⟩ := hi
  obtain ⟨a5, c5', rfl, -⟩ := hy
  obtain ⟨a2, c2', rfl, -⟩ := hm
  obtain ⟨a4, c4', rfl, -⟩ := hs
  generalize inp.length = m1 at *
  generalize oth.length = m5 at *
  generalize sm.length = m2 at *
  generalize ss.length = m3 at *
  have HFA := hideG (fun W hb => boxes_facts w N T M D (.slice a1 m1 c1') (.slice a5 m5 c5') (.slice a2 m2 c2') (.slice a4 m3 c4') ch mk sd (W := W) hb)
  have HBB := hideG (boxes_below w N T M D (.slice a1 m1 c1') (.slice a5 m5 c5') (.slice a2 m2 c2') (.slice a4 m3 c4') ch mk sd)
  obtain ⟨W0, hW0⟩ : ∃ W0, W0 = boxes w N T M D (.slice a1 m1 c1') (.slice a5 m5 c5') (.slice a2 m2 c2') (.slice a4 m3 c4') ch mk sd := ⟨_, rfl⟩
  rw [← hW0] at HFA HBB
  have HW0 := hideG (show W0 = ((w.alloc (.cells #[.int .i64 N, .int .i64 T, .int .i64 M, .int .i64 D] 65)).alloc (.cells #[.slice a1 m1 c1', .int .i64 ch, .int .i64 mk, .int .i64 sd, .slice a2 m2 c2', .slice a4 m3 c4'] 67)).alloc (.cells #[.slice a5 m5 c5', .int .i64 ch, .int .i64 mk, .int .i64 sd, .slice a2 m2 c2', .slice a4 m3 c4'] 67) from hW0)
  have B0 := hideG HBB.out.1
  have z0 : w.heap.size + 3 ≤ W0.heap.size := HBB.out.2
  clear hW0
  clear hE2
  go_enter Try.func9, Try.ntmps9
  go_wp2_with fail
  rw [← HW0.out]
  refine (HN1.out W0 B0.out).mono ?_
  rintro e w1 ⟨b1, rfl, S1, -, hb1, -⟩
  have BW1 := hideG hb1
  have B1 := hideG (B0.out.trans (hb1.mono B0.out.size))
  clear hb1
  obtain ⟨⟨x0, x1, x2, x3⟩, six1, six2⟩ := HFA.out w1 BW1.out
  obtain ⟨⟨u0, u1, u2, u3, u4, u5⟩, uf⟩ := six1.cells
  obtain ⟨⟨t0, t1, t2, t3, t4, t5⟩, tf⟩ := six2.cells
  clear six1 six2
  go_wp2_with fail
  refine (HN2.out w1 B1.out).mono ?_
  rintro e w2 ⟨rfl, hb2⟩
  have BW2 := hideG (BW1.out.trans (hb2.mono BW1.out.size))
  have B2 := hideG (B1.out.trans (hb2.mono B1.out.size))
  clear hb2
  clear x0 x1 x2 x3 u0 u1 u2 u3 u4 u5 uf t0 t1 t2 t3 t4 t5 tf
  obtain ⟨⟨x0, x1, x2, x3⟩, six1, six2⟩ := HFA.out w2 BW2.out
  obtain ⟨⟨u0, u1, u2, u3, u4, u5⟩, uf⟩ := six1.cells
  obtain ⟨⟨t0, t1, t2, t3, t4, t5⟩, tf⟩ := six2.cells
  clear six1 six2
  go_wp2_with fail
  refine (HM1.out w2 B2.out).mono ?_
  rintro e w3 ⟨rfl, hb3⟩
  have BW3 := hideG (BW2.out.trans (hb3.mono BW2.out.size))
  have B3 := hideG (B2.out.trans (hb3.mono B2.out.size))
  clear hb3
  clear x0 x1 x2 x3 u0 u1 u2 u3 u4 u5 uf t0 t1 t2 t3 t4 t5 tf
  obtain ⟨⟨x0, x1, x2, x3⟩, six1, six2⟩ := HFA.out w3 BW3.out
  obtain ⟨⟨u0, u1, u2, u3, u4, u5⟩, uf⟩ := six1.cells
  obtain ⟨⟨t0, t1, t2, t3, t4, t5⟩, tf⟩ := six2.cells
  clear six1 six2
  go_wp2_with fail
  refine (HM2.out w3 B3.out).mono ?_
  rintro e w4 ⟨rfl, hb4⟩
  have B4 := hideG (B3.out.trans (hb4.mono B3.out.size))
  clear hb4
  clear x0 x1 x2 x3 u0 u1 u2 u3 u4 u5 uf t0 t1 t2 t3 t4 t5 tf
  go_wp2_with fail
  go_ret
  exact ⟨rfl, B4.out⟩

set_option maxHeartbeats 3000000 in
set_option maxRecDepth 100000 in
theorem walk_ok (N T M D id : Int) (vi vy vm vs : Value) (inp oth sm ss : List Int) (ch mk sd : Int) (a3 : Option Addr) (n3 cap3 : Nat) (Sx : Nat → ByteArray) (w : World) (hi : ListAt w vi inp) (hy : ListAt w vy oth) (hm : ListAt w vm sm) (hs : ListAt w vs ss) (h1 : inI ch) (h2 : inI mk) (h3 : inI sd) (hE1 : newE N T M D id inp ch mk sd sm ss = 0) (hE2 : newE N T M D id oth ch mk sd sm ss = 0) (hst : StrsAt w a3 n3 cap3 Sx) :
    Calls Try.prog 9 #[.agg #[.int .i64 N, .int .i64 T, .int .i64 M, .int .i64 D], .int .i64 id, .agg #[vi, .int .i64 ch, .int .i64 mk, .int .i64 sd, vm, vs], vy, .slice a3 n3 cap3] w fun e w' => e = .returned (.bool true) ∧ Below w.heap.size w w' := by
  have HM1 := hideG (fun (W : World) (hb : Below w.heap.size w W) => kmay_calls N T M D id vi vm vs inp sm ss ch mk sd W (hi.below hb) (hm.below hb) (hs.below hb) h1 h2 h3)
  have HM2 := hideG (fun (W : World) (hb : Below w.heap.size w W) => kmay_calls N T M D id vy vm vs oth sm ss ch mk sd W (hy.below hb) (hm.below hb) (hs.below hb) h1 h2 h3)
  have HN1 := hideG (fun (W : World) (hb : Below w.heap.size w W) => veilNew_ok N T M D id vi vm vs inp sm ss ch mk sd W (hi.below hb) (hm.below hb) (hs.below hb) hE1)
  rw [hE1] at HM1
  have HN2 := hideG (fun (W : World) (hb : Below w.heap.size w W) => veilNew_ok N T M D id vy vm vs oth sm ss ch mk sd W (hy.below hb) (hm.below hb) (hs.below hb) hE2)
  rw [hE2] at HM2
  obtain ⟨g1, g2, g3⟩ := newE_ok hE1
  obtain ⟨g4, g5, g6⟩ := newE_ok hE2
  have hc1 := Cli.good_of g1 g2 g3
  have hc2 := Cli.good_of g4 g5 g6
  obtain ⟨c1, hcc1⟩ : ∃ c : Cli.Cl, c = ⟨N, T, M, id, inp, ch, mk, sd, sm, ss⟩ := ⟨_, rfl⟩
  have hcc2 : (⟨N, T, M, id, oth, ch, mk, sd, sm, ss⟩ : Cli.Cl) = { c1 with inp := oth } := by rw [hcc1]
  have cid : c1.id = id := by rw [hcc1]
  have cin : c1.inp = inp := by rw [hcc1]
  rw [← hcc1] at HN1 hc1
  rw [hcc2] at HN2 hc2
  obtain ⟨c2, hc2e⟩ : ∃ c : Cli.Cl, c = { c1 with inp := oth } := ⟨_, rfl⟩
  rw [← hc2e] at HN2 hc2
  have HSTEP := hideG (fun s zs => (show stepD c2 s zs = stepD c1 s zs by rw [hc2e]; exact step_inp c1 oth s zs))
  have HRELL := hideG (fun s => (show relL c2 s = relL c1 s by rw [hc2e]; exact rel_inp c1 oth s))
  have HHEL := hideG (show helloL c2 = helloL c1 ∧ c2.id = c1.id by rw [hc2e]; exact ⟨hello_inp c1 oth, rfl⟩)
  have HPAIR := hideG (fun s zs => (show _ from ans_pair c1 oth s zs))
  rw [← hc2e] at HPAIR
  have HSH := hideG (fun k l i hi => mask_shift c1 oth k l i hi)
  rw [← hc2e] at HSH
  have HM2M := hideG (show c2.M = c1.M ∧ c2.inp = oth by rw [hc2e]; exact ⟨rfl, rfl⟩)
  have HLI := hideG (fun (W : World) (hb : Below w.heap.size w W) => (show ListAt W vi c1.inp ∧ ListAt W vy oth from ⟨by rw [cin]; exact hi.below hb, hy.below hb⟩))
  have CID := hideG cid
  have CIN := hideG cin
  clear hcc1 hcc2 hc2e g1 g2 g3 g4 g5 g6 hE1 hE2 h1 h2 h3 cid cin
  obtain ⟨l2, l3, hcl⟩ := hst
  replace l3 : cap3 ≤ 9223372036854775807 := by unfold maxLen at l3; omega
  have HST := hideG hcl
  clear hcl
  obtain ⟨a1, c1', rfl, -⟩ := hi
  obtain ⟨a5, c5', rfl, -⟩ := hy
  obtain ⟨a2, c2', rfl, -⟩ := hm
  obtain ⟨a4, c4', rfl, -⟩ := hs
  generalize inp.length = m1 at *
  generalize oth.length = m5 at *
  generalize sm.length = m2 at *
  generalize ss.length = m3 at *
  have HFA := hideG (fun W hb => boxes_facts w N T M D (.slice a1 m1 c1') (.slice a5 m5 c5') (.slice a2 m2 c2') (.slice a4 m3 c4') ch mk sd (W := W) hb)
  have HBB := hideG (boxes_below w N T M D (.slice a1 m1 c1') (.slice a5 m5 c5') (.slice a2 m2 c2') (.slice a4 m3 c4') ch mk sd)
  obtain ⟨W0, hW0⟩ : ∃ W0, W0 = boxes w N T M D (.slice a1 m1 c1') (.slice a5 m5 c5') (.slice a2 m2 c2') (.slice a4 m3 c4') ch mk sd := ⟨_, rfl⟩
  rw [← hW0] at HFA HBB
  have HW0 := hideG (show W0 = ((w.alloc (.cells #[.int .i64 N, .int .i64 T, .int .i64 M, .int .i64 D] 65)).alloc (.cells #[.slice a1 m1 c1', .int .i64 ch, .int .i64 mk, .int .i64 sd, .slice a2 m2 c2', .slice a4 m3 c4'] 67)).alloc (.cells #[.slice a5 m5 c5', .int .i64 ch, .int .i64 mk, .int .i64 sd, .slice a2 m2 c2', .slice a4 m3 c4'] 67) from hW0)
  have B0 := hideG HBB.out.1
  have z0 : w.heap.size + 3 ≤ W0.heap.size := HBB.out.2
  clear hW0
  go_enter Try.func9, Try.ntmps9
  go_wp2_with fail
  rw [← HW0.out]
  refine (HN1.out W0 B0.out).mono ?_
  rintro e w1 ⟨b1, rfl, S1, hcw1, hb1, hfo1⟩
  have BW1 := hideG hb1
  have B1 := hideG (B0.out.trans (hb1.mono B0.out.size))
  have CW1 := hideG hcw1
  have lo1 : W0.heap.size ≤ b1 := hfo1 b1 (.inl rfl)
  clear hb1 hcw1 hfo1
  obtain ⟨⟨x0, x1, x2, x3⟩, six1, six2⟩ := HFA.out w1 BW1.out
  obtain ⟨⟨u0, u1, u2, u3, u4, u5⟩, uf⟩ := six1.cells
  obtain ⟨⟨t0, t1, t2, t3, t4, t5⟩, tf⟩ := six2.cells
  clear six1 six2
  go_wp2_with fail
  refine (HN2.out w1 B1.out).mono ?_
  rintro e w2 ⟨b2, rfl, S2, hcw2, hb2, hfo2⟩
  have IV2 := hideG (show Inv W0 b1 b2 c1 c2 w2 (1, [], [], []) S1 S2 from ⟨CW1.out.below hb2, hcw2, fun x h1 h2 => by have := CW1.out.low x h1; have := hfo2 x h2; omega, BW1.out.trans (hb2.mono BW1.out.size), ⟨lo1, by have := hfo2 b2 (.inl rfl); have := BW1.out.size; omega⟩⟩)
  have BW2 := hideG IV2.out.below
  have B2 := hideG (B0.out.trans (BW2.out.mono B0.out.size))
  clear hb2 hcw2 hfo2
  clear x0 x1 x2 x3 u0 u1 u2 u3 u4 u5 uf t0 t1 t2 t3 t4 t5 tf
  obtain ⟨⟨x0, x1, x2, x3⟩, six1, six2⟩ := HFA.out w2 BW2.out
  obtain ⟨⟨u0, u1, u2, u3, u4, u5⟩, uf⟩ := six1.cells
  obtain ⟨⟨t0, t1, t2, t3, t4, t5⟩, tf⟩ := six2.cells
  clear six1 six2
  go_wp2_with fail
  refine (HM1.out w2 B2.out).mono ?_
  rintro e w3 ⟨rfl, hb3⟩
  have IV3 := hideG (IV2.out.grow hb3)
  have BW3 := hideG IV3.out.below
  have B3 := hideG (B0.out.trans (BW3.out.mono B0.out.size))
  clear hb3
  clear x0 x1 x2 x3 u0 u1 u2 u3 u4 u5 uf t0 t1 t2 t3 t4 t5 tf
  obtain ⟨⟨x0, x1, x2, x3⟩, six1, six2⟩ := HFA.out w3 BW3.out
  obtain ⟨⟨u0, u1, u2, u3, u4, u5⟩, uf⟩ := six1.cells
  obtain ⟨⟨t0, t1, t2, t3, t4, t5⟩, tf⟩ := six2.cells
  clear six1 six2
  go_wp2_with fail
  refine (HM2.out w3 B3.out).mono ?_
  rintro e w4 ⟨rfl, hb4⟩
  have IV4 := hideG (IV3.out.grow hb4)
  clear hb4
  clear x0 x1 x2 x3 u0 u1 u2 u3 u4 u5 uf t0 t1 t2 t3 t4 t5 tf
  go_wp2_with fail
  refine (cliHello hc1 IV4.out.one).mono ?_
  rintro e w5 ⟨va, rfl, ho5, hb5⟩
  have IV5 := hideG (IV4.out.grow hb5)
  have BA5 := hideG (bytesAt_of_owns ho5 (encF_isB (helloL_ok hc1)))
  obtain ⟨pa, qa, hva⟩ := owns_form ho5
  subst hva
  clear ho5 hb5
  go_wp2_with fail
  have H2 := hideG (cliHello hc2 IV5.out.two)
  rw [HHEL.out.1, HHEL.out.2] at H2
  refine H2.out.mono ?_
  rintro e w6 ⟨vb, rfl, ho6, hb6⟩
  have IV6 := hideG (IV5.out.grow hb6)
  have BA6 := hideG (BA5.out.below hb6)
  have BB6 := hideG (bytesAt_of_owns ho6 (encF_isB (helloL_ok hc1)))
  obtain ⟨pb, qb, hvb⟩ := owns_form ho6
  subst hvb
  have GR := hideG (kgreets_yes c1.id _ (helloL c1) w6 (helloL_ok hc1) BA6.out)
  rw [CID.out] at GR BA6 BB6 ⊢
  clear ho6 hb6
  go_wp2_with fail
  refine GR.out.mono ?_
  rintro e w7 ⟨rfl, hb7⟩
  have IV7 := hideG (IV6.out.grow hb7)
  have hcs1 := conv_str (BA6.out.below hb7)
  have hcs2 := conv_str (BB6.out.below hb7)
  obtain ⟨SG, hSG⟩ : ∃ SG, SG = strOfNums (Frm.encF 1 id (helloL c1)) := ⟨_, rfl⟩
  rw [← hSG] at hcs1 hcs2
  have ess : (SG.toList == SG.toList) = true := by simp
  clear hb7 hSG
  go_wp2_with fail
  clear hcs1 hcs2 ess
  go_loopw [21] (fun i wr => ∃ (j : Nat) (s : Cli.St) (S1 S2 : PS), j ≤ n3 ∧ i = .int .i64 j ∧ Inv W0 b1 b2 c1 c2 wr s S1 S2) (fun i _ => n3 - (intOf i).toNat)
  case atStart => exact ⟨0, _, _, _, Nat.zero_le _, rfl, IV7.out⟩
  case round =>
    obtain ⟨j, s, S1, S2, hj, rfl, hinv⟩ := hrel
    have IV := hideG hinv
    clear hinv
    by_cases hlt : j < n3
    · obtain ⟨hsz, b', off, rfl, hb', hcel⟩ := HST.out j hlt
      have y0 := ((B0.out.trans (IV.out.below.mono B0.out.size)).cell (p := ⟨b', off + j, none⟩) hb').trans hcel
      obtain ⟨v0, w0, hcv, hba, hb0⟩ := conv_ex wr (Sx j) hsz
      have I0 := hideG (IV.out.grow hb0)
      have s0 := hb0.size
      have TK := hideG (veilTake_calls b1 c1 s S1 v0 (bl (Sx j)) w0 hc1 I0.out.one hba)
      have HSZ := hideG hsz
      clear hba hb0 hsz
      go_wp2_with fail
      refine TK.out.mono ?_
      rintro e w1 ⟨va, rfl, S1', ht1, hans1⟩
      have lo := I0.out.lo
      have hne : b1 ≠ b2 := fun e => I0.out.apart b1 (.inl rfl) (.inl e)
      have bl1 : b1 < w0.heap.size := I0.out.one.low b1 (.inl rfl)
      have bl2 : b2 < w0.heap.size := I0.out.two.low b2 (.inl rfl)
      have two1 : CliW w1 b2 c2 s S2 := I0.out.two.chg ht1.chg (fun x hx e => I0.out.apart x (.inl e) hx)
      have hB1 : Below W0.heap.size W0 w1 := I0.out.below.trans (ht1.chg.below I0.out.below.size (fun x e => by omega))
      have y1 := ((B0.out.trans (hB1.mono B0.out.size)).cell (p := ⟨b', off + j, none⟩) hb').trans hcel
      obtain ⟨v1, w1', hcv1, hba1, hb1'⟩ := conv_ex w1 (Sx j) HSZ.out
      have sz1 := ht1.chg.size
      have s1' := hb1'.size
      have TK2 := hideG (veilTake_calls b2 c2 s S2 v1 (bl (Sx j)) w1' hc2 (two1.below hb1') hba1)
      rw [HSTEP.out] at TK2
      obtain ⟨ap, np, cp, hvp⟩ := hans1.form
      have HT1 := hideG ht1
      have HA1 := hideG hans1
      have HB1' := hideG hb1'
      have HBB1 := hideG hB1
      have HOLD := hideG (fun x (hx : va.ownBlock = some x) => (show w0.heap.size ≤ x ∨ False by
        left
        cases ho : ansD c1 s (bl (Sx j)) with
        | none => rw [ho] at hans1; rw [show va = .slice none 0 0 from hans1, nil_own] at hx; cases hx
        | some f => rw [ho] at hans1; exact (hans1.1.lt x hx).1))
      have AB1 := hideG (ans_bytes hc1 hans1)
      rw [hvp] at HA1 HOLD AB1 ⊢
      clear ht1 hans1 hb1' hB1 two1 hba1 hvp hcv y0
      go_wp2_with fail
      refine TK2.out.mono ?_
      rintro e w2 ⟨vb, rfl, S2', ht2, hans2⟩
      obtain ⟨s', hs'⟩ : ∃ s', s' = stepD c1 s (bl (Sx j)) := ⟨_, rfl⟩
      rw [← hs'] at HT1 ht2
      have HREL := hideG (HRELL.out s')
      have sz2 := ht2.chg.size
      have IVa : Inv W0 b1 b2 c1 c2 w2 s' S1' S2' :=
        { one := (HT1.out.cli.below HB1'.out).chg ht2.chg (fun x hx e => by
            rcases HT1.out.foot x hx with h | h
            · exact I0.out.apart x h (.inl e)
            · omega),
          two := ht2.cli,
          apart := fun x h1 h2 => by
            have l1 := HT1.out.cli.low x h1
            rcases HT1.out.foot x h1 with h | h <;> rcases ht2.foot x h2 with h' | h'
            · exact I0.out.apart x h h'
            · omega
            · have := I0.out.two.low x h'; omega
            · omega
          below := (HBB1.out.trans (HB1'.out.mono HBB1.out.size)).trans (ht2.chg.below (Nat.le_trans HBB1.out.size s1') (fun x e => by omega)),
          lo := lo }
      have IVA := hideG IVa
      have AB2 := hideG (ans_bytes hc2 hans2)
      have HCH2 := hideG ht2.chg
      obtain ⟨aq, nq', cq, hvq⟩ := hans2.form
      rw [hvq] at AB2 ⊢
      clear hs' IVa ht2 hans2 hvq hcv1 y1
      have AB1' := hideG (fun (E : List Int) (h : BytesAt w1 (.slice ap np cp) E) => (show BytesAt w2 (.slice ap np cp) E from (h.below HB1'.out).chg HCH2.out (fun x hx e => by
        rcases HOLD.out x hx with h | h
        · omega
        · exact h)))
      rcases HPAIR.out s (bl (Sx j)) with ⟨e1, e2⟩ | ⟨k, l, hk5, e1, e2⟩ | ⟨k, l, e1, e2⟩
      · rw [e1] at AB1
        rw [e2] at AB2
        have q1 : Value.slice ap np cp = .slice none 0 0 := AB1.out
        have q2 : Value.slice aq nq' cq = .slice none 0 0 := AB2.out
        rw [q1, q2]
        clear q1 q2
        have hcs1 := conv_str (show BytesAt w2 (.slice none 0 0) [] from ⟨none, 0, rfl, by simp, Nat.zero_le _, (fun x hx => by cases hx), .inl rfl⟩)
        obtain ⟨SG, hSG⟩ : ∃ SG, SG = strOfNums ([] : List Int) := ⟨_, rfl⟩
        rw [← hSG] at hcs1
        have ess : (SG.toList == SG.toList) = true := by simp
        clear hSG
        go_wp2_with fail
        refine (kmasks_nil w2).mono ?_
        rintro e w' ⟨rfl, hw'⟩
        rw [hw']
        clear hw'
        have IVT := hideG (IVA.out)
        go_wp2_with fail
        refine (cliPhase IVT.out.one).mono ?_
        rintro e w' ⟨rfl, hw'⟩
        rw [hw']
        clear hw'
        go_wp2_with fail
        refine (cliPhase IVT.out.two).mono ?_
        rintro e w' ⟨rfl, hw'⟩
        rw [hw']
        clear hw'
        go_wp2_with fail
        refine (cliReleased hc1 IVT.out.one).mono ?_
        rintro e w5 ⟨vr, rfl, ho5, hb5⟩
        have IV5 := hideG (IVT.out.grow hb5)
        have IT5 := hideG (itemsAt_of_owns ho5 (relL_in hc1 _))
        obtain ⟨p5, r5, hv5⟩ := owns_form ho5
        subst hv5
        clear ho5 hb5
        go_wp2_with fail
        refine (cliReleased hc2 IV5.out.two).mono ?_
        rintro e w6 ⟨vs', rfl, ho6, hb6⟩
        have IV6 := hideG (IV5.out.grow hb6)
        have IT6 := hideG (itemsAt_of_owns ho6 (relL_in hc2 _))
        have IT56 := hideG (IT5.out.below hb6)
        obtain ⟨p6, r6, hv6⟩ := owns_form ho6
        subst hv6
        have SI := hideG (ksameItems_same _ _ (relL c1 s') w6 IT56.out (by have := IT6.out; rw [HREL.out] at this; exact this))
        rw [HREL.out]
        clear ho6 hb6
        go_wp2_with fail
        refine SI.out.mono ?_
        rintro e w7 ⟨rfl, nq, hw7⟩
        have hb7 : Below w6.heap.size w6 w7 := by rw [hw7]; exact below_drewN _ _
        have IV7 := hideG (IV6.out.grow hb7)
        clear hw7 hb7
        have epp : (s'.1 != s'.1) = false := by simp
        go_wp2_with fail
        go_roundw
        case rel => exact ⟨j + 1, _, _, _, by omega, by go_num, IV7.out⟩
        case measure => simp [intOf]; omega
      · rw [e1] at AB1
        rw [e2] at AB2
        have bb1 : BytesAt w2 (.slice ap np cp) (Frm.encF k c1.id l) := AB1'.out _ AB1.out
        have bb2 : BytesAt w2 (.slice aq nq' cq) (Frm.encF k c1.id l) := AB2.out
        have hcs1 := conv_str bb1
        have hcs2 := conv_str bb2
        obtain ⟨SG, hSG⟩ : ∃ SG, SG = strOfNums (Frm.encF k c1.id l) := ⟨_, rfl⟩
        rw [← hSG] at hcs1 hcs2
        have ess : (SG.toList == SG.toList) = true := by simp
        have MK := hideG (kmasks_enc k c1.id l _ false hk5 w2 bb1)
        clear hSG bb1 bb2
        go_wp2_with fail
        refine MK.out.mono ?_
        rintro e w' ⟨rfl, hw'⟩
        rw [hw']
        clear hw'
        have IVT := hideG (IVA.out)
        go_wp2_with fail
        refine (cliPhase IVT.out.one).mono ?_
        rintro e w' ⟨rfl, hw'⟩
        rw [hw']
        clear hw'
        go_wp2_with fail
        refine (cliPhase IVT.out.two).mono ?_
        rintro e w' ⟨rfl, hw'⟩
        rw [hw']
        clear hw'
        go_wp2_with fail
        refine (cliReleased hc1 IVT.out.one).mono ?_
        rintro e w5 ⟨vr, rfl, ho5, hb5⟩
        have IV5 := hideG (IVT.out.grow hb5)
        have IT5 := hideG (itemsAt_of_owns ho5 (relL_in hc1 _))
        obtain ⟨p5, r5, hv5⟩ := owns_form ho5
        subst hv5
        clear ho5 hb5
        go_wp2_with fail
        refine (cliReleased hc2 IV5.out.two).mono ?_
        rintro e w6 ⟨vs', rfl, ho6, hb6⟩
        have IV6 := hideG (IV5.out.grow hb6)
        have IT6 := hideG (itemsAt_of_owns ho6 (relL_in hc2 _))
        have IT56 := hideG (IT5.out.below hb6)
        obtain ⟨p6, r6, hv6⟩ := owns_form ho6
        subst hv6
        have SI := hideG (ksameItems_same _ _ (relL c1 s') w6 IT56.out (by have := IT6.out; rw [HREL.out] at this; exact this))
        rw [HREL.out]
        clear ho6 hb6
        go_wp2_with fail
        refine SI.out.mono ?_
        rintro e w7 ⟨rfl, nq, hw7⟩
        have hb7 : Below w6.heap.size w6 w7 := by rw [hw7]; exact below_drewN _ _
        have IV7 := hideG (IV6.out.grow hb7)
        clear hw7 hb7
        have epp : (s'.1 != s'.1) = false := by simp
        go_wp2_with fail
        go_roundw
        case rel => exact ⟨j + 1, _, _, _, by omega, by go_num, IV7.out⟩
        case measure => simp [intOf]; omega
      · have ok1 := ansD_ok hc1 e1
        have ok2 := ansD_ok hc2 e2
        rw [e1] at AB1
        rw [e2] at AB2
        have bb1 : BytesAt w2 (.slice ap np cp) (Frm.encF 5 c1.id (Cli.masking c1 k l)) := AB1'.out _ AB1.out
        have bb2 : BytesAt w2 (.slice aq nq' cq) (Frm.encF 5 c1.id (Cli.masking c2 k l)) := AB2.out
        have MK := hideG (kmasks_enc 5 c1.id (Cli.masking c1 k l) _ true rfl w2 bb1)
        have hB2 : Below w.heap.size w w2 := B0.out.trans (IVA.out.below.mono B0.out.size)
        have wl : ∀ (cc : Cli.Cl) (i : Nat), i < cc.M.toNat → 0 ≤ (Frm.it (Cli.masking cc k l) i).2.1 ∧ (Frm.it (Cli.masking cc k l) i).2.1 < 4294967296 := fun cc i hi => by
          rw [Cli.masking_it cc k l i hi]
          show 0 ≤ Cli.maskSum cc k l i % 4294967296 ∧ Cli.maskSum cc k l i % 4294967296 < 4294967296
          omega
        have hl1 := hc1.len
        have hl2 := hc2.len
        rw [HM2M.out.1, HM2M.out.2] at hl2
        have SHF := hideG (kshifted_yes c1.id (Cli.masking c1 k l) (Cli.masking c2 k l) c1.inp oth _ _ _ _ c1.M.toNat w2 ok1 ok2 bb1 bb2 (HLI.out w2 hB2).1 (HLI.out w2 hB2).2 (Cli.masking_length c1 k l) (by rw [Cli.masking_length, HM2M.out.1]) (by omega) (by omega) hc1.inp (by have := hc2.inp; rw [HM2M.out.2] at this; exact this)
          (fun i hi => ⟨wl c1 i hi, wl c2 i (by rw [HM2M.out.1]; exact hi), HSH.out k l i hi⟩))
        obtain ⟨-, six1, -⟩ := HFA.out w2 IVA.out.below
        obtain ⟨⟨u0, -⟩, -⟩ := six1.cells
        clear bb1 bb2 hB2 wl hl1 hl2 ok1 ok2 six1
        go_wp2_with fail
        refine MK.out.mono ?_
        rintro e w' ⟨rfl, hw'⟩
        rw [hw']
        clear hw'
        go_wp2_with fail
        refine SHF.out.mono ?_
        rintro e w4 ⟨rfl, hb4⟩
        have IVB := hideG (IVA.out.grow hb4)
        clear hb4 u0
        have IVT := hideG (IVB.out)
        go_wp2_with fail
        refine (cliPhase IVT.out.one).mono ?_
        rintro e w' ⟨rfl, hw'⟩
        rw [hw']
        clear hw'
        go_wp2_with fail
        refine (cliPhase IVT.out.two).mono ?_
        rintro e w' ⟨rfl, hw'⟩
        rw [hw']
        clear hw'
        go_wp2_with fail
        refine (cliReleased hc1 IVT.out.one).mono ?_
        rintro e w5 ⟨vr, rfl, ho5, hb5⟩
        have IV5 := hideG (IVT.out.grow hb5)
        have IT5 := hideG (itemsAt_of_owns ho5 (relL_in hc1 _))
        obtain ⟨p5, r5, hv5⟩ := owns_form ho5
        subst hv5
        clear ho5 hb5
        go_wp2_with fail
        refine (cliReleased hc2 IV5.out.two).mono ?_
        rintro e w6 ⟨vs', rfl, ho6, hb6⟩
        have IV6 := hideG (IV5.out.grow hb6)
        have IT6 := hideG (itemsAt_of_owns ho6 (relL_in hc2 _))
        have IT56 := hideG (IT5.out.below hb6)
        obtain ⟨p6, r6, hv6⟩ := owns_form ho6
        subst hv6
        have SI := hideG (ksameItems_same _ _ (relL c1 s') w6 IT56.out (by have := IT6.out; rw [HREL.out] at this; exact this))
        rw [HREL.out]
        clear ho6 hb6
        go_wp2_with fail
        refine SI.out.mono ?_
        rintro e w7 ⟨rfl, nq, hw7⟩
        have hb7 : Below w6.heap.size w6 w7 := by rw [hw7]; exact below_drewN _ _
        have IV7 := hideG (IV6.out.grow hb7)
        clear hw7 hb7
        have epp : (s'.1 != s'.1) = false := by simp
        go_wp2_with fail
        go_roundw
        case rel => exact ⟨j + 1, _, _, _, by omega, by go_num, IV7.out⟩
        case measure => simp [intOf]; omega
    · go_wp2_with fail
      go_ret
      exact ⟨rfl, B0.out.trans (IV.out.below.mono B0.out.size)⟩

theorem walk (N T M D id : Int) (vi vy vm vs : Value) (inp oth sm ss : List Int) (ch mk sd : Int) (a3 : Option Addr) (n3 cap3 : Nat) (Sx : Nat → ByteArray) (w : World) (hi : ListAt w vi inp) (hy : ListAt w vy oth) (hm : ListAt w vm sm) (hs : ListAt w vs ss) (h1 : inI ch) (h2 : inI mk) (h3 : inI sd) (hst : StrsAt w a3 n3 cap3 Sx) :
    Calls Try.prog 9 #[.agg #[.int .i64 N, .int .i64 T, .int .i64 M, .int .i64 D], .int .i64 id, .agg #[vi, .int .i64 ch, .int .i64 mk, .int .i64 sd, vm, vs], vy, .slice a3 n3 cap3] w fun e w' => e = .returned (.bool true) ∧ Below w.heap.size w w' := by
  by_cases hE1 : newE N T M D id inp ch mk sd sm ss = 0
  · by_cases hE2 : newE N T M D id oth ch mk sd sm ss = 0
    · exact walk_ok N T M D id vi vy vm vs inp oth sm ss ch mk sd a3 n3 cap3 Sx w hi hy hm hs h1 h2 h3 hE1 hE2 hst
    · exact walk_01 N T M D id vi vy vm vs inp oth sm ss ch mk sd a3 n3 cap3 Sx w hi hy hm hs h1 h2 h3 hE1 hE2
  · by_cases hE2 : newE N T M D id oth ch mk sd sm ss = 0
    · exact walk_10 N T M D id vi vy vm vs inp oth sm ss ch mk sd a3 n3 cap3 Sx w hi hy hm hs h1 h2 h3 hE1 hE2
    · exact walk_11 N T M D id vi vy vm vs inp oth sm ss ch mk sd a3 n3 cap3 Sx w hi hy hm hs h1 h2 h3 hE1 hE2

/-! ### The row's step -/
set_option maxRecDepth 100000 in
theorem lifted (os : Os) (started : os.Started) (H : Type) (enc : TypeId × Value → H) :
    ReturnsInHanded {} Try.checked os 9 .any (Rows.veiledSpec.pre6 enc Try.prog Try.f9 Rows.veiledRow.domain false) (Rows.veiledSpec.post enc Try.prog Try.f9 false true false false) := by
  refine returnsInHanded_of_change (C := Try.checked) own started (by kernel_rfl) Try.func9
    (ChangeSpec.witness6 (enc := enc) (C := Try.checked) false ⟨#[], #[.agg #[.int .i64 0, .int .i64 0, .int .i64 0, .int .i64 0], .int .i64 0, .agg #[.slice none 0 0, .int .i64 0, .int .i64 0, .int .i64 0, .slice none 0 0, .slice none 0 0], .slice none 0 0, .slice none 0 0], []⟩ 8 (by kernel_rfl) (by kernel_rfl) (by kernel_rfl) (by kernel_rfl)) ?_
  intro W base args ds gs before hval0 hW hcnd _
  have hval : ∀ (j : Nat) t v, Try.f9.params[j]? = some t → args[j]? = some v → Value.okWide Try.prog W .any base t v := hval0
  have hW' := hW
  obtain ⟨p, q, hA0, hV, rfl, hfz, hnd⟩ := hW
  have hA : DataW.TrodAll enc Try.prog W 0 (fun _ => true) true Try.f9.params.toList args.toList ds p := hA0
  rw [Try.params9] at hA hval
  obtain ⟨v0, vs0, d0, ds0, p0, q0, hargs, rfl, rfl, h0, r0⟩ := trodAll_cons hA
  obtain ⟨v1, vs1, d1, ds1, p1, q1, rfl, rfl, rfl, h1, r1⟩ := trodAll_cons r0
  obtain ⟨v2, vs2, d2, ds2, p2, q2, rfl, rfl, rfl, h2, r2⟩ := trodAll_cons r1
  obtain ⟨v3, vs3, d3, ds3, p3, q3, rfl, rfl, rfl, h3, r3⟩ := trodAll_cons r2
  obtain ⟨v4, vs4, d4, ds4, p4, q4, rfl, rfl, rfl, h4, r4⟩ := trodAll_cons r3
  obtain ⟨rfl, rfl, rfl⟩ := trodAll_nil r4
  obtain rfl : args = #[v0, v1, v2, v3, v4] := by cases args; simp_all
  obtain ⟨rfl, rfl⟩ := trodVars_none hV
  have k0 := h0
  have k2 := h2
  have k3 := h3
  have k4 := h4
  have lt0 : ∀ x ∈ p0, x.block < W.heap.size := by obtain ⟨m, hm⟩ := k0; exact DataW.trod_lt m _ _ _ hm
  have lt2 : ∀ x ∈ p2, x.block < W.heap.size := by obtain ⟨m, hm⟩ := k2; exact DataW.trod_lt m _ _ _ hm
  have lt3 : ∀ x ∈ p3, x.block < W.heap.size := by obtain ⟨m, hm⟩ := k3; exact DataW.trod_lt m _ _ _ hm
  have lt4 : ∀ x ∈ p4, x.block < W.heap.size := by obtain ⟨m, hm⟩ := k4; exact DataW.trod_lt m _ _ _ hm
  obtain ⟨N, T, M, D, rfl⟩ := cfg_open (hval 0 65 v0 rfl rfl) h0
  obtain ⟨a1, rfl, rfl, rfl, w1⟩ := open_int Try.underlying3 (hval 1 3 v1 rfl rfl) h1
  obtain ⟨vi, vm, vs, ch, mk, sd, inp, sm, ss, rfl, li, lm, ls, i1, i2, i3⟩ := draw_open (hval 2 67 v2 rfl rfl) h2
  obtain ⟨a5, n5, cap5, rfl⟩ := okWide_slice Try.underlying28 (hval 3 28 v3 rfl rfl)
  obtain ⟨oth, ly⟩ : ∃ zs, ListAt W (.slice a5 n5 cap5) zs := by obtain ⟨m, hm⟩ := h3; exact alist_of (by simpa [Value.cells] using hm)
  obtain ⟨a3, n3, cap3, rfl⟩ := okWide_slice Try.underlying68 (hval 4 68 v4 rfl rfl)
  obtain ⟨Sx, hSx⟩ := strs_open h4
  clear hA0 hval0
  refine (walk N T M D a1 vi _ vm vs inp oth sm ss ch mk sd a3 n3 cap3 Sx W li ly lm ls i1 i2 i3 hSx).mono fun e W' ⟨he, bel⟩ => ?_
  subst he
  exact ⟨_, rfl, _, _, _, [], _, [], hW', trodAll_mk1 (shut_bool Try.underlying4 _), (trodAll_cons_mk (Below.trod laidOut (by kernel_rfl) (of_decide_eq_true (by kernel_rfl)) k0 bel lt0) (trodAll_cons_mk (shut_int Try.underlying3 w1) (trodAll_cons_mk (Below.trod laidOut (by kernel_rfl) (of_decide_eq_true (by kernel_rfl)) k2 bel lt2) (trodAll_cons_mk (Below.trod laidOut (by kernel_rfl) (of_decide_eq_true (by kernel_rfl)) k3 bel lt3) (trodAll_cons_mk (Below.trod laidOut (by kernel_rfl) (of_decide_eq_true (by kernel_rfl)) k4 bel lt4) trodAll_mk0))))), rfl, bel.frame _, fun h => by cases h⟩

theorem over : Rows.veiledRow.holds Try.pinned (OpenSpec.ofChange Rows.veiledSpec) :=
  OpenClaim.holds_of_wide 9 Try.f9 rfl rfl rfl rfl rfl rfl rfl ⟨rfl, rfl, rfl, rfl, rfl⟩ rfl rfl rfl rfl rfl (by kernel_rfl) Try.func9 (by kernel_rfl)
    (of_decide_eq_true (by kernel_rfl)) (by unfold Func.isWrapper; first | (rw [if_pos (by decide +kernel)]; kernel_rfl) | (rw [if_neg (by decide +kernel)]; exact ⟨rfl, rfl⟩))
    (fun os started H enc _ => lifted os started H enc)

end Go.Proofs.Ytchideljndagjaa.veiled
namespace Go.Proofs.Ytchideljndagjaa

/-- The statement. -/
theorem veiled_holds : Rows.VeiledSaid := veiled.over
#print axioms veiled_holds
end Go.Proofs.Ytchideljndagjaa
