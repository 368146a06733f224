/- Contract of package veilkeep: two sessions tell the same of themselves. -/
import Derived.Test.YtchideljndagjabGreatPkQuBI
import Derived.Test.YtchideljndagjabGreatPkQuBK
import Derived.Test.YtchideljndagjabGreatPkQuAB
import Derived.Test.YtchideljndagjabGreatPkQuAC
import Derived.Deep.Strs
import Derived.ChangeOld
import Derived.ShutString
import Derived.Test.YtchideljndagjabGreatPkQuBD
import Derived.Deep.Slices
import Derived.Test.YtchideljndagjabGreatRows
import Derived.JoinedOf
namespace Go.Proofs.YtchideljndagjabGreat
open Go.ChangeShapes Go.WideShapes Go.ChangeAt Go.RowKit
set_option linter.unusedVariables false

theorem inI_of {zs : List Int} (h : ∀ z ∈ zs, 0 ≤ z ∧ z ≤ 4294967296) : ∀ z ∈ zs, inI z := fun z hz => by have := h z hz; unfold inI; omega
theorem relL_inK {c : Cli.Cl} (hc : Cli.Good c) (s : Cli.St) : ∀ x ∈ relL c s, inIt x := by
  unfold relL
  split
  · exact okF_in (Cli.tells_ok hc _ _ _)
  · intro x hx; cases hx
theorem relN_in {C : Srv.Cf} {cl : Nat → Cli.Cl} {n : Nat} {s : Sn} (ok : SnOk C cl n s) (u : Int) : ∀ x ∈ relN cl n s u, inIt x := by
  unfold relN
  split
  · exact relL_inK (ok.good _ (by omega)) _
  · intro x hx; cases hx

set_option maxHeartbeats 4000000 in
set_option maxRecDepth 100000 in
theorem ktwins_calls {w : World} {bx by_ n : Nat} {C : Srv.Cf} {cl : Nat → Cli.Cl} {s : Sn} {mx my : SM} (hx : SesAt w bx n C cl s mx) (hy : SesAt w by_ n C cl s my) (ok : SnOk C cl n s) (hB : FlB s) (ho : OutOk C s.q.out) (hn : n ≤ 12) :
    Calls Tryz.prog 23 #[.pointer (some ⟨bx, 0, none⟩), .pointer (some ⟨by_, 0, none⟩), .int .i64 n] w fun e w' => e = .returned (.bool true) ∧ Below w.heap.size w w' := by
  have HFX := hideG (fun (W : World) (hb : Below w.heap.size w W) => flight_at hx ok hb)
  have HFY := hideG (fun (W : World) (hb : Below w.heap.size w W) => flight_at hy ok hb)
  have HOX := hideG (fun (W : World) (hb : Below w.heap.size w W) => vOutcome (hx.below hb) ok)
  have HOY := hideG (fun (W : World) (hb : Below w.heap.size w W) => vOutcome (hy.below hb) ok)
  have HRX := hideG (fun (W : World) (hb : Below w.heap.size w W) (u : Int) => vReleased (hx.below hb) ok u)
  have HRY := hideG (fun (W : World) (hb : Below w.heap.size w W) (u : Int) => vReleased (hy.below hb) ok u)
  have HFB := hideG hB
  have HRI := hideG (fun u => relN_in ok u)
  obtain ⟨i1, i2⟩ := ho.ints ok.gc
  have HI1 := hideG (inI_of i1)
  have HI2 := hideG (inI_of i2)
  clear hx hy ok hB ho i1 i2
  obtain ⟨st, hst⟩ : ∃ st, st = s.q.out.1 := ⟨_, rfl⟩
  obtain ⟨ro, hro⟩ : ∃ ro, ro = s.q.out.2.1 := ⟨_, rfl⟩
  obtain ⟨ls, hls⟩ : ∃ ls, ls = s.q.out.2.2.1 := ⟨_, rfl⟩
  obtain ⟨us, hus⟩ : ∃ us, us = s.q.out.2.2.2 := ⟨_, rfl⟩
  rw [← hst, ← hro, ← hls, ← hus] at HOX HOY
  rw [← hls] at HI1
  rw [← hus] at HI2
  clear hst hro hls hus
  go_enter Tryz.func23, Tryz.ntmps23
  go_wp2_with fail
  refine (HFX.out w (Below.refl _ _)).mono ?_
  rintro e w1 ⟨v1, vs1, rfl, hp1, hb1⟩
  have B1 := hideG hb1
  have P1 := hideG hp1
  obtain ⟨a1, c1, rfl, -⟩ := hp1.viewK
  clear hp1 hb1
  go_wp2_with fail
  refine (HFY.out w1 B1.out).mono ?_
  rintro e w2 ⟨v2, vs2, rfl, hp2, hb2⟩
  have P12 := hideG (P1.out.below hb2)
  have P2 := hideG hp2
  have B2 := hideG (B1.out.trans (hb2.mono B1.out.size))
  obtain ⟨a2, c2, rfl, -⟩ := hp2.viewK
  clear hp2 hb2
  go_wp2_with fail
  refine (HOX.out w2 B2.out).mono ?_
  rintro e w3 ⟨va, vb, rfl, ht⟩
  have hb3 := ht.2.2.2
  obtain ⟨a3, c3, e3⟩ := owns_form ht.1
  obtain ⟨a4, c4, e4⟩ := owns_form ht.2.1
  have LA := hideG (listAt_of_owns ht.1 HI1.out)
  have LB := hideG (listAt_of_owns ht.2.1 HI2.out)
  subst e3; subst e4
  obtain ⟨w3', hw3⟩ : ∃ w3', w3' = w3.alloc (.cells #[.int .i64 st, .int .i64 ro, .slice a3 ls.length c3, .slice a4 us.length c4] 35) := ⟨_, rfl⟩
  have hb3' : Below w3.heap.size w3 w3' := by rw [hw3]; exact (Below.refl _ _).alloc (Nat.le_refl _) _
  have z3' : w3.heap.size < w3'.heap.size := by rw [hw3]; simp
  have R3 := hideG (show w3'.heap[w3.heap.size]? = some (.cells #[.int .i64 st, .int .i64 ro, .slice a3 ls.length c3, .slice a4 us.length c4] 35 (0, 0)) by rw [hw3]; exact heap_alloc_new w3 _)
  have BB3 := hideG (hb3.trans (hb3'.mono hb3.size))
  have P13 := hideG (P12.out.below BB3.out)
  have P23 := hideG (P2.out.below BB3.out)
  have LA3 := hideG (LA.out.below hb3')
  have LB3 := hideG (LB.out.below hb3')
  have B3 := hideG (B2.out.trans (BB3.out.mono B2.out.size))
  have HW3 := hideG hw3
  clear ht hb3 hb3' hw3 LA LB
  go_upto_region 4 with fail
  rw [← HW3.out]
  go_wp2_with fail
  refine (HOY.out w3' B3.out).mono ?_
  rintro e w4 ⟨vc, vd, rfl, ht⟩
  have hb4 := ht.2.2.2
  have z4 := hb4.size
  obtain ⟨a5, c5, e5⟩ := owns_form ht.1
  obtain ⟨a6, c6, e6⟩ := owns_form ht.2.1
  have LC := hideG (listAt_of_owns ht.1 HI1.out)
  have LD := hideG (listAt_of_owns ht.2.1 HI2.out)
  subst e5; subst e6
  obtain ⟨w4', hw4⟩ : ∃ w4', w4' = w4.alloc (.cells #[.int .i64 st, .int .i64 ro, .slice a5 ls.length c5, .slice a6 us.length c6] 35) := ⟨_, rfl⟩
  have hb4' : Below w4.heap.size w4 w4' := by rw [hw4]; exact (Below.refl _ _).alloc (Nat.le_refl _) _
  have z4' : w4.heap.size < w4'.heap.size := by rw [hw4]; simp
  have R4 := hideG (show w4'.heap[w4.heap.size]? = some (.cells #[.int .i64 st, .int .i64 ro, .slice a5 ls.length c5, .slice a6 us.length c6] 35 (0, 0)) by rw [hw4]; exact heap_alloc_new w4 _)
  have BB4 := hideG (hb4.trans (hb4'.mono z4))
  have R34 := hideG ((BB4.out.block w3.heap.size z3').trans R3.out)
  have P14 := hideG (P13.out.below BB4.out)
  have P24 := hideG (P23.out.below BB4.out)
  have LA4 := hideG (LA3.out.below BB4.out)
  have LB4 := hideG (LB3.out.below BB4.out)
  have LC4 := hideG (LC.out.below hb4')
  have LD4 := hideG (LD.out.below hb4')
  have B4 := hideG (B3.out.trans (BB4.out.mono B3.out.size))
  have HW4 := hideG hw4
  have HSP := hideG (ksameParcels_same _ _ vs1 vs2 s.fl _ _ w4' P14.out P24.out HFB.out)
  clear ht hb4 hb4' hw4 LC LD
  go_upto_region 5 with fail
  rw [← HW4.out]
  go_wp2_with fail
  refine HSP.out.mono ?_
  rintro e w5 ⟨rfl, hb5⟩
  have z5 := hb5.size
  have HSO := hideG (ksameOutcome_same st ro _ _ _ _ ls us w5 (LA4.out.below hb5) (LB4.out.below hb5) (LC4.out.below hb5) (LD4.out.below hb5))
  obtain ⟨⟨x0, x1, x2, x3⟩, -⟩ := cells_four ((hb5.block w3.heap.size (by omega)).trans R34.out)
  obtain ⟨⟨y0, y1, y2, y3⟩, -⟩ := cells_four ((hb5.block w4.heap.size z4').trans R4.out)
  have hl3 : w3.heap.size < w5.heap.size := by omega
  have hl4 : w4.heap.size < w5.heap.size := by omega
  have B5 := hideG (B4.out.trans (hb5.mono B4.out.size))
  clear hb5
  generalize ls.length = nl at *
  generalize us.length = nu at *
  go_wp2_with fail
  refine HSO.out.mono ?_
  rintro e w6 ⟨rfl, hb6⟩
  have B6 := hideG (B5.out.trans (hb6.mono B5.out.size))
  clear hb6 x0 x1 x2 x3 y0 y1 y2 y3
  go_wp2_with fail
  go_loopw [13] (fun i wr => ∃ j : Nat, j ≤ n ∧ i = .int .i64 ((j : Int) + 1) ∧ Below w.heap.size w wr) (fun i _ => n + 1 - (intOf i).toNat)
  case atStart => exact ⟨0, Nat.zero_le _, rfl, B6.out⟩
  case round =>
    obtain ⟨j, hj, rfl, hbel⟩ := hrel
    have HBL := hideG hbel
    clear hbel
    by_cases hlt : j < n
    · have jn : (j : Int) + 1 ≤ (n : Int) := by omega
      go_wp2_with fail
      refine (HRX.out wr HBL.out ((j : Int) + 1)).mono ?_
      rintro e u1 ⟨r1, rfl, hr1, hb1⟩
      have I1 := hideG (itemsAt_of_owns hr1 (HRI.out _))
      obtain ⟨p1, k1, e1⟩ := owns_form hr1
      subst e1
      have U1 := hideG (HBL.out.trans (hb1.mono HBL.out.size))
      clear hr1 hb1
      go_wp2_with fail
      refine (HRY.out u1 U1.out ((j : Int) + 1)).mono ?_
      rintro e u2 ⟨r2, rfl, hr2, hb2⟩
      have HSI := hideG (ksameItems_same _ _ _ u2 (I1.out.below hb2) (itemsAt_of_owns hr2 (HRI.out _)))
      obtain ⟨p2, k2, e2⟩ := owns_form hr2
      subst e2
      have U2 := hideG (U1.out.trans (hb2.mono U1.out.size))
      clear hr2 hb2
      go_wp2_with fail
      refine HSI.out.mono ?_
      rintro e u3 ⟨rfl, nq, hu3⟩
      have U3 := hideG (show Below w.heap.size w u3 by rw [hu3]; exact U2.out.trans ((below_drewN u2 nq).mono U2.out.size))
      clear hu3
      go_wp2_with fail
      go_roundw
      case rel => exact ⟨j + 1, by omega, by go_num, U3.out⟩
      case measure => simp [intOf]; omega
    · have jn : ¬ (j : Int) + 1 ≤ (n : Int) := by omega
      go_wp2_with fail
      go_ret
      exact ⟨rfl, HBL.out⟩

end Go.Proofs.YtchideljndagjabGreat

namespace Go.Proofs.YtchideljndagjabGreat
open Go.ChangeShapes Go.WideShapes Go.ChangeAt Go.RowKit Go.Deep
set_option linter.unusedVariables false

theorem acellsInt : Tryz.prog.cellsOf 3 = 1 := by kernel_rfl
theorem acellsInts : Tryz.prog.cellsOf 33 = 1 := by kernel_rfl
theorem acellsStr : Tryz.prog.cellsOf 9 = 1 := by kernel_rfl
theorem acellsCfg : Tryz.prog.cellsOf 26 = 4 := by kernel_rfl
theorem acellsDraw : Tryz.prog.cellsOf 117 = 6 := by kernel_rfl

theorem arr4 {cs : Array Value} (h : cs.size = 4) : ∃ a b c d, cs = #[a, b, c, d] := by
  obtain ⟨l⟩ := cs
  match l, h with
  | [a, b, c, d], _ => exact ⟨a, b, c, d, rfl⟩
section
variable {H : Type} {enc : TypeId × Value → H} {w : World} {spare : Nat → Bool} {held : Bool} {r : Reach} {b0 : Nat}

theorem aint_of {n : Nat} {c : Value} {y : DataW H × List MemPlace} (h : DataW.trod enc Tryz.prog w 0 spare held n 3 [c] = some y) : ∃ x : Int, c = .int .i64 x ∧ inI x := by
  obtain ⟨x, e, _, hx⟩ := DataW.trod_int Tryz.underlying3 h
  simp at e
  exact ⟨x, e, bounds_i64 hx⟩
theorem alist_of {n : Nat} {c : Value} {y : DataW H × List MemPlace} (h : DataW.trod enc Tryz.prog w 0 (fun _ => true) held n 33 [c] = some y) : ∃ zs, ListAt w c zs := by
  rcases open_ints Tryz.underlying33 Tryz.underlying3 acellsInt h with ⟨hcs, _⟩ | ⟨x, l, c', zs, hcs, _, hl, hm, hz, _, hcell, hwz⟩
  · simp at hcs
    subst hcs
    exact ⟨_, (rowed (zs := []) (.inl ⟨rfl, rfl, rfl, rfl⟩)).1⟩
  · simp at hcs
    subst hcs
    exact ⟨_, (rowed (zs := zs) (.inr ⟨_, rfl, hl, hm, by simpa using hz, hcell, hwz⟩)).1⟩

set_option maxRecDepth 100000 in
theorem cfg_open {v : Value} {d : DataW H} {p : List MemPlace} (hv : Value.okWide Tryz.prog w r b0 26 v) (h : DataW.Trod enc Tryz.prog w 0 (fun _ => true) held 26 v d p) :
    ∃ N T M D : Int, v = .agg #[.int .i64 N, .int .i64 T, .int .i64 M, .int .i64 D] := by
  obtain ⟨cs, rfl, hsz⟩ := okWide_struct Tryz.underlying26 hv
  rw [acellsCfg] at hsz
  obtain ⟨c0, c1, c2, c3, rfl⟩ := arr4 hsz
  obtain ⟨fuel, hf⟩ := h
  obtain ⟨xs, m, _, hy, hl, hlen, hf⟩ := DataW.trod_struct Tryz.underlying26 hf
  have f0 := hf 0 _ rfl
  have f1 := hf 1 _ rfl
  have f2 := hf 2 _ rfl
  have f3 := hf 3 _ rfl
  simp [acellsInt, Value.cells] at f0 f1 f2 f3
  have hlen4 : xs.length = 4 := hlen
  rw [List.getElem?_eq_getElem (by omega)] at f0 f1 f2 f3
  obtain ⟨a, rfl, _⟩ := aint_of f0
  obtain ⟨b, rfl, _⟩ := aint_of f1
  obtain ⟨c, rfl, _⟩ := aint_of f2
  obtain ⟨e, rfl, _⟩ := aint_of f3
  exact ⟨a, b, c, e, rfl⟩

end
end Go.Proofs.YtchideljndagjabGreat

namespace Go.Proofs.YtchideljndagjabGreat
open Go.ChangeShapes Go.WideShapes Go.ChangeAt Go.RowKit Go.Deep
set_option linter.unusedVariables false

theorem acellsStep : Tryz.prog.cellsOf 45 = 4 := by kernel_rfl
section
variable {H : Type} {enc : TypeId × Value → H} {w : World} {held : Bool}

set_option maxRecDepth 100000 in
theorem adraw_of {n : Nat} {cs : List Value} {y : DataW H × List MemPlace} (h : DataW.trod enc Tryz.prog w 0 (fun _ => true) held n 117 cs = some y) :
    ∃ vi vm vs d, cs = [vi, .int .i64 (d : DD).ch, .int .i64 d.ms, .int .i64 d.sd, vm, vs] ∧ DrawIs w vi vm vs d := by
  obtain ⟨xs, m, _, hy, hl, hlen, hf⟩ := DataW.trod_struct Tryz.underlying117 h
  rw [acellsDraw] at hl
  match cs, hl with
  | [c0, c1, c2, c3, c4, c5], _ =>
    have f0 := hf 0 _ rfl
    have f1 := hf 1 _ rfl
    have f2 := hf 2 _ rfl
    have f3 := hf 3 _ rfl
    have f4 := hf 4 _ rfl
    have f5 := hf 5 _ rfl
    simp [acellsInt, acellsInts] at f0 f1 f2 f3 f4 f5
    have hlen6 : xs.length = 6 := hlen
    rw [List.getElem?_eq_getElem (by omega)] at f0 f1 f2 f3 f4 f5
    obtain ⟨a, rfl, k1⟩ := aint_of f1
    obtain ⟨b, rfl, k2⟩ := aint_of f2
    obtain ⟨c, rfl, k3⟩ := aint_of f3
    obtain ⟨z0, l0⟩ := alist_of f0
    obtain ⟨z4, l4⟩ := alist_of f4
    obtain ⟨z5, l5⟩ := alist_of f5
    exact ⟨c0, c4, c5, ⟨z0, a, b, c, z4, z5⟩, rfl, l0, l4, l5, k1, k2, k3⟩

theorem adraws_of {n : Nat} {c : Value} {y : DataW H × List MemPlace} (h : DataW.trod enc Tryz.prog w 0 (fun _ => true) held n 27 [c] = some y) : ∃ (a : Option Addr) (n cap : Nat) (vi vm vs : Nat → Value) (D : Nat → DD), c = .slice a n cap ∧ DrawsAt w a n cap vi vm vs D := by
  rcases open_slice Tryz.underlying27 h with ⟨hcs, _⟩ | ⟨x, l, cp, m, n', D, Pl, hcs, _, hl, hm, hmm, hy, hx⟩
  · simp at hcs
    exact ⟨none, 0, 0, fun _ => undef, fun _ => undef, fun _ => undef, fun _ => ⟨[], 0, 0, 0, [], []⟩, hcs, ⟨Nat.le_refl _, by omega, fun i hi => by omega, fun i hi => by omega⟩⟩
  · simp at hcs
    have hlm : l ≤ m := by rw [hmm]; split <;> omega
    rw [acellsDraw] at hx
    have hit : ∀ i, i < l → ∃ t : Value × Value × Value × DD, (DrawIs w t.1 t.2.1 t.2.2.1 t.2.2.2) ∧ ∀ j, j < 6 → w.cell? (x.add (i * 6 + j)) = some (([t.1, .int .i64 t.2.2.2.ch, .int .i64 t.2.2.2.ms, .int .i64 t.2.2.2.sd, t.2.1, t.2.2.1] : List Value).getD j undef) := by
      intro i hi
      obtain ⟨cs, e1, e2⟩ := hx i (by omega)
      obtain ⟨_, e3, e4⟩ := World.cells?_some e1
      obtain ⟨vi, vm, vs, d, hcs', hd⟩ := adraw_of e2
      refine ⟨(vi, vm, vs, d), hd, fun j hj => ?_⟩
      have e5 := e4 j hj
      rw [List.getElem?_eq_getElem (by omega)] at e5
      show _ = some (([vi, .int .i64 d.ch, .int .i64 d.ms, .int .i64 d.sd, vm, vs] : List Value).getD j undef)
      rw [← hcs', List.getD_eq_getElem?_getD, List.getElem?_eq_getElem (by omega), Option.getD_some, ← e5, Deep.add_add]
    let T : Nat → Value × Value × Value × DD := fun i => if hi : i < l then (hit i hi).choose else (undef, undef, undef, ⟨[], 0, 0, 0, [], []⟩)
    have hT : ∀ i, i < l → (DrawIs w (T i).1 (T i).2.1 (T i).2.2.1 (T i).2.2.2) ∧ ∀ j, j < 6 → w.cell? (x.add (i * 6 + j)) = some (([(T i).1, .int .i64 (T i).2.2.2.ch, .int .i64 (T i).2.2.2.ms, .int .i64 (T i).2.2.2.sd, (T i).2.1, (T i).2.2.1] : List Value).getD j undef) := fun i hi => by
      have e : T i = (hit i hi).choose := dif_pos hi
      rw [e]; exact (hit i hi).choose_spec
    have hcpm : cp ≤ 9223372036854775807 := by unfold maxLen at hm; omega
    refine ⟨some x, l, cp, fun i => (T i).1, fun i => (T i).2.1, fun i => (T i).2.2.1, fun i => (T i).2.2.2, hcs, ⟨by omega, hcpm, fun i hi => ?_, fun i hi => (hT i hi).1⟩⟩
    obtain ⟨b, off, spot⟩ := x
    have q000 := (hT 0 (by omega)).2 0 (by omega)
    have hspot : spot = none := by simpa [Addr.add] using World.cell?_spot q000
    have q00 := (hT i hi).2 0 (by omega)
    subst hspot
    have hadd : ∀ j, (⟨b, off, none⟩ : Addr).add j = ⟨b, off + j, none⟩ := fun j => by unfold Addr.add; by_cases hz : j = 0 <;> simp [hz]
    have g := (hT i hi).2
    have g0 := g 0 (by omega)
    have g1 := g 1 (by omega)
    have g2 := g 2 (by omega)
    have g3 := g 3 (by omega)
    have g4 := g 4 (by omega)
    have g5 := g 5 (by omega)
    rw [hadd] at g0 g1 g2 g3 g4 g5 q00
    refine ⟨b, off, rfl, cell_in q00, ?_, ?_, ?_, ?_, ?_, ?_⟩
    · rw [Nat.add_zero] at g0; exact g0
    · rw [Nat.add_assoc]; exact g1
    · rw [Nat.add_assoc]; exact g2
    · rw [Nat.add_assoc]; exact g3
    · rw [Nat.add_assoc]; exact g4
    · rw [Nat.add_assoc]; exact g5


/-- Steps in memory. -/
structure Stps where
  k : Nat → Int
  n : Nat → Int
  m : Nat → Int
  s : Nat → ByteArray
structure StepsAt (w : World) (a : Option Addr) (n cap : Nat) (S : Stps) : Prop where
  le : n ≤ cap
  mx : cap ≤ 9223372036854775807
  each : ∀ i, i < n → inI (S.k i) ∧ inI (S.n i) ∧ inI (S.m i) ∧ (S.s i).size ≤ maxLen
  cells : ∀ i, i < n → ∃ b off, a = some ⟨b, off, none⟩ ∧ b < w.heap.size ∧ w.cell? ⟨b, off + i * 4, none⟩ = some (.int .i64 (S.k i)) ∧ w.cell? ⟨b, off + i * 4 + 1, none⟩ = some (.int .i64 (S.n i)) ∧ w.cell? ⟨b, off + i * 4 + 2, none⟩ = some (.int .i64 (S.m i)) ∧ w.cell? ⟨b, off + i * 4 + 3, none⟩ = some (.string (S.s i))
theorem StepsAt.below {w w' : World} {a : Option Addr} {n cap : Nat} {S : Stps} (h : StepsAt w a n cap S) (hb : Below w.heap.size w w') : StepsAt w' a n cap S :=
  ⟨h.le, h.mx, h.each, fun i hi => by
    obtain ⟨b, off, e1, e2, e3, e4, e5, e6⟩ := h.cells i hi
    exact ⟨b, off, e1, Nat.lt_of_lt_of_le e2 hb.size, (hb.cell (p := ⟨b, off + i * 4, none⟩) e2).trans e3, (hb.cell (p := ⟨b, off + i * 4 + 1, none⟩) e2).trans e4, (hb.cell (p := ⟨b, off + i * 4 + 2, none⟩) e2).trans e5, (hb.cell (p := ⟨b, off + i * 4 + 3, none⟩) e2).trans e6⟩⟩

set_option maxRecDepth 100000 in
theorem astep_of {n : Nat} {cs : List Value} {y : DataW H × List MemPlace} (h : DataW.trod enc Tryz.prog w 0 (fun _ => true) held n 45 cs = some y) :
    ∃ (k x m : Int) (s : ByteArray), cs = [.int .i64 k, .int .i64 x, .int .i64 m, .string s] ∧ inI k ∧ inI x ∧ inI m ∧ s.size ≤ maxLen := by
  obtain ⟨xs, q, _, hy, hl, hlen, hf⟩ := DataW.trod_struct Tryz.underlying45 h
  rw [acellsStep] at hl
  match cs, hl with
  | [c0, c1, c2, c3], _ =>
    have f0 := hf 0 _ rfl
    have f1 := hf 1 _ rfl
    have f2 := hf 2 _ rfl
    have f3 := hf 3 _ rfl
    simp [acellsInt, acellsStr] at f0 f1 f2 f3
    have hlen4 : xs.length = 4 := hlen
    rw [List.getElem?_eq_getElem (by omega)] at f0 f1 f2 f3
    obtain ⟨a, rfl, k0⟩ := aint_of f0
    obtain ⟨b, rfl, k1⟩ := aint_of f1
    obtain ⟨c, rfl, k2⟩ := aint_of f2
    obtain ⟨s, e, _, hs⟩ := DataW.trod_string Tryz.underlying9 f3
    simp at e
    subst e
    exact ⟨a, b, c, s, rfl, k0, k1, k2, hs⟩

theorem asteps_of {n : Nat} {c : Value} {y : DataW H × List MemPlace} (h : DataW.trod enc Tryz.prog w 0 (fun _ => true) held n 28 [c] = some y) : ∃ (a : Option Addr) (n cap : Nat) (S : Stps), c = .slice a n cap ∧ StepsAt w a n cap S := by
  rcases open_slice Tryz.underlying28 h with ⟨hcs, _⟩ | ⟨x, l, cp, m, n', D, Pl, hcs, _, hl, hm, hmm, hy, hx⟩
  · simp at hcs
    exact ⟨none, 0, 0, ⟨fun _ => 0, fun _ => 0, fun _ => 0, fun _ => ByteArray.empty⟩, hcs, ⟨Nat.le_refl _, by omega, fun i hi => by omega, fun i hi => by omega⟩⟩
  · simp at hcs
    have hlm : l ≤ m := by rw [hmm]; split <;> omega
    rw [acellsStep] at hx
    have hit : ∀ i, i < l → ∃ t : Int × Int × Int × ByteArray, (inI t.1 ∧ inI t.2.1 ∧ inI t.2.2.1 ∧ t.2.2.2.size ≤ maxLen) ∧ ∀ j, j < 4 → w.cell? (x.add (i * 4 + j)) = some (([.int .i64 t.1, .int .i64 t.2.1, .int .i64 t.2.2.1, .string t.2.2.2] : List Value).getD j undef) := by
      intro i hi
      obtain ⟨cs, e1, e2⟩ := hx i (by omega)
      obtain ⟨_, e3, e4⟩ := World.cells?_some e1
      obtain ⟨k, n, q, s, hcs', h1, h2, h3, h4⟩ := astep_of e2
      refine ⟨(k, n, q, s), ⟨h1, h2, h3, h4⟩, fun j hj => ?_⟩
      have e5 := e4 j hj
      rw [List.getElem?_eq_getElem (by omega)] at e5
      show _ = some (([.int .i64 k, .int .i64 n, .int .i64 q, .string s] : List Value).getD j undef)
      rw [← hcs', List.getD_eq_getElem?_getD, List.getElem?_eq_getElem (by omega), Option.getD_some, ← e5, Deep.add_add]
    let T : Nat → Int × Int × Int × ByteArray := fun i => if hi : i < l then (hit i hi).choose else (0, 0, 0, ByteArray.empty)
    have hT : ∀ i, i < l → (inI (T i).1 ∧ inI (T i).2.1 ∧ inI (T i).2.2.1 ∧ (T i).2.2.2.size ≤ maxLen) ∧ ∀ j, j < 4 → w.cell? (x.add (i * 4 + j)) = some (([.int .i64 (T i).1, .int .i64 (T i).2.1, .int .i64 (T i).2.2.1, .string (T i).2.2.2] : List Value).getD j undef) := fun i hi => by
      have e : T i = (hit i hi).choose := dif_pos hi
      rw [e]; exact (hit i hi).choose_spec
    have hcpm : cp ≤ 9223372036854775807 := by unfold maxLen at hm; omega
    refine ⟨some x, l, cp, ⟨fun i => (T i).1, fun i => (T i).2.1, fun i => (T i).2.2.1, fun i => (T i).2.2.2⟩, hcs, ⟨by omega, hcpm, fun i hi => (hT i hi).1, fun i hi => ?_⟩⟩
    obtain ⟨b, off, spot⟩ := x
    have q000 := (hT 0 (by omega)).2 0 (by omega)
    have hspot : spot = none := by simpa [Addr.add] using World.cell?_spot q000
    have q00 := (hT i hi).2 0 (by omega)
    subst hspot
    have hadd : ∀ j, (⟨b, off, none⟩ : Addr).add j = ⟨b, off + j, none⟩ := fun j => by unfold Addr.add; by_cases hz : j = 0 <;> simp [hz]
    have g := (hT i hi).2
    have g0 := g 0 (by omega)
    have g1 := g 1 (by omega)
    have g2 := g 2 (by omega)
    have g3 := g 3 (by omega)
    rw [hadd] at g0 g1 g2 g3 q00
    refine ⟨b, off, rfl, cell_in q00, ?_, ?_, ?_, ?_⟩
    · rw [Nat.add_zero] at g0; exact g0
    · rw [Nat.add_assoc]; exact g1
    · rw [Nat.add_assoc]; exact g2
    · rw [Nat.add_assoc]; exact g3
theorem draws_open {v : Value} {d : DataW H} {p : List MemPlace} {a : Option Addr} {n cap : Nat} (hv : v = .slice a n cap) (h : DataW.Trod enc Tryz.prog w 0 (fun _ => true) held 27 v d p) : ∃ vi vm vs D, DrawsAt w a n cap vi vm vs D := by
  obtain ⟨fuel, hf⟩ := h
  rw [hv] at hf
  obtain ⟨a', n', c', vi, vm, vs, D, e, hd⟩ := adraws_of hf
  injection e with e1 e2 e3
  subst e1; subst e2; subst e3
  exact ⟨vi, vm, vs, D, hd⟩
theorem steps_open {v : Value} {d : DataW H} {p : List MemPlace} {a : Option Addr} {n cap : Nat} (hv : v = .slice a n cap) (h : DataW.Trod enc Tryz.prog w 0 (fun _ => true) held 28 v d p) : ∃ S, StepsAt w a n cap S := by
  obtain ⟨fuel, hf⟩ := h
  rw [hv] at hf
  obtain ⟨a', n', c', S, e, hd⟩ := asteps_of hf
  injection e with e1 e2 e3
  subst e1; subst e2; subst e3
  exact ⟨S, hd⟩
end

end Go.Proofs.YtchideljndagjabGreat

namespace Go.Proofs.YtchideljndagjabGreat
open Go.ChangeShapes Go.WideShapes Go.ChangeAt Go.RowKit
set_option linter.unusedVariables false

/-- Two sessions, and what was delivered. -/
structure QM (w0 wr : World) (bx by_ n gc : Nat) (C : Srv.Cf) (cl : Nat → Cli.Cl) (sX sY : Sn) (mx my : SM) (wv : Value) (ws : List Value) (was : List Pk) : Prop where
  x : SesAt wr bx n C cl sX mx
  y : SesAt wr by_ n C cl sY my
  fl : FlAt wr wv ws was
  cfg : wr.heap[gc]? = some (.cells #[.int .i64 C.N, .int .i64 C.T, .int .i64 C.M, .int .i64 C.D] 26 (0, 0))
  xy : ∀ z, SesOwn bx mx z → ¬ SesFoot by_ n my z
  yx : ∀ z, SesOwn by_ my z → ¬ SesFoot bx n mx z
  row : ∀ z, wv.ownBlock = some z → ¬ SesFoot bx n mx z ∧ ¬ SesFoot by_ n my z ∧ z ≠ gc ∧ w0.heap.size ≤ z
  byt : ∀ u ∈ ws, ∀ z, u.ownBlock = some z → ¬ SesOwn bx mx z ∧ ¬ SesOwn by_ my z
  gcn : ¬ SesFoot bx n mx gc ∧ ¬ SesFoot by_ n my gc ∧ w0.heap.size ≤ gc
  lo : ∀ z, (SesOwn bx mx z ∨ SesOwn by_ my z) → w0.heap.size ≤ z
  bel : Below w0.heap.size w0 wr
section
variable {w0 wr w1 : World} {bx by_ n gc : Nat} {C : Srv.Cf} {cl : Nat → Cli.Cl} {sX sY s' : Sn} {mx my m' : SM} {wv : Value} {ws : List Value} {was : List Pk}
theorem QM.gcl (h : QM w0 wr bx by_ n gc C cl sX sY mx my wv ws was) : gc < wr.heap.size := by
  by_cases q : gc < wr.heap.size
  · exact q
  · have := h.cfg; rw [Array.getElem?_eq_none (by omega)] at this; cases this
theorem QM.swap (h : QM w0 wr bx by_ n gc C cl sX sY mx my wv ws was) : QM w0 wr by_ bx n gc C cl sY sX my mx wv ws was :=
  ⟨h.y, h.x, h.fl, h.cfg, h.yx, h.xy, fun z hz => ⟨(h.row z hz).2.1, (h.row z hz).1, (h.row z hz).2.2⟩, fun u hu z hz => ⟨(h.byt u hu z hz).2, (h.byt u hu z hz).1⟩, ⟨h.gcn.2.1, h.gcn.1, h.gcn.2.2⟩, fun z hz => h.lo z hz.symm, h.bel⟩
theorem QM.below (h : QM w0 wr bx by_ n gc C cl sX sY mx my wv ws was) (hb : Below wr.heap.size wr w1) : QM w0 w1 bx by_ n gc C cl sX sY mx my wv ws was :=
  { h with x := h.x.below hb, y := h.y.below hb, fl := h.fl.keep hb.size (fun z hz => hb.block z (h.fl.rowlt hz)) (fun u hu z hz => hb.block z (h.fl.low u hu z hz)), cfg := (hb.block gc h.gcl).trans h.cfg, bel := h.bel.trans (hb.mono h.bel.size) }
/-- The first of them has turned. -/
theorem QM.took (h : QM w0 wr bx by_ n gc C cl sX sY mx my wv ws was) (ht : SesTook wr w1 bx n C cl s' mx m') : QM w0 w1 bx by_ n gc C cl s' sY m' my wv ws was := by
  have z := ht.chg.size
  have far : ∀ x, x < wr.heap.size → ¬ SesOwn bx mx x → w1.heap[x]? = wr.heap[x]? := fun x hx hn => ht.chg.block x hx hn
  refine ⟨ht.ses, h.y.keep z (fun x hx => far x (h.y.low hx) (fun e => h.xy x e hx)), h.fl.keep z (fun x hx => far x (h.fl.rowlt hx) (fun e => (h.row x hx).1 (.inl e))) (fun u hu x hx => far x (h.fl.low u hu x hx) (h.byt u hu x hx).1), (far gc h.gcl (fun e => h.gcn.1 (.inl e))).trans h.cfg, fun x hx hf => ?_, fun x hx hf => ?_, fun x hx => ?_, fun u hu x hx => ⟨fun e => ?_, (h.byt u hu x hx).2⟩, ⟨fun e => ?_, h.gcn.2⟩, fun x hx => ?_, h.bel.trans (ht.chg.below h.bel.size (fun x e => h.lo x (.inl e)))⟩
  · rcases ht.own x hx with q | q
    · exact h.xy x q hf
    · have := h.y.low hf; omega
  · rcases ht.foot x hf with q | q
    · exact h.yx x hx q
    · have := h.y.low (.inl hx : SesFoot by_ n my x); omega
  · refine ⟨fun e => ?_, (h.row x hx).2⟩
    rcases ht.foot x e with q | q
    · exact (h.row x hx).1 q
    · have := h.fl.rowlt hx; omega
  · rcases ht.own x e with q | q
    · exact (h.byt u hu x hx).1 q
    · have := h.fl.low u hu x hx; omega
  · rcases ht.foot gc e with q | q
    · exact h.gcn.1 q
    · have := h.gcl; omega
  · rcases hx with hx | hx
    · rcases ht.own x hx with q | q
      · exact h.lo x (.inl q)
      · have := h.bel.size; omega
    · exact h.lo x (.inr hx)
theorem QM.took2 (h : QM w0 wr bx by_ n gc C cl sX sY mx my wv ws was) (ht : SesTook wr w1 by_ n C cl s' my m') : QM w0 w1 bx by_ n gc C cl sX s' mx m' wv ws was := (h.swap.took ht).swap
/-- One parcel more was delivered. -/
theorem QM.more (h : QM w0 wr bx by_ n gc C cl sX sY mx my wv ws was) {v' y : Value} {p : Pk} (hy : BytesAt wr y p.2.2) (hlow : ∀ g, y.ownBlock = some g → g < wr.heap.size ∧ wv.ownBlock ≠ some g ∧ ¬ SesOwn bx mx g ∧ ¬ SesOwn by_ my g)
    (hr : w1.ownsRow 0 49 3 v' (was.length + 1) (packV was ws ++ [.int .i64 p.1, .int .i64 p.2.1, y])) (hc : Chg (fun x => wv.ownBlock = some x) wr w1) (hv : ∀ x, v'.ownBlock = some x → wv.ownBlock = some x ∨ wr.heap.size ≤ x) : QM w0 w1 bx by_ n gc C cl sX sY mx my v' (ws ++ [y]) (was ++ [p]) := by
  have z := hc.size
  refine ⟨h.x.keep z (fun x hx => hc.block x (h.x.low hx) (fun e => (h.row x e).1 hx)), h.y.keep z (fun x hx => hc.block x (h.y.low hx) (fun e => (h.row x e).2.1 hx)), h.fl.snoc hy (fun g hg => ⟨(hlow g hg).1, (hlow g hg).2.1⟩) hr hc hv, (hc.block gc h.gcl (fun e => (h.row gc e).2.2.1 rfl)).trans h.cfg, h.xy, h.yx, fun x hx => ?_, fun u hu x hx => ?_, h.gcn, h.lo, h.bel.trans (hc.below h.bel.size (fun x e => (h.row x e).2.2.2))⟩
  · rcases hv x hx with q | q
    · exact h.row x q
    · have := h.gcl
      have := h.bel.size
      exact ⟨fun e => by have := h.x.low e; omega, fun e => by have := h.y.low e; omega, by omega, by omega⟩
  · rcases List.mem_append.1 hu with hu | hu
    · exact h.byt u hu x hx
    · rw [List.mem_singleton.1 hu] at hx
      exact (hlow x hx).2.2
end

/-- Both sessions stand at s. -/
structure QI (w0 wr : World) (bx by_ n gc : Nat) (C : Srv.Cf) (cl : Nat → Cli.Cl) (s : Sn) (ph : Nat → Nat) (mx my : SM) (wv : Value) (ws : List Value) (was : List Pk) : Prop where
  mem : QM w0 wr bx by_ n gc C cl s s mx my wv ws was
  hi : HI C cl n s ph
  out : OutOk C s.q.out
  sp : ∀ p ∈ was, Spent cl n s ph p

end Go.Proofs.YtchideljndagjabGreat

namespace Go.Proofs.YtchideljndagjabGreat
open Go.ChangeShapes Go.WideShapes Go.ChangeAt Go.RowKit
set_option linter.unusedVariables false

def ParAt2 (w : World) (B : Nat) (own : Nat → Prop) (v : Value) : Option Pk → Prop
  | none => v = .slice none 0 0
  | some p => ∃ g o c y, v = .slice (some ⟨g, o, none⟩) 1 c ∧ 1 ≤ c ∧ c ≤ 9223372036854775807 ∧ B ≤ g ∧ g < w.heap.size ∧ w.cell? ⟨g, o, none⟩ = some (.int .i64 p.1) ∧ w.cell? ⟨g, o + 1, none⟩ = some (.int .i64 p.2.1) ∧ w.cell? ⟨g, o + 2, none⟩ = some y ∧ BytesAt w y p.2.2 ∧ ¬ own g ∧ ∀ x, y.ownBlock = some x → B ≤ x ∧ x < w.heap.size ∧ ¬ own x
def Acted2 (w w' : World) (b n : Nat) (C : Srv.Cf) (cl : Nat → Cli.Cl) (s' : Sn) (m : SM) (v : Value) (op : Option Pk) : Prop := ∃ m', SesTook w w' b n C cl s' m m' ∧ ∃ B, w.heap.size ≤ B ∧ ParAt2 w' B (SesOwn b m') v op
/-- A parcel of a list of its own, while the session goes on. -/
theorem par_keep2 {w1 w2 : World} {b n : Nat} {C : Srv.Cf} {cl : Nat → Cli.Cl} {s' : Sn} {m m' : SM} {B : Nat} {v : Value} {vs : List Value} {ps : List Pk} (hp : Packs w1 B v vs ps) (hB : ∀ p ∈ ps, Frm.isB p.2.2) (ht : SesTook w1 w2 b n C cl s' m m') (hm : ∀ x, SesOwn b m x → x < B)
    {j : Nat} {p : Pk} (hj : ps[j]? = some p) : ∃ g c y, v = .slice (some ⟨g, 0, none⟩) ps.length c ∧ ps.length ≤ c ∧ c ≤ 9223372036854775807 ∧ B ≤ g ∧ g < w2.heap.size ∧ w2.cell? ⟨g, j * 3, none⟩ = some (.int .i64 p.1) ∧ w2.cell? ⟨g, j * 3 + 1, none⟩ = some (.int .i64 p.2.1) ∧ w2.cell? ⟨g, j * 3 + 2, none⟩ = some y ∧ BytesAt w2 y p.2.2 ∧ (∀ x, y.ownBlock = some x → B ≤ x ∧ x < w2.heap.size ∧ ¬ SesOwn b m' x) ∧ ¬ SesOwn b m' g := by
  have z := ht.chg.size
  obtain ⟨a, c, e1, e2, e3, e4⟩ := hp.viewK
  obtain ⟨g, y, f1, f2, f3, f4, f5, f6, f7⟩ := e4 j p hj
  have hg := hp.low g (.inl (by rw [e1, f1]; rfl))
  have hbl : ∀ x, B ≤ x → x < w1.heap.size → w2.heap[x]? = w1.heap[x]? := fun x h1 h2 => ht.chg.block x h2 (fun e => by have := hm x e; omega)
  have hgb := hbl g hg.1 hg.2
  have nown : ∀ x, B ≤ x → x < w1.heap.size → ¬ SesOwn b m' x := fun x h1 h2 e => by
    rcases ht.own x e with q | q
    · have := hm x q; omega
    · omega
  refine ⟨g, c, y, by rw [e1, f1], e2, e3, hg.1, by omega, (World.cell?_of_block (w := w1) (a := ⟨g, j * 3, none⟩) hgb).trans f4, (World.cell?_of_block (w := w1) (a := ⟨g, j * 3 + 1, none⟩) hgb).trans f5, (World.cell?_of_block (w := w1) (a := ⟨g, j * 3 + 2, none⟩) hgb).trans f6, (bytesAt_of_owns f7 (hB p (List.mem_of_getElem? hj))).keepS z (fun x hx => hbl x (f7.lt x hx).1 (f7.lt x hx).2), fun x hx => ⟨(f7.lt x hx).1, Nat.lt_of_lt_of_le (f7.lt x hx).2 z, nown x (f7.lt x hx).1 (f7.lt x hx).2⟩, nown g hg.1 hg.2⟩


section
variable {w : World} {b n : Nat} {C : Srv.Cf} {cl : Nat → Cli.Cl} {s : Sn} {m : SM}
set_option maxHeartbeats 2000000 in
set_option maxRecDepth 100000 in
/-- Deliver. -/
theorem act_deliver2 (h : SesAt w b n C cl s m) (ok : SnOk C cl n s) (hB : FlB s) (N T M D x y : Int) (hx : inI x) (st : ByteArray) (fg : Bool) (h0 : 0 < s.fl.length) :
    Calls Tryz.prog 12 #[.pointer (some ⟨b, 0, none⟩), .agg #[.int .i64 N, .int .i64 T, .int .i64 M, .int .i64 D], .agg #[.int .i64 1, .int .i64 x, .int .i64 y, .string st], .bool fg] w fun e w' => ∃ v, e = .returned (.tuple #[v, .bool true]) ∧ Acted2 w w' b n C cl (deliverN C cl n s (Num.pickN x s.fl.length)) m v (s.fl[(Num.pickN x s.fl.length).toNat]?) := by
  have HFL := hideG (fun (W : World) (hb : Below w.heap.size w W) => flight_at h ok hb)
  obtain ⟨a1, a2, a3⟩ := pick_in (c := x) h0
  obtain ⟨i, hi⟩ : ∃ i : Nat, (i : Int) = Num.pickN x s.fl.length := ⟨(Num.pickN x s.fl.length).toNat, by omega⟩
  have hil : i < s.fl.length := by omega
  have HDE := hideG (fun (W : World) (hb : Below w.heap.size w W) => vDeliver (h.below hb) ok (i : Int))
  have e0 : deliverE s (i : Int) = 0 := by unfold deliverE; rw [if_pos ⟨by omega, by omega⟩]
  rw [e0] at HDE
  have HPK := hideG (fun (W : World) => pick_calls x s.fl.length W hx.1 hx.2 (by omega) (by have := ok.fl; omega))
  rw [← hi] at HPK ⊢
  rw [show ((i : Int)).toNat = i by omega, List.getElem?_eq_getElem hil]
  have HG := hideG (List.getElem?_eq_getElem hil)
  have HLO := hideG (fun x (hx : SesOwn b m x) => h.low (.inl hx : SesFoot b n m x))
  have HFB := hideG hB
  have hlen : s.fl.length ≤ 300 := by have := ok.fl; omega
  obtain ⟨p, hp⟩ : ∃ p, p = s.fl[i] := ⟨_, rfl⟩
  rw [← hp] at HG ⊢
  have B0 := hideG (actW_below w N T M D 1 x y st)
  have z0 := actW_size w N T M D 1 x y st
  have HR := hideG (fun (W : World) hb => actW_rows (w := w) (W := W) (N := N) (T := T) (M := M) (D := D) (k := 1) (x := x) (y := y) (st := st) hb)
  obtain ⟨W0, hW0⟩ : ∃ W0, W0 = actW w N T M D 1 x y st := ⟨_, rfl⟩
  rw [← hW0] at B0 z0 HR
  unfold actW at hW0
  have HW0 := hideG hW0
  clear h ok hB hW0 a1 a2 a3 hi e0 hp h0
  obtain ⟨L, hL⟩ : ∃ L, L = s.fl.length := ⟨_, rfl⟩
  have HLL := hideG hL
  rw [← hL] at hil hlen HPK
  go_enter Tryz.func12, Tryz.ntmps12
  go_upto_region 1 with fail
  rw [← HW0.out]
  go_wp2_with fail
  refine (HFL.out W0 B0.out).mono ?_
  rintro e w1 ⟨v, vs, rfl, hpk, hb1⟩
  obtain ⟨q0, q1, q2, q3, q4⟩ := HR.out w1 hb1
  have z1 := hb1.size
  have B1 := hideG (B0.out.trans (hb1.mono (by omega)))
  have HDW := hideG (HDE.out w1 B1.out)
  have HPR := hideG hpk
  obtain ⟨av, cv, hv, hlc, hcm, -⟩ := hpk.viewK
  rw [← hL] at hv hlc
  have HV := hideG hv
  rw [hv]
  clear hpk hb1 hL hv
  have l0 : (0 : Int) < (L : Int) := by omega
  have hiL : (i : Int) < (L : Int) := by omega
  go_wp2_with fail
  refine (HPK.out w1).mono ?_
  rintro e w' ⟨rfl, rfl⟩
  go_wp2_with fail
  refine HDW.out.mono ?_
  rintro e w2 ⟨rfl, m', ht⟩
  have PK := hideG (par_keep2 HPR.out HFB.out ht (fun x hx => Nat.lt_of_lt_of_le (HLO.out x hx) (by omega)) HG.out)
  have HT := hideG (ht.after B1.out)
  clear ht
  obtain ⟨g, c, yv, f1, f2, f3, f4, f5, f6, f7, f8, f9, f10, f11⟩ := PK.out
  rw [HV.out, ← HLL.out] at f1
  obtain ⟨rfl, rfl⟩ : av = some ⟨g, 0, none⟩ ∧ cv = c := by injection f1 with q1 q2 q3; exact ⟨q1, q3⟩
  have HP2 := hideG (And.intro f4 (And.intro f5 (And.intro f6 (And.intro f7 (And.intro f8 (And.intro f9 (And.intro f10 f11)))))))
  clear f1 f4 f5 f6 f7 f8 f9 f10 f11 q0 q1 q2 q3 q4
  go_wp2_with fail
  go_ret2
  obtain ⟨f4, f5, f6, f7, f8, f9, f10, f11⟩ := HP2.out
  refine ⟨_, rfl, m', HT.out, W0.heap.size, by omega, g, i * 3, cv - i, yv, ?_, by omega, by omega, f4, f5, f6, f7, f8, f9, f11, f10⟩
  congr 1
  all_goals (first | rfl | omega | (congr 2; omega))
end

theorem act_calls2 {w : World} {b n : Nat} {C : Srv.Cf} {cl : Nat → Cli.Cl} {s : Sn} {m : SM} (h : SesAt w b n C cl s m) (hC : Cast C cl n) (ok : SnOk C cl n s) (hB : FlB s) (k x y : Int) (hx : inI x) (hy : inI y) (st : ByteArray) (hst : st.size ≤ maxLen) (fg : Bool) :
    Calls Tryz.prog 12 #[.pointer (some ⟨b, 0, none⟩), .agg #[.int .i64 C.N, .int .i64 C.T, .int .i64 C.M, .int .i64 C.D], .agg #[.int .i64 k, .int .i64 x, .int .i64 y, .string st], .bool fg] w fun e w' => ∃ v, e = .returned (.tuple #[v, .bool true]) ∧ Acted2 w w' b n C cl (actN C cl n fg s ⟨k, x, y, bl st⟩) m v (actD s ⟨k, x, y, bl st⟩) := by
  by_cases hk : k = 1 ∧ 0 < s.fl.length
  · obtain ⟨rfl, hp⟩ := hk
    have e : actN C cl n fg s ⟨1, x, y, bl st⟩ = deliverN C cl n s (Num.pickN x s.fl.length) := by unfold actN; rw [if_pos rfl, if_neg (by omega)]
    have e2 : actD s ⟨1, x, y, bl st⟩ = s.fl[(Num.pickN x s.fl.length).toNat]? := if_pos rfl
    rw [e, e2]
    exact act_deliver2 h ok hB _ _ _ _ x y hx st fg hp
  · refine (act_calls h hC ok hB k x y hx hy st hst fg).mono (fun e w' ⟨v, h1, h2⟩ => ⟨v, h1, ?_⟩)
    have hd : actD s ⟨k, x, y, bl st⟩ = none := by
      unfold actD
      by_cases c : k = 1
      · rw [if_pos c, List.length_eq_zero_iff.1 (by omega : s.fl.length = 0)]; rfl
      · exact if_neg c
    obtain ⟨⟨m', ht, _⟩, B, hB1, hp⟩ := h2
    rw [hd] at hp ⊢
    exact ⟨m', ht, B, hB1, hp⟩

end Go.Proofs.YtchideljndagjabGreat

namespace Go.Proofs.YtchideljndagjabGreat.quiet
open Go.ChangeShapes Go.WideShapes Go.ChangeAt Go.RowKit
set_option linter.unusedVariables false

theorem band {a b : Bool} (h : a = true) (k : b = true) : (a && b) = true := by rw [h, k]; rfl
theorem k1 : (Rows.quietRow.wf (OpenSpec.ofChange Rows.quietSpec)) = true := by kernel_rfl
theorem k2 : (laidOutB Tryz.prog) = true := by kernel_rfl
theorem k3 : (mapsRowed Tryz.prog) = true := by kernel_rfl
theorem k4 : (Tryz.f7.params.all (Tryz.prog.readableRec ·)) = true := by kernel_rfl
theorem k5 : (namedTie Tryz.prog Rows.quietRow.named Rows.quietSpec.vars) = true := by kernel_rfl
theorem k6 : ((Rows.quietRow.stops == [])) = true := by kernel_rfl
theorem k7 : ((Tryz.prog.stops == [])) = true := by kernel_rfl
theorem k8 : ((Rows.quietRow.knobs == [])) = true := by kernel_rfl
theorem k9 : ((Tryz.prog.stopKnobs == [])) = true := by kernel_rfl
theorem k10 : ((Rows.quietRow.inPlace == Tryz.prog.inPlace 7)) = true := by kernel_rfl
theorem k11 : ((Rows.quietRow.unfollowed == Tryz.prog.unfollowed 7)) = true := by kernel_rfl
theorem k12 : ((Rows.quietRow.recurses == Tryz.prog.recurses 7)) = true := by kernel_rfl
theorem k13 : ((Rows.quietRow.named == Tryz.prog.varsNamed 7)) = true := by kernel_rfl
theorem k14 : ((Rows.quietRow.maps == (Tryz.f7.params.toList ++ Rows.quietSpec.plain.varTypes Tryz.prog).any (Tryz.prog.mapsRec ·))) = true := by kernel_rfl
theorem k15 : ((Rows.quietRow.ifaces == (Tryz.f7.params.toList ++ Rows.quietSpec.plain.varTypes Tryz.prog).any (Tryz.prog.ifacesRec ·))) = true := by kernel_rfl
theorem k16 : ((Rows.quietRow.mapsOut == Tryz.prog.mapsAmong Tryz.f7.resultTypes.toList)) = true := by kernel_rfl
theorem k17 : ((Rows.quietRow.loops == (Tryz.f7.params.toList ++ Rows.quietSpec.plain.varTypes Tryz.prog).any (Tryz.prog.loopsFrom ·))) = true := by kernel_rfl
theorem k18 : ((Rows.quietRow.wideKeys == (Tryz.f7.params.toList ++ Rows.quietSpec.plain.varTypes Tryz.prog ++ Tryz.f7.resultTypes.toList).any (Tryz.prog.wideKeysFrom ·))) = true := by kernel_rfl
theorem k19 : (Rows.quietSpec.vars.all (Tryz.prog.varReadable ·)) = true := by kernel_rfl
theorem k20 : (Tryz.f7.resultTypes.all (fun t => Tryz.prog.readableRec t && decide (t < Tryz.prog.types.size))) = true := by kernel_rfl
theorem k21 : ((Rows.quietRow.ifacesOut == Tryz.f7.resultTypes.toList.any (Tryz.prog.ifacesRec ·))) = true := by kernel_rfl
theorem k22 : ((Rows.quietRow.loopsOut == Tryz.f7.resultTypes.toList.any (Tryz.prog.loopsFrom ·))) = true := by kernel_rfl
theorem k23 : ((Rows.quietRow.plainKeys == Tryz.prog.plainKeys)) = true := by kernel_rfl
theorem k24 : (Rows.quietRow.shortTexts.isNone) = true := by kernel_rfl
theorem k25 : (Tryz.prog.stopsHeard) = true := by kernel_rfl
theorem k26 : (Tryz.prog.mayEnter) = true := by kernel_rfl
theorem k27 : ((Rows.quietRow.lifted == Tryz.prog.liftsFinal)) = true := by kernel_rfl
theorem k28 : ((Tryz.prog.make == some Rows.quietRow.make)) = true := by kernel_rfl
theorem k30 : ((Rows.quietRow.pinned == Rows.quietRow.pinnedBy)) = true := by kernel_rfl
theorem k31 : ((Rows.quietRow.veiled == (Tryz.f7.params.toList ++ Rows.quietSpec.plain.varTypes Tryz.prog ++ Tryz.f7.resultTypes.toList).any (Tryz.prog.veiledRec ·))) = true := by kernel_rfl
theorem k32 : (Rows.quietRow.veiledFits Tryz.prog Tryz.f7.params.toList (Tryz.f7.params.toList ++ Rows.quietSpec.plain.varTypes Tryz.prog ++ Tryz.f7.resultTypes.toList)) = true := by kernel_rfl
set_option maxRecDepth 100000 in
theorem closed : joinedFacts Tryz.prog 7 Tryz.f7 Rows.quietSpec Rows.quietRow = true := by
  unfold joinedFacts
  exact (band (band (band (band (band (band (band (band (band (band (band (band (band (band (band (band (band (band (band (band (band (band (band (band (band (band (band (band (band (band (band k1 k2) k3) k4) k5) k6) k7) k8) k9) k10) k11) k12) k13) k14) k15) k16) k17) k18) k19) k20) k21) k22) k23) k24) k25) k26) k27) k28) (by kernel_rfl)) k30) k31) k32)

end Go.Proofs.YtchideljndagjabGreat.quiet
