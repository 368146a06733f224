/- Arguments, opened: a list of draws, a list of steps. -/
import Derived.Test.YtchideljndagjabGreatPkIdBN
import Derived.Test.YtchideljndagjabGreatPkIdBE
import Derived.Deep.Slices
import Derived.Test.YtchideljndagjabGreatPkIdAB
import Derived.Test.YtchideljndagjabGreatRows
import Derived.JoinedOf
import Derived.Test.YtchideljndagjabGreatPkIdBL
import Derived.Deep.DeepCutAuto
import Derived.Below
import Derived.ChangeMaps5
namespace Go.Proofs.YtchideljndagjabGreat
open Go.ChangeShapes Go.WideShapes Go.ChangeAt Go.RowKit Go.Deep
set_option linter.unusedVariables false
theorem acellsStep : Tryz.prog.cellsOf 45 = 4 := by kernel_rfl
section
variable {H : Type} {enc : TypeId × Value → H} {w : World} {held : Bool}
set_option maxRecDepth 100000 in
theorem adraw_of {n : Nat} {cs : List Value} {y : DataW H × List MemPlace} (h : DataW.trod enc Tryz.prog w 0 (fun _ => true) held n 117 cs = some y) :
    ∃ vi vm vs d, cs = [vi, .int .i64 (d : DD).ch, .int .i64 d.ms, .int .i64 d.sd, vm, vs] ∧ DrawIs w vi vm vs d := by
  obtain ⟨xs, m, _, hy, hl, hlen, hf⟩ := DataW.trod_struct Tryz.underlying117 h
  rw [acellsDraw] at hl
  match cs, hl with
  | [c0, c1, c2, c3, c4, c5], _ =>
    have f0 := hf 0 _ rfl
    have f1 := hf 1 _ rfl
    have f2 := hf 2 _ rfl
    have f3 := hf 3 _ rfl
    have f4 := hf 4 _ rfl
    have f5 := hf 5 _ rfl
    simp [acellsInt, acellsInts] at f0 f1 f2 f3 f4 f5
    have hlen6 : xs.length = 6 := hlen
    rw [List.getElem?_eq_getElem (by omega)] at f0 f1 f2 f3 f4 f5
    obtain ⟨a, rfl, k1⟩ := aint_of f1
    obtain ⟨b, rfl, k2⟩ := aint_of f2
    obtain ⟨c, rfl, k3⟩ := aint_of f3
    obtain ⟨z0, l0⟩ := alist_of f0
    obtain ⟨z4, l4⟩ := alist_of f4
    obtain ⟨z5, l5⟩ := alist_of f5
    exact ⟨c0, c4, c5, ⟨z0, a, b, c, z4, z5⟩, rfl, l0, l4, l5, k1, k2, k3⟩
theorem adraws_of {n : Nat} {c : Value} {y : DataW H × List MemPlace} (h : DataW.trod enc Tryz.prog w 0 (fun _ => true) held n 27 [c] = some y) : ∃ (a : Option Addr) (n cap : Nat) (vi vm vs : Nat → Value) (D : Nat → DD), c = .slice a n cap ∧ DrawsAt w a n cap vi vm vs D := by
  rcases open_slice Tryz.underlying27 h with ⟨hcs, _⟩ | ⟨x, l, cp, m, n', D, Pl, hcs, _, hl, hm, hmm, hy, hx⟩
  · simp at hcs
    exact ⟨none, 0, 0, fun _ => undef, fun _ => undef, fun _ => undef, fun _ => ⟨[], 0, 0, 0, [], []⟩, hcs, ⟨Nat.le_refl _, by omega, fun i hi => by omega, fun i hi => by omega⟩⟩
  · simp at hcs
    have hlm : l ≤ m := by rw [hmm]; split <;> omega
    rw [acellsDraw] at hx
    have hit : ∀ i, i < l → ∃ t : Value × Value × Value × DD, (DrawIs w t.1 t.2.1 t.2.2.1 t.2.2.2) ∧ ∀ j, j < 6 → w.cell? (x.add (i * 6 + j)) = some (([t.1, .int .i64 t.2.2.2.ch, .int .i64 t.2.2.2.ms, .int .i64 t.2.2.2.sd, t.2.1, t.2.2.1] : List Value).getD j undef) := by
      intro i hi
      obtain ⟨cs, e1, e2⟩ := hx i (by omega)
      obtain ⟨_, e3, e4⟩ := World.cells?_some e1
      obtain ⟨vi, vm, vs, d, hcs', hd⟩ := adraw_of e2
      refine ⟨(vi, vm, vs, d), hd, fun j hj => ?_⟩
      have e5 := e4 j hj
      rw [List.getElem?_eq_getElem (by omega)] at e5
      show _ = some (([vi, .int .i64 d.ch, .int .i64 d.ms, .int .i64 d.sd, vm, vs] : List Value).getD j undef)
      rw [← hcs', List.getD_eq_getElem?_getD, List.getElem?_eq_getElem (by omega), Option.getD_some, ← e5, Deep.add_add]
    let T : Nat → Value × Value × Value × DD := fun i => if hi : i < l then (hit i hi).choose else (undef, undef, undef, ⟨[], 0, 0, 0, [], []⟩)
    have hT : ∀ i, i < l → (DrawIs w (T i).1 (T i).2.1 (T i).2.2.1 (T i).2.2.2) ∧ ∀ j, j < 6 → w.cell? (x.add (i * 6 + j)) = some (([(T i).1, .int .i64 (T i).2.2.2.ch, .int .i64 (T i).2.2.2.ms, .int .i64 (T i).2.2.2.sd, (T i).2.1, (T i).2.2.1] : List Value).getD j undef) := fun i hi => by
      have e : T i = (hit i hi).choose := dif_pos hi
      rw [e]; exact (hit i hi).choose_spec
    have hcpm : cp ≤ 9223372036854775807 := by unfold maxLen at hm; omega
    refine ⟨some x, l, cp, fun i => (T i).1, fun i => (T i).2.1, fun i => (T i).2.2.1, fun i => (T i).2.2.2, hcs, ⟨by omega, hcpm, fun i hi => ?_, fun i hi => (hT i hi).1⟩⟩
    obtain ⟨b, off, spot⟩ := x
    have q000 := (hT 0 (by omega)).2 0 (by omega)
    have hspot : spot = none := by simpa [Addr.add] using World.cell?_spot q000
    have q00 := (hT i hi).2 0 (by omega)
    subst hspot
    have hadd : ∀ j, (⟨b, off, none⟩ : Addr).add j = ⟨b, off + j, none⟩ := fun j => by unfold Addr.add; by_cases hz : j = 0 <;> simp [hz]
    have g := (hT i hi).2
    have g0 := g 0 (by omega)
    have g1 := g 1 (by omega)
    have g2 := g 2 (by omega)
    have g3 := g 3 (by omega)
    have g4 := g 4 (by omega)
    have g5 := g 5 (by omega)
    rw [hadd] at g0 g1 g2 g3 g4 g5 q00
    refine ⟨b, off, rfl, cell_in q00, ?_, ?_, ?_, ?_, ?_, ?_⟩
    · rw [Nat.add_zero] at g0; exact g0
    · rw [Nat.add_assoc]; exact g1
    · rw [Nat.add_assoc]; exact g2
    · rw [Nat.add_assoc]; exact g3
    · rw [Nat.add_assoc]; exact g4
    · rw [Nat.add_assoc]; exact g5
structure Stps where
  k : Nat → Int
  n : Nat → Int
  m : Nat → Int
  s : Nat → ByteArray
structure StepsAt (w : World) (a : Option Addr) (n cap : Nat) (S : Stps) : Prop where
  le : n ≤ cap
  mx : cap ≤ 9223372036854775807
  each : ∀ i, i < n → inI (S.k i) ∧ inI (S.n i) ∧ inI (S.m i) ∧ (S.s i).size ≤ maxLen
  cells : ∀ i, i < n → ∃ b off, a = some ⟨b, off, none⟩ ∧ b < w.heap.size ∧ w.cell? ⟨b, off + i * 4, none⟩ = some (.int .i64 (S.k i)) ∧ w.cell? ⟨b, off + i * 4 + 1, none⟩ = some (.int .i64 (S.n i)) ∧ w.cell? ⟨b, off + i * 4 + 2, none⟩ = some (.int .i64 (S.m i)) ∧ w.cell? ⟨b, off + i * 4 + 3, none⟩ = some (.string (S.s i))
theorem StepsAt.below {w w' : World} {a : Option Addr} {n cap : Nat} {S : Stps} (h : StepsAt w a n cap S) (hb : Below w.heap.size w w') : StepsAt w' a n cap S :=
  ⟨h.le, h.mx, h.each, fun i hi => by
    obtain ⟨b, off, e1, e2, e3, e4, e5, e6⟩ := h.cells i hi
    exact ⟨b, off, e1, Nat.lt_of_lt_of_le e2 hb.size, (hb.cell (p := ⟨b, off + i * 4, none⟩) e2).trans e3, (hb.cell (p := ⟨b, off + i * 4 + 1, none⟩) e2).trans e4, (hb.cell (p := ⟨b, off + i * 4 + 2, none⟩) e2).trans e5, (hb.cell (p := ⟨b, off + i * 4 + 3, none⟩) e2).trans e6⟩⟩
set_option maxRecDepth 100000 in
theorem astep_of {n : Nat} {cs : List Value} {y : DataW H × List MemPlace} (h : DataW.trod enc Tryz.prog w 0 (fun _ => true) held n 45 cs = some y) :
    ∃ (k x m : Int) (s : ByteArray), cs = [.int .i64 k, .int .i64 x, .int .i64 m, .string s] ∧ inI k ∧ inI x ∧ inI m ∧ s.size ≤ maxLen := by
  obtain ⟨xs, q, _, hy, hl, hlen, hf⟩ := DataW.trod_struct Tryz.underlying45 h
  rw [acellsStep] at hl
  match cs, hl with
  | [c0, c1, c2, c3], _ =>
    have f0 := hf 0 _ rfl
    have f1 := hf 1 _ rfl
    have f2 := hf 2 _ rfl
    have f3 := hf 3 _ rfl
    simp [acellsInt, acellsStr] at f0 f1 f2 f3
    have hlen4 : xs.length = 4 := hlen
    rw [List.getElem?_eq_getElem (by omega)] at f0 f1 f2 f3
    obtain ⟨a, rfl, k0⟩ := aint_of f0
    obtain ⟨b, rfl, k1⟩ := aint_of f1
    obtain ⟨c, rfl, k2⟩ := aint_of f2
    obtain ⟨s, e, _, hs⟩ := DataW.trod_string Tryz.underlying9 f3
    simp at e
    subst e
    exact ⟨a, b, c, s, rfl, k0, k1, k2, hs⟩
theorem asteps_of {n : Nat} {c : Value} {y : DataW H × List MemPlace} (h : DataW.trod enc Tryz.prog w 0 (fun _ => true) held n 28 [c] = some y) : ∃ (a : Option Addr) (n cap : Nat) (S : Stps), c = .slice a n cap ∧ StepsAt w a n cap S := by
  rcases open_slice Tryz.underlying28 h with ⟨hcs, _⟩ | ⟨x, l, cp, m, n', D, Pl, hcs, _, hl, hm, hmm, hy, hx⟩
  · simp at hcs
    exact ⟨none, 0, 0, ⟨fun _ => 0, fun _ => 0, fun _ => 0, fun _ => ByteArray.empty⟩, hcs, ⟨Nat.le_refl _, by omega, fun i hi => by omega, fun i hi => by omega⟩⟩
  · simp at hcs
    have hlm : l ≤ m := by rw [hmm]; split <;> omega
    rw [acellsStep] at hx
    have hit : ∀ i, i < l → ∃ t : Int × Int × Int × ByteArray, (inI t.1 ∧ inI t.2.1 ∧ inI t.2.2.1 ∧ t.2.2.2.size ≤ maxLen) ∧ ∀ j, j < 4 → w.cell? (x.add (i * 4 + j)) = some (([.int .i64 t.1, .int .i64 t.2.1, .int .i64 t.2.2.1, .string t.2.2.2] : List Value).getD j undef) := by
      intro i hi
      obtain ⟨cs, e1, e2⟩ := hx i (by omega)
      obtain ⟨_, e3, e4⟩ := World.cells?_some e1
      obtain ⟨k, n, q, s, hcs', h1, h2, h3, h4⟩ := astep_of e2
      refine ⟨(k, n, q, s), ⟨h1, h2, h3, h4⟩, fun j hj => ?_⟩
      have e5 := e4 j hj
      rw [List.getElem?_eq_getElem (by omega)] at e5
      show _ = some (([.int .i64 k, .int .i64 n, .int .i64 q, .string s] : List Value).getD j undef)
      rw [← hcs', List.getD_eq_getElem?_getD, List.getElem?_eq_getElem (by omega), Option.getD_some, ← e5, Deep.add_add]
    let T : Nat → Int × Int × Int × ByteArray := fun i => if hi : i < l then (hit i hi).choose else (0, 0, 0, ByteArray.empty)
    have hT : ∀ i, i < l → (inI (T i).1 ∧ inI (T i).2.1 ∧ inI (T i).2.2.1 ∧ (T i).2.2.2.size ≤ maxLen) ∧ ∀ j, j < 4 → w.cell? (x.add (i * 4 + j)) = some (([.int .i64 (T i).1, .int .i64 (T i).2.1, .int .i64 (T i).2.2.1, .string (T i).2.2.2] : List Value).getD j undef) := fun i hi => by
      have e : T i = (hit i hi).choose := dif_pos hi
      rw [e]; exact (hit i hi).choose_spec
    have hcpm : cp ≤ 9223372036854775807 := by unfold maxLen at hm; omega
    refine ⟨some x, l, cp, ⟨fun i => (T i).1, fun i => (T i).2.1, fun i => (T i).2.2.1, fun i => (T i).2.2.2⟩, hcs, ⟨by omega, hcpm, fun i hi => (hT i hi).1, fun i hi => ?_⟩⟩
    obtain ⟨b, off, spot⟩ := x
    have q000 := (hT 0 (by omega)).2 0 (by omega)
    have hspot : spot = none := by simpa [Addr.add] using World.cell?_spot q000
    have q00 := (hT i hi).2 0 (by omega)
    subst hspot
    have hadd : ∀ j, (⟨b, off, none⟩ : Addr).add j = ⟨b, off + j, none⟩ := fun j => by unfold Addr.add; by_cases hz : j = 0 <;> simp [hz]
    have g := (hT i hi).2
    have g0 := g 0 (by omega)
    have g1 := g 1 (by omega)
    have g2 := g 2 (by omega)
    have g3 := g 3 (by omega)
    rw [hadd] at g0 g1 g2 g3 q00
    refine ⟨b, off, rfl, cell_in q00, ?_, ?_, ?_, ?_⟩
    · rw [Nat.add_zero] at g0; exact g0
    · rw [Nat.add_assoc]; exact g1
    · rw [Nat.add_assoc]; exact g2
    · rw [Nat.add_assoc]; exact g3
theorem draws_open {v : Value} {d : DataW H} {p : List MemPlace} {a : Option Addr} {n cap : Nat} (hv : v = .slice a n cap) (h : DataW.Trod enc Tryz.prog w 0 (fun _ => true) held 27 v d p) : ∃ vi vm vs D, DrawsAt w a n cap vi vm vs D := by
  obtain ⟨fuel, hf⟩ := h
  rw [hv] at hf
  obtain ⟨a', n', c', vi, vm, vs, D, e, hd⟩ := adraws_of hf
  injection e with e1 e2 e3
  subst e1; subst e2; subst e3
  exact ⟨vi, vm, vs, D, hd⟩
theorem steps_open {v : Value} {d : DataW H} {p : List MemPlace} {a : Option Addr} {n cap : Nat} (hv : v = .slice a n cap) (h : DataW.Trod enc Tryz.prog w 0 (fun _ => true) held 28 v d p) : ∃ S, StepsAt w a n cap S := by
  obtain ⟨fuel, hf⟩ := h
  rw [hv] at hf
  obtain ⟨a', n', c', S, e, hd⟩ := asteps_of hf
  injection e with e1 e2 e3
  subst e1; subst e2; subst e3
  exact ⟨S, hd⟩
end
end Go.Proofs.YtchideljndagjabGreat
namespace Go.Proofs.YtchideljndagjabGreat
open Go.ChangeShapes Go.WideShapes Go.ChangeAt Go.RowKit
set_option linter.unusedVariables false
structure IdM (w0 wr : World) (b n gc g : Nat) (C : Srv.Cf) (cl : Nat → Cli.Cl) (s : Sn) (m : SM) (vd va vb : Value) (I : Idl) : Prop where
  ses : SesAt wr b n C cl s m
  id : IdAt wr g C vd va vb I
  la : ListAt wr va I.out.2.2.1
  lb : ListAt wr vb I.out.2.2.2
  cfg : wr.heap[gc]? = some (.cells #[.int .i64 C.N, .int .i64 C.T, .int .i64 C.M, .int .i64 C.D] 26 (0, 0))
  lists : ∀ x, (va.ownBlock = some x ∨ vb.ownBlock = some x) → x ≠ g ∧ x < wr.heap.size ∧ ¬ SesOwn b m x
  gn : ¬ SesFoot b n m g ∧ g ≠ gc ∧ w0.heap.size ≤ g
  gcn : ¬ SesFoot b n m gc
  lo : ∀ z, SesOwn b m z → w0.heap.size ≤ z
  bel : Below w0.heap.size w0 wr
section
variable {w0 wr w1 : World} {b n gc g : Nat} {C : Srv.Cf} {cl : Nat → Cli.Cl} {s s' : Sn} {m m' : SM} {vd va vb : Value} {I : Idl}
theorem IdM.gcl (h : IdM w0 wr b n gc g C cl s m vd va vb I) : gc < wr.heap.size := by
  by_cases q : gc < wr.heap.size
  · exact q
  · have := h.cfg; rw [Array.getElem?_eq_none (by omega)] at this; cases this
theorem IdM.below (h : IdM w0 wr b n gc g C cl s m vd va vb I) (hb : Below wr.heap.size wr w1) : IdM w0 w1 b n gc g C cl s m vd va vb I :=
  ⟨h.ses.below hb, h.id.below hb, h.la.below hb, h.lb.below hb, (hb.block gc h.gcl).trans h.cfg, fun x hx => ⟨(h.lists x hx).1, Nat.lt_of_lt_of_le (h.lists x hx).2.1 hb.size, (h.lists x hx).2.2⟩, h.gn, h.gcn, h.lo, h.bel.trans (hb.mono h.bel.size)⟩
theorem IdM.took (h : IdM w0 wr b n gc g C cl s m vd va vb I) (ht : SesTook wr w1 b n C cl s' m m') : IdM w0 w1 b n gc g C cl s' m' vd va vb I := by
  have z := ht.chg.size
  have gl := h.id.lt
  have gcl := h.gcl
  refine ⟨ht.ses, h.id.block (ht.chg.block g gl (fun e => h.gn.1 (.inl e))), h.la.keep z (fun x hx => ht.chg.block x (h.lists x (.inl hx)).2.1 (h.lists x (.inl hx)).2.2), h.lb.keep z (fun x hx => ht.chg.block x (h.lists x (.inr hx)).2.1 (h.lists x (.inr hx)).2.2), (ht.chg.block gc gcl (fun e => h.gcn (.inl e))).trans h.cfg, fun x hx => ⟨(h.lists x hx).1, Nat.lt_of_lt_of_le (h.lists x hx).2.1 z, fun e => ?_⟩, ⟨fun e => ?_, h.gn.2⟩, fun e => ?_, fun x hx => ?_, h.bel.trans (ht.chg.below h.bel.size (fun x e => h.lo x e))⟩
  · rcases ht.own x e with q | q
    · exact (h.lists x hx).2.2 q
    · have := (h.lists x hx).2.1; omega
  · rcases ht.foot g e with q | q
    · exact h.gn.1 q
    · omega
  · rcases ht.foot gc e with q | q
    · exact h.gcn q
    · omega
  · rcases ht.own x hx with q | q
    · exact h.lo x q
    · have := h.bel.size; omega
theorem IdM.wrote (h : IdM w0 wr b n gc g C cl s m vd va vb I) {va' vb' : Value} {I' : Idl} (hc : Chg (fun x => x = g) wr w1) (hi : IdAt w1 g C vd va' vb' I') (h1 : ListAt w1 va' I'.out.2.2.1) (h2 : ListAt w1 vb' I'.out.2.2.2) (hl : ∀ x, (va'.ownBlock = some x ∨ vb'.ownBlock = some x) → ((va.ownBlock = some x ∨ vb.ownBlock = some x) ∨ (wr.heap.size ≤ x ∧ x < w1.heap.size))) : IdM w0 w1 b n gc g C cl s m vd va' vb' I' := by
  have z := hc.size
  have gl := h.id.lt
  refine ⟨h.ses.keep z (fun x hx => hc.block x (h.ses.low hx) (fun e => h.gn.1 (by rw [← e]; exact hx))), hi, h1, h2, (hc.block gc h.gcl (fun e => h.gn.2.1 e.symm)).trans h.cfg, fun x hx => ?_, h.gn, h.gcn, h.lo, h.bel.trans (hc.below h.bel.size (fun x e => by rw [e]; exact h.gn.2.2))⟩
  rcases hl x hx with q | q
  · exact ⟨(h.lists x q).1, Nat.lt_of_lt_of_le (h.lists x q).2.1 z, (h.lists x q).2.2⟩
  · exact ⟨by omega, q.2, fun e => by have := h.ses.low (.inl e : SesFoot b n m x); omega⟩
theorem hearsN_out (p : Pk) : (hearsN C I p).out = I.out := by unfold hearsN; split <;> rfl
theorem hearsN_rd (p : Pk) : (hearsN C I p).rd = I.rd := by unfold hearsN; split <;> rfl
theorem IdM.heard (h : IdM w0 wr b n gc g C cl s m vd va vb I) {p : Pk} (hc : Chg (fun x => x = g) wr w1) (hi : IdAt w1 g C vd va vb (hearsN C I p)) : IdM w0 w1 b n gc g C cl s m vd va vb (hearsN C I p) :=
  h.wrote hc hi (by rw [hearsN_out]; exact h.la.chg hc (fun x hx => (h.lists x (.inl hx)).1)) (by rw [hearsN_out]; exact h.lb.chg hc (fun x hx => (h.lists x (.inr hx)).1)) (fun x hx => .inl hx)
theorem IdM.ticked (h : IdM w0 wr b n gc g C cl s m vd va vb I) {I' : Idl} (ht : Tickd wr w1 g C vd va vb I') : ∃ va' vb', IdM w0 w1 b n gc g C cl s m vd va' vb' I' := by
  obtain ⟨va', vb', h1, h2, h3, h4, h5⟩ := ht
  exact ⟨va', vb', h.wrote h2 h1 h3 h4 h5⟩
theorem ticksN_rd (h : I.rd ≤ 4) (h0 : I.out.1 = 0 → I.rd ≤ 3) : (ticksN C cl n I).rd ≤ 4 := by
  unfold ticksN
  split
  · rename_i q
    have := h0 q
    split
    · exact h
    · split
      · exact h
      · split
        · exact Nat.le_refl 4
        · show I.rd + 1 ≤ 4; omega
  · exact h
end
def hrdO (C : Srv.Cf) (I : Idl) : Option Pk → Idl
  | none => I
  | some p => hearsN C I p
theorem idlN_eq (C : Srv.Cf) (cl : Nat → Cli.Cl) (n : Nat) (s : Sn) (o : Stp) (I : Idl) : idlN C cl n s o I = if o.k = 5 then ticksN C cl n (hrdO C I (actD s o)) else hrdO C I (actD s o) := by
  unfold idlN hrdO
  cases actD s o <;> rfl
theorem hrdO_rd (C : Srv.Cf) (I : Idl) (op : Option Pk) : (hrdO C I op).rd = I.rd := by
  cases op with
  | none => rfl
  | some p => exact hearsN_rd p
theorem actD_five {s : Sn} {o : Stp} (h : o.k = 5) : actD s o = none := by unfold actD; rw [if_neg (by omega)]
theorem par2_slice {w : World} {B : Nat} {own : Nat → Prop} {v : Value} {op : Option Pk} (h : ParAt2 w B own v op) : ∃ a n c, v = .slice a n c := by
  cases op with
  | none => exact ⟨none, 0, 0, h⟩
  | some p => obtain ⟨g, o, c, y, e, _⟩ := h; exact ⟨_, _, _, e⟩
structure IdI (w0 wr : World) (b n gc g : Nat) (C : Srv.Cf) (cl : Nat → Cli.Cl) (s : Sn) (ph : Nat → Nat) (m : SM) (vd va vb : Value) (I : Idl) : Prop where
  mem : IdM w0 wr b n gc g C cl s m vd va vb I
  hi : HI C cl n s ph
  out : OutOk C s.q.out
  ir : IR s I
  rd4 : I.rd ≤ 4
theorem IR.runs {C : Srv.Cf} {cl : Nat → Cli.Cl} {n : Nat} {s : Sn} {ph : Nat → Nat} {I : Idl} (h : IR s I) (hi : HI C cl n s ph) : I.out.1 = 0 → I.rd ≤ 3 ∧ 0 ≤ I.tm ∧ I.tm ≤ 100000 := by
  intro e
  rw [h.out] at e
  obtain ⟨a1, a2, _⟩ := h.run e
  have ok := hi.ok.sok e
  have h4 := ok.rd
  have h5 := Srv.now_bd hi.ok.gc h4 ok.now
  rw [a1, a2]
  omega
end Go.Proofs.YtchideljndagjabGreat
namespace Go.Proofs.YtchideljndagjabGreat.ideal
open Go.ChangeShapes Go.WideShapes Go.ChangeAt Go.RowKit
set_option linter.unusedVariables false
theorem band {a b : Bool} (h : a = true) (k : b = true) : (a && b) = true := by rw [h, k]; rfl
theorem k1 : (Rows.idealRow.wf (OpenSpec.ofChange Rows.idealSpec)) = true := by kernel_rfl
theorem k2 : (laidOutB Tryz.prog) = true := by kernel_rfl
theorem k3 : (mapsRowed Tryz.prog) = true := by kernel_rfl
theorem k4 : (Tryz.f5.params.all (Tryz.prog.readableRec ·)) = true := by kernel_rfl
theorem k5 : (namedTie Tryz.prog Rows.idealRow.named Rows.idealSpec.vars) = true := by kernel_rfl
theorem k6 : ((Rows.idealRow.stops == [])) = true := by kernel_rfl
theorem k7 : ((Tryz.prog.stops == [])) = true := by kernel_rfl
theorem k8 : ((Rows.idealRow.knobs == [])) = true := by kernel_rfl
theorem k9 : ((Tryz.prog.stopKnobs == [])) = true := by kernel_rfl
theorem k10 : ((Rows.idealRow.inPlace == Tryz.prog.inPlace 5)) = true := by kernel_rfl
theorem k11 : ((Rows.idealRow.unfollowed == Tryz.prog.unfollowed 5)) = true := by kernel_rfl
theorem k12 : ((Rows.idealRow.recurses == Tryz.prog.recurses 5)) = true := by kernel_rfl
theorem k13 : ((Rows.idealRow.named == Tryz.prog.varsNamed 5)) = true := by kernel_rfl
theorem k14 : ((Rows.idealRow.maps == (Tryz.f5.params.toList ++ Rows.idealSpec.plain.varTypes Tryz.prog).any (Tryz.prog.mapsRec ·))) = true := by kernel_rfl
theorem k15 : ((Rows.idealRow.ifaces == (Tryz.f5.params.toList ++ Rows.idealSpec.plain.varTypes Tryz.prog).any (Tryz.prog.ifacesRec ·))) = true := by kernel_rfl
theorem k16 : ((Rows.idealRow.mapsOut == Tryz.prog.mapsAmong Tryz.f5.resultTypes.toList)) = true := by kernel_rfl
theorem k17 : ((Rows.idealRow.loops == (Tryz.f5.params.toList ++ Rows.idealSpec.plain.varTypes Tryz.prog).any (Tryz.prog.loopsFrom ·))) = true := by kernel_rfl
theorem k18 : ((Rows.idealRow.wideKeys == (Tryz.f5.params.toList ++ Rows.idealSpec.plain.varTypes Tryz.prog ++ Tryz.f5.resultTypes.toList).any (Tryz.prog.wideKeysFrom ·))) = true := by kernel_rfl
theorem k19 : (Rows.idealSpec.vars.all (Tryz.prog.varReadable ·)) = true := by kernel_rfl
theorem k20 : (Tryz.f5.resultTypes.all (fun t => Tryz.prog.readableRec t && decide (t < Tryz.prog.types.size))) = true := by kernel_rfl
theorem k21 : ((Rows.idealRow.ifacesOut == Tryz.f5.resultTypes.toList.any (Tryz.prog.ifacesRec ·))) = true := by kernel_rfl
theorem k22 : ((Rows.idealRow.loopsOut == Tryz.f5.resultTypes.toList.any (Tryz.prog.loopsFrom ·))) = true := by kernel_rfl
theorem k23 : ((Rows.idealRow.plainKeys == Tryz.prog.plainKeys)) = true := by kernel_rfl
theorem k24 : (Rows.idealRow.shortTexts.isNone) = true := by kernel_rfl
theorem k25 : (Tryz.prog.stopsHeard) = true := by kernel_rfl
theorem k26 : (Tryz.prog.mayEnter) = true := by kernel_rfl
theorem k27 : ((Rows.idealRow.lifted == Tryz.prog.liftsFinal)) = true := by kernel_rfl
theorem k28 : ((Tryz.prog.make == some Rows.idealRow.make)) = true := by kernel_rfl
theorem k30 : ((Rows.idealRow.pinned == Rows.idealRow.pinnedBy)) = true := by kernel_rfl
theorem k31 : ((Rows.idealRow.veiled == (Tryz.f5.params.toList ++ Rows.idealSpec.plain.varTypes Tryz.prog ++ Tryz.f5.resultTypes.toList).any (Tryz.prog.veiledRec ·))) = true := by kernel_rfl
theorem k32 : (Rows.idealRow.veiledFits Tryz.prog Tryz.f5.params.toList (Tryz.f5.params.toList ++ Rows.idealSpec.plain.varTypes Tryz.prog ++ Tryz.f5.resultTypes.toList)) = true := by kernel_rfl
set_option maxRecDepth 100000 in
theorem closed : joinedFacts Tryz.prog 5 Tryz.f5 Rows.idealSpec Rows.idealRow = true := by
  unfold joinedFacts
  exact (band (band (band (band (band (band (band (band (band (band (band (band (band (band (band (band (band (band (band (band (band (band (band (band (band (band (band (band (band (band (band k1 k2) k3) k4) k5) k6) k7) k8) k9) k10) k11) k12) k13) k14) k15) k16) k17) k18) k19) k20) k21) k22) k23) k24) k25) k26) k27) k28) (by kernel_rfl)) k30) k31) k32)
end Go.Proofs.YtchideljndagjabGreat.ideal
namespace Go.Proofs.YtchideljndagjabGreat.ideal
open Go.ChangeShapes Go.WideShapes Go.ChangeAt Go.RowKit
set_option linter.unusedVariables false
theorem own : ownKnob Tryz.prog.godebug = none := by kernel_rfl
theorem laidOut : laidOutB Tryz.prog = true := by kernel_rfl
set_option maxHeartbeats 1000000 in
set_option maxRecDepth 100000 in
theorem walk_no (N T M D : Int) (a : Option Addr) (n c : Nat) (vi vm vs : Nat → Value) (Dd : Nat → DD) (a3 : Option Addr) (n3 c3 : Nat) (w : World) (hD : DrawsAt w a n c vi vm vs Dd) (hE : begE N T M D n Dd ≠ 0) :
    Calls Tryz.prog 5 #[.agg #[.int .i64 N, .int .i64 T, .int .i64 M, .int .i64 D], .slice a n c, .slice a3 n3 c3] w fun e w' => e = .returned (.bool true) ∧ Below w.heap.size w w' := by
  have HB := hideG (fun (W : World) (hb : Below w.heap.size w W) => kbegun_no N T M D a n c vi vm vs Dd W (hD.below hb) hE)
  clear hD hE
  obtain ⟨W0, hW0⟩ : ∃ W0, W0 = w.alloc (.cells #[.int .i64 N, .int .i64 T, .int .i64 M, .int .i64 D] 26) := ⟨_, rfl⟩
  have BB := hideG (show Below w.heap.size w W0 by rw [hW0]; exact (Below.refl _ _).alloc (Nat.le_refl _) _)
  have z0 : w.heap.size < W0.heap.size := by rw [hW0]; simp
  have HR := hideG (show W0.heap[w.heap.size]? = some (.cells #[.int .i64 N, .int .i64 T, .int .i64 M, .int .i64 D] 26 (0, 0)) by rw [hW0]; exact heap_alloc_new w _)
  have HW0 := hideG hW0
  clear hW0
  obtain ⟨⟨x0, x1, x2, x3⟩, -⟩ := cells_four HR.out
  go_enter Tryz.func5, Tryz.ntmps5
  go_upto_region 1 with fail
  rw [← HW0.out]
  go_wp2_with fail
  refine (HB.out W0 BB.out).mono ?_
  rintro e w1 ⟨rfl, hb1⟩
  have B1 := hideG (BB.out.trans (hb1.mono (by omega)))
  clear hb1 x0 x1 x2 x3
  go_wp2_with fail
  go_ret
  exact ⟨rfl, B1.out⟩
theorem id_fresh (w : World) (N T M D : Int) (a : Option Addr) (n c : Nat) : IdAt (w.alloc (.cells #[.int .i64 N, .int .i64 T, .int .i64 M, .int .i64 D, .slice a n c, .int .i64 0, .int .i64 0, .int .i64 0, .slice none 0 0, .slice none 0 0, .int .i64 0, .bool false, .bool false, .bool false, .bool false, .bool false, .bool false, .bool false, .bool false, .bool false, .bool false, .bool false, .bool false, .bool false, .bool false, .bool false, .bool false, .bool false, .bool false, .bool false, .bool false, .bool false, .bool false, .bool false, .bool false, .bool false, .bool false, .bool false, .bool false, .bool false, .bool false, .bool false, .bool false, .bool false, .bool false, .bool false, .bool false, .bool false, .bool false, .bool false, .bool false, .bool false, .bool false, .bool false, .bool false, .bool false, .bool false, .bool false, .bool false, .bool false, .bool false, .bool false, .bool false] 40)) w.heap.size ⟨N, T, M, D⟩ (.slice a n c) (.slice none 0 0) (.slice none 0 0) idl0 := heap_alloc_new w _
set_option maxHeartbeats 4000000 in
set_option maxRecDepth 100000 in
theorem walk_ok (N T M D : Int) (a : Option Addr) (n c : Nat) (vi vm vs : Nat → Value) (Dd : Nat → DD) (a3 : Option Addr) (n3 c3 : Nat) (S : Stps) (w : World) (hD : DrawsAt w a n c vi vm vs Dd) (hS : StepsAt w a3 n3 c3 S) (hE : begE N T M D n Dd = 0) :
    Calls Tryz.prog 5 #[.agg #[.int .i64 N, .int .i64 T, .int .i64 M, .int .i64 D], .slice a n c, .slice a3 n3 c3] w fun e w' => e = .returned (.bool true) ∧ Below w.heap.size w w' := by
  have hC := cast_of hE
  have HB := hideG (fun (W : World) (hb : Below w.heap.size w W) => kbegun_go N T M D a n c vi vm vs Dd W (hD.below hb) hE)
  have HSS := hideG (fun (W : World) (hb : Below w.heap.size w W) => hS.below hb)
  have hle := hS.le
  have hmx := hS.mx
  obtain ⟨cl, hcl⟩ : ∃ cl, cl = clD N T M Dd := ⟨_, rfl⟩
  rw [← hcl] at HB hC
  have HC := hideG hC
  have hN : 1 ≤ N ∧ N ≤ 12 := hC.gc.n
  have HTK := hideG (fun (W : World) (hb : Below w.heap.size w W) (g : Nat) (hg : w.heap.size ≤ g) (va vb : Value) (I : Idl) hI la lb hna hrun => kticks_go hC (w := W) (g := g) (hD.below hb) (fun k hk => by rw [hcl]; rfl) (fun W' hc => hD.below (hb.trans (hc.below hb.size (fun x e => by rw [e]; exact hg)))) (va := va) (vb := vb) (I := I) hI la lb hna hrun)
  have HNN := hideG (show N = (n : Int) from hC.num)
  have hn12 := hC.le.2
  clear hD hS hE hcl hC
  obtain ⟨W0, hW0⟩ : ∃ W0, W0 = w.alloc (.cells #[.int .i64 N, .int .i64 T, .int .i64 M, .int .i64 D] 26) := ⟨_, rfl⟩
  have BB := hideG (show Below w.heap.size w W0 by rw [hW0]; exact (Below.refl _ _).alloc (Nat.le_refl _) _)
  have z0 : w.heap.size < W0.heap.size := by rw [hW0]; simp
  have HR := hideG (show W0.heap[w.heap.size]? = some (.cells #[.int .i64 N, .int .i64 T, .int .i64 M, .int .i64 D] 26 (0, 0)) by rw [hW0]; exact heap_alloc_new w _)
  have HW0 := hideG hW0
  clear hW0
  obtain ⟨⟨x0, x1, x2, x3⟩, -⟩ := cells_four HR.out
  go_enter Tryz.func5, Tryz.ntmps5
  go_upto_region 1 with fail
  rw [← HW0.out]
  go_wp2_with fail
  refine (HB.out W0 BB.out).mono ?_
  rintro e w1 ⟨b, rfl, hb1, m, hses, hnew⟩
  have z1 := hb1.size
  have B1 := hideG (BB.out.trans (hb1.mono (by omega)))
  have R1 := hideG ((hb1.block w.heap.size z0).trans HR.out)
  have S1 := hideG hses
  have NW := hideG hnew
  clear x0 x1 x2 x3 hb1 hses hnew
  obtain ⟨⟨x0, x1, x2, x3⟩, -⟩ := cells_four R1.out
  have q0 : w.heap.size < w1.heap.size := by omega
  obtain ⟨W2, hW2⟩ : ∃ W2, W2 = w1.alloc (.cells #[.int .i64 N, .int .i64 T, .int .i64 M, .int .i64 D, .slice a n c, .int .i64 0, .int .i64 0, .int .i64 0, .slice none 0 0, .slice none 0 0, .int .i64 0, .bool false, .bool false, .bool false, .bool false, .bool false, .bool false, .bool false, .bool false, .bool false, .bool false, .bool false, .bool false, .bool false, .bool false, .bool false, .bool false, .bool false, .bool false, .bool false, .bool false, .bool false, .bool false, .bool false, .bool false, .bool false, .bool false, .bool false, .bool false, .bool false, .bool false, .bool false, .bool false, .bool false, .bool false, .bool false, .bool false, .bool false, .bool false, .bool false, .bool false, .bool false, .bool false, .bool false, .bool false, .bool false, .bool false, .bool false, .bool false, .bool false, .bool false, .bool false, .bool false] 40) := ⟨_, rfl⟩
  have hb2 : Below w1.heap.size w1 W2 := by rw [hW2]; exact (Below.refl _ _).alloc (Nat.le_refl _) _
  have z2 : w1.heap.size < W2.heap.size := by rw [hW2]; simp
  have INIT := hideG (show IdI w W2 b n w.heap.size w1.heap.size ⟨N, T, M, D⟩ cl (beg cl n) (fun _ => 0) m (.slice a n c) (.slice none 0 0) (.slice none 0 0) idl0 from
    { mem := { ses := S1.out.below hb2, id := by rw [hW2]; exact id_fresh w1 N T M D a n c, la := list_nil _, lb := list_nil _, cfg := (hb2.block w.heap.size q0).trans R1.out,
               lists := fun x hx => (by rcases hx with hx | hx <;> cases hx),
               gn := ⟨fun e => by have := S1.out.low e; omega, by omega, by omega⟩,
               gcn := fun e => by have := NW.out _ e; omega,
               lo := fun z hz => by have := NW.out z (.inl hz); omega,
               bel := B1.out.trans (hb2.mono B1.out.size) },
      hi := hi_beg HC.out, out := outOk_beg _ _ _, ir := ir_beg _ _, rd4 := Nat.zero_le _ })
  have HW2 := hideG hW2
  clear hW2 hb2
  go_upto_region 5 with fail
  rw [← HW2.out]
  clear x0 x1 x2 x3
  obtain ⟨g, hg⟩ : ∃ g, g = w1.heap.size := ⟨_, rfl⟩
  rw [← hg]
  rw [← hg] at INIT
  have hgw : w.heap.size ≤ g := by omega
  clear hg z2
  obtain ⟨gc, hgc⟩ : ∃ gc, gc = w.heap.size := ⟨_, rfl⟩
  rw [← hgc]
  rw [← hgc] at INIT
  clear hgc
  go_wp2_with fail
  go_loopw [10] (fun i wr => ∃ (j : Nat) (s : Sn) (ph : Nat → Nat) (m : SM) (va vb : Value) (I : Idl), j ≤ n3 ∧ i = .int .i64 (j : Int) ∧ IdI w wr b n gc g ⟨N, T, M, D⟩ cl s ph m (.slice a n c) va vb I) (fun i _ => n3 - (intOf i).toNat)
  case atStart => exact ⟨0, _, _, _, _, _, _, Nat.zero_le _, rfl, INIT.out⟩
  case round =>
    obtain ⟨j, s, ph, m, va, vb, I, hj, rfl, hinv⟩ := hrel
    have IV := hideG hinv
    have hgcl := hinv.mem.gcl
    clear hinv
    by_cases hlt : j < n3
    · obtain ⟨sb, off, rfl, hsl, d0, d1, d2, d3⟩ := (HSS.out wr IV.out.mem.bel).cells j hlt
      obtain ⟨i1, i2, i3, i4⟩ := (HSS.out wr IV.out.mem.bel).each j hlt
      have HCELL := hideG (fun (W : World) (hb : Below w.heap.size w W) => (show W.cell? ⟨sb, off + j * 4, none⟩ = some (.int .i64 (S.k j)) ∧ sb < W.heap.size from by
        obtain ⟨sb', off', e, g1, g2, _⟩ := (HSS.out W hb).cells j hlt
        injection e with e
        injection e with e1 e2 _
        subst e1; subst e2
        exact ⟨g2, g1⟩))
      have I0 := hideG (IV.out.mem.below (Below.refl wr.heap.size wr).drew)
      have HAX := hideG (act_calls2 I0.out.ses HC.out IV.out.hi.ok IV.out.hi.flb (S.k j) (S.n j) (S.m j) i2 i3 (S.s j) i4 false)
      obtain ⟨ph', hhi', -⟩ := IV.out.hi.act HC.out (o := ⟨S.k j, S.n j, S.m j, bl (S.s j)⟩) (bl_isB (S.s j))
      have hout' := OutOk.act (cl := cl) (n := n) IV.out.hi.ok IV.out.out false ⟨S.k j, S.n j, S.m j, bl (S.s j)⟩
      have hir' := ir_act HC.out IV.out.hi IV.out.ir ⟨S.k j, S.n j, S.m j, bl (S.s j)⟩
      rw [idlN_eq] at hir'
      have h5 : S.k j = 5 → actD s ⟨S.k j, S.n j, S.m j, bl (S.s j)⟩ = none := fun e => actD_five e
      have hrun := IV.out.ir.runs IV.out.hi
      have hrd4 := IV.out.rd4
      obtain ⟨s', hs'⟩ : ∃ s', s' = actN ⟨N, T, M, D⟩ cl n false s ⟨S.k j, S.n j, S.m j, bl (S.s j)⟩ := ⟨_, rfl⟩
      obtain ⟨op, hop⟩ : ∃ op, op = actD s ⟨S.k j, S.n j, S.m j, bl (S.s j)⟩ := ⟨_, rfl⟩
      rw [← hs'] at hhi' hout' hir' HAX
      rw [← hop] at hir' HAX h5
      have HHI := hideG hhi'
      have HOU := hideG hout'
      have HIR := hideG hir'
      have H5 := hideG h5
      have HRUN := hideG hrun
      dsimp only at HAX HIR
      clear hs' hop hhi' hout' hir' h5 hrun i1 i2 i3 i4
      obtain ⟨⟨x0, x1, x2, x3⟩, -⟩ := cells_four IV.out.mem.cfg
      have hjn : (j : Int) < (n3 : Int) := by omega
      go_upto_region 8 with fail
      go_cut [11, 12] from 38 to 47 (fun q r wc => r = .bool true ∧ (∃ a n c, q = .slice a n c) ∧ ∃ (m' : SM) (B : Nat), IdM w wc b n gc g ⟨N, T, M, D⟩ cl s' m' (.slice a n c) va vb I ∧ wr.heap.size ≤ B ∧ ParAt2 wc B (SesOwn b m') q op)
      case first =>
        go_region_with (go_at_call 12; refine HAX.out.mono ?_; rintro e w3 ⟨v, rfl, m', ht, B, hB, hp⟩; obtain ⟨pa, pn, pc, hv⟩ := par2_slice hp; have HFIN := hideG (show ∃ (m' : SM) (B : Nat), IdM w w3 b n gc g ⟨N, T, M, D⟩ cl s' m' (.slice a n c) va vb I ∧ wr.heap.size ≤ B ∧ ParAt2 w3 B (SesOwn b m') v op from ⟨m', B, I0.out.took ht, hB, hp⟩); rw [hv] at HFIN ⊢; clear hp ht hv)
        all_goals (go_wp2_with fail; go_meet; exact ⟨rfl, ⟨_, _, _, rfl⟩, HFIN.out⟩)
      case rest =>
        obtain ⟨hr, ⟨pa, pn, pc, hv⟩, m', B, hm1, hB, hpar⟩ := hcut
        subst hr
        subst hv
        have M1 := hideG hm1
        have P1 := hideG hpar
        have hgl := hm1.id.lt
        clear hm1 hpar x0 x1 x2 x3 d0 d1 d2 d3 hsl
        obtain ⟨lb, hlb⟩ : ∃ lb, decide (0 < pn) = lb := ⟨_, rfl⟩
        go_upto_if 52 with fail
        go_cut [9] from 53 to 57 (fun q wd => q = .pointer (some ⟨g, 0, none⟩) ∧ IdM w wd b n gc g ⟨N, T, M, D⟩ cl s' m' (.slice a n c) va vb (hrdO ⟨N, T, M, D⟩ I op))
        case first =>
          cases hopc : op with
          | none =>
            have hp := P1.out
            rw [hopc] at hp
            have hnil : (.slice pa pn pc : Value) = .slice none 0 0 := hp
            injection hnil with h1 h2 h3
            subst h1; subst h2; subst h3
            have hl0 : lb = false := by rw [← hlb]; rfl
            subst hl0
            clear hp hlb
            go_wp2_with fail
            go_meet
            exact ⟨rfl, by rw [hopc]; exact M1.out⟩
          | some p =>
            have hp := P1.out
            rw [hopc] at hp
            obtain ⟨g1, o1, cc, yv, f1, f2, f3, f4, f5, f6, f7, f8, f9, -, -⟩ := hp
            injection f1 with h1 h2 h3
            subst h1; subst h2; subst h3
            obtain ⟨ay, cy, hyv, -⟩ := bytes_view f9
            obtain ⟨p0, pt, E⟩ := p
            dsimp only at f6 f7 f8 f9 hyv
            have HHE := hideG (khears_calls M1.out.id hrd4 hN p0 pt yv E f9)
            have HOP := hideG hopc
            rw [hyv] at f8 HHE
            have hl0 : lb = true := by rw [← hlb]; rfl
            subst hl0
            clear hlb f9 hyv hopc
            generalize E.length = nE at *
            go_wp2_with fail
            refine HHE.out.mono ?_
            rintro e w4 ⟨rfl, hc4, hi4⟩
            have HFIN := hideG (M1.out.heard hc4 hi4)
            clear hc4 hi4
            go_wp2_with fail
            go_meet
            exact ⟨rfl, by rw [HOP.out]; exact HFIN.out⟩
        case rest =>
          obtain ⟨hq, hm2⟩ := hcut
          subst hq
          have M2 := hideG hm2
          obtain ⟨e0, sl⟩ := HCELL.out wc hm2.bel
          have hgl2 := hm2.id.lt
          clear hm2 hlb
          obtain ⟨I1, hI1⟩ : ∃ I1, I1 = hrdO ⟨N, T, M, D⟩ I op := ⟨_, rfl⟩
          have hrd1 : I1.rd ≤ 4 := by rw [hI1, hrdO_rd]; exact hrd4
          have HRN := hideG (show S.k j = 5 → (I1.out.1 = 0 → I1.rd ≤ 3 ∧ 0 ≤ I1.tm ∧ I1.tm ≤ 100000) from fun e => by rw [hI1, H5.out e]; exact HRUN.out)
          rw [← hI1] at M2 HIR
          clear hI1
          obtain ⟨I2, hI2⟩ : ∃ I2, I2 = if S.k j = 5 then ticksN ⟨N, T, M, D⟩ cl n I1 else I1 := ⟨_, rfl⟩
          rw [← hI2] at HIR
          have HI2 := hideG hI2
          clear hI2
          obtain ⟨kb, hkb⟩ : ∃ kb, (S.k j == 5) = kb := ⟨_, rfl⟩
          go_upto_if 63 with fail
          go_cut [9] from 64 to 65 (fun q wd => q = .pointer (some ⟨g, 0, none⟩) ∧ (∃ va' vb', IdM w wd b n gc g ⟨N, T, M, D⟩ cl s' m' (.slice a n c) va' vb' I2) ∧ I2.rd ≤ 4)
          case first =>
            have HKB := hideG hkb
            cases kb
            · have FIN := hideG (show (∃ va' vb', IdM w wc b n gc g ⟨N, T, M, D⟩ cl s' m' (.slice a n c) va' vb' I2) ∧ I2.rd ≤ 4 from by
                have h1 : I2 = I1 := HI2.out.trans (if_neg (by simpa using HKB.out))
                rw [h1]; exact ⟨⟨va, vb, M2.out⟩, hrd1⟩)
              go_wp2_with fail
              go_meet
              exact ⟨rfl, FIN.out⟩
            · have h5 : S.k j = 5 := by simpa using HKB.out
              have hrn := HRN.out h5
              have HTT := hideG (HTK.out wc M2.out.bel g hgw va vb I1 M2.out.id M2.out.la M2.out.lb (fun x hx => (M2.out.lists x hx).1) hrn)
              have FINX := hideG (fun (w4 : World) (ht : Tickd wc w4 g ⟨N, T, M, D⟩ (.slice a n c) va vb (ticksN ⟨N, T, M, D⟩ cl n I1)) => (show (∃ va' vb', IdM w w4 b n gc g ⟨N, T, M, D⟩ cl s' m' (.slice a n c) va' vb' I2) ∧ I2.rd ≤ 4 from by
                have h1 : I2 = ticksN ⟨N, T, M, D⟩ cl n I1 := HI2.out.trans (if_pos h5)
                rw [h1]; exact ⟨M2.out.ticked ht, ticksN_rd hrd1 (fun e => (hrn e).1)⟩))
              clear h5 hrn
              go_wp2_with fail
              refine HTT.out.mono ?_
              rintro e w4 ⟨rfl, ht⟩
              have HFIN := hideG (FINX.out w4 ht)
              clear ht
              go_wp2_with fail
              go_meet
              exact ⟨rfl, HFIN.out⟩
          case rest =>
            obtain ⟨hq, ⟨va2, vb2, hm3⟩, hrd2⟩ := hcut
            subst hq
            have M3 := hideG hm3
            have HVO := hideG (vOutcome hm3.ses HHI.out.ok)
            have hoi := HOU.out.ints HHI.out.ok.gc
            have OI := hideG hoi
            have EO := hideG HIR.out.out
            have hgl3 := hm3.id.lt
            clear hm3 hoi hkb e0 sl
            go_wp2_with fail
            refine HVO.out.mono ?_
            rintro e w4 ⟨va3, vb3, rfl, ht1, ht2, -, hb4⟩
            have LA3 := listAt_of_owns ht1 (fun z hz => by have := OI.out.1 z hz; unfold inI; omega)
            have LB3 := listAt_of_owns ht2 (fun z hz => by have := OI.out.2 z hz; unfold inI; omega)
            obtain ⟨a4, k4, e4⟩ := klist_form LA3
            obtain ⟨a5, k5, e5⟩ := klist_form LB3
            obtain ⟨W5, hW5⟩ : ∃ W5, W5 = w4.alloc (.cells #[.int .i64 s'.q.out.1, .int .i64 s'.q.out.2.1, va3, vb3] 35) := ⟨_, rfl⟩
            have hb5 : Below w4.heap.size w4 W5 := by rw [hW5]; exact (Below.refl _ _).alloc (Nat.le_refl _) _
            have z5 : w4.heap.size < W5.heap.size := by rw [hW5]; simp
            have R5 := hideG (show W5.heap[w4.heap.size]? = some (.cells #[.int .i64 s'.q.out.1, .int .i64 s'.q.out.2.1, va3, vb3] 35 (0, 0)) by rw [hW5]; exact heap_alloc_new w4 _)
            have M5 := hideG (M3.out.below (hb4.trans (hb5.mono hb4.size)))
            have HSO := hideG (fun (W : World) (hb : Below W5.heap.size W5 W) => (ksameOutcome_same s'.q.out.1 s'.q.out.2.1 va3 vb3 va2 vb2 s'.q.out.2.2.1 s'.q.out.2.2.2 W ((LA3.below hb5).below hb) ((LB3.below hb5).below hb) (by rw [← EO.out]; exact M5.out.la.below hb) (by rw [← EO.out]; exact M5.out.lb.below hb)).mono (fun e w' (hq : e = .returned (.bool true) ∧ Below W.heap.size W w') => (show e = .returned (.bool true) ∧ IdM w w' b n gc g ⟨N, T, M, D⟩ cl s' m' (.slice a n c) va2 vb2 I2 from ⟨hq.1, M5.out.below (hb.trans (hq.2.mono hb.size))⟩)))
            obtain ⟨-, -, -, -, -, -, j6, j7, j8, j9, -⟩ := M5.out.id.cells
            rw [EO.out] at j6 j7
            obtain ⟨a6, k6, e6⟩ := klist_form M5.out.la
            obtain ⟨a7, k7, e7⟩ := klist_form M5.out.lb
            rw [EO.out] at e6 e7
            have M5X := hideG M5.out
            rw [e4, e5] at hW5 R5 HSO ⊢
            rw [e6] at j8 HSO
            rw [e7] at j9 HSO
            have HW5 := hideG hW5
            have hgl5 := M5.out.id.lt
            obtain ⟨⟨r0, r1, r2, r3⟩, -⟩ := cells_four R5.out
            clear ht1 ht2 hb4 LA3 LB3 e4 e5 hW5 hb5
            generalize s'.q.out.1 = so at *
            generalize s'.q.out.2.1 = ro at *
            generalize s'.q.out.2.2.1.length = nls at *
            generalize s'.q.out.2.2.2.length = nus at *
            go_upto_region 16 with fail
            rw [← HW5.out]
            go_cut [14] from 68 to 73 (fun q wf => q = .bool true ∧ ∃ va' vb', IdM w wf b n gc g ⟨N, T, M, D⟩ cl s' m' (.slice a n c) va' vb' I2)
            case first =>
              go_region_with (go_at_call 16; (first | refine (HSO.out _ (Below.refl W5.heap.size W5).drew).mono ?_ | refine (HSO.out _ (Below.refl W5.heap.size W5)).mono ?_); rintro e w6 ⟨rfl, hm6⟩; have HFIN := hideG hm6; clear hm6)
              all_goals (go_wp2_with fail; go_meet; exact ⟨rfl, _, _, HFIN.out⟩)
            case rest =>
              obtain ⟨hq, va8, vb8, hm7⟩ := hcut
              subst hq
              have FIN := hideG (show IdI w wc b n gc g ⟨N, T, M, D⟩ cl s' ph' m' (.slice a n c) va8 vb8 I2 from ⟨hm7, HHI.out, HOU.out, HIR.out, hrd2⟩)
              clear hm7
              go_wp2_with fail
              go_roundw
              case rel => exact ⟨j + 1, s', ph', m', va8, vb8, I2, by omega, by go_num, FIN.out⟩
              case measure => simp [intOf]; omega
    · have hjn : ¬ (j : Int) < (n3 : Int) := by omega
      go_wp2_with fail
      go_ret
      exact ⟨rfl, IV.out.mem.bel⟩
end Go.Proofs.YtchideljndagjabGreat.ideal
