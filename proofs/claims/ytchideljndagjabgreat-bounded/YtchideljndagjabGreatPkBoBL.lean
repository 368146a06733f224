/- The law Bounded: what holds along its loops. -/
import Derived.Test.YtchideljndagjabGreatPkBoBK
import Derived.Below
import Derived.ChangeMaps5
import Derived.SizedLaws
import Derived.Test.YtchideljndagjabGreatPkBoAB
import Derived.Test.YtchideljndagjabGreatRows
import Derived.JoinedOf
namespace Go.Proofs.YtchideljndagjabGreat
open Go.ChangeShapes Go.WideShapes Go.ChangeAt Go.RowKit
set_option linter.unusedVariables false

def BgB (n : Nat) (bg : Bg) : Prop := bg.1 ≤ 36 ∧ (∀ u, bg.2 u ≤ 3) ∧ ∀ u, n < u → bg.2 u = 0
theorem BgB.step {C : Srv.Cf} {n : Nat} (hn : C.N = (n : Int)) {bg : Bg} (h : BgB n bg) {p : Pk} (hp : ParOk C p) : BgB n (budS bg p) := by
  obtain ⟨h1, h2, h3⟩ := h
  have hf := hp.fr
  unfold budS
  split
  · exact ⟨by show bg.1 - 1 ≤ 36; omega, h2, h3⟩
  · refine ⟨h1, fun u => ?_, fun u hu => ?_⟩
    · show updA bg.2 p.1.toNat (bg.2 p.1.toNat - 1) u ≤ 3
      by_cases e : u = p.1.toNat
      · have := h2 u; rw [← e, updA_same]; omega
      · rw [updA_other _ _ _ e]; exact h2 u
    · show updA bg.2 p.1.toNat (bg.2 p.1.toNat - 1) u = 0
      rw [updA_other _ _ _ (by omega)]; exact h3 u hu
theorem BgB.all {C : Srv.Cf} {n : Nat} (hn : C.N = (n : Int)) : ∀ (ps : List Pk) (bg : Bg), BgB n bg → (∀ p ∈ ps, ParOk C p) → BgB n (budL bg ps)
  | [], bg, h, _ => h
  | p :: ps, bg, h, hp => by
    show BgB n (budL (budS bg p) ps)
    exact BgB.all hn ps _ (h.step hn (hp p List.mem_cons_self)) (fun q hq => hp q (List.mem_cons_of_mem _ hq))
theorem bg_bounds {C : Srv.Cf} {cl : Nat → Cli.Cl} {n : Nat} {s : Sn} {bg : Bg} {t : Int} (h : BInv C cl n s bg t) (k : BgB n bg) : -1000 ≤ bg.1 ∧ bg.1 ≤ 1000 ∧ ∀ u, u < 13 → -1000 ≤ bg.2 u ∧ bg.2 u ≤ 1000 := by
  have s0 := h.bud.s0
  refine ⟨by omega, by have := k.1; omega, fun u hu => ⟨?_, by have := k.2.1 u; omega⟩⟩
  by_cases e : u = 0
  · rw [e]; have := h.bud.c0; omega
  · by_cases q : u ≤ n
    · have := h.bud.cli (u - 1) (by omega)
      rw [show u - 1 + 1 = u by omega] at this; omega
    · rw [k.2.2 u (by omega)]; omega
theorem bgB_beg {n : Nat} (hn : n ≤ 12) : BgB n (budB n) := by
  refine ⟨by show 3 * (n : Int) ≤ 36; omega, fun u => ?_, fun u hu => ?_⟩
  · show (if 1 ≤ u ∧ u ≤ n then (3 : Int) else 0) ≤ 3; split <;> omega
  · show (if 1 ≤ u ∧ u ≤ n then (3 : Int) else 0) = 0; exact if_neg (by omega)

/-- Along the loops: w0: the arguments' world; gc, gb, gw: the configuration, the budget, the outcome. -/
structure BndI (w0 wr : World) (b n gb gw gc : Nat) (C : Srv.Cf) (cl : Nat → Cli.Cl) (s : Sn) (m : SM) (bg : Bg) (t : Int) (va vb : Value) : Prop where
  ses : SesAt wr b n C cl s m
  inv : BInv C cl n s bg t
  bgb : BgB n bg
  bg : BgAt wr gb bg
  row : wr.heap[gw]? = some (.cells #[.int .i64 s.q.out.1, .int .i64 s.q.out.2.1, va, vb] 35 (0, 0))
  cfg : wr.heap[gc]? = some (.cells #[.int .i64 C.N, .int .i64 C.T, .int .i64 C.M, .int .i64 C.D] 26 (0, 0))
  set : ListAt wr va s.q.out.2.2.1
  sum : ListAt wr vb s.q.out.2.2.2
  lists : ∀ x, (va.ownBlock = some x ∨ vb.ownBlock = some x) → x ≠ gb ∧ ¬ SesOwn b m x ∧ x < wr.heap.size ∧ x ≠ gw ∧ x ≠ gc
  nb : ¬ SesFoot b n m gb ∧ ¬ SesFoot b n m gw ∧ ¬ SesFoot b n m gc
  ne : gb ≠ gw ∧ gb ≠ gc ∧ gw ≠ gc
  lo : w0.heap.size ≤ gb ∧ w0.heap.size ≤ gw ∧ w0.heap.size ≤ gc
  own : ∀ x, SesOwn b m x → w0.heap.size ≤ x
  bel : Below w0.heap.size w0 wr
section
variable {w0 wr w1 Y : World} {b n gb gw gc : Nat} {C : Srv.Cf} {cl : Nat → Cli.Cl} {s : Sn} {m m' : SM} {bg : Bg} {t : Int} {va vb va' vb' : Value}
theorem BndI.lt (h : BndI w0 wr b n gb gw gc C cl s m bg t va vb) : gb < wr.heap.size ∧ gw < wr.heap.size ∧ gc < wr.heap.size := by
  refine ⟨FRow.lt h.bg, ?_, ?_⟩
  · by_cases q : gw < wr.heap.size
    · exact q
    · have := h.row; rw [Array.getElem?_eq_none (by omega)] at this; cases this
  · by_cases q : gc < wr.heap.size
    · exact q
    · have := h.cfg; rw [Array.getElem?_eq_none (by omega)] at this; cases this
theorem BndI.below (h : BndI w0 wr b n gb gw gc C cl s m bg t va vb) (hb : Below wr.heap.size wr w1) : BndI w0 w1 b n gb gw gc C cl s m bg t va vb := by
  obtain ⟨l1, l2, l3⟩ := h.lt
  exact { h with ses := h.ses.below hb, bg := h.bg.chg (S := fun _ => False) (Chg.of_below hb) (fun e => e), row := (hb.block gw l2).trans h.row, cfg := (hb.block gc l3).trans h.cfg, set := h.set.below hb, sum := h.sum.below hb,
                 lists := fun x hx => ⟨(h.lists x hx).1, (h.lists x hx).2.1, Nat.lt_of_lt_of_le (h.lists x hx).2.2.1 hb.size, (h.lists x hx).2.2.2⟩, bel := h.bel.trans (hb.mono h.bel.size) }
/-- One step: watched, and its outcome laid down. -/
theorem BndI.step (hC : Cast C cl n) (h : BndI w0 wr b n gb gw gc C cl s m bg t va vb) {o : Stp} (ho : Frm.isB o.s) {s' : Sn} (hs : s' = actN C cl n true s o) {bg' : Bg} (hg : bg' = budA C cl n s o bg) (hw : Watched wr w1 b n C cl s' m m' gb bg' va' vb')
    (hY : ∃ X, X = (((w1.setCell ⟨gw, 0, none⟩ (.int .i64 s'.q.out.1)).setCell ⟨gw, 1, none⟩ (.int .i64 s'.q.out.2.1)).setCell ⟨gw, 2, none⟩ va').setCell ⟨gw, 3, none⟩ vb' ∧ Below X.heap.size X Y) : BndI w0 Y b n gb gw gc C cl s' m' bg' (if o.k = 5 then t + 1 else t) va' vb' := by
  obtain ⟨X, hX, hb⟩ := hY
  obtain ⟨l1, l2, l3⟩ := h.lt
  have z1 := hw.chg.size
  have cX : Chg (fun x => x = gw) w1 X := by rw [hX]; exact chg_four w1 gw _ _ _ _
  have cY : Chg (fun x => x = gw) w1 Y := cX.grow hb
  have zY := cY.size
  have hft : ∀ x, SesFoot b n m' x → x ≠ gb ∧ x ≠ gw ∧ x ≠ gc := fun x hx => by
    rcases hw.foot x hx with q | q
    · exact ⟨fun e => h.nb.1 (e ▸ q), fun e => h.nb.2.1 (e ▸ q), fun e => h.nb.2.2 (e ▸ q)⟩
    · omega
  have hrow1 : w1.heap[gw]? = some (.cells #[.int .i64 s.q.out.1, .int .i64 s.q.out.2.1, va, vb] 35 (0, 0)) := by
    rw [hw.chg.block gw l2 (fun e => by
      rcases e with e | e
      · exact h.ne.1 e.symm
      · exact h.nb.2.1 (.inl e))]
    exact h.row
  have zX : X.heap.size = w1.heap.size := by rw [hX]; simp [World.setCell]
  have hrowX : X.heap[gw]? = some (.cells #[.int .i64 s'.q.out.1, .int .i64 s'.q.out.2.1, va', vb'] 35 (0, 0)) := by rw [hX]; exact row_four hrow1 _ _ _ _
  have hlist : ∀ x, (va'.ownBlock = some x ∨ vb'.ownBlock = some x) → x ≠ gw := fun x hx e => by have := (hw.lists x hx).1; omega
  have hinv : BInv C cl n s' bg' (if o.k = 5 then t + 1 else t) ∧ BgB n bg' := by
    rw [hs, hg]
    unfold budA
    by_cases k3 : o.k = 3
    · rw [if_pos k3, if_neg (by omega)]
      exact ⟨h.inv.double ho k3, h.bgb⟩
    · rw [if_neg k3]
      obtain ⟨p1, p2, p3⟩ := BInv.act hC h.inv ho k3
      exact ⟨p3, BgB.all hC.num _ _ h.bgb p1⟩
  refine ⟨hw.ses.keep zY (fun x hx => cY.block x (hw.ses.low hx) (hft x hx).2.1), hinv.1, hinv.2, hw.bg.chg cY h.ne.1, (hb.block gw (by omega)).trans hrowX, ?_, hw.set.chg cY (fun x hx e => hlist x (.inl hx) e), hw.sum.chg cY (fun x hx e => hlist x (.inr hx) e), fun x hx => ?_, ⟨fun e => (hft gb e).1 rfl, fun e => (hft gw e).2.1 rfl, fun e => (hft gc e).2.2 rfl⟩, h.ne, h.lo, fun x hx => ?_, ?_⟩
  · rw [cY.block gc (by omega) (fun e => h.ne.2.2 e.symm), hw.chg.block gc l3 (fun e => by
      rcases e with e | e
      · exact h.ne.2.1 e.symm
      · exact h.nb.2.2 (.inl e))]
    exact h.cfg
  · obtain ⟨q1, q2, q3⟩ := hw.lists x hx
    exact ⟨by omega, q2, by omega, by omega, by omega⟩
  · rcases hw.own x hx with q | q
    · exact h.own x q
    · have := h.bel.size; omega
  · refine h.bel.trans ((hw.chg.below h.bel.size (fun x e => ?_)).trans (cY.below (by have := h.bel.size; omega) (fun x e => ?_)))
    · rcases e with e | e
      · rw [e]; exact h.lo.1
      · exact h.own x e
    · rw [e]; exact h.lo.2.1
end

end Go.Proofs.YtchideljndagjabGreat

namespace Go.Proofs.YtchideljndagjabGreat.bounded
open Go.ChangeShapes Go.WideShapes Go.ChangeAt Go.RowKit
set_option linter.unusedVariables false

theorem band {a b : Bool} (h : a = true) (k : b = true) : (a && b) = true := by rw [h, k]; rfl
theorem k1 : (Rows.boundedRow.wf (OpenSpec.ofChange Rows.boundedSpec)) = true := by kernel_rfl
theorem k2 : (laidOutB Tryz.prog) = true := by kernel_rfl
theorem k3 : (mapsRowed Tryz.prog) = true := by kernel_rfl
theorem k4 : (Tryz.f8.params.all (Tryz.prog.readableRec ·)) = true := by kernel_rfl
theorem k5 : (namedTie Tryz.prog Rows.boundedRow.named Rows.boundedSpec.vars) = true := by kernel_rfl
theorem k6 : ((Rows.boundedRow.stops == [])) = true := by kernel_rfl
theorem k7 : ((Tryz.prog.stops == [])) = true := by kernel_rfl
theorem k8 : ((Rows.boundedRow.knobs == [])) = true := by kernel_rfl
theorem k9 : ((Tryz.prog.stopKnobs == [])) = true := by kernel_rfl
theorem k10 : ((Rows.boundedRow.inPlace == Tryz.prog.inPlace 8)) = true := by kernel_rfl
theorem k11 : ((Rows.boundedRow.unfollowed == Tryz.prog.unfollowed 8)) = true := by kernel_rfl
theorem k12 : ((Rows.boundedRow.recurses == Tryz.prog.recurses 8)) = true := by kernel_rfl
theorem k13 : ((Rows.boundedRow.named == Tryz.prog.varsNamed 8)) = true := by kernel_rfl
theorem k14 : ((Rows.boundedRow.maps == (Tryz.f8.params.toList ++ Rows.boundedSpec.plain.varTypes Tryz.prog).any (Tryz.prog.mapsRec ·))) = true := by kernel_rfl
theorem k15 : ((Rows.boundedRow.ifaces == (Tryz.f8.params.toList ++ Rows.boundedSpec.plain.varTypes Tryz.prog).any (Tryz.prog.ifacesRec ·))) = true := by kernel_rfl
theorem k16 : ((Rows.boundedRow.mapsOut == Tryz.prog.mapsAmong Tryz.f8.resultTypes.toList)) = true := by kernel_rfl
theorem k17 : ((Rows.boundedRow.loops == (Tryz.f8.params.toList ++ Rows.boundedSpec.plain.varTypes Tryz.prog).any (Tryz.prog.loopsFrom ·))) = true := by kernel_rfl
theorem k18 : ((Rows.boundedRow.wideKeys == (Tryz.f8.params.toList ++ Rows.boundedSpec.plain.varTypes Tryz.prog ++ Tryz.f8.resultTypes.toList).any (Tryz.prog.wideKeysFrom ·))) = true := by kernel_rfl
theorem k19 : (Rows.boundedSpec.vars.all (Tryz.prog.varReadable ·)) = true := by kernel_rfl
theorem k20 : (Tryz.f8.resultTypes.all (fun t => Tryz.prog.readableRec t && decide (t < Tryz.prog.types.size))) = true := by kernel_rfl
theorem k21 : ((Rows.boundedRow.ifacesOut == Tryz.f8.resultTypes.toList.any (Tryz.prog.ifacesRec ·))) = true := by kernel_rfl
theorem k22 : ((Rows.boundedRow.loopsOut == Tryz.f8.resultTypes.toList.any (Tryz.prog.loopsFrom ·))) = true := by kernel_rfl
theorem k23 : ((Rows.boundedRow.plainKeys == Tryz.prog.plainKeys)) = true := by kernel_rfl
theorem k24 : (Rows.boundedRow.shortTexts.isNone) = true := by kernel_rfl
theorem k25 : (Tryz.prog.stopsHeard) = true := by kernel_rfl
theorem k26 : (Tryz.prog.mayEnter) = true := by kernel_rfl
theorem k27 : ((Rows.boundedRow.lifted == Tryz.prog.liftsFinal)) = true := by kernel_rfl
theorem k28 : ((Tryz.prog.make == some Rows.boundedRow.make)) = true := by kernel_rfl
theorem k30 : ((Rows.boundedRow.pinned == Rows.boundedRow.pinnedBy)) = true := by kernel_rfl
theorem k31 : ((Rows.boundedRow.veiled == (Tryz.f8.params.toList ++ Rows.boundedSpec.plain.varTypes Tryz.prog ++ Tryz.f8.resultTypes.toList).any (Tryz.prog.veiledRec ·))) = true := by kernel_rfl
theorem k32 : (Rows.boundedRow.veiledFits Tryz.prog Tryz.f8.params.toList (Tryz.f8.params.toList ++ Rows.boundedSpec.plain.varTypes Tryz.prog ++ Tryz.f8.resultTypes.toList)) = true := by kernel_rfl
set_option maxRecDepth 100000 in
theorem closed : joinedFacts Tryz.prog 8 Tryz.f8 Rows.boundedSpec Rows.boundedRow = true := by
  unfold joinedFacts
  exact (band (band (band (band (band (band (band (band (band (band (band (band (band (band (band (band (band (band (band (band (band (band (band (band (band (band (band (band (band (band (band k1 k2) k3) k4) k5) k6) k7) k8) k9) k10) k11) k12) k13) k14) k15) k16) k17) k18) k19) k20) k21) k22) k23) k24) k25) k26) k27) k28) (by kernel_rfl)) k30) k31) k32)

end Go.Proofs.YtchideljndagjabGreat.bounded
