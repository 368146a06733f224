/- Contract of package veilkeep: an outcome that there can be. -/
import Derived.Test.YtchideljndagjabGreatPkBoBG
import Derived.Test.YtchideljndagjabGreatPkBoBH
import Derived.Test.YtchideljndagjabGreatPkBoBD
import Derived.Deep.DeepCutAuto
import Derived.Test.YtchideljndagjabGreatPkBoAG
import Derived.Test.YtchideljndagjabGreatPkBoAC
import Derived.BigQuiet
import Derived.Test.YtchideljndagjabGreatPkBoBI
namespace Go.Proofs.YtchideljndagjabGreat
open Go.ChangeShapes Go.WideShapes Go.ChangeAt Go.RowKit
set_option linter.unusedVariables false

def sndW (w : World) (N T M D st ro : Int) (va vb : Value) : World := (w.alloc (.cells #[.int .i64 N, .int .i64 T, .int .i64 M, .int .i64 D] 26)).alloc (.cells #[.int .i64 st, .int .i64 ro, va, vb] 35)
theorem sndW_facts (w : World) (N T M D st ro : Int) (va vb : Value) : Below w.heap.size w (sndW w N T M D st ro va vb) ∧ (sndW w N T M D st ro va vb).heap.size = w.heap.size + 2 ∧ ∀ W, Below (sndW w N T M D st ro va vb).heap.size (sndW w N T M D st ro va vb) W → (W.cell? ⟨w.heap.size, 0, none⟩ = some (.int .i64 N) ∧ W.cell? ⟨w.heap.size, 1, none⟩ = some (.int .i64 T) ∧ W.cell? ⟨w.heap.size, 2, none⟩ = some (.int .i64 M)) ∧ W.cell? ⟨w.heap.size + 1, 0, none⟩ = some (.int .i64 st) ∧ W.cell? ⟨w.heap.size + 1, 1, none⟩ = some (.int .i64 ro) ∧ W.cell? ⟨w.heap.size + 1, 2, none⟩ = some va ∧ W.cell? ⟨w.heap.size + 1, 3, none⟩ = some vb := by
  have z : (sndW w N T M D st ro va vb).heap.size = w.heap.size + 2 := by simp [sndW]
  refine ⟨((Below.refl _ _).alloc (Nat.le_refl _) _).alloc (by simp) _, z, fun W hb => ?_⟩
  have k1 : ∀ o, W.cell? ⟨w.heap.size, o, none⟩ = (sndW w N T M D st ro va vb).cell? ⟨w.heap.size, o, none⟩ := fun o => hb.cell (p := ⟨w.heap.size, o, none⟩) (by show w.heap.size < _; omega)
  have k2 : ∀ o, W.cell? ⟨w.heap.size + 1, o, none⟩ = (sndW w N T M D st ro va vb).cell? ⟨w.heap.size + 1, o, none⟩ := fun o => hb.cell (p := ⟨w.heap.size + 1, o, none⟩) (by show w.heap.size + 1 < _; omega)
  simp only [k1, k2]
  unfold sndW
  refine ⟨⟨?_, ?_, ?_⟩, ?_, ?_, ?_, ?_⟩ <;> simp

set_option maxHeartbeats 2000000 in
set_option maxRecDepth 100000 in
theorem ksound_yes (N T M D st ro : Int) (va vb : Value) (ls us : List Int) (w : World) (ha : ListAt w va ls) (hb : ListAt w vb us) (ho : OutOk ⟨N, T, M, D⟩ (st, ro, ls, us)) :
    Calls Tryz.prog 48 #[.agg #[.int .i64 N, .int .i64 T, .int .i64 M, .int .i64 D], .agg #[.int .i64 st, .int .i64 ro, va, vb]] w fun e w' => e = .returned (.bool true) ∧ Below w.heap.size w w' := by
  have HLA := hideG (fun (W : World) (hW : Below w.heap.size w W) => ha.below hW)
  have HLB := hideG (fun (W : World) (hW : Below w.heap.size w W) => hb.below hW)
  obtain ⟨a1, c1, rfl, l1, m1, -⟩ := ha
  obtain ⟨a2, c2, rfl, l2, m2, -⟩ := hb
  unfold maxLen at m1 m2
  obtain ⟨B0, z0, HX⟩ := sndW_facts w N T M D st ro (.slice a1 ls.length c1) (.slice a2 us.length c2)
  obtain ⟨W0, hW0⟩ : ∃ W0, W0 = sndW w N T M D st ro (.slice a1 ls.length c1) (.slice a2 us.length c2) := ⟨_, rfl⟩
  rw [← hW0] at B0 z0 HX
  unfold sndW at hW0
  have HW0 := hideG hW0
  have HB0 := hideG B0
  have HXX := hideG HX
  clear hW0 B0 HX
  obtain ⟨⟨x0, x1, x2⟩, y0, y1, y2, y3⟩ := HXX.out W0 (Below.refl _ _)
  rcases ho with ⟨e1, e2, e3, e4⟩ | ⟨e1, e2, e2', e3, e4⟩ | ⟨e1, e2, e3, e4, e5, e6, e7⟩
  · change st = 0 at e1
    change ro = 0 at e2
    change ls = [] at e3
    change us = [] at e4
    subst e1; subst e2; subst e3; subst e4
    simp only [List.length_nil] at HW0
    go_enter Tryz.func48, Tryz.ntmps48
    go_upto_region 1 with fail
    rw [← HW0.out]
    go_wp2_with fail
    go_ret
    exact ⟨rfl, HB0.out⟩
  · change st = 2 at e1
    change 0 ≤ ro at e2
    change ro < 4 at e2'
    change ls = [] at e3
    change us = [] at e4
    subst e1; subst e3; subst e4
    simp only [List.length_nil] at HW0
    go_enter Tryz.func48, Tryz.ntmps48
    go_upto_region 1 with fail
    rw [← HW0.out]
    go_wp2_with fail
    go_ret
    exact ⟨rfl, HB0.out⟩
  · change st = 1 at e1
    change ro = 0 at e2
    change T ≤ (ls.length : Int) at e3
    change (us.length : Int) = M at e4
    change ∀ z ∈ ls, 1 ≤ z ∧ z ≤ N at e5
    change ls.Pairwise (· < ·) at e6
    change ∀ z ∈ us, 0 ≤ z ∧ z < 4294967296 at e7
    subst e1; subst e2
    have HE5 := hideG (fun j (hj : j < ls.length) => e5 (ls.getD j 0) (by rw [List.getD_eq_getElem?_getD, List.getElem?_eq_getElem hj]; exact List.getElem_mem hj))
    have HE6 := hideG (fun j (hj : j + 1 < ls.length) => (show ls.getD j 0 < ls.getD (j + 1) 0 by
      rw [List.getD_eq_getElem?_getD, List.getElem?_eq_getElem (by omega : j < ls.length), List.getD_eq_getElem?_getD, List.getElem?_eq_getElem hj]
      exact List.pairwise_iff_getElem.1 e6 j (j + 1) (by omega) hj (by omega)))
    have HE7 := hideG (fun j (hj : j < us.length) => e7 (us.getD j 0) (by rw [List.getD_eq_getElem?_getD, List.getElem?_eq_getElem hj]; exact List.getElem_mem hj))
    have HA := hideG (fun (W : World) (hW : Below w.heap.size w W) (j : Nat) (hj : j < ls.length) => (show ∃ g off, a1 = some ⟨g, off, none⟩ ∧ g < W.heap.size ∧ ∀ i, i < ls.length → W.cell? ⟨g, off + i, none⟩ = some (.int .i64 (ls.getD i 0)) from by
      obtain ⟨a', c', q1, q2, q3, q4, q5⟩ := HLA.out W hW
      injection q1 with q1 q1' q1''
      rcases q5 with q5 | ⟨g, off, f1, f2, f3⟩
      · rw [q5] at hj; exact absurd hj (Nat.not_lt_zero _)
      · exact ⟨g, off, by rw [q1, f1], f2, f3⟩))
    have HBv := hideG (fun (W : World) (hW : Below w.heap.size w W) (j : Nat) (hj : j < us.length) => (show ∃ g off, a2 = some ⟨g, off, none⟩ ∧ g < W.heap.size ∧ W.cell? ⟨g, off + j, none⟩ = some (.int .i64 (us.getD j 0)) from by
      obtain ⟨a', c', q1, q2, q3, q4, q5⟩ := HLB.out W hW
      injection q1 with q1 q1' q1''
      rcases q5 with q5 | ⟨g, off, f1, f2, f3⟩
      · rw [q5] at hj; exact absurd hj (Nat.not_lt_zero _)
      · exact ⟨g, off, by rw [q1, f1], f2, f3 j hj⟩))
    have hM : ((us.length : Int) != M) = false := by simpa using e4
    have hT : ¬ ((ls.length : Int) < T) := by omega
    clear e4 e5 e6 e7 HLA HLB
    obtain ⟨nl, hnl⟩ : ∃ nl, nl = ls.length := ⟨_, rfl⟩
    obtain ⟨nu, hnu⟩ : ∃ nu, nu = us.length := ⟨_, rfl⟩
    rw [← hnl] at HW0 HXX l1 y2 HE5 HE6 HA hT e3 ⊢
    rw [← hnu] at HW0 HXX l2 y3 HE7 HBv hM ⊢
    clear hnl hnu
    go_enter Tryz.func48, Tryz.ntmps48
    go_upto_region 1 with fail
    rw [← HW0.out]
    go_wp2_with fail
    clear x0 x1 x2 y0 y1 y2 y3
    go_loopw [5] (fun i wr => ∃ j : Nat, j ≤ nl ∧ i = .int .i64 j ∧ Below W0.heap.size W0 wr) (fun i _ => nl - (intOf i).toNat)
    case atStart => exact ⟨0, Nat.zero_le _, rfl, Below.refl _ _⟩
    case round =>
      obtain ⟨j, hj, rfl, hbw⟩ := hrel
      have zr := hbw.size
      have BR := hideG (HB0.out.trans (hbw.mono HB0.out.size))
      have HBW := hideG hbw
      obtain ⟨⟨x0, x1, x2⟩, y0, y1, y2, y3⟩ := HXX.out wr hbw
      clear hbw
      have hcl : w.heap.size < wr.heap.size := by omega
      have hcl1 : w.heap.size + 1 < wr.heap.size := by omega
      by_cases hlt : j < nl
      · obtain ⟨g, off, rfl, gl, hcell⟩ := HA.out wr BR.out j hlt
        have c0 := hcell j hlt
        have hz := HE5.out j hlt
        have hjn : (j : Int) < (nl : Int) := by omega
        have hj0 : (0 : Int) ≤ (j : Int) := by omega
        by_cases hk0 : j = 0
        · obtain ⟨z, hzz⟩ : ∃ z, z = ls.getD j 0 := ⟨_, rfl⟩
          rw [← hzz] at c0 hz
          obtain ⟨hz1, hz2⟩ := hz
          have d1 : decide (z < 1) = false := decide_eq_false (by omega)
          have d2 : decide (N < z) = false := decide_eq_false (by omega)
          have hk1 : ¬ (0 : Int) < (j : Int) := by omega
          have hk2 : decide ((0 : Int) < (j : Int)) = false := decide_eq_false hk1
          have hk3 : decide (0 < j) = false := decide_eq_false (by omega)
          clear hzz hcell hk0
          go_wp2_with fail
          go_quiet (fail)
          go_wp2_with fail
          go_roundw
          case rel => exact ⟨j + 1, by omega, by go_num, HBW.out.trans ((below_drewN wr _).mono zr)⟩
          case measure => simp [intOf]; omega
        · have d0 := hcell (j - 1) (by omega)
          have hlt2 := HE6.out (j - 1) (by omega)
          rw [show j - 1 + 1 = j by omega] at hlt2
          obtain ⟨z, hzz⟩ : ∃ z, z = ls.getD j 0 := ⟨_, rfl⟩
          rw [← hzz] at c0 hz hlt2
          obtain ⟨y, hyy⟩ : ∃ y, y = ls.getD (j - 1) 0 := ⟨_, rfl⟩
          rw [← hyy] at d0 hlt2
          obtain ⟨jp, hjp⟩ : ∃ jp, jp = j - 1 := ⟨_, rfl⟩
          rw [← hjp] at d0
          obtain ⟨hz1, hz2⟩ := hz
          have d1 : decide (z < 1) = false := decide_eq_false (by omega)
          have d2 : decide (N < z) = false := decide_eq_false (by omega)
          have d3 : decide (z ≤ y) = false := decide_eq_false (by omega)
          have hkj : (j : Int) - 1 = (jp : Int) := by omega
          have hjpn : (jp : Int) < (nl : Int) := by omega
          have hk1 : (0 : Int) < (j : Int) := by omega
          have hk2 : decide ((0 : Int) < (j : Int)) = true := decide_eq_true hk1
          have hk3 : decide (0 < j) = true := decide_eq_true (by omega)
          have hwrp : IntKind.i64.wrap ((j : Int) - 1) = (jp : Int) := by rw [hkj, IntWalk.i64_left, IntWalk.wrap64_in _ (by omega)]
          clear hzz hyy hcell hjp hk0 hlt2
          go_wp2_with fail
          go_quiet (fail)
          go_wp2_with fail
          go_roundw
          case rel => exact ⟨j + 1, by omega, by go_num, HBW.out.trans ((below_drewN wr _).mono zr)⟩
          case measure => simp [intOf]; omega
      · go_wp2_with fail
        clear x0 x1 x2 y0 y1 y2 y3
        go_loopw [6] (fun i ws => ∃ k : Nat, k ≤ nu ∧ i = .int .i64 k ∧ ws = wr) (fun i _ => nu - (intOf i).toNat)
        case atStart => exact ⟨0, Nat.zero_le _, rfl, rfl⟩
        case round =>
          obtain ⟨k, hk, rfl, hws⟩ := hrel
          subst hws
          obtain ⟨⟨x0, x1, x2⟩, y0, y1, y2, y3⟩ := HXX.out wr HBW.out
          by_cases hlt2 : k < nu
          · obtain ⟨g, off, rfl, gl, c0⟩ := HBv.out wr BR.out k hlt2
            obtain ⟨hz1, hz2⟩ := HE7.out k hlt2
            obtain ⟨z, hzz⟩ : ∃ z, z = us.getD k 0 := ⟨_, rfl⟩
            rw [← hzz] at c0 hz1 hz2
            have hkn : (k : Int) < (nu : Int) := by omega
            clear hzz
            go_wp2_with fail
            go_roundw
            case rel => exact ⟨k + 1, by omega, by go_num, trivial⟩
            case measure => simp [intOf]; omega
          · go_wp2_with fail
            go_ret
            exact ⟨rfl, BR.out⟩

end Go.Proofs.YtchideljndagjabGreat

namespace Go.Proofs.YtchideljndagjabGreat
open Go.ChangeShapes Go.WideShapes Go.ChangeAt Go.RowKit
set_option linter.unusedVariables false

/-- Parcels, to read. -/
def PView (w : World) (B : Nat) (v : Value) (ps : List Pk) : Prop := ∃ a c, v = .slice a ps.length c ∧ ps.length ≤ c ∧ c ≤ 9223372036854775807 ∧ ∀ j p, ps[j]? = some p → ∃ g off y, a = some ⟨g, off, none⟩ ∧ B ≤ g ∧ g < w.heap.size ∧ w.cell? ⟨g, off + j * 3, none⟩ = some (.int .i64 p.1) ∧ w.cell? ⟨g, off + j * 3 + 1, none⟩ = some (.int .i64 p.2.1) ∧ w.cell? ⟨g, off + j * 3 + 2, none⟩ = some y ∧ BytesAt w y p.2.2 ∧ ∀ x, y.ownBlock = some x → B ≤ x ∧ x < w.heap.size
theorem PView.chg {S : Nat → Prop} {w w' : World} {B : Nat} {v : Value} {ps : List Pk} (h : PView w B v ps) (hc : Chg S w w') (hS : ∀ x, B ≤ x → x < w.heap.size → ¬ S x) : PView w' B v ps := by
  obtain ⟨a, c, e1, e2, e3, e4⟩ := h
  refine ⟨a, c, e1, e2, e3, fun j p hp => ?_⟩
  obtain ⟨g, off, y, f1, f2, f3, f4, f5, f6, f7, f8⟩ := e4 j p hp
  have hg := hc.block g f3 (hS g f2 f3)
  exact ⟨g, off, y, f1, f2, Nat.lt_of_lt_of_le f3 hc.size, (World.cell?_of_block (w := w) (a := ⟨g, off + j * 3, none⟩) hg).trans f4, (World.cell?_of_block (w := w) (a := ⟨g, off + j * 3 + 1, none⟩) hg).trans f5, (World.cell?_of_block (w := w) (a := ⟨g, off + j * 3 + 2, none⟩) hg).trans f6, f7.keepS hc.size (fun x hx => hc.block x (f8 x hx).2 (hS x (f8 x hx).1 (f8 x hx).2)), fun x hx => ⟨(f8 x hx).1, Nat.lt_of_lt_of_le (f8 x hx).2 hc.size⟩⟩
theorem Packs.pview {w : World} {B : Nat} {v : Value} {vs : List Value} {ps : List Pk} (h : Packs w B v vs ps) (hB : ∀ p ∈ ps, Frm.isB p.2.2) : ∃ a c, v = .slice a ps.length c ∧ ps.length ≤ c ∧ c ≤ 9223372036854775807 ∧ ∀ j p, ps[j]? = some p → ∃ g y, a = some ⟨g, 0, none⟩ ∧ B ≤ g ∧ g < w.heap.size ∧ w.cell? ⟨g, j * 3, none⟩ = some (.int .i64 p.1) ∧ w.cell? ⟨g, j * 3 + 1, none⟩ = some (.int .i64 p.2.1) ∧ w.cell? ⟨g, j * 3 + 2, none⟩ = some y ∧ BytesAt w y p.2.2 ∧ ∀ x, y.ownBlock = some x → B ≤ x ∧ x < w.heap.size := by
  obtain ⟨a, c, e1, e2, e3, e4⟩ := h.viewK
  refine ⟨a, c, e1, e2, e3, fun j p hp => ?_⟩
  obtain ⟨g, y, f1, f2, f3, f4, f5, f6, f7⟩ := e4 j p hp
  exact ⟨g, y, f1, (h.low g (.inl (by rw [e1, f1]; rfl))).1, f2, f4, f5, f6, bytesAt_of_owns f7 (hB p (List.mem_of_getElem? hp)), fun x hx => f7.lt x hx⟩

/-- A budget in its block. -/
def bgV (b : Bg) (t : Nat) : Value := if t = 0 then .int .i64 b.1 else .int .i64 (b.2 (t - 1))
def BgAt (w : World) (g : Nat) (b : Bg) : Prop := FRow w g 75 14 (bgV b)
theorem BgAt.srv {w : World} {g : Nat} {b : Bg} (h : BgAt w g b) : w.cell? ⟨g, 0, none⟩ = some (.int .i64 b.1) := FRow.cell h 0 (by omega)
theorem BgAt.cli {w : World} {g : Nat} {b : Bg} (h : BgAt w g b) (u : Nat) (hu : u < 13) : w.cell? ⟨g, 1 + u, none⟩ = some (.int .i64 (b.2 u)) := by
  have := FRow.cell h (1 + u) (by omega)
  rw [this]; unfold bgV; rw [if_neg (by omega), show 1 + u - 1 = u by omega]
theorem BgAt.setS {w : World} {g : Nat} {b : Bg} (h : BgAt w g b) (z : Int) : BgAt (w.setCell ⟨g, 0, none⟩ (.int .i64 z)) g (z, b.2) := FRow.upd h 0 (by omega) _ rfl (fun u _ hu => by unfold bgV; rw [if_neg hu, if_neg hu])
theorem BgAt.setC {w : World} {g : Nat} {b : Bg} (h : BgAt w g b) (u : Nat) (hu : u < 13) (z : Int) : BgAt (w.setCell ⟨g, 1 + u, none⟩ (.int .i64 z)) g (b.1, updA b.2 u z) :=
  FRow.upd h (1 + u) (by omega) _ (by unfold bgV; rw [if_neg (by omega), show 1 + u - 1 = u by omega]; show Value.int .i64 (updA b.2 u z u) = _; rw [updA_same]) (fun t _ ht => by
    unfold bgV
    by_cases t0 : t = 0
    · rw [if_pos t0, if_pos t0]
    · rw [if_neg t0, if_neg t0]
      show Value.int .i64 (updA b.2 u z (t - 1)) = _
      rw [updA_other _ _ _ (by omega)])
theorem BgAt.chg {S : Nat → Prop} {w w' : World} {g : Nat} {b : Bg} (h : BgAt w g b) (hc : Chg S w w') (hS : ¬ S g) : BgAt w' g b := FRow.block h (hc.block g (FRow.lt h) hS)

set_option maxHeartbeats 4000000 in
set_option maxRecDepth 100000 in
theorem kjoined_calls (gb : Nat) (b : Bg) (N T M D : Int) (v : Value) (ps : List Pk) (B : Nat) (w : World) (hN : 1 ≤ N ∧ N ≤ 12) (hM : 1 ≤ M ∧ M ≤ 12) (hb : BgAt w gb b) (hgB : gb < B) (hv : PView w B v ps) (hok : ∀ p ∈ ps, ParOk ⟨N, T, M, D⟩ p) (hbk : BudOk b ps) (hbb : -1000 ≤ b.1 ∧ b.1 ≤ 1000 ∧ ∀ u, u < 13 → -1000 ≤ b.2 u ∧ b.2 u ≤ 1000) (hl : ps.length ≤ 500) :
    Calls Tryz.prog 49 #[.pointer (some ⟨gb, 0, none⟩), .agg #[.int .i64 N, .int .i64 T, .int .i64 M, .int .i64 D], v] w fun e w' => e = .returned (.bool true) ∧ BgAt w' gb (budL b ps) ∧ Chg (fun x => x = gb) w w' := by
  have HVW := hideG (fun (W : World) (hc : Chg (fun x => x = gb) w W) => hv.chg hc (fun x h1 h2 e => by omega))
  obtain ⟨a, cap, rfl, l1, l2, -⟩ := hv
  have HOK := hideG hok
  have HBK := hideG hbk
  have hgl : gb < w.heap.size := FRow.lt hb
  have hmo : most ⟨N, T, M, D⟩ = if N < M then M else N := rfl
  obtain ⟨n, hn⟩ : ∃ n, n = ps.length := ⟨_, rfl⟩
  have HNN := hideG hn
  have HTK := hideG (fun j (hj : j < ps.length) => budL_take b ps j hj)
  have HBD := hideG (show ∀ j, j ≤ ps.length → -1000 - (j : Int) ≤ (budL b (ps.take j)).1 ∧ (budL b (ps.take j)).1 ≤ 1000 ∧ ∀ u, u < 13 → -1000 - (j : Int) ≤ (budL b (ps.take j)).2 u ∧ (budL b (ps.take j)).2 u ≤ 1000 from by
    intro j
    induction j with
    | zero => intro _; exact ⟨by show -1000 - ((0 : Nat) : Int) ≤ b.1; omega, hbb.2.1, fun u hu => by have := hbb.2.2 u hu; exact ⟨by show -1000 - ((0 : Nat) : Int) ≤ b.2 u; omega, this.2⟩⟩
    | succ j ih =>
      intro hj
      obtain ⟨i1, i2, i3⟩ := ih (by omega)
      rw [budL_take b ps j (by omega)]
      unfold budS
      split
      · exact ⟨by show _ ≤ _ - 1; omega, by show _ - 1 ≤ _; omega, fun u hu => by have := i3 u hu; exact ⟨by show _ ≤ (budL b (ps.take j)).2 u; omega, this.2⟩⟩
      · refine ⟨by show _ ≤ (budL b (ps.take j)).1; omega, i2, fun u hu => ?_⟩
        show _ ≤ updA _ _ _ u ∧ updA _ _ _ u ≤ _
        by_cases e : u = (ps[j]).1.toNat
        · have := i3 u hu
          rw [← e, updA_same]; omega
        · have := i3 u hu
          rw [updA_other _ _ _ e]; omega)
  rw [← hn] at l1 hl ⊢
  obtain ⟨W0, hW0⟩ : ∃ W0, W0 = w.alloc (.cells #[.int .i64 N, .int .i64 T, .int .i64 M, .int .i64 D] 26) := ⟨_, rfl⟩
  have B0 : Below w.heap.size w W0 := by rw [hW0]; exact (Below.refl _ _).alloc (Nat.le_refl _) _
  have z0 : w.heap.size < W0.heap.size := by rw [hW0]; simp
  have HR := hideG (show W0.heap[w.heap.size]? = some (.cells #[.int .i64 N, .int .i64 T, .int .i64 M, .int .i64 D] 26 (0, 0)) by rw [hW0]; exact heap_alloc_new w _)
  have HB0 := hideG (hb.chg (S := fun _ => False) (Chg.of_below B0) (fun h => h))
  have HC0 := hideG (Chg.of_below (S := fun x => x = gb) B0)
  have HW0 := hideG hW0
  obtain ⟨⟨x0, x1, x2, x3⟩, -⟩ := cells_four HR.out
  clear hW0 B0 hok hbk hb hn hbb
  obtain ⟨mo, hmoe⟩ : ∃ mo : Int, mo = if N < M then M else N := ⟨_, rfl⟩
  have HMO := hideG (show most ⟨N, T, M, D⟩ = mo by rw [hmo, hmoe])
  have hmo12 : 1 ≤ mo ∧ mo ≤ 12 := by rw [hmoe]; split <;> omega
  go_enter Tryz.func49, Tryz.ntmps49
  go_upto_region 1 with fail
  rw [← HW0.out]
  go_upto_if 17 with fail
  go_cut [7] (fun q wc => q = .int .i64 mo ∧ wc = W0)
  case first =>
    by_cases c : N < M
    · rw [if_pos c] at hmoe
      go_wp2_with fail
      go_meet
      exact ⟨by rw [hmoe], rfl⟩
    · rw [if_neg c] at hmoe
      go_wp2_with fail
      go_meet
      exact ⟨by rw [hmoe], rfl⟩
  case rest =>
    obtain ⟨hq, hwc⟩ := hcut
    subst hq
    subst hwc
    clear hmoe hmo x0 x1 x2 x3
    go_wp2_with fail
    go_loopw [8] (fun i wr => ∃ j : Nat, j ≤ n ∧ i = .int .i64 j ∧ Chg (fun x => x = gb) w wr ∧ wr.heap[w.heap.size]? = some (.cells #[.int .i64 N, .int .i64 T, .int .i64 M, .int .i64 D] 26 (0, 0)) ∧ BgAt wr gb (budL b (ps.take j))) (fun i _ => n - (intOf i).toNat)
    case atStart => exact ⟨0, Nat.zero_le _, rfl, HC0.out, HR.out, HB0.out⟩
    case round =>
      obtain ⟨j, hj, rfl, hchg, hcfg, hbg⟩ := hrel
      have HCH := hideG hchg
      have HCF := hideG hcfg
      have HBG := hideG hbg
      have zr := hchg.size
      have zw : w.heap.size < wr.heap.size := by
        by_cases q : w.heap.size < wr.heap.size
        · exact q
        · rw [Array.getElem?_eq_none (by omega)] at hcfg; cases hcfg
      clear hchg hcfg hbg
      by_cases hlt : j < n
      · have hjp : j < ps.length := by have := HNN.out; omega
        have hget := List.getElem?_eq_getElem hjp
        obtain ⟨p, hp⟩ : ∃ p, p = ps[j] := ⟨_, rfl⟩
        rw [← hp] at hget
        obtain ⟨a', c', q1, q2, q3, q4⟩ := HVW.out wr HCH.out
        obtain ⟨g, off, y, f1, f2, f3, f4, f5, f6, f7, f8⟩ := q4 j p hget
        injection q1 with q1 q1' q1''
        rw [← q1] at f1
        subst f1
        have hpo := HOK.out p (List.mem_of_getElem? hget)
        have hbk := HBK.out j hjp
        rw [HTK.out j hjp, ← hp] at hbk
        have HST := hideG (show budL b (ps.take (j + 1)) = budS (budL b (ps.take j)) p by rw [HTK.out j hjp, hp])
        obtain ⟨bd1, bd2, bd3⟩ := HBD.out j (by omega)
        obtain ⟨f0, f1', E⟩ := p
        obtain ⟨⟨k, l, hdec⟩, hlen, hfr, hto, hone⟩ := hpo
        dsimp only at f4 f5 f6 f7 hdec hlen hfr hto hone hbk HST
        rw [HMO.out] at hlen
        have HDC := hideG (fun (W : World) (hb : Below wr.heap.size wr W) => veilDecode y E W (f7.below hb))
        obtain ⟨d1, d2, d3, d4⟩ := d_some hdec
        rw [d1, d2, d4] at HDC
        obtain ⟨ay, cy, hy, -⟩ := bytes_view f7
        have hye : y = .slice ay E.length cy := hy
        rw [hye] at f6 HDC
        have ygl : ∀ x, y.ownBlock = some x → x ≠ gb := fun x hx e => by have := (f8 x hx).1; omega
        generalize E.length = nE at *
        generalize (dL E) = lE at *
        generalize lE.length = nl at *
        clear q1 q1' q1'' q2 q3 q4 f7 f8 hdec d1 d2 d3 d4 hy hget hp hye ygl
        obtain ⟨cb, hcb⟩ : ∃ cb, cb = budL b (ps.take j) := ⟨_, rfl⟩
        rw [← hcb] at HBG hbk HST bd1 bd2 bd3
        clear hcb
        obtain ⟨W1, hW1⟩ : ∃ W1, W1 = wr.alloc (.cells #[.int .i64 f0, .int .i64 f1', .slice ay nE cy] 49) := ⟨_, rfl⟩
        have hb1 : Below wr.heap.size wr W1 := by rw [hW1]; exact (Below.refl _ _).alloc (Nat.le_refl _) _
        have z1 : wr.heap.size < W1.heap.size := by rw [hW1]; simp
        have R1 := hideG (show W1.heap[wr.heap.size]? = some (.cells #[.int .i64 f0, .int .i64 f1', .slice ay nE cy] 49 (0, 0)) by rw [hW1]; exact heap_alloc_new wr _)
        have HB1 := hideG hb1
        have HD1 := hideG (HDC.out W1 hb1)
        have HW1 := hideG hW1
        have g0 : W1.cell? ⟨wr.heap.size, 2, none⟩ = some (.slice ay nE cy) := (cell_of_row W1 _ 2 _ _ (0, 0) R1.out).trans rfl
        clear hW1 hb1 HDC
        have hjn : (j : Int) < (n : Int) := by omega
        go_upto_region 8 with fail
        rw [← HW1.out]
        clear f4 f5 f6
        go_wp2_with fail
        refine HD1.out.mono ?_
        rintro e w2 ⟨va, rfl, hown, hb2⟩
        have z2 := hb2.size
        obtain ⟨ao, co, hvo⟩ := owns_form hown
        rw [hvo]
        clear hown hvo g0
        obtain ⟨W3, hW3⟩ : ∃ W3, W3 = w2.alloc (.cells #[.int .i64 k, .int .i64 f0, .slice ao nl co] 65) := ⟨_, rfl⟩
        have hb3 : Below w2.heap.size w2 W3 := by rw [hW3]; exact (Below.refl _ _).alloc (Nat.le_refl _) _
        have R3 := hideG (show W3.heap[w2.heap.size]? = some (.cells #[.int .i64 k, .int .i64 f0, .slice ao nl co] 65 (0, 0)) by rw [hW3]; exact heap_alloc_new w2 _)
        have z3 : w2.heap.size < W3.heap.size := by rw [hW3]; simp
        have HB3 := hideG (HB1.out.trans ((hb2.trans (hb3.mono z2)).mono (by omega)))
        have R13 := hideG ((hb3.block wr.heap.size (by omega)).trans ((hb2.block wr.heap.size z1).trans R1.out))
        have CF3 := hideG ((HB3.out.block w.heap.size zw).trans HCF.out)
        have BG3 := hideG (HBG.out.chg (S := fun _ => False) (Chg.of_below HB3.out) (fun h => h))
        have CH3 := hideG (HCH.out.grow HB3.out)
        have HW3 := hideG hW3
        clear hb2 hW3 hb3
        obtain ⟨⟨x0, x1, x2, x3⟩, -⟩ := cells_four CF3.out
        have y0 : W3.cell? ⟨wr.heap.size, 0, none⟩ = some (.int .i64 f0) := (cell_of_row W3 _ 0 _ _ (0, 0) R13.out).trans rfl
        have y1 : W3.cell? ⟨wr.heap.size, 1, none⟩ = some (.int .i64 f1') := (cell_of_row W3 _ 1 _ _ (0, 0) R13.out).trans rfl
        have y2 : W3.cell? ⟨wr.heap.size, 2, none⟩ = some (.slice ay nE cy) := (cell_of_row W3 _ 2 _ _ (0, 0) R13.out).trans rfl
        have y4 : W3.cell? ⟨w2.heap.size, 1, none⟩ = some (.int .i64 f0) := (cell_of_row W3 _ 1 _ _ (0, 0) R3.out).trans rfl
        have l1' : wr.heap.size < W3.heap.size := by omega
        have l2' : w.heap.size < W3.heap.size := by omega
        have hff : (f0 != f0) = false := by simp
        have hgW : gb < W3.heap.size := by omega
        have hlen2 : ¬ ((3 : Int) + 25 * mo < (nE : Int)) := by omega
        by_cases hz : f0 = 0
        · have hst : budL b (ps.take (j + 1)) = (cb.1 - 1, cb.2) := by rw [HST.out]; exact if_pos hz
          have hbk1 : 0 ≤ cb.1 - 1 ∧ 0 ≤ cb.2 0 := by
            have := hbk; unfold budS at this; rw [if_pos (show ((f0, f1', E) : Pk).1 = 0 from hz)] at this
            rw [hz] at this; exact this
          have h1z : f1' ≠ 0 := by rcases hone with q | q; exact q.2; exact absurd hz q.1
          have e1 : (f1' == 0) = false := by simpa using h1z
          subst hz
          have s0 := BG3.out.srv
          have sf := FRow.froz BG3.out 0
          have BG4 := hideG (BG3.out.setS (cb.1 - 1))
          have CH4 := hideG (CH3.out.trans (Chg.setCell W3 ⟨gb, 0, none⟩ (.int .i64 (cb.1 - 1))) (fun x e _ => e))
          go_upto_region 9 with fail
          rw [← HW3.out]
          go_upto_region 16 with fail
          have s0' := BG4.out.srv
          have s1' := BG4.out.cli 0 (by omega)
          have b0 : ¬ (cb.1 - 1 < 0) := by omega
          have b1 : ¬ (cb.2 0 < 0) := by omega
          have b0' : decide (cb.1 - 1 < 0) = false := decide_eq_false b0
          have b1' : decide (cb.2 0 < 0) = false := decide_eq_false b1
          have HSTE := hideG hst
          have CF4 := hideG (show (W3.setCell ⟨gb, 0, none⟩ (.int .i64 (cb.1 - 1))).heap[w.heap.size]? = some (.cells #[.int .i64 N, .int .i64 T, .int .i64 M, .int .i64 D] 26 (0, 0)) from ((Chg.setCell W3 ⟨gb, 0, none⟩ (.int .i64 (cb.1 - 1))).block w.heap.size l2' (fun e => by have e' : w.heap.size = gb := e; omega)).trans CF3.out)
          have zX : (W3.setCell ⟨gb, 0, none⟩ (.int .i64 (cb.1 - 1))).heap.size = W3.heap.size := by simp [World.setCell]
          go_quiet (fail)
          have hbq := below_drewN (W3.setCell ⟨gb, 0, none⟩ (.int .i64 (cb.1 - 1))) nq
          have F1 := hideG (CH4.out.grow hbq)
          have F2 := hideG ((hbq.block w.heap.size (by omega)).trans CF4.out)
          have F3 := hideG (BG4.out.chg (S := fun _ => False) (Chg.of_below hbq) (fun h => h))
          clear hbq
          go_wp2_with fail
          go_roundw
          case rel => exact ⟨j + 1, by omega, by go_num, F1.out, F2.out, by rw [HSTE.out]; exact F3.out⟩
          case measure => simp [intOf]; omega
        · obtain ⟨u, hu⟩ : ∃ u : Nat, f0 = (u : Int) := ⟨f0.toNat, by omega⟩
          have hst : budL b (ps.take (j + 1)) = (cb.1, updA cb.2 u (cb.2 u - 1)) := by
            rw [HST.out]; unfold budS; rw [if_neg (show ¬ ((f0, f1', E) : Pk).1 = 0 from hz)]
            show (cb.1, updA cb.2 f0.toNat (cb.2 f0.toNat - 1)) = _
            rw [show f0.toNat = u by omega]
          have hbk1 : 0 ≤ cb.1 ∧ 0 ≤ cb.2 u - 1 := by
            have := hbk; unfold budS at this; rw [if_neg (show ¬ ((f0, f1', E) : Pk).1 = 0 from hz)] at this
            have t1 := this.1
            have t2 : 0 ≤ updA cb.2 f0.toNat (cb.2 f0.toNat - 1) f0.toNat := this.2
            rw [updA_same, show f0.toNat = u by omega] at t2
            exact ⟨t1, t2⟩
          have h1z : f1' = 0 := by rcases hone with q | q; exact absurd q.1 hz; exact q.2
          have e0 : (f0 == 0) = false := by simpa using hz
          have hu13 : (u : Int) < 13 := by omega
          have u13 : u < 13 := by omega
          subst h1z
          subst hu
          have s0 := BG3.out.srv
          have s1 := BG3.out.cli u u13
          have sf := FRow.froz BG3.out (1 + u)
          have BG4 := hideG (BG3.out.setC u u13 (cb.2 u - 1))
          have CH4 := hideG (CH3.out.trans (Chg.setCell W3 ⟨gb, 1 + u, none⟩ (.int .i64 (cb.2 u - 1))) (fun x e _ => e))
          have bdu := bd3 u u13
          have hwr : IntKind.i64.wrap (cb.2 u - 1) = cb.2 u - 1 := by rw [IntWalk.i64_left, IntWalk.wrap64_in _ (by omega)]
          go_upto_region 9 with fail
          rw [← HW3.out]
          go_upto_region 15 with fail
          have HSTE := hideG hst
          have CF4 := hideG (show (W3.setCell ⟨gb, 1 + u, none⟩ (.int .i64 (cb.2 u - 1))).heap[w.heap.size]? = some (.cells #[.int .i64 N, .int .i64 T, .int .i64 M, .int .i64 D] 26 (0, 0)) from ((Chg.setCell W3 ⟨gb, 1 + u, none⟩ (.int .i64 (cb.2 u - 1))).block w.heap.size l2' (fun e => by have e' : w.heap.size = gb := e; omega)).trans CF3.out)
          have zX : (W3.setCell ⟨gb, 1 + u, none⟩ (.int .i64 (cb.2 u - 1))).heap.size = W3.heap.size := by simp [World.setCell]
          have s0' := BG4.out.srv
          have s1' := BG4.out.cli u u13
          have eus : updA cb.2 u (cb.2 u - 1) u = cb.2 u - 1 := updA_same _ _ _
          dsimp only at s0' s1'
          rw [eus] at s1'
          have b0' : decide (cb.1 < 0) = false := decide_eq_false (by omega)
          have b1' : decide (cb.2 u - 1 < 0) = false := decide_eq_false (by omega)
          go_region
          clear s0 s1 sf eus
          go_wp2_with fail
          go_quiet (fail)
          obtain ⟨X, hX⟩ : ∃ X, X = W3.setCell ⟨gb, 1 + u, none⟩ (.int .i64 (cb.2 u - 1)) := ⟨_, rfl⟩
          rw [← hX] at CF4 CH4 BG4 zX
          have F := hideG (fun (Y : World) (hbq : Below X.heap.size X Y) => (show Chg (fun x => x = gb) w Y ∧ Y.heap[w.heap.size]? = some (.cells #[.int .i64 N, .int .i64 T, .int .i64 M, .int .i64 D] 26 (0, 0)) ∧ BgAt Y gb (budL b (ps.take (j + 1))) from ⟨CH4.out.grow hbq, (hbq.block w.heap.size (by omega)).trans CF4.out, by rw [HSTE.out]; exact BG4.out.chg (S := fun _ => False) (Chg.of_below hbq) (fun h => h)⟩))
          rw [← hX]
          clear hX
          go_wp2_with fail
          go_roundw
          case rel =>
            obtain ⟨f1, f2, f3⟩ := F.out _ (below_drewN X (1 + nq))
            exact ⟨j + 1, by omega, by go_num, f1, f2, f3⟩
          case measure => simp [intOf]; omega
      · go_wp2_with fail
        have ej : j = n := by omega
        go_ret
        refine ⟨rfl, ?_, HCH.out⟩
        have := HBG.out
        rw [ej, HNN.out, List.take_length] at this
        exact this

end Go.Proofs.YtchideljndagjabGreat

namespace Go.Proofs.YtchideljndagjabGreat
open Go.ChangeShapes Go.WideShapes Go.ChangeAt Go.RowKit
set_option linter.unusedVariables false

end Go.Proofs.YtchideljndagjabGreat

namespace Go.Proofs.YtchideljndagjabGreat
open Go.ChangeShapes Go.WideShapes Go.ChangeAt Go.RowKit
set_option linter.unusedVariables false

theorem inI_of {zs : List Int} (h : ∀ z ∈ zs, 0 ≤ z ∧ z ≤ 4294967296) : ∀ z ∈ zs, inI z := fun z hz => by have := h z hz; unfold inI; omega
end Go.Proofs.YtchideljndagjabGreat
