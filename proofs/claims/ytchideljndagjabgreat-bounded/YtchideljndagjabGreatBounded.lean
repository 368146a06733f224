/- PROVED: veilkeep.Bounded answers true at every input, and its arguments read afterwards as they read before. No condition. -/
import Derived.Test.YtchideljndagjabGreatPkBoBL
import Derived.Deep.DeepCutAuto
namespace Go.Proofs.YtchideljndagjabGreat.bounded
open Go.ChangeShapes Go.WideShapes Go.ChangeAt Go.RowKit
set_option linter.unusedVariables false

theorem own : ownKnob Tryz.prog.godebug = none := by kernel_rfl
theorem laidOut : laidOutB Tryz.prog = true := by kernel_rfl

set_option maxHeartbeats 1000000 in
set_option maxRecDepth 100000 in
theorem walk_no (N T M D : Int) (a : Option Addr) (n c : Nat) (vi vm vs : Nat → Value) (Dd : Nat → DD) (a3 : Option Addr) (n3 c3 : Nat) (w : World) (hD : DrawsAt w a n c vi vm vs Dd) (hE : begE N T M D n Dd ≠ 0) :
    Calls Tryz.prog 8 #[.agg #[.int .i64 N, .int .i64 T, .int .i64 M, .int .i64 D], .slice a n c, .slice a3 n3 c3] w fun e w' => e = .returned (.bool true) ∧ Below w.heap.size w w' := by
  have HB := hideG (fun (W : World) (hb : Below w.heap.size w W) => kbegun_no N T M D a n c vi vm vs Dd W (hD.below hb) hE)
  clear hD hE
  obtain ⟨W0, hW0⟩ : ∃ W0, W0 = w.alloc (.cells #[.int .i64 N, .int .i64 T, .int .i64 M, .int .i64 D] 26) := ⟨_, rfl⟩
  have BB := hideG (show Below w.heap.size w W0 by rw [hW0]; exact (Below.refl _ _).alloc (Nat.le_refl _) _)
  have z0 : w.heap.size < W0.heap.size := by rw [hW0]; simp
  have HR := hideG (show W0.heap[w.heap.size]? = some (.cells #[.int .i64 N, .int .i64 T, .int .i64 M, .int .i64 D] 26 (0, 0)) by rw [hW0]; exact heap_alloc_new w _)
  have HW0 := hideG hW0
  clear hW0
  obtain ⟨⟨x0, x1, x2, x3⟩, -⟩ := cells_four HR.out
  go_enter Tryz.func8, Tryz.ntmps8
  go_upto_region 1 with fail
  rw [← HW0.out]
  go_wp2_with fail
  refine (HB.out W0 BB.out).mono ?_
  rintro e w1 ⟨rfl, hb1⟩
  have B1 := hideG (BB.out.trans (hb1.mono (by omega)))
  clear hb1 x0 x1 x2 x3
  go_wp2_with fail
  go_ret
  exact ⟨rfl, B1.out⟩

theorem bg_fresh (w : World) (z : Int) : BgAt (w.alloc (.cells #[.int .i64 z, .int .i64 0, .int .i64 0, .int .i64 0, .int .i64 0, .int .i64 0, .int .i64 0, .int .i64 0, .int .i64 0, .int .i64 0, .int .i64 0, .int .i64 0, .int .i64 0, .int .i64 0] 75)) w.heap.size (z, fun _ => 0) := heap_alloc_new w _

set_option maxHeartbeats 4000000 in
set_option maxRecDepth 100000 in
theorem walk_ok (N T M D : Int) (a : Option Addr) (n c : Nat) (vi vm vs : Nat → Value) (Dd : Nat → DD) (a3 : Option Addr) (n3 c3 : Nat) (S : Stps) (w : World) (hD : DrawsAt w a n c vi vm vs Dd) (hS : StepsAt w a3 n3 c3 S) (hE : begE N T M D n Dd = 0) :
    Calls Tryz.prog 8 #[.agg #[.int .i64 N, .int .i64 T, .int .i64 M, .int .i64 D], .slice a n c, .slice a3 n3 c3] w fun e w' => e = .returned (.bool true) ∧ Below w.heap.size w w' := by
  have hC := cast_of hE
  have HB := hideG (fun (W : World) (hb : Below w.heap.size w W) => kbegun_go N T M D a n c vi vm vs Dd W (hD.below hb) hE)
  have HSS := hideG (fun (W : World) (hb : Below w.heap.size w W) => hS.below hb)
  have hle := hS.le
  have hmx := hS.mx
  obtain ⟨cl, hcl⟩ : ∃ cl, cl = clD N T M Dd := ⟨_, rfl⟩
  rw [← hcl] at HB hC
  have HC := hideG hC
  have hN : 1 ≤ N ∧ N ≤ 12 := hC.gc.n
  have hD50 : 1 ≤ D ∧ D ≤ 50 := hC.gc.d
  have HNN := hideG (show N = (n : Int) from hC.num)
  have hn12 := hC.le.2
  clear hD hS hE hcl hC
  obtain ⟨W0, hW0⟩ : ∃ W0, W0 = w.alloc (.cells #[.int .i64 N, .int .i64 T, .int .i64 M, .int .i64 D] 26) := ⟨_, rfl⟩
  have BB := hideG (show Below w.heap.size w W0 by rw [hW0]; exact (Below.refl _ _).alloc (Nat.le_refl _) _)
  have z0 : w.heap.size < W0.heap.size := by rw [hW0]; simp
  have HR := hideG (show W0.heap[w.heap.size]? = some (.cells #[.int .i64 N, .int .i64 T, .int .i64 M, .int .i64 D] 26 (0, 0)) by rw [hW0]; exact heap_alloc_new w _)
  have HW0 := hideG hW0
  clear hW0
  obtain ⟨⟨x0, x1, x2, x3⟩, -⟩ := cells_four HR.out
  go_enter Tryz.func8, Tryz.ntmps8
  go_upto_region 1 with fail
  rw [← HW0.out]
  go_wp2_with fail
  refine (HB.out W0 BB.out).mono ?_
  rintro e w1 ⟨b, rfl, hb1, m, hses, hnew⟩
  have z1 := hb1.size
  have B1 := hideG (BB.out.trans (hb1.mono (by omega)))
  have R1 := hideG ((hb1.block w.heap.size z0).trans HR.out)
  have S1 := hideG hses
  have NW := hideG hnew
  clear x0 x1 x2 x3 hb1 hses hnew
  obtain ⟨⟨x0, x1, x2, x3⟩, -⟩ := cells_four R1.out
  have q0 : w.heap.size < w1.heap.size := by omega
  obtain ⟨W2, hW2⟩ : ∃ W2, W2 = w1.alloc (.cells #[.int .i64 (3 * N), .int .i64 0, .int .i64 0, .int .i64 0, .int .i64 0, .int .i64 0, .int .i64 0, .int .i64 0, .int .i64 0, .int .i64 0, .int .i64 0, .int .i64 0, .int .i64 0, .int .i64 0] 75) := ⟨_, rfl⟩
  have hb2 : Below w1.heap.size w1 W2 := by rw [hW2]; exact (Below.refl _ _).alloc (Nat.le_refl _) _
  have z2 : w1.heap.size < W2.heap.size := by rw [hW2]; simp
  have BG2 := hideG (show BgAt W2 w1.heap.size (3 * N, fun _ => 0) by rw [hW2]; exact bg_fresh w1 (3 * N))
  have R2 := hideG ((hb2.block w.heap.size q0).trans R1.out)
  have S2 := hideG (S1.out.below hb2)
  have B2 := hideG (B1.out.trans (hb2.mono B1.out.size))
  have HW2 := hideG hW2
  obtain ⟨gb, hgb⟩ : ∃ gb, gb = w1.heap.size := ⟨_, rfl⟩
  have NF := hideG (fun x (hx : SesFoot b n m x) => (show x < gb from by rw [hgb]; exact S1.out.low hx))
  clear hW2 hb2
  go_upto_region 5 with fail
  rw [← HW2.out, ← hgb]
  rw [← hgb] at BG2 z2
  have HGB := hideG hgb
  clear hgb x0 x1 x2 x3
  have q02 : w.heap.size < gb := by have := HGB.out; omega
  go_wp2_with fail
  go_loopw [10] (fun i wr => ∃ j : Nat, j ≤ n ∧ i = .int .i64 ((j : Int) + 1) ∧ BgAt wr gb (3 * N, fun u => if 1 ≤ u ∧ u ≤ j then 3 else 0) ∧ Chg (fun x => x = gb) W2 wr) (fun i _ => n + 1 - (intOf i).toNat)
  case atStart =>
    refine ⟨0, Nat.zero_le _, rfl, ?_, Chg.of_below (Below.refl _ _)⟩
    have e : (fun u : Nat => if 1 ≤ u ∧ u ≤ 0 then (3 : Int) else 0) = fun _ => 0 := by funext u; exact if_neg (by omega)
    rw [e]; exact BG2.out
  case round =>
    obtain ⟨j, hj, rfl, hbg, hch⟩ := hrel
    have HBG := hideG hbg
    have HCH := hideG hch
    have zr := hch.size
    have gl : gb < wr.heap.size := FRow.lt hbg
    obtain ⟨⟨x0, x1, x2, x3⟩, -⟩ := cells_four ((hch.block w.heap.size (by omega) (by omega)).trans R2.out)
    have qw : w.heap.size < wr.heap.size := by omega
    clear hbg hch
    by_cases hlt : j < n
    · have s1 := HBG.out.cli (j + 1) (by omega)
      have sf := FRow.froz HBG.out (1 + (j + 1))
      have BG3 := hideG (HBG.out.setC (j + 1) (by omega) 3)
      have CH3 := hideG (HCH.out.trans (Chg.setCell wr ⟨gb, 1 + (j + 1), none⟩ (.int .i64 3)) (fun x e _ => e))
      have jn : (j : Int) + 1 ≤ N := by have := HNN.out; omega
      have j13 : (j : Int) + 1 < 13 := by omega
      obtain ⟨jj, hjj⟩ : ∃ jj : Nat, jj = j + 1 := ⟨_, rfl⟩
      have ejj : (j : Int) + 1 = (jj : Int) := by omega
      rw [← hjj] at s1 sf BG3 CH3
      have HJJ := hideG hjj
      have jj13 : (jj : Int) < 13 := by omega
      have jjN : (jj : Int) ≤ N := by have := HNN.out; omega
      rw [ejj]
      clear hjj ejj jn j13
      go_wp2_with fail
      go_roundw
      case rel =>
        refine ⟨j + 1, by omega, by have := HJJ.out; go_num, ?_, CH3.out⟩
        have e : updA (fun u : Nat => if 1 ≤ u ∧ u ≤ j then (3 : Int) else 0) jj 3 = fun u => if 1 ≤ u ∧ u ≤ j + 1 then 3 else 0 := by
          funext u
          have := HJJ.out
          by_cases c : u = jj
          · rw [c, updA_same, if_pos (by omega)]
          · rw [updA_other _ _ _ c]
            by_cases d : 1 ≤ u ∧ u ≤ j
            · rw [if_pos d, if_pos (by omega)]
            · rw [if_neg d, if_neg (by omega)]
        rw [← e]; exact BG3.out
      case measure => have := HJJ.out; simp [intOf]; omega
    · have ej : j = n := by omega
      have jn : ¬ (j : Int) + 1 ≤ N := by have := HNN.out; omega
      have BGB := hideG (show BgAt wr gb (budB n) by
        have h := HBG.out
        have e : ((3 * N, fun u => if 1 ≤ u ∧ u ≤ j then 3 else 0) : Bg) = budB n := by unfold budB; rw [HNN.out, ej]
        rw [e] at h; exact h)
      have SR := hideG (S2.out.keep zr (fun x hx => HCH.out.block x (S2.out.low hx) (fun e => by have := NF.out x hx; omega)))
      have HOK := hideG (beg_ok HC.out)
      have HOU := hideG (show Calls Tryz.prog 15 #[.pointer (some ⟨b, 0, none⟩)] wr (fun e w' => ∃ va vb, e = .returned (.agg #[.int .i64 0, .int .i64 0, va, vb]) ∧ Told wr w' va vb [] []) from vOutcome SR.out HOK.out)
      have RC := hideG ((HCH.out.block w.heap.size (by omega) (by omega)).trans R2.out)
      have BR := hideG (B2.out.trans (HCH.out.below B2.out.size (fun x e => by omega)))
      clear ej
      go_wp2_with fail
      refine HOU.out.mono ?_
      rintro e w4 ⟨va, vb, rfl, ht⟩
      have hb4 := ht.2.2.2
      have z4 := hb4.size
      have LA := hideG (listAt_of_owns ht.1 (fun z hz => by cases hz))
      have LB := hideG (listAt_of_owns ht.2.1 (fun z hz => by cases hz))
      have NL := hideG (show ∀ x, (va.ownBlock = some x ∨ vb.ownBlock = some x) → wr.heap.size ≤ x ∧ x < w4.heap.size from fun x hx => by
        rcases hx with hx | hx
        · exact ht.1.lt x hx
        · exact ht.2.1.lt x hx)
      obtain ⟨a4, k4, e4⟩ := owns_form ht.1
      obtain ⟨a5, k5, e5⟩ := owns_form ht.2.1
      have e4' : va = .slice a4 0 k4 := e4
      have e5' : vb = .slice a5 0 k5 := e5
      clear e4 e5 ht
      subst e4'
      subst e5'
      obtain ⟨W5, hW5⟩ : ∃ W5, W5 = w4.alloc (.cells #[.int .i64 0, .int .i64 0, .slice a4 0 k4, .slice a5 0 k5] 35) := ⟨_, rfl⟩
      have hb5 : Below w4.heap.size w4 W5 := by rw [hW5]; exact (Below.refl _ _).alloc (Nat.le_refl _) _
      have z5 : w4.heap.size < W5.heap.size := by rw [hW5]; simp
      have hb45 : Below wr.heap.size wr W5 := hb4.trans (hb5.mono z4)
      have INV := hideG (show BndI w W5 b n gb w4.heap.size w.heap.size ⟨N, T, M, D⟩ cl (beg cl n) m (budB n) 0 (.slice a4 0 k4) (.slice a5 0 k5) from
        { ses := SR.out.below hb45, inv := binv_beg HC.out, bgb := bgB_beg hn12, bg := BGB.out.chg (S := fun _ => False) (Chg.of_below hb45) (fun e => e), row := by rw [hW5]; exact heap_alloc_new w4 _, cfg := (hb45.block w.heap.size qw).trans RC.out,
          set := LA.out.below hb5, sum := LB.out.below hb5,
          lists := fun x hx => by
            have h1 := NL.out x hx
            refine ⟨by omega, fun e => ?_, by omega, by omega, by omega⟩
            have := NF.out x (.inl e); omega,
          nb := ⟨fun e => by have := NF.out gb e; omega, fun e => by have := NF.out _ e; omega, fun e => by
            have := NW.out _ e; omega⟩,
          ne := ⟨by omega, by omega, by omega⟩, lo := ⟨by omega, by omega, Nat.le_refl _⟩, own := fun x hx => by have := NW.out x (.inl hx); omega,
          bel := BR.out.trans (hb45.mono BR.out.size) })
      have HW5 := hideG hW5
      clear hb4 hb5 hb45 hW5 x0 x1 x2 x3
      obtain ⟨gw, hgw⟩ : ∃ gw, gw = w4.heap.size := ⟨_, rfl⟩
      go_upto_region 10 with fail
      rw [← HW5.out, ← hgw]
      rw [← hgw] at INV
      clear hgw
      obtain ⟨gc, hgc⟩ : ∃ gc, gc = w.heap.size := ⟨_, rfl⟩
      rw [← hgc]
      rw [← hgc] at INV
      have HGC := hideG hgc
      clear hgc
      go_wp2_with fail
      go_loopw [8, 12, 13] (fun q tk i ws => ∃ (j t : Nat) (s : Sn) (m : SM) (bg : Bg) (va vb : Value), q = .bool true ∧ tk = .int .i64 (t : Int) ∧ j ≤ n3 ∧ t ≤ j ∧ i = .int .i64 (j : Int) ∧ BndI w ws b n gb gw gc ⟨N, T, M, D⟩ cl s m bg t va vb) (fun _ _ i _ => n3 - (intOf i).toNat)
      case atStart => exact ⟨0, 0, _, _, _, _, _, rfl, rfl, Nat.zero_le _, Nat.le_refl _, rfl, INV.out⟩
      case round =>
        obtain ⟨j, t, s, m, bg, va, vb, rfl, rfl, hj, htj, rfl, hinv⟩ := hrel
        have IV := hideG hinv
        obtain ⟨l1, l2, l3⟩ := hinv.lt
        obtain ⟨av, cv, hva⟩ := klist_form hinv.set
        obtain ⟨aw, cw, hvb⟩ := klist_form hinv.sum
        clear hinv
        by_cases hlt2 : j < n3
        · obtain ⟨sb, off, rfl, hsl, d0, d1, d2, d3⟩ := (HSS.out wr IV.out.bel).cells j hlt2
          obtain ⟨i1, i2, i3, i4⟩ := (HSS.out wr IV.out.bel).each j hlt2
          have HCELL := hideG (fun (W : World) (hb : Below w.heap.size w W) => (show W.cell? ⟨sb, off + j * 4, none⟩ = some (.int .i64 (S.k j)) ∧ sb < W.heap.size from by
            obtain ⟨sb', off', e, g1, g2, _⟩ := (HSS.out W hb).cells j hlt2
            injection e with e
            injection e with e1 e2 _
            subst e1; subst e2
            exact ⟨g2, g1⟩))
          have I0 := hideG (IV.out.below (Below.refl wr.heap.size wr).drew)
          have HWT := hideG (kwatched_calls I0.out.ses HC.out I0.out.inv I0.out.bg I0.out.nb.1 va vb I0.out.set I0.out.sum (fun x hx => ⟨(I0.out.lists x hx).1, (I0.out.lists x hx).2.1, (I0.out.lists x hx).2.2.1⟩) (bg_bounds I0.out.inv I0.out.bgb) (S.k j) (S.n j) (S.m j) i2 i3 (S.s j) i4)
          have HSTP := hideG (fun (w1 Y : World) (m' : SM) (va' vb' : Value) hw hY => BndI.step (Y := Y) (w1 := w1) (m' := m') (va' := va') (vb' := vb') HC.out I0.out (o := ⟨S.k j, S.n j, S.m j, bl (S.s j)⟩) (bl_isB (S.s j)) rfl rfl hw hY)
          have HROW := hideG (fun (w1 : World) (m' : SM) (va' vb' : Value) (hw : Watched wr.drew w1 b n ⟨N, T, M, D⟩ cl (actN ⟨N, T, M, D⟩ cl n true s ⟨S.k j, S.n j, S.m j, bl (S.s j)⟩) m m' gb (budA ⟨N, T, M, D⟩ cl n s ⟨S.k j, S.n j, S.m j, bl (S.s j)⟩ bg) va' vb') => (show w1.heap[gw]? = some (.cells #[.int .i64 s.q.out.1, .int .i64 s.q.out.2.1, va, vb] 35 (0, 0)) from by
            rw [hw.chg.block gw l2 (fun e => by
              rcases e with e | e
              · exact I0.out.ne.1 e.symm
              · exact I0.out.nb.2.1 (.inl e))]
            exact I0.out.row))
          obtain ⟨⟨x0, x1, x2, x3⟩, -⟩ := cells_four IV.out.cfg
          obtain ⟨⟨n0, n1, n2, n3'⟩, -⟩ := cells_four IV.out.row
          rw [hva] at n2
          rw [hvb] at n3'
          rw [hva, hvb] at HWT
          have HVA := hideG hva
          have HVB := hideG hvb
          have hjn : (j : Int) < (n3 : Int) := by omega
          obtain ⟨s', hs'⟩ : ∃ s', s' = actN ⟨N, T, M, D⟩ cl n true s ⟨S.k j, S.n j, S.m j, bl (S.s j)⟩ := ⟨_, rfl⟩
          obtain ⟨bg', hbg'⟩ : ∃ bg', bg' = budA ⟨N, T, M, D⟩ cl n s ⟨S.k j, S.n j, S.m j, bl (S.s j)⟩ bg := ⟨_, rfl⟩
          rw [← hs', ← hbg'] at HWT HSTP HROW
          clear hs' hbg' hva hvb i1 i2 i3 i4
          dsimp only at HWT HSTP
          generalize s.q.out.1 = so at *
          generalize s.q.out.2.1 = ro at *
          generalize s.q.out.2.2.1.length = nls at *
          generalize s.q.out.2.2.2.length = nus at *
          go_upto_region 14 with fail
          go_cut [8] from 51 to 62 (fun q wc => q = .bool true ∧ ∃ (m' : SM) (va' vb' : Value), BndI w wc b n gb gw gc ⟨N, T, M, D⟩ cl s' m' bg' (if S.k j = 5 then (t : Int) + 1 else t) va' vb')
          case first =>
            go_region_with (go_at_call 24; refine HWT.out.mono ?_; rintro e w2 ⟨va', vb', rfl, m', hw⟩; obtain ⟨a6, k6, e6⟩ := klist_form hw.set; obtain ⟨a7, k7, e7⟩ := klist_form hw.sum; have HFIN := hideG (fun Y hY => HSTP.out w2 Y m' va' vb' hw hY); obtain ⟨⟨p0, p1, p2, p3⟩, pf⟩ := cells_four (HROW.out w2 m' va' vb' hw); rw [e6, e7] at HFIN ⊢; clear hw e6 e7; (try dsimp only at HFIN); generalize s'.q.out.1 = so' at *; generalize s'.q.out.2.1 = ro' at *)
            all_goals (go_wp2_with fail; go_meet; exact ⟨rfl, _, _, _, HFIN.out _ ⟨_, rfl, Below.refl _ _⟩⟩)
          case rest =>
            obtain ⟨hq, m', va', vb', hI⟩ := hcut
            subst hq
            have I1 := hideG hI
            obtain ⟨e0, sl⟩ := HCELL.out wc hI.bel
            clear hI x0 x1 x2 x3 n0 n1 n2 n3' d0 d1 d2 d3 l1 l2 l3 hsl
            obtain ⟨kb, hkb⟩ : ∃ kb, (S.k j == 5) = kb := ⟨_, rfl⟩
            have HKB := hideG hkb
            cases kb
            · have TT := hideG (show (if S.k j = 5 then (t : Int) + 1 else t) = (t : Int) from if_neg (by simpa using HKB.out))
              rw [TT.out] at I1
              go_wp2_with fail
              go_roundw
              case rel => exact ⟨j + 1, t, _, _, _, _, _, rfl, rfl, by omega, by omega, by go_num, I1.out⟩
              case measure => simp [intOf]; omega
            · have TT := hideG (show (if S.k j = 5 then (t : Int) + 1 else t) = ((t + 1 : Nat) : Int) by rw [if_pos (by simpa using HKB.out)]; omega)
              rw [TT.out] at I1
              go_wp2_with fail
              go_roundw
              case rel => exact ⟨j + 1, t + 1, _, _, _, _, _, rfl, by go_num, by omega, by omega, by go_num, I1.out⟩
              case measure => simp [intOf]; omega
        · have hjn : ¬ (j : Int) < (n3 : Int) := by omega
          go_wp2_with fail
          clear hva hvb l1 l2 l3
          go_loopw [8, 12] (fun q tk ws => ∃ (t : Nat) (s : Sn) (m : SM) (bg : Bg) (va vb : Value), q = .bool true ∧ tk = .int .i64 (t : Int) ∧ BndI w ws b n gb gw gc ⟨N, T, M, D⟩ cl s m bg t va vb) (fun _ tk _ => (4 * D).toNat - (intOf tk).toNat)
          case atStart => exact ⟨t, _, _, _, _, _, rfl, rfl, IV.out⟩
          case round =>
            obtain ⟨t, s, m, bg, va, vb, rfl, rfl, hinv⟩ := hrel
            have IW := hideG hinv
            obtain ⟨l1, l2, l3⟩ := hinv.lt
            obtain ⟨av, cv, hva⟩ := klist_form hinv.set
            obtain ⟨aw, cw, hvb⟩ := klist_form hinv.sum
            clear hinv
            obtain ⟨⟨x0, x1, x2, x3⟩, -⟩ := cells_four IW.out.cfg
            obtain ⟨⟨n0, n1, n2, n3'⟩, -⟩ := cells_four IW.out.row
            by_cases h4 : (t : Int) < 4 * D
            · have HWT := hideG (kwatched_calls IW.out.ses HC.out IW.out.inv IW.out.bg IW.out.nb.1 va vb IW.out.set IW.out.sum (fun x hx => ⟨(IW.out.lists x hx).1, (IW.out.lists x hx).2.1, (IW.out.lists x hx).2.2.1⟩) (bg_bounds IW.out.inv IW.out.bgb) 5 0 0 ⟨by decide, by decide⟩ ⟨by decide, by decide⟩ ByteArray.empty (Nat.zero_le _))
              have HSTP := hideG (fun (w1 Y : World) (m' : SM) (va' vb' : Value) hw hY => BndI.step (Y := Y) (w1 := w1) (m' := m') (va' := va') (vb' := vb') HC.out IW.out (o := ⟨5, 0, 0, bl ByteArray.empty⟩) (bl_isB _) rfl rfl hw hY)
              have HROW := hideG (fun (w1 : World) (m' : SM) (va' vb' : Value) (hw : Watched wr w1 b n ⟨N, T, M, D⟩ cl (actN ⟨N, T, M, D⟩ cl n true s ⟨5, 0, 0, bl ByteArray.empty⟩) m m' gb (budA ⟨N, T, M, D⟩ cl n s ⟨5, 0, 0, bl ByteArray.empty⟩ bg) va' vb') => (show w1.heap[gw]? = some (.cells #[.int .i64 s.q.out.1, .int .i64 s.q.out.2.1, va, vb] 35 (0, 0)) from by
                rw [hw.chg.block gw l2 (fun e => by
                  rcases e with e | e
                  · exact IW.out.ne.1 e.symm
                  · exact IW.out.nb.2.1 (.inl e))]
                exact IW.out.row))
              rw [hva] at n2
              rw [hvb] at n3'
              rw [hva, hvb] at HWT
              obtain ⟨s', hs'⟩ : ∃ s', s' = actN ⟨N, T, M, D⟩ cl n true s ⟨5, 0, 0, bl ByteArray.empty⟩ := ⟨_, rfl⟩
              obtain ⟨bg', hbg'⟩ : ∃ bg', bg' = budA ⟨N, T, M, D⟩ cl n s ⟨5, 0, 0, bl ByteArray.empty⟩ bg := ⟨_, rfl⟩
              rw [← hs', ← hbg'] at HWT HSTP HROW
              clear hs' hbg' hva hvb
              dsimp only at HWT HSTP
              rw [if_pos rfl, show (t : Int) + 1 = ((t + 1 : Nat) : Int) by omega] at HSTP
              generalize s.q.out.1 = so at *
              generalize s.q.out.2.1 = ro at *
              generalize s.q.out.2.2.1.length = nls at *
              generalize s.q.out.2.2.2.length = nus at *
              go_wp2_with fail
              refine HWT.out.mono ?_
              rintro e w2 ⟨va', vb', rfl, m', hw⟩
              obtain ⟨a6, k6, e6⟩ := klist_form hw.set
              obtain ⟨a7, k7, e7⟩ := klist_form hw.sum
              have HFIN := hideG (fun Y hY => HSTP.out w2 Y m' va' vb' hw hY)
              obtain ⟨⟨p0, p1, p2, p3⟩, pf⟩ := cells_four (HROW.out w2 m' va' vb' hw)
              rw [e6, e7] at HFIN ⊢
              clear hw e6 e7 x0 x1 x2 x3 n0 n1 n2 n3'
              (try dsimp only at HFIN)
              generalize s'.q.out.1 = so' at *
              generalize s'.q.out.2.1 = ro' at *
              go_wp2_with fail
              go_roundw
              case rel => exact ⟨t + 1, _, _, _, _, _, rfl, by go_num, HFIN.out _ ⟨_, rfl, Below.refl _ _⟩⟩
              case measure => simp [intOf]; omega
            · have hne := IW.out.inv.ends (by show 4 * D ≤ (t : Int); omega)
              have hne' : (s.q.out.1 != 0) = true := by simpa using hne
              have BL := hideG IW.out.bel
              generalize s.q.out.1 = so at *
              clear hne
              go_wp2_with fail
              go_ret
              exact ⟨rfl, BL.out⟩

theorem walk (N T M D : Int) (a : Option Addr) (n c : Nat) (vi vm vs : Nat → Value) (Dd : Nat → DD) (a3 : Option Addr) (n3 c3 : Nat) (S : Stps) (w : World) (hD : DrawsAt w a n c vi vm vs Dd) (hS : StepsAt w a3 n3 c3 S) :
    Calls Tryz.prog 8 #[.agg #[.int .i64 N, .int .i64 T, .int .i64 M, .int .i64 D], .slice a n c, .slice a3 n3 c3] w fun e w' => e = .returned (.bool true) ∧ Below w.heap.size w w' := by
  by_cases hE : begE N T M D n Dd = 0
  · exact walk_ok N T M D a n c vi vm vs Dd a3 n3 c3 S w hD hS hE
  · exact walk_no N T M D a n c vi vm vs Dd a3 n3 c3 w hD hE

set_option maxRecDepth 100000 in
theorem lifted (os : Os) (started : os.Started) (H : Type) (enc : TypeId × Value → H) :
    ReturnsInHanded {} Tryz.checked os 8 .any (Rows.boundedSpec.pre6 enc Tryz.prog Tryz.f8 Rows.boundedRow.domain false) (Rows.boundedSpec.post enc Tryz.prog Tryz.f8 false true false false) := by
  refine returnsInHanded_of_change (C := Tryz.checked) own started (by kernel_rfl) Tryz.func8
    (ChangeSpec.witness6 (enc := enc) (C := Tryz.checked) false ⟨#[], #[.agg #[.int .i64 0, .int .i64 0, .int .i64 0, .int .i64 0], .slice none 0 0, .slice none 0 0], []⟩ 8 (by kernel_rfl) (by kernel_rfl) (by kernel_rfl) (by kernel_rfl)) ?_
  intro W base args ds gs before hval0 hW hcnd _
  have hval : ∀ (j : Nat) t v, Tryz.f8.params[j]? = some t → args[j]? = some v → Value.okWide Tryz.prog W .any base t v := hval0
  have hW' := hW
  obtain ⟨p, q, hA0, hV, rfl, hfz, hnd⟩ := hW
  have hA : DataW.TrodAll enc Tryz.prog W 0 (fun _ => true) true Tryz.f8.params.toList args.toList ds p := hA0
  rw [Tryz.params8] at hA hval
  obtain ⟨v0, vs0, d0, ds0, p0, q0, hargs, rfl, rfl, h0, r0⟩ := trodAll_cons hA
  obtain ⟨v1, vs1, d1, ds1, p1, q1, rfl, rfl, rfl, h1, r1⟩ := trodAll_cons r0
  obtain ⟨v2, vs2, d2, ds2, p2, q2, rfl, rfl, rfl, h2, r2⟩ := trodAll_cons r1
  obtain ⟨rfl, rfl, rfl⟩ := trodAll_nil r2
  obtain rfl : args = #[v0, v1, v2] := by cases args; simp_all
  obtain ⟨rfl, rfl⟩ := trodVars_none hV
  have k0 := h0
  have k1 := h1
  have k2 := h2
  have lt0 : ∀ x ∈ p0, x.block < W.heap.size := by obtain ⟨m, hm⟩ := k0; exact DataW.trod_lt m _ _ _ hm
  have lt1 : ∀ x ∈ p1, x.block < W.heap.size := by obtain ⟨m, hm⟩ := k1; exact DataW.trod_lt m _ _ _ hm
  have lt2 : ∀ x ∈ p2, x.block < W.heap.size := by obtain ⟨m, hm⟩ := k2; exact DataW.trod_lt m _ _ _ hm
  obtain ⟨N, T, M, D, rfl⟩ := cfg_open (hval 0 26 v0 rfl rfl) h0
  obtain ⟨a1, n1, c1, rfl⟩ := okWide_slice Tryz.underlying27 (hval 1 27 v1 rfl rfl)
  obtain ⟨a2, n2, c2, rfl⟩ := okWide_slice Tryz.underlying28 (hval 2 28 v2 rfl rfl)
  obtain ⟨vi, vm, vs, Dd, hD⟩ := draws_open rfl h1
  obtain ⟨S, hS⟩ := steps_open rfl h2
  clear hA0 hval0
  refine (walk N T M D a1 n1 c1 vi vm vs Dd a2 n2 c2 S W hD hS).mono fun e W' ⟨he, bel⟩ => ?_
  subst he
  exact ⟨_, rfl, _, _, _, [], _, [], hW', trodAll_mk1 (shut_bool Tryz.underlying4 _), (trodAll_cons_mk (Below.trod laidOut (by kernel_rfl) (of_decide_eq_true (by kernel_rfl)) k0 bel lt0) (trodAll_cons_mk (Below.trod laidOut (by kernel_rfl) (of_decide_eq_true (by kernel_rfl)) k1 bel lt1) (trodAll_cons_mk (Below.trod laidOut (by kernel_rfl) (of_decide_eq_true (by kernel_rfl)) k2 bel lt2) trodAll_mk0))), rfl, bel.frame _, fun h => by cases h⟩

theorem over : Rows.boundedRow.holds Tryz.pinned (OpenSpec.ofChange Rows.boundedSpec) :=
  OpenClaim.holds_of_wide 8 Tryz.f8 rfl rfl rfl rfl rfl rfl rfl ⟨rfl, rfl, rfl, rfl, rfl⟩ rfl rfl rfl rfl rfl (by kernel_rfl) Tryz.func8 closed
    (of_decide_eq_true (by kernel_rfl)) (by unfold Func.isWrapper; first | (rw [if_pos (by decide +kernel)]; kernel_rfl) | (rw [if_neg (by decide +kernel)]; exact ⟨rfl, rfl⟩))
    (fun os started H enc _ => lifted os started H enc)

end Go.Proofs.YtchideljndagjabGreat.bounded
namespace Go.Proofs.YtchideljndagjabGreat

/-- The statement. -/
theorem bounded_holds : Rows.BoundedSaid := bounded.over
end Go.Proofs.YtchideljndagjabGreat
