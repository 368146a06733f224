/- The contract of the polynomial with given zeros, package veilkeep. -/
import Derived.Test.YtchideljndagjaaChoose
import Derived.Test.YtchideljndagjaaCalc
import Derived.Test.YtchideljndagjaaSplit
import Derived.Test.YtchideljndagjaaZer
import Derived.Deep.RegionWith
namespace Go.Proofs.Ytchideljndagjaa
open Go.ChangeShapes Go.WideShapes Go.ChangeAt Go.RowKit
set_option linter.unusedVariables false

/-- A row of integers that the call has made, full. -/
def IR (w : World) (B g : Nat) (zs : List Int) : Prop := w.ownsRow B 3 1 (.slice (some ⟨g, 0, none⟩) zs.length zs.length) zs.length (zs.map (Value.int .i64))

theorem IR.cell {w : World} {B g : Nat} {zs : List Int} (h : IR w B g zs) (j : Nat) (hj : j < zs.length) : w.cell? ⟨g, j, none⟩ = some (.int .i64 (zs.getD j 0)) ∧ w.frozen? ⟨g, j, none⟩ = false := by
  refine ⟨?_, World.ownsRow.frozenAt h j⟩
  rw [World.ownsRow.cellAt h j (by omega), List.getElem?_map, List.getD_eq_getElem?_getD, List.getElem?_eq_getElem hj]; rfl

theorem IR.set {w : World} {B g : Nat} {zs : List Int} (h : IR w B g zs) (j : Nat) (z : Int) : IR (w.setCell ⟨g, j, none⟩ (.int .i64 z)) B g (zs.set j z) := by
  have := (World.ownsRow.stored h j (.int .i64 z)).1
  rw [← List.map_set] at this
  unfold IR
  rw [List.length_set]
  exact this

theorem IR.lt {w : World} {B g : Nat} {zs : List Int} (h : IR w B g zs) : B ≤ g ∧ g < w.heap.size := World.ownsRow.lt h g rfl

theorem IR.other {w : World} {B g g' : Nat} {zs : List Int} (h : IR w B g zs) (hg : g ≠ g') (j : Nat) (z : Value) : IR (w.setCell ⟨g', j, none⟩ z) B g zs := by
  obtain ⟨h1, h2⟩ := h
  refine ⟨h1, ?_⟩
  rcases h2 with ⟨h2, _⟩ | ⟨g0, cap, cur, e, h3, h4, h5⟩
  · cases h2
  · have eg : g = g0 := by simp at e; exact e.1
    subst eg
    exact .inr ⟨g, cap, cur, e, h3, by rw [Below.heap_setCell _ _ _ _ hg]; exact h4, h5⟩

theorem IR.below {w w' : World} {B g : Nat} {zs : List Int} (h : IR w B g zs) (hb : Below w.heap.size w w') : IR w' B g zs := by
  have hl := h.lt
  obtain ⟨h1, h2⟩ := h
  refine ⟨h1, ?_⟩
  rcases h2 with ⟨h2, _⟩ | ⟨g0, cap, cur, e, h3, h4, h5⟩
  · cases h2
  · have eg : g = g0 := by simp at e; exact e.1
    subst eg
    exact .inr ⟨g, cap, cur, e, h3, by rw [hb.block g hl.2]; exact h4, h5⟩

theorem IR.like {w w' : World} {B g : Nat} {zs : List Int} (h : IR w B g zs) (e : w'.heap = w.heap) : IR w' B g zs := by
  unfold IR World.ownsRow at *
  rw [e]; exact h

theorem below_like {B : Nat} {w a b : World} (h : Below B w a) (e : b.heap = a.heap) (e1 : b.os = a.os) (e2 : b.tape = a.tape) (e3 : b.output = a.output) : Below B w b :=
  ⟨e1.trans h.os, e2.trans h.tape, e3.trans h.output, by rw [e]; exact h.size, fun k hk => by rw [e]; exact h.block k hk⟩

theorem mid_el (q : List Int) (o : Int) (i : Nat) (hi : i < q.length) : (Pol.midL q o i).getD i 0 = Pol.prv q o i ∧ (Pol.midL q o i).getD (i + 1) 0 = 0 := by
  rw [Pol.midL_get _ _ _ _ (by omega), Pol.midL_get _ _ _ _ (by omega)]
  unfold Pol.midAt
  refine ⟨by rw [if_neg (by omega), if_pos rfl], by rw [if_neg (by omega), if_neg (by omega)]⟩

set_option maxHeartbeats 2000000 in
set_option maxRecDepth 100000 in
theorem zeros_calls (m : Value) (gi n : Nat) (bs : List Bool) (Bi : Nat) (w : World) (hr : BRow w Bi gi (n + 1) bs) (h0 : bs.getD 0 false = false) (hn : n ≤ 12) :
    Calls Try.prog 22 #[m, .slice (some ⟨gi, 0, none⟩) (n + 1) (n + 1)] w fun e w' => ∃ g q, e = .returned (.slice (some ⟨g, 0, none⟩) q.length q.length) ∧ IR w' w.heap.size g q ∧ Pol.ZInv bs (n + 1) q ∧ Below w.heap.size w w' := by
  obtain ⟨i0, hi, hz0, hz1, hz2⟩ := info_parts infoSp
  have hlen := hr.1
  have hgi := hr.lt
  have HR := hideG hr
  have H0 := hideG h0
  clear hr h0
  go_enter Try.func22, Try.ntmps22
  go_wp2_with fail
  go_loopw [5, 6] (fun v u wr => ∃ (gq : Nat) (q : List Int) (uu : Nat), 1 ≤ uu ∧ uu ≤ n + 1 ∧ u = .int .i64 uu ∧ v = .slice (some ⟨gq, 0, none⟩) q.length q.length ∧ IR wr w.heap.size gq q ∧ Pol.ZInv bs uu q ∧ Below w.heap.size w wr) (fun _ u _ => n + 1 - (intOf u).toNat)
  case atStart =>
    refine ⟨w.heap.size, [1], 1, by omega, by omega, rfl, rfl, ?_, Pol.zinv_start bs H0.out, (Below.refl _ _).alloc (Nat.le_refl _) _⟩
    exact World.ownsRow_lit w #[.int .i64 1] 1 (Nat.le_refl _) (by unfold maxLen; omega) rfl
  case round =>
    obtain ⟨gq, q, uu, u1, u2, rfl, rfl, hq, hzi, hbl⟩ := hrel
    have HQ := hideG hq
    have HZ := hideG hzi
    have HB := hideG hbl
    have hsz := hbl.size
    have hql := hq.lt
    have hqlen : q.length ≤ 14 := by
      rw [hzi.1]
      have h1 := List.count_le_length (a := true) (l := bs.take uu)
      rw [List.length_take] at h1
      omega
    by_cases hu : uu < n + 1
    · have cb := (HR.out.cell uu hu).1
      rw [← hbl.cell (p := ⟨gi, uu, none⟩) hgi.2] at cb
      clear hq hzi hbl
      cases hv : bs.getD uu false
      · rw [hv] at cb
        have HV := hideG hv
        clear hv
        go_wp2_with fail
        go_roundw
        case rel => exact ⟨gq, q, uu + 1, by omega, by omega, by go_num, rfl, HQ.out, Pol.zinv_skip HZ.out (by omega) HV.out, HB.out⟩
        case measure => simp [intOf]; omega
      · rw [hv] at cb
        have HV := hideG hv
        clear hv
        go_wp2_with fail
        refine (cpower_calls _ _ _ _ (by omega) (by omega) (by omega) (by omega)).mono ?_
        rintro e wr ⟨rfl, rfl⟩
        obtain ⟨o, ho⟩ : ∃ o, o = Num.powP (uu : Int) 2305843009213693949 := ⟨_, rfl⟩
        rw [← ho]
        have o1 : 0 ≤ o := by rw [ho]; exact Num.powP_lo _ _
        have o2 : o < 2305843009213693951 := by rw [ho]; exact Num.powP_hi _ _
        have HO := hideG ho
        clear ho
        go_wp2_with (at_make; refine wpList_make_full _ rfl _ _ 28 rfl w.heap.size 3 i0 (.int .i64 0) 1 Try.underlying28 hi hz0 hz1 _ _ _ _ (q.length + 1) rfl rfl (by omega) (by omega) ?m1 ?m2 ?m3 ?_)
        case m1 => rw [hz2]; omega
        case m2 => unfold maxLen; omega
        case m3 => omega
        intro w1 hown1 hgrow1
        have hb1 : Below wr.heap.size wr w1 := (Below.refl _ _).grown hgrow1 (Nat.le_refl _) (by simp)
        have hr1 : IR w1 w.heap.size wr.heap.size (Pol.midL q o 0) := by
          unfold IR
          rw [Pol.midL_zero, List.length_replicate, List.map_replicate, ← toList_madeCells_one]
          exact hown1
        have HN := hideG hr1
        have HQ1 := hideG (HQ.out.below hb1)
        have HB1 := hideG (HB.out.trans (hb1.mono hsz))
        have hs1 := hb1.size
        have hne : gq ≠ wr.heap.size := by omega
        generalize hgn : wr.heap.size = gn at *
        clear hgn hown1 hgrow1 hr1 hb1
        go_wp2_with fail
        go_loopw [9] (fun i wx => ∃ ii : Nat, ii ≤ q.length ∧ i = .int .i64 ii ∧ IR wx w.heap.size gn (Pol.midL q o ii) ∧ IR wx w.heap.size gq q ∧ Below w.heap.size w wx) (fun i _ => q.length - (intOf i).toNat)
        case atStart => exact ⟨0, by omega, rfl, HN.out, HQ1.out, HB1.out⟩
        case round =>
          obtain ⟨ii, hii, rfl, hnx, hqq, hbb⟩ := hrel
          by_cases hlt : ii < q.length
          · have ml := Pol.midL_length q o ii
            have cn := hnx.cell ii (by omega)
            have cn1 := hnx.cell (ii + 1) (by omega)
            have cq := (hqq.cell ii hlt).1
            obtain ⟨e1, e2⟩ := mid_el q o ii hlt
            rw [e1] at cn
            rw [e2] at cn1
            obtain ⟨cn, cnf⟩ := cn
            obtain ⟨cn1, cn1f⟩ := cn1
            rw [ml] at *
            have HX := hideG hnx
            have HY := hideG hqq
            have HW := hideG hbb
            have qe := all_el HZ.out.2.1 ii hlt
            obtain ⟨y, hy⟩ : ∃ y, y = q.getD ii 0 := ⟨_, rfl⟩
            rw [← hy] at cq qe
            have p1 := Pol.prv_lo q o ii
            have p2 := Pol.prv_hi q o ii
            obtain ⟨p, hp⟩ : ∃ p, p = Pol.prv q o ii := ⟨_, rfl⟩
            rw [← hp] at cn p1 p2
            have HYY := hideG hy
            have HPP := hideG hp
            obtain ⟨y1, y2⟩ := qe
            clear hnx hqq hbb e1 e2 hy hp
            go_wp2_with fail
            go_region_with (go_at_call 20; refine (kplus_calls _ _ _ p1 p2 y1 y2).mono ?_; rintro e w' ⟨rfl, rfl⟩)
            all_goals
              go_wp2_with fail
              refine (ctimes_calls _ _ _ _ y1 y2 o1 o2).mono ?_
              rintro e w' ⟨rfl, rfl⟩
              go_wp2_with fail
              refine (kless_calls _ _ _ (by omega) (by omega) (Num.mulP_lo _ _) (Num.mulP_hi _ _)).mono ?_
              rintro e w' ⟨rfl, rfl⟩
              go_wp2_with fail
              go_roundw
              case rel =>
                have R := (HX.out.set ii (Num.addP p y)).set (ii + 1) (Num.subP 0 (Num.mulP y o))
                rw [HPP.out, HYY.out, Pol.midL_step q o ii hlt] at R
                rw [HPP.out, HYY.out]
                exact ⟨ii + 1, by omega, by go_num, R.like rfl, ((HY.out.other hne ii _).other hne (ii + 1) _).like rfl, below_like ((HW.out.setCell (p := ⟨gn, ii, none⟩) (by show w.heap.size ≤ gn; omega) _).setCell (p := ⟨gn, ii + 1, none⟩) (by show w.heap.size ≤ gn; omega) _) rfl rfl rfl rfl⟩
              case measure => simp [intOf]; omega
          · have ei : ii = q.length := by omega
            subst ei
            have HX := hideG hnx
            have HW := hideG hbb
            clear hnx hqq hbb
            rw [Pol.midL_end] at HX
            have ll := Pol.linL_length q o
            go_wp2_with fail
            go_roundw
            case rel =>
              have Z := Pol.zinv_lin HZ.out (by omega) HV.out u1 (by omega)
              have eo : o = Pol.inv (uu : Int) := HO.out
              rw [← eo] at Z
              exact ⟨gn, Pol.linL q o, uu + 1, by omega, by omega, by go_num, by rw [ll], HX.out, Z, HW.out⟩
            case measure => simp [intOf]; omega
    · have eu : uu = n + 1 := by omega
      subst eu
      clear hq hzi hbl
      go_wp2_with fail
      go_ret
      exact ⟨_, q, rfl, HQ.out, HZ.out, HB.out⟩

end Go.Proofs.Ytchideljndagjaa
