/- Contract of the program's session: New, made. -/
import Derived.Test.YtchideljndagjabGreatPkIdBD
import Derived.Test.YtchideljndagjabGreatPkIdBE
namespace Go.Proofs.YtchideljndagjabGreat
open Go.ChangeShapes Go.WideShapes Go.ChangeAt Go.RowKit
set_option linter.unusedVariables false
def clD (N T M : Int) (Dd : Nat → DD) (j : Nat) : Cli.Cl := ⟨N, T, M, (j : Int) + 1, (Dd j).inp, (Dd j).ch, (Dd j).ms, (Dd j).sd, (Dd j).sm, (Dd j).ss⟩
def drE (N T M D : Int) (Dd : Nat → DD) (j : Nat) : Int := newE N T M D ((j : Int) + 1) (Dd j).inp (Dd j).ch (Dd j).ms (Dd j).sd (Dd j).sm (Dd j).ss
structure SesMade (w w' : World) (n : Nat) (N T M D : Int) (Dd : Nat → DD) (b : Nat) (S : SS) (P : Nat → PS) (cv fv : Value) (us : List Value) : Prop where
  fresh : S = freshSS N T M D fun u : Nat => decide (1 ≤ u ∧ (u : Int) ≤ N)
  ses : SesNew w' b n ⟨N, T, M, D⟩ (clD N T M Dd) S P cv fv us (hellosP (clD N T M Dd) n)
  new : ∀ x, (x = b ∨ cv.ownBlock = some x ∨ fv.ownBlock = some x ∨ NStat b n S P us x) → w.heap.size ≤ x
theorem ses_build (CS : List Value) (hl : CS.length = 76) : List.foldl (fun (cs : Array Value) (x : Value × Nat) => cs.setIfInBounds x.2 x.1) Tryz.zeroCells109 CS.zipIdx = (CS ++ [Value.slice none 0 0, Value.slice none 0 0]).toArray := by
  have hz : Tryz.zeroCells109.size = 78 := by rw [zero_ses]; rfl
  apply Array.ext_getElem?
  intro i
  rw [sfold_get CS 0 _ i (by omega)]
  by_cases q : i < 76
  · rw [if_pos (by omega), Nat.sub_zero, List.getElem?_toArray, List.getElem?_append_left (by omega)]
  · rw [if_neg (by omega), zero_ses, List.getElem?_toArray, List.getElem?_toArray]
    unfold sesCells
    rw [List.getElem?_append_right (by show 76 ≤ i; omega), List.getElem?_append_right (by omega), hl]
    rfl
theorem SesNew.keep {w w' : World} {b i : Nat} {C : Srv.Cf} {cl : Nat → Cli.Cl} {S : SS} {P : Nat → PS} {cv fv : Value} {vs : List Value} {ps : List Pk} (h : SesNew w b i C cl S P cv fv vs ps) (hs : w.heap.size ≤ w'.heap.size) (hb : ∀ x, (x = b ∨ cv.ownBlock = some x ∨ fv.ownBlock = some x ∨ NStat b i S P vs x) → w'.heap[x]? = w.heap[x]?) : SesNew w' b i C cl S P cv fv vs ps := by
  have hbb := hb b (.inl rfl)
  have sf : ∀ x, NStat b i S P vs x → w'.heap[x]? = w.heap[x]? := fun x hx => hb x (.inr (.inr (.inr hx)))
  exact { h with
    srv := h.srv.keep hs (fun x hx => by
      by_cases e : x = b
      · rw [e]; exact hbb
      · exact sf x (.inl ⟨hx, e⟩))
    c76 := (World.cell?_of_block (w := w) (a := ⟨b, 76, none⟩) hbb).trans h.c76
    f76 := (frozen_block hbb 76).trans h.f76
    c77 := (World.cell?_of_block (w := w) (a := ⟨b, 77, none⟩) hbb).trans h.c77
    f77 := (frozen_block hbb 77).trans h.f77
    row := row_keep h.row (fun x hx => hb x (.inr (.inl hx)))
    fr := fun j hj => (h.fr j hj).keep hs (fun x hx => sf x (.inr (.inl ⟨j, hj, hx⟩)))
    fl := h.fl.keep hs (fun x hx => hb x (.inr (.inr (.inl hx)))) (fun y hy x hx => sf x (.inr (.inr ⟨y, hy, hx⟩))) }
theorem SesNew.range {w : World} {b i : Nat} {C : Srv.Cf} {cl : Nat → Cli.Cl} {S : SS} {P : Nat → PS} {cv fv : Value} {vs : List Value} {ps : List Pk} (h : SesNew w b i C cl S P cv fv vs ps) : w.rangeAt b 0 (sesCells S cv fv) := fun j v hj => by
  have hl : (ssCells S).length = 76 := rfl
  by_cases q : j < 76
  · unfold sesCells at hj
    rw [List.getElem?_append_left (by rw [hl]; exact q)] at hj
    exact (h.srv.srv.at_ j v hj).1
  · have hj78 : j < 78 := by have := (List.getElem?_eq_some_iff.1 hj).1; rwa [sesCells_length] at this
    rcases (show j = 76 ∨ j = 77 by omega) with rfl | rfl
    · have e : (sesCells S cv fv)[76]? = some cv := rfl
      rw [e] at hj; cases hj; exact h.c76
    · have e : (sesCells S cv fv)[77]? = some fv := rfl
      rw [e] at hj; cases hj; exact h.c77
theorem SesNew.one {w : World} {b i : Nat} {C : Srv.Cf} {cl : Nat → Cli.Cl} {S : SS} {P : Nat → PS} {cv fv : Value} {vs : List Value} {ps : List Pk} (h : SesNew w b i C cl S P cv fv vs ps) (hS : ∀ v ∈ ssCells S, v.oneCell' = true) : ∀ v ∈ sesCells S cv fv, v.oneCell' = true := fun v hv => by
  obtain ⟨a1, c1, e1⟩ := owns_form h.row
  obtain ⟨a2, c2, e2, _⟩ := h.fl.view
  rcases List.mem_append.1 hv with hv | hv
  · exact hS v hv
  · simp only [List.mem_cons, List.not_mem_nil, or_false] at hv
    rcases hv with rfl | rfl
    · rw [e1]; rfl
    · rw [e2]; rfl
theorem co_of_ps {w : World} {b : Nat} {T : TypeId} {s : PS} (h : PSAt w b T s) : Co.PSAt w b 0 s := fun j v hj => by
  refine ⟨?_, frozen_of_row w b _ _ _ h⟩
  rw [Nat.zero_add, h.cell j]; exact hj
theorem infoCC : (Tryz.prog.info? 205).map (fun i => (i.zero, i.size, i.bytes)) = some (some (.agg (psCells zeroPS).toArray), 78, 688) := by kernel_rfl
structure NewRel (w wr : World) (bx j : Nat) (N T M D : Int) (Dd : Nat → DD) (S : SS) (P : Nat → PS) (cv fv : Value) (us : List Value) : Prop where
  ses : SesNew wr bx j ⟨N, T, M, D⟩ (clD N T M Dd) S P cv fv us (hellosP (clD N T M Dd) j)
  new : ∀ x, (x = bx ∨ cv.ownBlock = some x ∨ fv.ownBlock = some x ∨ NStat bx j S P us x) → w.heap.size + 2 ≤ x
  bel : Below w.heap.size w wr
  cfg : wr.heap[w.heap.size]? = some (.cells #[.int .i64 N, .int .i64 T, .int .i64 M, .int .i64 D] 26 (0, 0))
  res : wr.heap[w.heap.size + 1]? = some (.cells (sesCells zeroSS (.slice none 0 0) (.slice none 0 0)).toArray 109 (0, 0))
  ok : ∀ k, k < j → drE N T M D Dd k = 0
set_option maxHeartbeats 2000000 in
set_option maxRecDepth 100000 in
theorem sesNew_go (N T M D : Int) (a : Option Addr) (n c : Nat) (vi vm vs : Nat → Value) (Dd : Nat → DD) (w : World) (h : Cli.cfgB N T M D = true) (hn : (n : Int) = N) (hD : DrawsAt w a n c vi vm vs Dd) :
    Calls Tryz.prog 61 #[.agg #[.int .i64 N, .int .i64 T, .int .i64 M, .int .i64 D], .slice a n c] w fun e w' => Below w.heap.size w w' ∧ ((∃ i, i < n ∧ drE N T M D Dd i ≠ 0 ∧ e = .returned (.tuple #[.agg (sesCells zeroSS (.slice none 0 0) (.slice none 0 0)).toArray, .int .i64 (drE N T M D Dd i)])) ∨ ((∀ j, j < n → drE N T M D Dd j = 0) ∧ ∃ b S P cv fv us, e = .returned (.tuple #[.agg (sesCells S cv fv).toArray, .int .i64 0]) ∧ SesMade w w' n N T M D Dd b S P cv fv us)) := by
  have HN := hideG (fun (W : World) => sNew_ok N T M D W h)
  obtain ⟨CS, hCS⟩ : ∃ CS, CS = ssCells (freshSS N T M D fun u : Nat => decide (1 ≤ u ∧ (u : Int) ≤ N)) := ⟨_, rfl⟩
  rw [← hCS] at HN
  have L76 := hideG (show CS.length = 76 by rw [hCS]; rfl)
  have HONE := hideG (show CS.toArray.all (·.oneCell') = true by rw [hCS]; exact all_oneCell_toArray (fresh_one N T M D _))
  have HSZ := hideG (show (Tryz.prog.info? 106).map (·.size) = some CS.toArray.size by rw [size_srv, List.size_toArray, L76.out])
  obtain ⟨ZS, hZS⟩ : ∃ ZS, ZS = sesCells zeroSS (.slice none 0 0) (.slice none 0 0) := ⟨_, rfl⟩
  have L78 := hideG (show ZS.length = 78 by rw [hZS]; rfl)
  have HZO := hideG (show ZS.toArray.all (·.oneCell') = true by rw [hZS]; exact all_oneCell_toArray zses_one)
  have HZZ := hideG (show (Tryz.prog.info? 109).map (·.size) = some ZS.toArray.size by rw [size_ses, List.size_toArray, L78.out])
  have HZC := hideG (show Tryz.zeroCells109 = ZS.toArray by rw [hZS]; exact zero_ses)
  rw [← hZS]
  have HCS := hideG hCS
  have hneq : ((n : Int) != N) = false := by simpa using hn
  have HNN := hideG hn
  have HZS := hideG hZS
  have HDD := hideG (fun (W : World) (hb : Below w.heap.size w W) => hD.below hb)
  have hDle := hD.le
  have hDmx := hD.mx
  clear h hCS hZS hn hD
  obtain ⟨W0, hW0⟩ : ∃ W0, W0 = (w.alloc (.cells #[.int .i64 N, .int .i64 T, .int .i64 M, .int .i64 D] 26)).alloc (.cells Tryz.zeroCells109 109) := ⟨_, rfl⟩
  have b0 : Below w.heap.size w W0 := by rw [hW0]; exact ((Below.refl _ _).alloc (Nat.le_refl _) _).alloc (by simp) _
  have z0 : W0.heap.size = w.heap.size + 2 := by rw [hW0]; simp
  have r0 : W0.heap[w.heap.size]? = some (.cells #[.int .i64 N, .int .i64 T, .int .i64 M, .int .i64 D] 26 (0, 0)) := by rw [hW0, Below.heap_alloc _ _ _ (by simp)]; exact heap_alloc_new w _
  have r1 : W0.heap[w.heap.size + 1]? = some (.cells ZS.toArray 109 (0, 0)) := by
    have := heap_alloc_new (w.alloc (.cells #[.int .i64 N, .int .i64 T, .int .i64 M, .int .i64 D] 26)) (.cells Tryz.zeroCells109 109)
    rw [hW0, ← HZC.out]; simpa using this
  obtain ⟨⟨x0, x1, x2, x3⟩, -⟩ := cells_four r0
  have R1 := hideG r1
  have R0 := hideG r0
  have B0 := hideG b0
  have HW0 := hideG hW0
  have SZ0 := hideG z0
  have hwl : w.heap.size < W0.heap.size := by omega
  clear hW0 b0 r0 r1 z0
  go_enter Tryz.func61, Tryz.ntmps61
  go_upto_region 1 with fail
  rw [← HW0.out]
  go_wp2_with fail
  refine (HN.out W0).mono ?_
  rintro e w1 ⟨rfl, hb1⟩
  have s1 := hb1.size
  have hsz0 := SZ0.out
  have R2 := hideG ((hb1.block (w.heap.size + 1) (by omega)).trans R1.out)
  have B1 := hideG (B0.out.trans (hb1.mono B0.out.size))
  have z1 := B1.out.size
  have hp3 : SSBl (w1.alloc (.cells Tryz.zeroCells106 106)) w1.heap.size 106 zeroSS := by unfold SSBl; rw [← zero_ss]; exact heap_alloc_new w1 _
  have HTH := hideG (show (w1.alloc (.cells Tryz.zeroCells106 106)).there w1.heap.size 0 CS.toArray.size by rw [show CS.toArray.size = 76 by rw [List.size_toArray]; exact L76.out]; exact hp3.at_.there 0 76 (by omega))
  obtain ⟨w2, hw2⟩ : ∃ w2, w2 = (w1.alloc (.cells Tryz.zeroCells106 106)).setCells w1.heap.size 0 CS := ⟨_, rfl⟩
  have hb2 : Below w1.heap.size w1 w2 := by rw [hw2]; exact below_setCells (Nat.le_refl _) _ _ _ ((Below.refl _ _).alloc (Nat.le_refl _) _)
  have R3 := hideG ((hb2.block (w.heap.size + 1) (by omega)).trans R2.out)
  have R30 := hideG ((hb2.block w.heap.size (by omega)).trans ((hb1.block w.heap.size (by omega)).trans R0.out))
  have B2 := hideG (B1.out.trans (hb2.mono z1))
  have HW2 := hideG hw2
  have HT4 := hideG (show w2.there (w.heap.size + 1) 0 ZS.toArray.size from fun j hj => by
    have hj' : j < 78 := by have := L78.out; simp at hj; omega
    refine ⟨?_, frozen_of_row w2 _ _ _ _ R3.out⟩
    rw [cell_of_row w2 (w.heap.size + 1) (0 + j) _ _ (0, 0) R3.out]
    simp only [List.getElem?_toArray]
    rw [List.getElem?_eq_getElem (by rw [L78.out]; omega)]; rfl)
  have RF := hideG (ses_row_set R3.out (rfl : ZS.length = ZS.length))
  have BF := hideG (show Below w.heap.size w (w2.setCells (w.heap.size + 1) 0 ZS) from below_setCells (by omega) _ _ _ B2.out)
  have y0 : w2.cell? ⟨w.heap.size, 0, none⟩ = some (.int .i64 N) := (hb2.cell (p := ⟨w.heap.size, 0, none⟩) (by show w.heap.size < _; omega)).trans ((hb1.cell (p := ⟨w.heap.size, 0, none⟩) hwl).trans x0)
  have hwl2 : w.heap.size < w2.heap.size := by have := hb2.size; omega
  have HS12 := hideG (show W0.heap.size ≤ w2.heap.size by have := hb2.size; omega)
  clear hb1 hp3 hb2 hw2 hsz0 x0 x1 x2 x3
  have hrg : w2.rangeAt w1.heap.size 0 CS := by
    have hp3 : SSBl (w1.alloc (.cells Tryz.zeroCells106 106)) w1.heap.size 106 zeroSS := by unfold SSBl; rw [← zero_ss]; exact heap_alloc_new w1 _
    rw [HW2.out, HCS.out]; exact (hp3.setAll _).range
  have RG := hideG hrg
  have HSL := hideG (show (Tryz.prog.info? 106).map (·.size) = some CS.length by rw [size_srv, L76.out])
  have HFB := hideG (ses_build CS L76.out)
  clear hrg
  go_upto_region 2 with (refine wpList_store_mid rfl 106 _ _ rfl w1.heap.size 0 CS.toArray rfl rfl HTH.out HSZ.out HONE.out ?_)
  rw [← HW2.out]
  go_upto_region 6 with fail
  have l76 := L76.out
  obtain ⟨XS, hXS⟩ : ∃ XS, XS = CS ++ [Value.slice none 0 0, Value.slice none 0 0] := ⟨_, rfl⟩
  rw [← hXS] at HFB
  have LX := hideG (show XS.length = 78 by rw [hXS, List.length_append, L76.out]; rfl)
  have HXO := hideG (show XS.toArray.all (·.oneCell') = true by
    rw [hXS]
    exact all_oneCell_toArray (fun v hv => by
      rcases List.mem_append.1 hv with hv | hv
      · exact Array.all_eq_true_iff_forall_mem.1 HONE.out v (by simpa using hv)
      · simp only [List.mem_cons, List.not_mem_nil, or_false] at hv
        rcases hv with rfl | rfl <;> rfl))
  have HXZ := hideG (show (Tryz.prog.info? 109).map (·.size) = some XS.toArray.size by rw [size_ses, List.size_toArray, LX.out])
  have r8 : (w2.alloc (.cells Tryz.zeroCells109 109)).heap[w2.heap.size]? = some (.cells ZS.toArray 109 (0, 0)) := by rw [← HZC.out]; exact heap_alloc_new w2 _
  have HT8 := hideG (show (w2.alloc (.cells Tryz.zeroCells109 109)).there w2.heap.size 0 XS.toArray.size from fun j hj => by
    have hj' : j < 78 := by have := LX.out; simp at hj; omega
    refine ⟨?_, frozen_of_row _ _ _ _ _ r8⟩
    rw [cell_of_row _ w2.heap.size (0 + j) _ _ (0, 0) r8]
    simp only [List.getElem?_toArray]
    rw [List.getElem?_eq_getElem (by rw [L78.out]; omega)]; rfl)
  go_upto_region 7 with (first | refine wpList_load_mid rfl 106 _ rfl w1.heap.size 0 rfl CS _ RG.out Tryz.underlying106 rfl HSL.out ?_ | refine wpList_store_mid rfl 109 _ _ rfl w2.heap.size 0 XS.toArray rfl (by rw [← HFB.out]; rfl) HT8.out HXZ.out HXO.out ?_)
  obtain ⟨w3, hw3⟩ : ∃ w3, w3 = (w2.alloc (.cells Tryz.zeroCells109 109)).setCells w2.heap.size 0 XS := ⟨_, rfl⟩
  have b23 : Below w2.heap.size w2 w3 := by rw [hw3]; exact below_setCells (Nat.le_refl _) _ _ _ ((Below.refl _ _).alloc (Nat.le_refl _) _)
  have hr3 : w3.heap[w2.heap.size]? = some (.cells XS.toArray 109 (0, 0)) := by rw [hw3]; exact ses_row_set r8 (by rw [L78.out, LX.out])
  have zz2 : w.heap.size + 2 ≤ w2.heap.size := by have := SZ0.out; have := HS12.out; omega
  have START := hideG (show NewRel w w3 w2.heap.size 0 N T M D Dd (freshSS N T M D fun u : Nat => decide (1 ≤ u ∧ (u : Int) ≤ N)) (fun _ => zeroPS) (.slice none 0 0) (.slice none 0 0) [] from by
    refine ⟨sesNew_start _ rfl (by rw [hr3, hXS, HCS.out]; rfl), fun x hx => ?_, B2.out.trans (b23.mono B2.out.size), (b23.block _ (by omega)).trans R30.out, (b23.block _ (by omega)).trans (by rw [R3.out, HZS.out]), fun k hk => by omega⟩
    rcases hx with hx | hx | hx | hx
    · omega
    · cases hx
    · cases hx
    · rcases hx with ⟨hx, e⟩ | ⟨j, hj, _⟩ | ⟨y, hy, _⟩
      · exact absurd (fresh_foot hx) e
      · omega
      · cases hy)
  rw [← hw3]
  clear hw3 b23 hr3 r8 hXS y0
  obtain ⟨bx, hbx⟩ : ∃ bx, bx = w2.heap.size := ⟨_, rfl⟩
  rw [← hbx] at START ⊢
  have HBX := hideG hbx
  clear hbx
  go_wp2_with fail
  go_loopw [33] (fun x wr => ∃ (j : Nat) (P : Nat → PS) (cv fv : Value) (us : List Value), j ≤ n ∧ x = .int .i64 j ∧ NewRel w wr bx j N T M D Dd (freshSS N T M D fun u : Nat => decide (1 ≤ u ∧ (u : Int) ≤ N)) P cv fv us) (fun x _ => n - (intOf x).toNat)
  case atStart => exact ⟨0, _, _, _, _, Nat.zero_le _, rfl, START.out⟩
  case round =>
    obtain ⟨j, P, cv, fv, us, hj, rfl, hrl⟩ := hrel
    have HR := hideG hrl
    by_cases hlt : j < n
    · have hDr := HDD.out wr hrl.bel
      obtain ⟨db, off, hda, hdl, d0, d1, d2, d3, d4, d5⟩ := hDr.cells j hlt
      obtain ⟨l1, l2, l3, -⟩ := hDr.its j hlt
      subst hda
      have hbel := hrl.bel
      have sw := hbel.size
      have hcz : w.heap.size < wr.heap.size := by
        by_cases q : w.heap.size < wr.heap.size
        · exact q
        · have := hrl.cfg; rw [Array.getElem?_eq_none (by omega)] at this; cases this
      obtain ⟨a1, k1, e1, -⟩ := l1
      obtain ⟨a2, k2, e2, -⟩ := l2
      obtain ⟨a3, k3, e3, -⟩ := l3
      have LL := hideG (hDr.its j hlt)
      rw [e1] at d0
      rw [e2] at d4
      rw [e3] at d5
      rw [e1, e2, e3] at LL
      obtain ⟨W1, hW1⟩ : ∃ W1, W1 = wr.alloc (.cells #[.slice a1 (Dd j).inp.length k1, .int .i64 (Dd j).ch, .int .i64 (Dd j).ms, .int .i64 (Dd j).sd, .slice a2 (Dd j).sm.length k2, .slice a3 (Dd j).ss.length k3] 117) := ⟨_, rfl⟩
      have bW : Below wr.heap.size wr W1 := by rw [hW1]; exact (Below.refl _ _).alloc (Nat.le_refl _) _
      have zW : wr.heap.size < W1.heap.size := by rw [hW1]; simp
      have rW : W1.heap[wr.heap.size]? = some (.cells #[.slice a1 (Dd j).inp.length k1, .int .i64 (Dd j).ch, .int .i64 (Dd j).ms, .int .i64 (Dd j).sd, .slice a2 (Dd j).sm.length k2, .slice a3 (Dd j).ss.length k3] 117 (0, 0)) := by rw [hW1]; exact heap_alloc_new wr _
      have g0 : W1.cell? ⟨wr.heap.size, 0, none⟩ = some (.slice a1 (Dd j).inp.length k1) := (cell_of_row W1 _ 0 _ _ (0, 0) rW).trans rfl
      have g1 : W1.cell? ⟨wr.heap.size, 1, none⟩ = some (.int .i64 (Dd j).ch) := (cell_of_row W1 _ 1 _ _ (0, 0) rW).trans rfl
      have g2 : W1.cell? ⟨wr.heap.size, 2, none⟩ = some (.int .i64 (Dd j).ms) := (cell_of_row W1 _ 2 _ _ (0, 0) rW).trans rfl
      have g3 : W1.cell? ⟨wr.heap.size, 3, none⟩ = some (.int .i64 (Dd j).sd) := (cell_of_row W1 _ 3 _ _ (0, 0) rW).trans rfl
      have g4 : W1.cell? ⟨wr.heap.size, 4, none⟩ = some (.slice a2 (Dd j).sm.length k2) := (cell_of_row W1 _ 4 _ _ (0, 0) rW).trans rfl
      have g5 : W1.cell? ⟨wr.heap.size, 5, none⟩ = some (.slice a3 (Dd j).ss.length k3) := (cell_of_row W1 _ 5 _ _ (0, 0) rW).trans rfl
      obtain ⟨⟨q0, q1, q2, q3⟩, -⟩ := cells_four ((bW.block w.heap.size hcz).trans hrl.cfg)
      have HW1 := hideG hW1
      have hj0 : (0 : Int) ≤ (j : Int) := by omega
      have hjn : (j : Int) < (n : Int) := by omega
      have HLT := hideG hlt
      have NNO := hideG (fun (hE : drE N T M D Dd j ≠ 0) => new_no N T M D ((j : Int) + 1) _ _ _ (Dd j).inp (Dd j).sm (Dd j).ss (Dd j).ch (Dd j).ms (Dd j).sd W1 (LL.out.1.below bW) (LL.out.2.1.below bW) (LL.out.2.2.1.below bW) hE)
      have NOK := hideG (fun (hE : drE N T M D Dd j = 0) => new_ok N T M D ((j : Int) + 1) _ _ _ (Dd j).inp (Dd j).sm (Dd j).ss (Dd j).ch (Dd j).ms (Dd j).sd W1 (LL.out.1.below bW) (LL.out.2.1.below bW) (LL.out.2.2.1.below bW) hE)
      have BW := hideG bW
      have RW := hideG rW
      clear hDr hW1 bW rW e1 e2 e3
      obtain ⟨E, hE0⟩ : ∃ E, E = drE N T M D Dd j := ⟨_, rfl⟩
      by_cases hE : drE N T M D Dd j = 0
      · have HC := hideG (NOK.out hE)
        obtain ⟨gg1, gg2, gg3⟩ := newE_ok hE
        have hg := Cli.good_of gg1 gg2 gg3
        have HOK := hideG (And.intro hE (show Cli.Good (clD N T M Dd j) from hg))
        have HBEL := hideG (hbel.trans (BW.out.mono sw))
        have SN := hideG (hrl.ses.below BW.out)
        clear hE hE0 hrl hbel gg1 gg2 gg3 hg
        go_upto_region 10 with fail
        rw [← HW1.out]
        go_wp2_with fail
        refine HC.out.mono ?_
        rintro e w4 ⟨v1, v2, v3, rfl, o1, o2, o3, hb4⟩
        have s4 := hb4.size
        obtain ⟨p1, r1, hv1⟩ := owns_form o1
        obtain ⟨p2, r2, hv2⟩ := owns_form o2
        obtain ⟨p3, r3, hv3⟩ := owns_form o3
        obtain ⟨Pn, hPn⟩ : ∃ Pn, Pn = freshS ((j : Int) + 1) N T (Dd j).ch (Dd j).ms (Dd j).sd v1 v2 v3 := ⟨_, rfl⟩
        rw [← hPn]
        have elI : ∀ {zs : List Int}, zs.all Num.elB = true → ∀ z ∈ zs, inI z := fun h z hz => by have := Num.elB_iff.1 (List.all_eq_true.1 h z hz); unfold inI; omega
        have FP := hideG (show FreshP w4 (clD N T M Dd j) Pn ∧ ∀ x, (Pn.inp.ownBlock = some x ∨ Pn.sm.ownBlock = some x ∨ Pn.ss.ownBlock = some x) → W1.heap.size ≤ x from by
          rw [hPn]
          refine ⟨⟨rfl, listAt_of_owns o1 (fun z hz => by have := HOK.out.2.inp z hz; unfold inI; omega), listAt_of_owns o2 (elI HOK.out.2.sm), listAt_of_owns o3 (elI HOK.out.2.ss), fun x hx => ?_⟩, fun x hx => ?_⟩
          · rcases hx with hx | hx | hx
            · exact (o1.lt x hx).2
            · exact (o2.lt x hx).2
            · exact (o3.lt x hx).2
          · rcases hx with hx | hx | hx
            · exact (o1.lt x hx).1
            · exact (o2.lt x hx).1
            · exact (o3.lt x hx).1)
        have HID := hideG (show Pn.id = (clD N T M Dd j).id ∧ Pn.cp = Cli.pubA (clD N T M Dd j) ∧ Pn.mp = Cli.pubB (clD N T M Dd j) by rw [hPn]; exact ⟨rfl, rfl, rfl⟩)
        obtain ⟨PC, hPC⟩ : ∃ PC, PC = psCells Pn := ⟨_, rfl⟩
        rw [← hPC]
        have LP := hideG (show PC.length = 78 by rw [hPC]; exact psCells_length _)
        have PO := hideG (show PC.toArray.all (·.oneCell') = true by rw [hPC, hPn, hv1, hv2, hv3]; exact psCells_one _ rfl rfl rfl rfl)
        have PZZ := hideG (show (Tryz.prog.info? 205).map (·.size) = some PC.toArray.size by rw [size98, List.size_toArray, LP.out])
        have PSL := hideG (show (Tryz.prog.info? 205).map (·.size) = some PC.length by rw [size98, LP.out])
        have hp4 : PSAt (w4.alloc (.cells Tryz.zeroCells205 205)) w4.heap.size 205 zeroPS := by unfold PSAt; rw [← zero_ps]; exact heap_alloc_new w4 _
        have PT := hideG (show (w4.alloc (.cells Tryz.zeroCells205 205)).there w4.heap.size 0 PC.toArray.size by rw [show PC.toArray.size = 78 by rw [List.size_toArray]; exact LP.out]; exact hp4.there 0 78 (by omega))
        obtain ⟨w5, hw5⟩ : ∃ w5, w5 = (w4.alloc (.cells Tryz.zeroCells205 205)).setCells w4.heap.size 0 PC := ⟨_, rfl⟩
        have hb5 : Below w4.heap.size w4 w5 := by rw [hw5]; exact below_setCells (Nat.le_refl _) _ _ _ ((Below.refl _ _).alloc (Nat.le_refl _) _)
        have hp5 : Co.PSAt w5 w4.heap.size 0 Pn := by rw [hw5, hPC]; exact co_of_ps (hp4.setAll Pn)
        have z5 : w4.heap.size < w5.heap.size := hp5.lt
        have HH := hideG (Co.hello_calls w4.heap.size 0 Pn w5 hp5 (by rw [HID.out.1, HID.out.2.1, HID.out.2.2]; exact helloL_ok HOK.out.2))
        have HP5 := hideG hp5
        have B5 := hideG (hb4.trans (hb5.mono s4))
        have B45 := hideG hb5
        have HPCn := hideG hPC
        have HW5 := hideG hw5
        clear o1 o2 o3 hb4 hp4 hb5 hw5 hPC hPn hv1 hv2 hv3 hp5 g0 g1 g2 g3 g4 g5 q0 q1 q2 q3
        go_upto_region 11 with (refine wpList_store_mid rfl 205 _ _ rfl w4.heap.size 0 PC.toArray rfl rfl PT.out PZZ.out PO.out ?_)
        rw [← HW5.out]
        go_wp2_with fail
        refine HH.out.mono ?_
        rintro e w6 ⟨va, rfl, oh, hb6⟩
        have s6 := hb6.size
        have B6 := hideG (B5.out.trans (hb6.mono (by have := B5.out.size; omega)))
        have hBs := B6.out.size
        have B46 := hideG (B45.out.trans (hb6.mono (by omega)))
        have S6 := hideG (SN.out.below B6.out)
        obtain ⟨a7, c7, hv7⟩ := owns_form oh
        have OH := hideG oh
        have RG6 := hideG (show w6.rangeAt w4.heap.size 0 PC by rw [HPCn.out]; exact RecAt.range (HP5.out.below hb6))
        have c76 := S6.out.c76
        have f76 := S6.out.f76
        have hbx6 := S6.out.blt
        obtain ⟨a8, c8, hv8⟩ := owns_form S6.out.row
        have ROW6 := hideG S6.out.row
        have OWN := hideG S6.out.own
        have hln := hv7
        obtain ⟨ln, hlnn⟩ : ∃ ln, ln = (Frm.encF 1 Pn.id [(Pn.id, Pn.cp, Pn.mp, 0)]).length := ⟨_, rfl⟩
        rw [← hlnn] at hv7
        subst hv7
        have HV8 := hideG hv8
        rw [hv8] at c76 ROW6
        obtain ⟨i1, hi1, hy0, hy1, hy2⟩ := info_parts infoCC
        have n12 : n ≤ 12 := by have h1 : 1 ≤ N ∧ N ≤ 12 := HOK.out.2.n; have h2 := HNN.out; omega
        have hzs : (Value.agg (psCells zeroPS).toArray).cells.size = 78 := by kernel_rfl
        have NB := hideG (show (Value.slice a8 j c8).ownBlock ≠ some bx by have := OWN.out.1; rw [hv8] at this; exact this)
        clear oh hb6 hv8 hln hlnn
        go_upto_region 14 with fail
        have hN1 : ∀ k u, PC[k]? = some u → (w6.alloc (.cells PC.toArray 205)).cell? ((⟨w6.heap.size, 0, none⟩ : Addr).add k) = some u := fun k u hk => World.news_of_block (cs := PC.toArray) (heap_alloc_new w6 (.cells PC.toArray 205)) k u (by simpa using hk)
        have D1 := hideG hN1
        have lp := LP.out
        clear hN1
        go_wp2_with (first | refine wpList_load_mid rfl 205 _ rfl w4.heap.size 0 rfl PC _ RG6.out Tryz.underlying205 rfl PSL.out ?_ | refine wpList_build_one rfl 107 205 _ rfl PC 78 i1 _ Tryz.underlying107 hi1 hy0 hy1 (by decide) (by decide) LP.out rfl ?_ | (at_builtin; refine wpList_append_lies _ rfl _ _ 107 rfl 0 205 i1 (.agg (psCells zeroPS).toArray) 78 688 Tryz.underlying107 hi1 hy0 hy1 hy2 hzs (by decide) (.slice a8 j c8) j (cliV P j) rfl (ROW6.out.alloc _) ⟨w6.heap.size, 0, none⟩ 1 1 PC rfl (by rw [LP.out]) D1.out (fun u hu => Array.all_eq_true_iff_forall_mem.1 PO.out u (by simpa using hu)) (by decide) (by unfold maxLen; omega) (by omega) (Nat.zero_le _) _ rfl ?_))
        intro g cap w7 hr hgr hat hgl
        have hal : Below w6.heap.size w6 (w6.alloc (.cells PC.toArray 205)) := (Below.refl _ _).alloc (Nat.le_refl _) _
        have d76 : w7.cell? ⟨bx, 76, none⟩ = some (.slice a8 j c8) := by
          rw [hgr.cell_far ⟨bx, 76, none⟩ (by show bx < _; simp; omega) (fun e => NB.out e.symm), hal.cell (p := ⟨bx, 76, none⟩) hbx6]; exact c76
        have e76 : w7.frozen? ⟨bx, 76, none⟩ = false := by
          rw [hgr.frozen_far ⟨bx, 76, none⟩ (by show bx < _; simp; omega) (fun e => NB.out e.symm), hal.frozen (p := ⟨bx, 76, none⟩) hbx6]; exact f76
        have hb7 : bx < w7.heap.size := by have := hgr.size; simp at this; omega
        obtain ⟨w8, hw8⟩ : ∃ w8, w8 = w7.setCell ⟨bx, 76, none⟩ (.slice (some ⟨g, 0, none⟩) (j + 1) cap) := ⟨_, rfl⟩
        have GR := hideG (And.intro hr (And.intro hgr hat))
        have HW8 := hideG hw8
        clear hr hgr hat hal hw8 c76 f76
        go_upto_region 15 with fail
        rw [← HW8.out]
        obtain ⟨hr, hgr, hat⟩ := GR.out
        have hal : Below w6.heap.size w6 (w6.alloc (.cells PC.toArray 205)) := (Below.refl _ _).alloc (Nat.le_refl _) _
        have hcw : Chg (fun x => cv.ownBlock = some x) w6 w7 := by rw [HV8.out]; exact (Chg.of_below hal).trans (Chg.grown hgr) (fun x e _ => e)
        have hvn : ∀ x, (Value.slice (some ⟨g, 0, none⟩) (j + 1) cap).ownBlock = some x → cv.ownBlock = some x ∨ w6.heap.size ≤ x := fun x hx => by
          have e : x = g := by simpa [Value.ownBlock] using hx.symm
          subst e
          rw [HV8.out]
          rcases hat with k | k
          · exact .inl k
          · exact .inr (by omega)
        have lbx := SN.out.blt
        have lcv : ∀ x, cv.ownBlock = some x → x < W1.heap.size := fun x hx => (SN.out.row.lt x hx).2
        have lfv : ∀ x, fv.ownBlock = some x → x < W1.heap.size := fun x hx => SN.out.fl.rowlt hx
        have hz46 := B46.out.size
        have F6 : FreshP w6 (clD N T M Dd j) Pn := FP.out.1.keep hz46 (fun x hx => B46.out.block x (FP.out.1.low x hx))
        obtain ⟨N8, C8⟩ := S6.out.addC (Pn := Pn) hcw (by rw [← HPCn.out]; exact hr) hvn HW8.out F6 (fun x hx => by
          have q := FP.out.2 x hx
          exact ⟨by omega, fun e => by have := lcv x e; omega, fun e => by have := lfv x e; omega⟩)
        have OHl := OH.out.lt
        have hz5 := B5.out.size
        have OH8 := ownsRow_chg OH.out C8 (fun x hx e => by
          have q := (OHl x hx).1
          rcases e with e | e
          · omega
          · have := lcv x e; omega)
        have hyb := bytesAt_of_owns OH8 (encF_isB (by rw [HID.out.1, HID.out.2.1, HID.out.2.2]; exact helloL_ok HOK.out.2))
        have z8 := C8.size
        have HSE := hideG (send_new bx (j + 1) _ _ _ _ _ fv us _ ((j : Int) + 1) _ _ w8 N8 hyb (fun x hx => by
          have q := OHl x hx
          refine ⟨by omega, by omega, fun e => ?_, fun e => by have := lfv x e; omega⟩
          rcases hvn x e with k | k
          · have := lcv x k; omega
          · omega) (by rw [hellosP_length]; omega))
        have KEEP := hideG (And.intro C8 (And.intro hvn OHl))
        have NEWR := hideG (show ∀ x, (x = bx ∨ cv.ownBlock = some x ∨ fv.ownBlock = some x ∨ NStat bx j (freshSS N T M D fun u : Nat => decide (1 ≤ u ∧ (u : Int) ≤ N)) P us x) → w.heap.size + 2 ≤ x from HR.out.new)
        clear hr hgr hat hal hcw hvn lbx lcv lfv F6 N8 C8 OHl OH8 hyb d76 e76
        go_wp2_with fail
        refine HSE.out.mono ?_
        rintro e w9 ⟨rfl, fv', ns⟩
        have REL := hideG (show NewRel w w9 bx (j + 1) N T M D Dd (freshSS N T M D fun u : Nat => decide (1 ≤ u ∧ (u : Int) ≤ N)) (updA P j Pn) (.slice (some ⟨g, 0, none⟩) (j + 1) cap) fv' (us ++ [.slice a7 ln c7]) from by
          obtain ⟨C8, hvn, OHl⟩ := KEEP.out
          have z8 := C8.size
          have z9 := ns.chg.size
          have b0 := NEWR.out
          have hq := b0 bx (.inl rfl)
          have k1 : ∀ x, x < w.heap.size + 2 → x < wr.heap.size → w9.heap[x]? = wr.heap[x]? := fun x hx hl => by
            rw [ns.chg.block x (by omega) (fun e => by
              rcases e with e | e
              · omega
              · have := b0 x (.inr (.inr (.inl e))); omega), C8.block x (by omega) (fun e => by
              rcases e with e | e
              · omega
              · have := b0 x (.inr (.inl e)); omega), B6.out.block x (by omega), BW.out.block x hl]
          refine ⟨?_, fun x hx => ?_, ?_, ?_, ?_, fun k hk => ?_⟩
          · have e : hellosP (clD N T M Dd) (j + 1) = hellosP (clD N T M Dd) j ++ [((j : Int) + 1, 0, Frm.encF 1 Pn.id [(Pn.id, Pn.cp, Pn.mp, 0)])] := by rw [HID.out.1, HID.out.2.1, HID.out.2.2]; rfl
            rw [e]; exact ns.ses
          · rcases hx with hx | hx | hx | hx
            · exact b0 x (.inl hx)
            · rcases hvn x hx with k | k
              · exact b0 x (.inr (.inl k))
              · omega
            · rcases ns.new x hx with k | k
              · exact b0 x (.inr (.inr (.inl k)))
              · omega
            · rcases hx with hx | ⟨i, hi, hx⟩ | ⟨y, hy, hx⟩
              · exact b0 x (.inr (.inr (.inr (.inl hx))))
              · by_cases e : i = j
                · subst e
                  rw [updA_same] at hx
                  have := FP.out.2 x hx; omega
                · rw [updA_other _ _ _ e] at hx
                  exact b0 x (.inr (.inr (.inr (.inr (.inl ⟨i, by omega, hx⟩)))))
              · rcases List.mem_append.1 hy with hy | hy
                · exact b0 x (.inr (.inr (.inr (.inr (.inr ⟨y, hy, hx⟩)))))
                · rw [List.mem_singleton.1 hy] at hx
                  have := (OHl x hx).1; omega
          · exact ((HBEL.out.trans (B6.out.mono (by omega))).trans (C8.below (by omega) (fun q e => by
              rcases e with e | e
              · omega
              · have := b0 q (.inr (.inl e)); omega))).trans (ns.chg.below (by omega) (fun q e => by
              rcases e with e | e
              · omega
              · have := b0 q (.inr (.inr (.inl e))); omega))
          · rw [k1 w.heap.size (by omega) hcz]; exact HR.out.cfg
          · have hres := HR.out.res
            rw [k1 (w.heap.size + 1) (by omega) (by
              by_cases q : w.heap.size + 1 < wr.heap.size
              · exact q
              · rw [Array.getElem?_eq_none (by omega)] at hres; cases hres)]
            exact hres
          · by_cases e : k = j
            · rw [e]; exact HOK.out.1
            · exact HR.out.ok k (by omega))
        clear ns
        go_wp2_with fail
        go_roundw
        case rel => exact ⟨j + 1, _, _, _, _, by omega, by go_num, REL.out⟩
        case measure => simp [intOf]; omega
      · have HC := hideG (NNO.out hE)
        change Hid (Calls Tryz.prog _ _ _ fun e w' => e = .returned (.tuple #[.agg (psCells zeroPS).toArray, .int .i64 (drE N T M D Dd j)]) ∧ _) at HC
        have hEn : (E != 0) = true := by rw [hE0]; simpa using hE
        have HEE := hideG (And.intro hE hE0)
        rw [← hE0] at HC
        obtain ⟨PZ, hPZ⟩ : ∃ PZ, PZ = psCells zeroPS := ⟨_, rfl⟩
        rw [← hPZ] at HC
        have LP := hideG (show PZ.length = 78 by rw [hPZ]; exact psCells_length _)
        have PO := hideG (show PZ.toArray.all (·.oneCell') = true by rw [hPZ]; exact psCells_one _ rfl rfl rfl rfl)
        have PZZ := hideG (show (Tryz.prog.info? 205).map (·.size) = some PZ.toArray.size by rw [size98, List.size_toArray, LP.out])
        have hres := hrl.res
        have RES := hideG ((BW.out.block (w.heap.size + 1) (by
          by_cases q : w.heap.size + 1 < wr.heap.size
          · exact q
          · rw [Array.getElem?_eq_none (by omega)] at hres; cases hres)).trans hres)
        have HBEL := hideG (hbel.trans (BW.out.mono sw))
        clear hPZ hres hE hE0 hrl hbel
        generalize (Dd j).inp.length = n1 at *
        generalize (Dd j).sm.length = n2 at *
        generalize (Dd j).ss.length = n3 at *
        generalize (Dd j).ch = zch at *
        generalize (Dd j).ms = zms at *
        generalize (Dd j).sd = zsd at *
        go_upto_region 10 with fail
        rw [← HW1.out]
        go_wp2_with fail
        refine HC.out.mono ?_
        rintro e w4 ⟨rfl, hb4⟩
        have s4 := hb4.size
        have hp4 : PSAt (w4.alloc (.cells Tryz.zeroCells205 205)) w4.heap.size 205 zeroPS := by unfold PSAt; rw [← zero_ps]; exact heap_alloc_new w4 _
        have PT := hideG (show (w4.alloc (.cells Tryz.zeroCells205 205)).there w4.heap.size 0 PZ.toArray.size by rw [show PZ.toArray.size = 78 by rw [List.size_toArray]; exact LP.out]; exact hp4.there 0 78 (by omega))
        obtain ⟨w5, hw5⟩ : ∃ w5, w5 = (w4.alloc (.cells Tryz.zeroCells205 205)).setCells w4.heap.size 0 PZ := ⟨_, rfl⟩
        have hb5 : Below w4.heap.size w4 w5 := by rw [hw5]; exact below_setCells (Nat.le_refl _) _ _ _ ((Below.refl _ _).alloc (Nat.le_refl _) _)
        have hl1 : w.heap.size + 1 < W1.heap.size := by
          by_cases q : w.heap.size + 1 < W1.heap.size
          · exact q
          · have := RES.out; rw [Array.getElem?_eq_none (by omega)] at this; cases this
        have R5 := hideG ((hb5.block (w.heap.size + 1) (by omega)).trans ((hb4.block (w.heap.size + 1) hl1).trans RES.out))
        have B5 := hideG ((HBEL.out.trans (hb4.mono (by omega))).trans (hb5.mono (by omega)))
        have hZL := HZS.out
        have Z5 := hideG (show w5.there (w.heap.size + 1) 0 Tryz.zeroCells109.size from fun k hk => by
          have hk' : k < 78 := by rw [HZC.out] at hk; have := L78.out; simp at hk; omega
          refine ⟨?_, frozen_of_row _ _ _ _ _ R5.out⟩
          rw [cell_of_row _ (w.heap.size + 1) (0 + k) _ _ (0, 0) R5.out]
          simp only [List.getElem?_toArray]
          rw [List.getElem?_eq_getElem (by rw [sesCells_length]; omega)]; rfl)
        have ZZ := hideG (show (Tryz.prog.info? 109).map (·.size) = some Tryz.zeroCells109.size by rw [HZC.out]; exact HZZ.out)
        have ZO := hideG (show Tryz.zeroCells109.all (·.oneCell') = true by rw [HZC.out]; exact HZO.out)
        have RF5 := hideG (show (w5.setCells (w.heap.size + 1) 0 ZS).heap[w.heap.size + 1]? = some (.cells ZS.toArray 109 (0, 0)) from ses_row_set R5.out (by rw [sesCells_length, L78.out]))
        have BF5 := hideG (show Below w.heap.size w (w5.setCells (w.heap.size + 1) 0 ZS) from below_setCells (by omega) _ _ _ B5.out)
        have HW5 := hideG hw5
        clear hb4 hp4 hb5 hw5 hZL g0 g1 g2 g3 g4 g5 q0 q1 q2 q3
        go_upto_region 11 with (refine wpList_store_mid rfl 205 _ _ rfl w4.heap.size 0 PZ.toArray rfl rfl PT.out PZZ.out PO.out ?_)
        rw [← HW5.out]
        go_wp2_with (refine wpList_store_mid rfl 109 _ _ rfl (w.heap.size + 1) 0 Tryz.zeroCells109 rfl rfl Z5.out ZZ.out ZO.out ?_)
        rw [show Tryz.zeroCells109.toList = ZS by rw [HZC.out]]
        refine bodyPost_ret (results_row_tmp rfl _ _ (w.heap.size + 1) 109 ZS.toArray (0, 0) _ rfl RF5.out Tryz.underlying109 rfl HZZ.out) rfl ?_
        exact ⟨BF5.out, .inl ⟨j, HLT.out, HEE.out.1, by rw [← HEE.out.2]; rfl⟩⟩
    · have ej : j = n := by omega
      subst ej
      obtain ⟨S, hS⟩ : ∃ S, S = freshSS N T M D fun u : Nat => decide (1 ≤ u ∧ (u : Int) ≤ N) := ⟨_, rfl⟩
      rw [← hS] at hrl HR
      have hones := hrl.ses.one (by rw [hS]; exact fresh_one N T M D _)
      obtain ⟨XF, hXF⟩ : ∃ XF, XF = sesCells S cv fv := ⟨_, rfl⟩
      have L8 := hideG (show XF.length = 78 by rw [hXF]; rfl)
      have RGX := hideG (show wr.rangeAt bx 0 XF by rw [hXF]; exact hrl.ses.range)
      have FO := hideG (show XF.toArray.all (·.oneCell') = true by rw [hXF]; exact all_oneCell_toArray hones)
      have FZ := hideG (show (Tryz.prog.info? 109).map (·.size) = some XF.toArray.size by rw [size_ses, List.size_toArray, L8.out])
      have FL := hideG (show (Tryz.prog.info? 109).map (·.size) = some XF.length by rw [size_ses, L8.out])
      have hres := hrl.res
      have FT := hideG (show wr.there (w.heap.size + 1) 0 XF.toArray.size from fun k hk => by
        have hk' : k < 78 := by have := L8.out; simp at hk; omega
        refine ⟨?_, frozen_of_row _ _ _ _ _ hres⟩
        rw [cell_of_row _ (w.heap.size + 1) (0 + k) _ _ (0, 0) hres]
        simp only [List.getElem?_toArray]
        rw [List.getElem?_eq_getElem (by rw [sesCells_length]; omega)]; rfl)
      have RFF := hideG (show (wr.setCells (w.heap.size + 1) 0 XF).heap[w.heap.size + 1]? = some (.cells XF.toArray 109 (0, 0)) from ses_row_set hres (by rw [sesCells_length, L8.out]))
      have hbel : Below w.heap.size w (wr.setCells (w.heap.size + 1) 0 XF) := below_setCells (by omega) _ _ _ hrl.bel
      have FIN := hideG (show Below w.heap.size w (wr.setCells (w.heap.size + 1) 0 XF) ∧ (∀ k, k < j → drE N T M D Dd k = 0) ∧ SesMade w (wr.setCells (w.heap.size + 1) 0 XF) j N T M D Dd bx S P cv fv us from ⟨hbel, hrl.ok, hS, hrl.ses.keep (by rw [size_setCells]; exact Nat.le_refl _) (fun x hx => heap_setCells_other (w.heap.size + 1) x (by have := hrl.new x hx; omega) XF 0 wr), fun x hx => by have := hrl.new x hx; omega⟩)
      have HXF := hideG hXF
      have l8 := L8.out
      clear hS hones hXF hres hbel hrl
      go_wp2_with (first | refine wpList_load_mid rfl 109 _ rfl bx 0 rfl XF _ RGX.out Tryz.underlying109 rfl FL.out ?_ | refine wpList_store_mid rfl 109 _ _ rfl (w.heap.size + 1) 0 XF.toArray rfl rfl FT.out FZ.out FO.out ?_)
      refine bodyPost_ret (results_row_tmp rfl _ _ (w.heap.size + 1) 109 XF.toArray (0, 0) _ rfl RFF.out Tryz.underlying109 rfl FZ.out) rfl ?_
      exact ⟨FIN.out.1, .inr ⟨FIN.out.2.1, bx, S, P, cv, fv, us, by rw [← HXF.out]; rfl, FIN.out.2.2⟩⟩
end Go.Proofs.YtchideljndagjabGreat
