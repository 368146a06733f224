/- Contracts of the steps of a script on clients: a client takes bytes, walked. -/
import Derived.Test.YtchideljndagjaaGreatPkClBC
import Derived.Deep.CutRange
import Derived.Test.YtchideljndagjaaGreatPkClAB
import Derived.Test.YtchideljndagjaaGreatPkClAL
import Derived.Test.YtchideljndagjaaGreatPkClAG
import Derived.Test.YtchideljndagjaaGreatPkClAW
namespace Go.Proofs.YtchideljndagjaaGreat
open Go.ChangeShapes Go.WideShapes Go.ChangeAt Go.RowKit
set_option linter.unusedVariables false

theorem len24a {a m : Nat} (h : a ≤ m) (hm : (m + 2) * 24 ≤ 140737488355328) : (a + 1) * 24 ≤ 140737488355328 := by omega
theorem len24b {a m : Nat} (h : a ≤ m) (hm : (m + 2) * 24 ≤ 140737488355328) : (a + 1 + 1) * 24 ≤ 140737488355328 := Nat.le_trans (Nat.mul_le_mul_right 24 (show a + 1 + 1 ≤ m + 2 from Nat.add_le_add_right h 2)) hm
theorem upd1_len (ls : Nat → List Ow) (o : Ow) : ((updL ls 1 (ls 1 ++ [o])) 1).length = (ls 1).length + 1 := by simp [updL]

/-- The World owns what was handed in and what came out; the pair has turned. -/
theorem take_fin {W1 w2 w3 w4 w5 w7 w8 w9 : World} {pw m k i : Nat} {K : List Pair} {F F1 F2 : Nat → Value} {nx : Int} {ls : Nat → List Ow} {p p' : Pair} {S' : PS} {g : Nat} {va : Value} {o1 o2 : Ow}
    (i1 : InvW W1 pw F nx ls) (i2 : InvK W1 pw F ls K) (i3 : ∀ o ∈ ls 1, 0 ≤ o.2.2 ∧ o.2.2 ≤ 255) (i4 : 0 ≤ nx) (i5 : nx ≤ (m : Int)) (i6 : ∀ c, (ls c).length ≤ m) (hp : K[i]? = some p) (hpc : p'.pc = p.pc) (hhk : ∀ q ∈ K, q.hh.length ≤ k) (hh' : p'.hh.length ≤ p.hh.length + 1)
    (hpa : PairAt w5 pw p') (hchg : Chg (fun x => PFoot p x) W1 w5) (hft : ∀ x, PFoot p' x → PFoot p x ∨ (CFoot p.bx S' x ∧ w2.heap.size ≤ x ∧ x < w3.heap.size) ∨ w4.heap.size ≤ x)
    (zz : W1.heap.size ≤ w2.heap.size ∧ w2.heap.size ≤ w3.heap.size ∧ w3.heap.size ≤ w4.heap.size) (hg : W1.heap.size ≤ g ∧ g < w2.heap.size) (hva : ∀ x, va.ownBlock = some x → ¬ CFoot p.bx S' x ∧ w2.heap.size ≤ x ∧ x < w3.heap.size)
    (hb7 : Below w5.heap.size w5 w7) (j1 : InvW w8 pw F1 (nx + 1) (updL ls 1 (ls 1 ++ [o1]))) (j2 : ∀ b, b < w7.heap.size → g ≠ b → ¬ Foot F ls b → ¬ Foot F1 (updL ls 1 (ls 1 ++ [o1])) b) (j3 : ∀ j, j < 3 → F1 j = F j) (j4 : Chg (fun b => b = pw ∨ g = b ∨ Foot F ls b) w7 w8) (jm : 0 ≤ o1.2.2 ∧ o1.2.2 ≤ 255)
    (q1 : InvW w9 pw F2 (nx + 1 + 1) (updL (updL ls 1 (ls 1 ++ [o1])) 1 ((updL ls 1 (ls 1 ++ [o1])) 1 ++ [o2]))) (q2 : ∀ b, b < w8.heap.size → va.ownBlock ≠ some b → ¬ Foot F1 (updL ls 1 (ls 1 ++ [o1])) b → ¬ Foot F2 (updL (updL ls 1 (ls 1 ++ [o1])) 1 ((updL ls 1 (ls 1 ++ [o1])) 1 ++ [o2])) b) (q3 : ∀ j, j < 3 → F2 j = F1 j) (q4 : Chg (fun b => b = pw ∨ va.ownBlock = some b ∨ Foot F1 (updL ls 1 (ls 1 ++ [o1])) b) w8 w9) (qm : 0 ≤ o2.2.2 ∧ o2.2.2 ≤ 255) :
    KI w9 pw (m + 2) (K.set i p') ∧ (∀ q ∈ K.set i p', q.hh.length ≤ k + 1) ∧ Below pw W1 w9 := by
  obtain ⟨z12, z23, z34⟩ := zz
  have z5 := hchg.size
  have z57 := hb7.size
  have z78 := j4.size
  have z89 := q4.size
  have hpm := List.mem_of_getElem? hp
  have hpw := i1.pw_lt
  obtain ⟨tg, t1, t2, t3⟩ := i2.tag
  -- the pair's blocks are none of those that were written
  have nf : ∀ x, PFoot p' x → x < w5.heap.size ∧ pw < x ∧ g ≠ x ∧ va.ownBlock ≠ some x ∧ ¬ Foot F ls x := fun x hx => by
    have l5 := hpa.lt hx
    have lo := hpa.lo x hx
    refine ⟨l5, lo, fun e => ?_, fun e => ?_, fun e => ?_⟩
    · rcases hft x hx with h1 | h1 | h1
      · have := (i2.pairs p hpm).lt h1; omega
      · omega
      · omega
    · have hv := hva x e
      rcases hft x hx with h1 | h1 | h1
      · have := (i2.pairs p hpm).lt h1; omega
      · exact hv.1 h1.1
      · omega
    · have hl := i1.foot_lt e
      rcases hft x hx with h1 | h1 | h1
      · have a := t1 i p x hp h1; have b := t3 x e; omega
      · omega
      · omega
  have nf1 : ∀ x, PFoot p' x → ¬ Foot F1 (updL ls 1 (ls 1 ++ [o1])) x := fun x hx => by
    obtain ⟨a1, a2, a3, a4, a5⟩ := nf x hx
    exact j2 x (by omega) a3 a5
  have nf2 : ∀ x, PFoot p' x → ¬ Foot F2 (updL (updL ls 1 (ls 1 ++ [o1])) 1 ((updL ls 1 (ls 1 ++ [o1])) 1 ++ [o2])) x := fun x hx => by
    obtain ⟨a1, a2, a3, a4, a5⟩ := nf x hx
    exact q2 x (by omega) a4 (nf1 x hx)
  have foot1 : ∀ b, b < W1.heap.size → ¬ Foot F ls b → ¬ Foot F1 (updL ls 1 (ls 1 ++ [o1])) b := fun b hb hf => j2 b (by omega) (by omega) hf
  have foot2 : ∀ b, b < W1.heap.size → ¬ Foot F ls b → ¬ Foot F2 (updL (updL ls 1 (ls 1 ++ [o1])) 1 ((updL ls 1 (ls 1 ++ [o1])) 1 ++ [o2])) b := fun b hb hf =>
    q2 b (by omega) (fun e => by have := hva b e; omega) (foot1 b hb hf)
  have hall : Chg (fun x => PFoot p x ∨ x = pw ∨ Foot F ls x) W1 w9 := by
    refine (((hchg.mono (S' := fun x => PFoot p x ∨ x = pw ∨ Foot F ls x) (fun x e _ => .inl e)).grow hb7).trans j4 (fun b e hb => ?_)).trans q4 (fun b e hb => ?_)
    · rcases e with e | e | e
      · exact .inr (.inl e)
      · omega
      · exact .inr (.inr e)
    · rcases e with e | e | e
      · exact .inr (.inl e)
      · have := hva b e; omega
      · by_cases hf : Foot F ls b
        · exact .inr (.inr hf)
        · exact absurd e (foot1 b hb hf)
  have hpa9 : PairAt w9 pw p' := by
    refine (hpa.below hb7).keep (by omega) (fun x hx => ?_) (fun x hx => ?_)
    · obtain ⟨a1, a2, a3, a4, a5⟩ := nf x hx
      rw [q4.block x (by omega) (fun e => ?_), j4.block x (by omega) (fun e => ?_)]
      · rcases e with e | e | e
        · omega
        · exact a3 e
        · exact a5 e
      · rcases e with e | e | e
        · omega
        · exact a4 e
        · exact nf1 x hx e
    · rw [q4.block x (by omega) (fun e => ?_), j4.block x (by omega) (fun e => ?_)]
      · rcases e with e | e | e
        · omega
        · omega
        · have := i1.foot_lt e; omega
      · rcases e with e | e | e
        · omega
        · have := hva x e; omega
        · have := j1.foot_lt e; omega
  have hl1 : (updL ls 1 (ls 1 ++ [o1])) 1 = ls 1 ++ [o1] := by simp [updL]
  refine ⟨⟨F2, nx + 1 + 1, _, q1, i2.turnq i1 hp hpc hall (fun j hj => (q3 j hj).trans (j3 j hj)) foot2 hpa9 (fun x hx => ?_) nf2, marks_more (marks_more i3 (fun _ => jm)) (fun _ => qm), by omega, by omega, fun c => len_more (len_more i6) c⟩, fun q hq => ?_, hall.below (by omega) (fun b e => ?_)⟩
  · rcases hft x hx with h1 | h1 | h1
    · exact .inl h1
    · exact .inr (by omega)
    · exact .inr (by omega)
  · obtain ⟨j, hj⟩ := List.mem_iff_getElem?.1 hq
    rw [List.getElem?_set] at hj
    have hil : i < K.length := (List.getElem?_eq_some_iff.1 hp).1
    by_cases e : i = j
    · subst e
      rw [if_pos rfl, if_pos hil] at hj
      cases hj
      have := hhk p hpm; omega
    · rw [if_neg e] at hj
      have := hhk q (List.mem_of_getElem? hj); omega
  · rcases e with e | e | e
    · have := (i2.pairs p hpm).lo b e; omega
    · omega
    · have := i1.foot_lt e; omega

set_option maxHeartbeats 1500000 in
set_option maxRecDepth 100000 in
theorem clients_take (pw m : Nat) (K : List Pair) (x y z : Int) (r : Nat → Value) (k : Nat) (st : ByteArray) (w : World) (h : KI w pw m K) (hr1 : r 1 = .string st) (hsz : st.size ≤ 140737488351232) (hhk : ∀ q ∈ K, q.hh.length ≤ k) (hk : (k + 1) * 40 ≤ 140737488355328) (hm : (m + 2) * 24 ≤ 140737488355328) :
    Calls Tryz.prog 15 #[.pointer (some ⟨pw, 0, none⟩), .agg #[.int .i64 11, .int .i64 x, .int .i64 y, .int .i64 z, r 0, r 1, r 2, r 3, r 4, r 5, r 6, r 7, r 8, r 9]] w fun e w' => e = .returned (.bool true) ∧ ∃ K', KI w' pw (m + 2) K' ∧ K'.length = K.length ∧ (∀ q ∈ K', q.hh.length ≤ k + 1) ∧ Below pw w w' := by
  have HR1 := hideG hr1
  have HHK := hideG hhk
  have HLK0 := hideG (show ∀ q ∈ K, q.hh.length ≤ k + 1 from fun q hq => by have := hhk q hq; omega)
  clear hhk hr1
  obtain ⟨W0, hW0⟩ : ∃ W0, W0 = w.alloc (opObj 11 x y z r) := ⟨_, rfl⟩
  have hb0 : Below w.heap.size w W0 := by rw [hW0]; exact (Below.refl _ _).alloc (Nat.le_refl _) _
  have z0 : w.heap.size < W0.heap.size := by rw [hW0]; simp
  have HOP := hideG (fun (W : World) (hb : Below W0.heap.size W0 W) => op_cells (W := W) (by rw [← hW0]; exact hb) z0)
  have K0 := hideG (h.below hb0)
  have hpw : pw < w.heap.size := by obtain ⟨_, _, _, h1, _⟩ := h; exact h1.pw_lt
  have HB0 := hideG (hb0.mono (Nat.le_of_lt hpw))
  unfold opObj at hW0
  have HW0 := hideG hW0
  obtain ⟨q0, q1, q5, -⟩ := HOP.out W0 (Below.refl _ _)
  obtain ⟨a, cap, c0, c0f, c1, c2, hnc, hcm, hpl, hel⟩ := K0.out.list
  have HE := hideG hel
  have HG := hideG (fun j (hj : j < K.length) => (show ∃ p, K[j]? = some p from ⟨_, List.getElem?_eq_getElem hj⟩))
  obtain ⟨n, hn⟩ : ∃ n, n = K.length := ⟨_, rfl⟩
  rw [← hn] at c0 hnc HG
  have HNOP := hideG (show ∀ p : Pair, K[pickN x K.length]? = some p → ¬ PFoot p w.heap.size from fun p hp hx => by have := (h.pair hp).lt hx; omega)
  rw [← hn] at HNOP
  clear h hb0 hW0 hel hn
  by_cases hn0 : n = 0
  · subst hn0
    have FIN := hideG (K0.out.mono (m' := m + 2) (by omega))
    go_enter Tryz.func15, Tryz.ntmps15
    go_upto_region 1 with fail
    rw [← HW0.out]
    go_wp2_with fail
    go_ret
    exact ⟨rfl, K, FIN.out, rfl, HLK0.out, HB0.out⟩
  have n1 : 1 ≤ n := by omega
  have hn0' : ((n : Int) == 0) = false := by simpa using hn0
  obtain ⟨i, hi⟩ : ∃ i, i = pickN x n := ⟨_, rfl⟩
  have hil : i < n := by rw [hi]; exact pickN_lt x n1
  have HPK := hideG (fun (W : World) => pick_calls x n W)
  rw [← hi] at HPK HNOP
  obtain ⟨p, hp⟩ := HG.out i hil
  obtain ⟨g, rfl, hgl, e0⟩ := HE.out i p hp
  have HPP := hideG hp
  obtain ⟨pc, hpc⟩ : ∃ pc, pc = p.pc := ⟨_, rfl⟩
  rw [← hpc] at e0
  have HPC := hideG hpc
  have hil' : (i : Int) < (n : Int) := by omega
  have hi0 : (0 : Int) ≤ (i : Int) := by omega
  clear hp hi hpc hn0
  go_enter Tryz.func15, Tryz.ntmps15
  go_upto_region 1 with fail
  rw [← HW0.out]
  go_upto_region 19 with fail
  go_quiet ((go_at_call 51; refine Calls.quiet_of_same (HPK.out _)))
  have HBN := hideG (below_drewN W0 nq)
  obtain ⟨W1, hW1⟩ : ∃ W1, W1 = W0.drewN nq := ⟨_, rfl⟩
  rw [← hW1] at HBN ⊢
  have s1 := HBN.out.size
  have K1 := hideG (K0.out.below HBN.out)
  have B1 := hideG (HB0.out.trans (HBN.out.mono (by omega)))
  clear hW1 q0 q1 q5 c0 c0f c1 c2 e0
  obtain ⟨q0, q1, q5, -⟩ := HOP.out W1 HBN.out
  rw [HR1.out] at q5
  obtain ⟨F, nx, ls, i1, i2, i3, i4, i5, i6⟩ := K1.out
  have hpa1 := K1.out.pair HPP.out
  have I1 := hideG i1
  have II := hideG (And.intro i2 (And.intro i3 (And.intro i4 (And.intro i5 i6))))
  have i4' := i4
  have hi5 : nx ≤ (m : Int) := i5
  have hl6 := i6 1
  have PX := hideG (show 0 ≤ nx + 1 ∧ nx + 1 ≤ 1000000000000000000 ∧ ((ls 1).length + 1 + 1) * 24 ≤ 140737488355328 from ⟨by omega, by omega, len24b hl6 hm⟩)
  have PA1 := hideG hpa1
  have hgood := hpa1.good
  have HGD := hideG hgood
  have hzB := bl_isB st
  clear i1 i2 i3 i4 i5 i6 hpa1
  go_wp2_with fail
  refine (giveBytes_calls st W1 hsz).mono ?_
  rintro e w2 ⟨g, hg0, rfl, hg1, hb2⟩
  have z2 := hb2.size
  have gl2 : g < w2.heap.size := by
    by_cases h : g < w2.heap.size
    · exact h
    · rw [Array.getElem?_eq_none (by omega)] at hg1; cases hg1
  have hpw2 : pw < w2.heap.size := by omega
  have G2 := hideG hg1
  have B2 := hideG hb2
  have PA2 := hideG (PA1.out.below hb2)
  have BN2 := hideG (HBN.out.trans (hb2.mono (by omega)))
  obtain ⟨x0, x1⟩ := PA2.out.cells
  have lpc := PA2.out.lt (x := p.pc) (.inl rfl)
  rw [← HPC.out] at x0 x1 lpc
  have HTK := hideG (veilTake_calls p.bx p.c p.s p.S _ (bl st) w2 HGD.out PA2.out.cli (bgiven_bytes hg1 hsz))
  clear hg1 hb2 q0 q1 q5
  go_wp2_with fail
  refine HTK.out.mono ?_
  rintro e w3 ⟨va, rfl, S', htk, hans⟩
  obtain ⟨av, nv, cv, hva⟩ := hans.form
  have z3 := htk.chg.size
  obtain ⟨hoa, hna⟩ := hans.owns
  have TK := hideG htk
  have OA3 := hideG hoa
  have NA := hideG hna
  have lbx := PA2.out.lt (x := p.bx) (.inr (.inl (.inl rfl)))
  have nbx : p.bx ≠ p.pc := fun e => PA2.out.ap2.1 (by rw [← e]; exact .inl rfl)
  have hlb : pw < p.bx := PA2.out.lo _ (.inr (.inl (.inl rfl)))
  -- the document's client, as it was
  have RW3 := hideG (PA2.out.ref.keep htk.chg.size (fun x hx => htk.chg.block x (PA2.out.lt (.inr (.inr hx))) (fun e => PA2.out.ap1 x (by rw [e]; exact .inl rfl) hx)) (fun x hx => htk.chg.block x (by omega) (by omega)))
  have row3 : w3.heap[p.pc]? = some (.cells #[.pointer (some ⟨p.bx, 0, none⟩), .pointer (some ⟨p.yb, 0, none⟩)] 103 (0, 0)) := by rw [htk.chg.block p.pc (by rw [← HPC.out]; omega) (fun e => nbx e.symm)]; exact PA2.out.row
  have G3 := hideG (show w3.heap[g]? = some (.cells (bgiven (bl st) 3).toArray 5 (0, 0)) by rw [htk.chg.block g gl2 (fun e => by have := PA1.out.lt (x := p.bx) (.inr (.inl (.inl rfl))); omega)]; exact G2.out)
  have op3 : ∀ o, w3.cell? ⟨w.heap.size, o, none⟩ = w2.cell? ⟨w.heap.size, o, none⟩ := fun o => World.cell?_of_block (w := w2) (a := ⟨w.heap.size, o, none⟩) (htk.chg.block w.heap.size (by omega) (fun e => by
    have := PA1.out.lo p.bx (.inr (.inl (.inl rfl)))
    exact HNOP.out p HPP.out (by rw [e]; exact .inr (.inl (.inl rfl)))))
  have q53 : w3.cell? ⟨w.heap.size, 5, none⟩ = some (.string st) := by rw [op3 5, ← HR1.out]; exact (HOP.out w2 BN2.out).2.2.1
  obtain ⟨v4, w4, hcv, hba4, hb4⟩ := conv_ex w3.drew st (by unfold maxLen; omega)
  have z4 : w3.heap.size ≤ w4.heap.size := hb4.size
  have hb34 : Below w3.heap.size w3 w4 := (Below.refl w3.heap.size w3).drew.trans hb4
  have xx1 : w3.cell? ⟨p.pc, 1, none⟩ = some (.pointer (some ⟨p.yb, 0, none⟩)) := (cell_of_row w3 p.pc 1 _ _ (0, 0) row3).trans rfl
  have xx4 : w4.cell? ⟨p.pc, 1, none⟩ = some (.pointer (some ⟨p.yb, 0, none⟩)) := (hb34.cell (p := ⟨p.pc, 1, none⟩) (by show p.pc < _; rw [← HPC.out]; omega)).trans xx1
  have HRT := hideG (rTake_calls pw p.yb p.R p.hh p.vs v4 (bl st) w4 (RW3.out.below hb34) hba4 (by have := HHK.out p (List.mem_of_getElem? HPP.out); omega))
  rw [← HPC.out] at xx1 xx4
  have B34 := hideG hb34
  subst hva
  clear x0 x1 hoa hna htk hans hb4 hba4 hb34 row3 op3
  have hwl : w.heap.size < w3.heap.size := by omega
  have hpl3 : pc < w3.heap.size := by omega
  go_upto_region 30 with fail
  go_cut [16] from 149 to 156 (fun q wc => ∃ vb, q = vb ∧ ∃ R' hh' vs', RTook w4 wc pw p.yb p.R R' p.hh hh' p.vs vs' ∧ Cli.lk p.R.c hh' = stepD p.R.c (Cli.lk p.R.c p.hh) (bl st) ∧ RAns w4 wc vb (ansD p.R.c (Cli.lk p.R.c p.hh) (bl st)))
  case first =>
    go_region_with (go_at_call 56; refine HRT.out.mono ?_; rintro e w5 ⟨vb, rfl, R', hh', vs', t1, t2, t3⟩; have HFIN := hideG (show ∃ vb', vb = vb' ∧ ∃ R' hh' vs', RTook w4 w5 pw p.yb p.R R' p.hh hh' p.vs vs' ∧ Cli.lk p.R.c hh' = stepD p.R.c (Cli.lk p.R.c p.hh) (bl st) ∧ RAns w4 w5 vb' (ansD p.R.c (Cli.lk p.R.c p.hh) (bl st)) from ⟨vb, rfl, R', hh', vs', t1, t2, t3⟩); clear t1 t2 t3)
    all_goals (go_wp2_with fail; go_meet; exact HFIN.out)
  case rest =>
    obtain ⟨vb, hvb, R', hh', vs', rt, hlk, hrans⟩ := hcut
    obtain ⟨ab, nb, cb, hf⟩ := hrans.form
    obtain ⟨hpt, hchg, hft⟩ := pair_took PA1.out B2.out TK.out B34.out rt hlk
    have zc := rt.chg.size
    have hE := ansE_isB HGD.out (s := p.s) hzB
    have lyb := PA1.out.lt (x := p.yb) (.inr (.inr (.inl (.inl rfl))))
    have oa5 := ownsRow_chg (ownsRow_chg (S := fun _ => False) OA3.out (Chg.of_below B34.out) (fun _ _ h => h)) rt.chg (fun x hx e => by
      have hv := OA3.out.lt x hx
      rcases e with e | e
      · omega
      · have := PA1.out.lt (x := x) (.inr (.inr (.inl (.inr e)))); omega)
    have hrow := hrans.owns
    rw [PA1.out.eqc, PA1.out.eqs] at hrow
    have hcs1 := conv_str (bytesAt_of_owns oa5 hE)
    have hcs2 := conv_str (bytesAt_of_owns hrow hE)
    rw [hf] at hvb hcs2
    subst hvb
    have OA5 := hideG oa5
    have G5 := hideG (show wc.heap[g]? = some (.cells (bgiven (bl st) 3).toArray 5 (0, 0)) by
      rw [rt.chg.block g (by omega) (fun e => ?_), B34.out.block g (by omega)]
      · exact G3.out
      · rcases e with e | e
        · omega
        · have := PA1.out.lt (x := g) (.inr (.inr (.inl (.inr e)))); omega)
    have q5c : wc.cell? ⟨w.heap.size, 5, none⟩ = some (.string st) := by
      rw [← HR1.out, ← (HOP.out W1 HBN.out).2.2.1]
      exact World.cell?_of_block (w := W1) (a := ⟨w.heap.size, 5, none⟩) (hchg.block w.heap.size (by omega) (HNOP.out p HPP.out))
    have IW5 := hideG (show InvW wc pw F nx ls from I1.out.chg hchg (fun b hb => ⟨by have := PA1.out.lo b hb; omega, fun hf' => by
      obtain ⟨tg, t1, t2, t3⟩ := II.out.1.tag
      have a := t1 i p b HPP.out hb; have b' := t3 b hf'; omega⟩))
    have PT := hideG hpt
    have CH := hideG hchg
    have FT := hideG hft
    have HMO := hideG rt.more
    have zW : W1.heap.size ≤ wc.heap.size := hchg.size
    clear rt hlk hrans hpt hchg hft hrow oa5 hf xx1 xx4 q53 hcv
    generalize strOfNums (ansE (ansD p.c p.s (bl st))) = sE at *
    have hwlc : w.heap.size < wc.heap.size := by omega
    have HSB := hideG (stillBytes_calls st wc g hsz G5.out)
    go_wp2_with fail
    refine HSB.out.mono ?_
    rintro e w7 ⟨rfl, nq7, hw7⟩
    have hb7 : Below wc.heap.size wc w7 := by rw [hw7]; exact below_drewN _ _
    have z7 := hb7.size
    have B7 := hideG hb7
    have G7 := hideG ((hb7.block g (by omega)).trans G5.out)
    have OA7 := hideG (ownsRow_chg (S := fun _ => False) OA5.out (Chg.of_below hb7) (fun _ _ h => h))
    have IW7 := hideG (IW5.out.below hb7)
    have hng : ¬ Foot F ls g := fun hf => by have := I1.out.foot_lt hf; omega
    have hsz3 : (bgiven (bl st) 3).toArray.size = st.size + 3 := by simp [bgiven_length _ _ (Nat.le_refl 3), bl_length]
    clear hw7 hb7 q5c hcs1 hcs2
    go_wp2_with fail
    refine (ownBytes_calls pw F nx ls g st.size (st.size + 3) _ w7 IW7.out i4' (by omega) (len24a hl6 hm) G7.out hsz3 (by omega) (by unfold maxLen; omega) (by omega) hng).mono ?_
    rintro e w8 ⟨rfl, F1, j1, j2, j3, j4⟩
    have z8 := j4.size
    have vlt : ∀ b, (Value.slice av nv cv).ownBlock = some b → w2.heap.size ≤ b ∧ b < w3.heap.size := fun b hb => OA3.out.lt b hb
    have hoa8 := ownsRow_chg OA7.out j4 (fun b hb e => by
      have := vlt b hb
      rcases e with e | e | e
      · omega
      · omega
      · have := I1.out.foot_lt e; omega)
    have hfa : ∀ b, (Value.slice av nv cv).ownBlock = some b → ¬ Foot F1 (updL ls 1 (ls 1 ++ [(some g, st.size + 3, mkN nx)])) b := fun b hb => by
      have := vlt b hb
      exact j2 b (by omega) (by omega) (fun e => by have := I1.out.foot_lt e; omega)
    have HOW := hideG (own_bytes pw F1 (nx + 1) (updL ls 1 (ls 1 ++ [(some g, st.size + 3, mkN nx)])) (.slice av nv cv) _ _ w2.heap.size w8 j1 PX.out.1 PX.out.2.1 (by rw [upd1_len]; exact PX.out.2.2) hoa8 hpw2 hfa)
    have JJ := hideG (And.intro j1 (And.intro j2 (And.intro j3 j4)))
    have VV := hideG (show ∀ x, (Value.slice av nv cv).ownBlock = some x → ¬ CFoot p.bx S' x ∧ w2.heap.size ≤ x ∧ x < w3.heap.size from fun x hx => ⟨NA.out x hx, vlt x hx⟩)
    have MM := hideG (show 0 ≤ ((some g, st.size + 3, mkN nx) : Ow).2.2 ∧ ((some g, st.size + 3, mkN nx) : Ow).2.2 ≤ 255 from ⟨by have := mkN_lo nx; show 0 ≤ mkN nx; omega, by have := mkN_hi nx; show mkN nx ≤ 255; omega⟩)
    have ZZ := hideG (show W1.heap.size ≤ w2.heap.size ∧ w2.heap.size ≤ w3.heap.size ∧ w3.heap.size ≤ w4.heap.size from ⟨z2, z3, z4⟩)
    clear j1 j2 j3 j4 hoa8 hfa vlt
    go_wp2_with fail
    refine HOW.out.mono ?_
    rintro e w9 ⟨rfl, F2, o2, k1, k2, k3, k4, k5⟩
    have FF := hideG (take_fin (W1 := W1) (w2 := w2) (w3 := w3) (w4 := w4) (w5 := wc) (w7 := w7) (w8 := w8) (w9 := w9) (pw := pw) (m := m) (k := k) (i := i) (K := K) (F := F) (F1 := F1) (F2 := F2) (nx := nx) (ls := ls) (p := p) (p' := ⟨p.pc, p.bx, p.yb, p.c, stepD p.c p.s (bl st), S', R', hh', vs'⟩) (S' := S') (g := g) (va := .slice av nv cv) (o1 := (some g, st.size + 3, mkN nx)) (o2 := o2)
      I1.out II.out.1 II.out.2.1 II.out.2.2.1 II.out.2.2.2.1 II.out.2.2.2.2 HPP.out rfl HHK.out HMO.out PT.out CH.out FT.out ZZ.out ⟨hg0, gl2⟩ VV.out B7.out JJ.out.1 JJ.out.2.1 JJ.out.2.2.1 JJ.out.2.2.2 MM.out k1 k2 k3 k4 k5)
    clear k1 k2 k3 k4 k5
    go_wp2_with fail
    go_ret
    exact ⟨rfl, _, FF.out.1, by simp, FF.out.2.1, B1.out.trans FF.out.2.2⟩

end Go.Proofs.YtchideljndagjaaGreat

namespace Go.Proofs.YtchideljndagjaaGreat
open Go.ChangeShapes Go.WideShapes Go.ChangeAt Go.RowKit
set_option linter.unusedVariables false

end Go.Proofs.YtchideljndagjaaGreat

namespace Go.Proofs.YtchideljndagjaaGreat
open Go.ChangeShapes Go.WideShapes Go.ChangeAt Go.RowKit
set_option linter.unusedVariables false

end Go.Proofs.YtchideljndagjaaGreat

namespace Go.Proofs.YtchideljndagjaaGreat
open Go.ChangeShapes Go.WideShapes Go.ChangeAt Go.RowKit
set_option linter.unusedVariables false

theorem given_list {w : World} {g : Nat} {zs : List Int} (hg : w.heap[g]? = some (.cells (given zs 3).toArray 3 (0, 0))) (hz : ∀ z ∈ zs, inI z) (hb : zs.length * 8 ≤ 140737488351232) :
    ListAt w (.slice (some ⟨g, 0, none⟩) zs.length (zs.length + 3)) zs := by
  refine ⟨_, _, rfl, by omega, by unfold maxLen; omega, hz, .inr ⟨g, 0, rfl, ?_, fun i hi => ?_⟩⟩
  · by_cases h : g < w.heap.size
    · exact h
    · rw [Array.getElem?_eq_none (by omega)] at hg; cases hg
  · rw [Nat.zero_add, (row_cell hg i (by rw [given_length _ _ (Nat.le_refl _)]; omega)).1]
    unfold given
    rw [List.getElem?_append_left (by simpa using hi), List.getElem?_map, List.getElem?_eq_getElem hi, List.getD_eq_getElem?_getD, List.getElem?_eq_getElem hi]; rfl

end Go.Proofs.YtchideljndagjaaGreat

namespace Go.Proofs.YtchideljndagjaaGreat
open Go.ChangeShapes Go.WideShapes Go.ChangeAt Go.RowKit
set_option linter.unusedVariables false

def zDD : DD := ⟨[], 0, 0, 0, [], []⟩
theorem nil_list (w : World) : ListAt w (.slice none 0 0) [] := ⟨none, 0, rfl, Nat.le_refl _, Nat.zero_le _, fun z hz => (by cases hz), .inl rfl⟩
/-- The first of the draws. -/
theorem draws_one {w : World} {a : Option Addr} {n cap : Nat} {vi vm vs : Nat → Value} {D : Nat → DD} (h : DrawsAt w a n cap vi vm vs D) (hn : 1 ≤ n) : DrawsAt w a 1 cap (fun _ => vi 0) (fun _ => vm 0) (fun _ => vs 0) (fun _ => D 0) :=
  ⟨by have := h.le; omega, h.mx, fun i hi => by
    have e : i = 0 := by omega
    subst e
    exact h.cells 0 (by omega), fun i hi => h.its 0 (by omega)⟩
theorem inI0 : inI 0 := ⟨by decide, by decide⟩
theorem draws_zero (w : World) : DrawsAt (w.alloc (.cells #[.slice none 0 0, .int .i64 0, .int .i64 0, .int .i64 0, .slice none 0 0, .slice none 0 0] 74)) (some ⟨w.heap.size, 0, none⟩) 1 1 (fun _ => .slice none 0 0) (fun _ => .slice none 0 0) (fun _ => .slice none 0 0) (fun _ => zDD) := by
  have hb : BoxAt (w.alloc (.cells #[.slice none 0 0, .int .i64 0, .int .i64 0, .int .i64 0, .slice none 0 0, .slice none 0 0] 74)) w.heap.size (.slice none 0 0) (.int .i64 0) (.int .i64 0) (.int .i64 0) (.slice none 0 0) (.slice none 0 0) := heap_alloc_new w _
  obtain ⟨⟨x0, x1, x2, x3, x4, x5⟩, _⟩ := hb.cells
  refine ⟨Nat.le_refl _, by omega, fun i hi => ?_, fun i hi => ⟨nil_list _, nil_list _, nil_list _, inI0, inI0, inI0⟩⟩
  obtain rfl : i = 0 := by omega
  exact ⟨w.heap.size, 0, rfl, by simp, x0, x1, x2, x3, x4, x5⟩
theorem given_draw {w : World} {B g : Nat} {G : Nat → Nat → Nat} {D : Nat → DD} (h : GivenAt w B g 1 G D) (hi : ∀ k, k < 3 → ∀ z ∈ dl (D 0) k, inI z) (hl : ∀ k, k < 3 → (dl (D 0) k).length * 8 ≤ 140737488351232) :
    ListAt w (gsl (G 0 0) (D 0).inp) (D 0).inp ∧ ListAt w (gsl (G 0 1) (D 0).sm) (D 0).sm ∧ ListAt w (gsl (G 0 2) (D 0).ss) (D 0).ss :=
  ⟨given_list (h.row 0 0 (by omega) (by omega)) (hi 0 (by omega)) (hl 0 (by omega)), given_list (h.row 0 1 (by omega) (by omega)) (hi 1 (by omega)) (hl 1 (by omega)), given_list (h.row 0 2 (by omega) (by omega)) (hi 2 (by omega)) (hl 2 (by omega))⟩
theorem draw_inI {w : World} {vi vm vs : Value} {d : DD} (h : DrawIs w vi vm vs d) : ∀ k, k < 3 → ∀ z ∈ dl d k, inI z := by
  have key : ∀ {v : Value} {zs : List Int}, ListAt w v zs → ∀ z ∈ zs, inI z := fun {v zs} hl => by obtain ⟨_, _, _, _, _, h4, _⟩ := hl; exact h4
  intro k hk
  rcases (show k = 0 ∨ k = 1 ∨ k = 2 by omega) with rfl | rfl | rfl
  · exact key h.1
  · exact key h.2.1
  · exact key h.2.2.1

/-- Both make a client, or refuse. -/
def NewX (W w' : World) (E : Int) (c : Cli.Cl) (q1 q2 : Value) : Prop :=
  q2 = .int .i64 E ∧ Below W.heap.size W w' ∧ ((E ≠ 0 ∧ q1 = .pointer none) ∨ (E = 0 ∧ ∃ b S, q1 = .pointer (some ⟨b, 0, none⟩) ∧ CliW w' b c (1, [], [], []) S ∧ ∀ x, CFoot b S x → W.heap.size ≤ x))
def NewY (pw : Nat) (W w' : World) (E : Int) (c : Cli.Cl) (q1 q2 : Value) : Prop :=
  q2 = .int .i64 E ∧ Below W.heap.size W w' ∧ ((E ≠ 0 ∧ q1 = .pointer none) ∨ (E = 0 ∧ ∃ b s, q1 = .pointer (some ⟨b, 0, none⟩) ∧ s.c = c ∧ RefW w' pw b s [] [] ∧ ∀ x, RFoot b s [] x → W.heap.size ≤ x))
theorem newX_calls (N T M D id : Int) (vi vm vs : Value) (d : DD) (w : World) (h1 : ListAt w vi d.inp) (h2 : ListAt w vm d.sm) (h3 : ListAt w vs d.ss) :
    Calls Tryz.prog 47 #[.agg #[.int .i64 N, .int .i64 T, .int .i64 M, .int .i64 D], .int .i64 id, .agg #[vi, .int .i64 d.ch, .int .i64 d.ms, .int .i64 d.sd, vm, vs]] w fun e w' => ∃ q1 q2, e = .returned (.tuple #[q1, q2]) ∧ NewX w w' (newE N T M D id d.inp d.ch d.ms d.sd d.sm d.ss) ⟨N, T, M, id, d.inp, d.ch, d.ms, d.sd, d.sm, d.ss⟩ q1 q2 := by
  by_cases hE : newE N T M D id d.inp d.ch d.ms d.sd d.sm d.ss = 0
  · refine (veilNew_ok N T M D id vi vm vs d.inp d.sm d.ss d.ch d.ms d.sd w h1 h2 h3 hE).mono ?_
    rintro e w' ⟨b, rfl, S, k1, k2, k3⟩
    exact ⟨_, _, rfl, by rw [hE], k2, .inr ⟨hE, b, S, rfl, k1, k3⟩⟩
  · refine (veilNew_no N T M D id vi vm vs d.inp d.sm d.ss d.ch d.ms d.sd w h1 h2 h3 hE).mono ?_
    rintro e w' ⟨rfl, k2⟩
    exact ⟨_, _, rfl, rfl, k2, .inl ⟨hE, rfl⟩⟩
theorem newY_calls (pw : Nat) (N T M D id : Int) (vi vm vs : Value) (d : DD) (w : World) (h : DrawIs w vi vm vs d) (hpw : pw < w.heap.size) (hlow : ∀ x, ((d.inp ≠ [] ∧ vi.ownBlock = some x) ∨ (d.sm ≠ [] ∧ vm.ownBlock = some x) ∨ (d.ss ≠ [] ∧ vs.ownBlock = some x)) → x < pw) :
    Calls Tryz.prog 48 #[.agg #[.int .i64 N, .int .i64 T, .int .i64 M, .int .i64 D], .int .i64 id, .agg #[vi, .int .i64 d.ch, .int .i64 d.ms, .int .i64 d.sd, vm, vs]] w fun e w' => ∃ q1 q2, e = .returned (.tuple #[q1, q2]) ∧ NewY pw w w' (newE N T M D id d.inp d.ch d.ms d.sd d.sm d.ss) ⟨N, T, M, id, d.inp, d.ch, d.ms, d.sd, d.sm, d.ss⟩ q1 q2 := by
  obtain ⟨h1, h2, h3, h4, h5, h6⟩ := h
  by_cases hE : newE N T M D id d.inp d.ch d.ms d.sd d.sm d.ss = 0
  · refine (rNew_ok pw N T M D id vi vm vs d.inp d.sm d.ss d.ch d.ms d.sd w h1 h2 h3 h4 h5 h6 hE hpw hlow).mono ?_
    rintro e w' ⟨b, rfl, s, k1, k2, k3, k4⟩
    exact ⟨_, _, rfl, by rw [hE], k3, .inr ⟨hE, b, s, rfl, k1, k2, k4⟩⟩
  · refine (rNew_no N T M D id vi vm vs d.inp d.sm d.ss d.ch d.ms d.sd w h1 h2 h3 h4 h5 h6 hE).mono ?_
    rintro e w' ⟨rfl, k2⟩
    exact ⟨_, _, rfl, rfl, k2, .inl ⟨hE, rfl⟩⟩

theorem GivenAt.below {w w' : World} {B g n : Nat} {G : Nat → Nat → Nat} {D : Nat → DD} (h : GivenAt w B g n G D) (hb : Below w.heap.size w w') : GivenAt w' B g n G D := ⟨fun i k hi hk => (hb.block _ (h.lt i k hi hk)).trans (h.row i k hi hk), h.lo, h.inj⟩
theorem GivenAt.base {w : World} {B B' g n : Nat} {G : Nat → Nat → Nat} {D : Nat → DD} (h : GivenAt w B g n G D) (hB : B' ≤ B) : GivenAt w B' g n G D := ⟨h.row, fun i k hi hk => by have := h.lo i k hi hk; exact ⟨by omega, this.2⟩, h.inj⟩
theorem len24c {a m : Nat} (h : a ≤ m) (hm : (m + 4) * 24 ≤ 140737488355328) : (a + 3 * 1) * 24 ≤ 140737488355328 := Nat.le_trans (Nat.mul_le_mul_right 24 (show a + 3 * 1 ≤ m + 4 by omega)) hm
theorem len24d {a m : Nat} (h : a ≤ m) (hm : (m + 4) * 24 ≤ 140737488355328) : (a + 1) * 24 ≤ 140737488355328 := Nat.le_trans (Nat.mul_le_mul_right 24 (show a + 1 ≤ m + 4 by omega)) hm

/-- The World owns more, and then there is a pair more, whose blocks were not there at the beginning. -/
theorem InvK.moreq {w w1 w' : World} {pw : Nat} {F F' : Nat → Value} {nx nx' : Int} {ls ls' : Nat → List Ow} {K : List Pair} (h : InvK w pw F ls K) (hi : InvW w pw F nx ls) (hj : InvW w1 pw F' nx' ls') (hq : QS pw w F ls w1 F' ls') {p : Pair} {v' : Value} (hp' : PairAt w' pw p) (hnew : ∀ x, PFoot p x → w.heap.size ≤ x) (hnf : ∀ x, PFoot p x → ¬ Foot F' ls' x) (hc : Chg (fun x => x = pw ∨ (F' 0).ownBlock = some x) w1 w')
    (hblk : w'.heap[pw]? = some (.cells (fArr (upd F' 0 v')) 37 (0, 0))) (hrow : w'.ownsRow (pw + 1) 51 1 v' (K.length + 1) ((K.map fun p => Value.pointer (some ⟨p.pc, 0, none⟩)) ++ [.pointer (some ⟨p.pc, 0, none⟩)]))
    (hv : ∀ x, v'.ownBlock = some x → ((F' 0).ownBlock = some x ∨ w1.heap.size ≤ x) ∧ ¬ PFoot p x) : InvK w' pw (upd F' 0 v') ls' (K ++ [p]) ∧ InvW w' pw (upd F' 0 v') nx' ls' := by
  have h1 := h.quiet hi hq
  obtain ⟨tg, t1, t2, t3⟩ := h.tag
  obtain ⟨tg1, _, u2, _⟩ := h1.tag
  have hlt := hi.pw_lt
  have hlt1 := hj.pw_lt
  have z1 := hq.chg.size
  have hf0 : F' 0 = F 0 := hq.fs 0 (by omega)
  have hfi : ∀ c, upd F' 0 v' (cat c).fi = F' (cat c).fi := fun c => upd_other _ _ (by have := cat_fi c; omega)
  have hfm : ∀ c, upd F' 0 v' (cat c).fm = F' (cat c).fm := fun c => upd_other _ _ (by have := cat_fm c; omega)
  have hfoot : ∀ x, Foot (upd F' 0 v') ls' x ↔ Foot F' ls' x := fun x => by unfold Foot; simp only [hfi, hfm]
  have hno : ∀ x, Foot F' ls' x → ¬ (x = pw ∨ (F' 0).ownBlock = some x) := fun x hx e => by
    rcases e with e | e
    · have := hj.foot_lt hx; omega
    · exact (u2 x e).2 hx
  refine ⟨⟨?_, by rw [upd_other _ _ (by omega)]; exact h1.f1, by rw [upd_other _ _ (by omega)]; exact h1.f2, fun q hq' => ?_, ?_⟩, ⟨hblk, by rw [upd_other _ _ (by omega)]; exact hj.nxt, fun c hc' => ?_, ?_⟩⟩
  · rw [upd_same, List.map_append, List.length_append]; exact hrow
  · rcases List.mem_append.1 hq' with hq' | hq'
    · obtain ⟨i, hi'⟩ := List.mem_iff_getElem?.1 hq'
      refine (h1.pairs q hq').keep hc.size (fun x hx => hc.block x ((h1.pairs q hq').lt hx) (fun e => ?_)) (fun x hx => hc.block x (by omega) (fun e => ?_))
      · rcases e with e | e
        · have := (h1.pairs q hq').lo x hx; omega
        · rw [hf0] at e
          have a := t1 i q x hi' hx; have b := (t2 x e).1; omega
      · rcases e with e | e
        · omega
        · have := h1.row.lt x e; omega
    · simp at hq'; subst hq'; exact hp'
  · classical
    obtain ⟨tg', ht⟩ : ∃ tg' : Nat → Nat, ∀ x, tg' x = if x < w.heap.size then tg x else (if PFoot p x then K.length + 1 else 0) := ⟨_, fun _ => rfl⟩
    refine ⟨tg', fun j q x hq' hx => ?_, fun x hx => ?_, fun x hx => ?_⟩
    · rw [ht]
      by_cases hjl : j < K.length
      · rw [List.getElem?_append_left hjl] at hq'
        rw [if_pos ((h.pairs q (List.mem_of_getElem? hq')).lt hx)]
        exact t1 j q x hq' hx
      · rw [List.getElem?_append_right (by omega)] at hq'
        have hj0 : j - K.length = 0 := by
          rcases Nat.eq_zero_or_pos (j - K.length) with e | e
          · exact e
          · rw [List.getElem?_eq_none (by simp; omega)] at hq'; cases hq'
        rw [hj0] at hq'
        simp at hq'
        subst hq'
        have := hnew x hx
        rw [if_neg (by omega), if_pos hx]
        omega
    · rw [upd_same] at hx
      obtain ⟨a1, a2⟩ := hv x hx
      rcases a1 with a1 | a1
      · have a1' := a1
        rw [hf0] at a1'
        rw [ht, if_pos (h.row.lt x a1').2]
        exact ⟨(t2 x a1').1, fun hf => (u2 x a1).2 ((hfoot x).1 hf)⟩
      · rw [ht, if_neg (by omega), if_neg a2]
        exact ⟨rfl, fun hf => by have := hj.foot_lt ((hfoot x).1 hf); omega⟩
    · have hx' := (hfoot x).1 hx
      rw [ht]
      by_cases hl : x < w.heap.size
      · rw [if_pos hl]
        by_cases hf : Foot F ls x
        · exact t3 x hf
        · exact absurd hx' (hq.foot x hl hf)
      · rw [if_neg hl, if_neg (fun hy => hnf x hy hx')]
  · rw [hfi, hfm]
    obtain ⟨h1', h2', h3'⟩ := hj.own c hc'
    refine ⟨ownsRow_chg h1' hc (fun b hb => hno b ⟨c, hc', .inl hb⟩), ownsRow_chg h2' hc (fun b hb => hno b ⟨c, hc', .inr (.inl hb)⟩), fun o ho => ?_⟩
    obtain ⟨k1, k0, k2⟩ := h3' o ho
    refine ⟨k1, k0, fun g hg => ?_⟩
    obtain ⟨q1, q2, q3⟩ := k2 g hg
    exact ⟨q1, Nat.lt_of_lt_of_le q2 hc.size, by rw [hc.block g q2 (hno g ⟨c, hc', .inr (.inr ⟨o, ho, hg⟩)⟩)]; exact q3⟩
  · obtain ⟨tgw, a1, a2, a3⟩ := hj.tag
    exact ⟨tgw, fun c hc' b hb => a1 c hc' b (by rw [← hfi c]; exact hb), fun c hc' b hb => a2 c hc' b (by rw [← hfm c]; exact hb), a3⟩

end Go.Proofs.YtchideljndagjaaGreat

namespace Go.Proofs.YtchideljndagjaaGreat
open Go.RowKit
set_option linter.unusedVariables false

theorem infoCl : (Tryz.prog.info? 51).map (fun i => (i.zero, i.size, i.bytes)) = some (some (.pointer none), 1, 8) := by kernel_rfl

theorem new_fin {W0 w2 w3 w4 w5 w6 w9 w10 : World} {pw m k g g9 cap9 bx yb : Nat} {K : List Pair} {F F' : Nat → Value} {nx nx' : Int} {ls ls' : Nat → List Ow} {G : Nat → Nat → Nat} {cc : Cli.Cl} {S : PS} {R : RS} {B : Obj}
    (i1 : InvW W0 pw F nx ls) (i2 : InvK W0 pw F ls K) (mk : ∀ o ∈ ls' 1, 0 ≤ o.2.2 ∧ o.2.2 ≤ 255) (hn0 : 0 ≤ nx') (hn1 : nx' ≤ (m : Int)) (hls : ∀ c, (ls' c).length ≤ m) (j1 : InvW w6 pw F' nx' ls') (qq : QS pw W0 F ls w6 F' ls')
    (j4 : Chg (fun b => b = pw ∨ b = g ∨ (∃ q, q < 3 * 1 ∧ b = gq G q) ∨ Foot F ls b) w5 w6) (j5 : ∀ b, b < w5.heap.size → b ≠ g → (∀ q, q < 3 * 1 → b ≠ gq G q) → ¬ Foot F ls b → ¬ Foot F' ls' b)
    (hg : W0.heap.size ≤ g ∧ g < w2.heap.size) (hgq : ∀ q, q < 3 * 1 → W0.heap.size ≤ gq G q ∧ gq G q < w2.heap.size) (z02 : W0.heap.size ≤ w2.heap.size) (z23 : w2.heap.size ≤ w3.heap.size) (b34 : Below w3.heap.size w3 w4) (b45 : Below w4.heap.size w4 w5)
    (k1 : CliW w3 bx cc (1, [], [], []) S) (k2 : ∀ x, CFoot bx S x → w2.heap.size ≤ x) (r4 : RefW w4 pw yb R [] []) (k4 : ∀ x, RFoot yb R [] x → w3.heap.size ≤ x) (hRc : R.c = cc)
    (hr9 : w9.ownsRow (pw + 1) 51 1 (.slice (some ⟨g9, 0, none⟩) (K.length + 1) cap9) (K.length + 1) ((K.map fun p => Value.pointer (some ⟨p.pc, 0, none⟩)) ++ [.pointer (some ⟨w6.heap.size, 0, none⟩)]))
    (hgr : ((w6.alloc (.cells #[.pointer (some ⟨bx, 0, none⟩), .pointer (some ⟨yb, 0, none⟩)] 103)).alloc B).grownBy w9 (F' 0).ownBlock) (hat : (F' 0).ownBlock = some g9 ∨ w6.heap.size + 2 ≤ g9)
    (hw10 : w10 = w9.setCell ⟨pw, 0, none⟩ (.slice (some ⟨g9, 0, none⟩) (K.length + 1) cap9)) (hhk : ∀ q ∈ K, q.hh.length ≤ k) :
    ∃ K', KI w10 pw m K' ∧ K'.length ≤ K.length + 1 ∧ (∀ q ∈ K', q.hh.length ≤ k) ∧ Below pw W0 w10 := by
  have z34 := b34.size
  have z45 := b45.size
  have z56 := j4.size
  have z69 := hgr.size
  have zA : ((w6.alloc (.cells #[.pointer (some ⟨bx, 0, none⟩), .pointer (some ⟨yb, 0, none⟩)] 103)).alloc B).heap.size = w6.heap.size + 2 := by simp
  rw [zA] at z69
  have hpw := i1.pw_lt
  have z06 := qq.chg.size
  have hf0 : F' 0 = F 0 := qq.fs 0 (by omega)
  have hrow0 : ∀ x, (F' 0).ownBlock = some x → pw < x ∧ x < W0.heap.size := fun x hx => by rw [hf0] at hx; have := i2.row.lt x hx; omega
  have hfl : ∀ b, Foot F ls b → pw < b ∧ b < W0.heap.size := fun b hb => i1.foot_lt hb
  have z10 : w10.heap.size = w9.heap.size := by rw [hw10]; simp [World.setCell]
  -- w6 to w10
  have c69 : Chg (fun x => (F' 0).ownBlock = some x) w6 w9 := ((Chg.alloc _ w6 (.cells #[.pointer (some ⟨bx, 0, none⟩), .pointer (some ⟨yb, 0, none⟩)] 103)).trans (Chg.alloc _ _ B) (fun x e _ => e)).trans (Chg.grown hgr) (fun x e _ => e)
  have c610 : Chg (fun x => x = pw ∨ (F' 0).ownBlock = some x) w6 w10 := (c69.mono (S' := fun x => x = pw ∨ (F' 0).ownBlock = some x) (fun x e _ => .inr e)).trans (by rw [hw10]; exact Chg.setCell w9 ⟨pw, 0, none⟩ _) (fun x e _ => .inl e)
  have cl : ∀ x, CFoot bx S x → w2.heap.size ≤ x ∧ x < w3.heap.size := fun x hx => ⟨k2 x hx, k1.low x hx⟩
  have rl : ∀ x, RFoot yb R [] x → w3.heap.size ≤ x ∧ x < w4.heap.size := fun x hx => ⟨k4 x hx, (r4.foot x hx).2⟩
  have keep : ∀ x, w2.heap.size ≤ x → x < w5.heap.size → w10.heap[x]? = w5.heap[x]? := fun x h1 h2 => by
    rw [c610.block x (by omega) (fun e => ?_), j4.block x h2 (fun e => ?_)]
    · rcases e with e | e | ⟨q, hq, e⟩ | e
      · omega
      · omega
      · have := hgq q hq; omega
      · have := hfl x e; omega
    · rcases e with e | e
      · omega
      · have := hrow0 x e; omega
  have keeplow : ∀ x, x < pw → w10.heap[x]? = w5.heap[x]? := fun x h1 => by
    rw [c610.block x (by omega) (fun e => ?_), j4.block x (by omega) (fun e => ?_)]
    · rcases e with e | e | ⟨q, hq, e⟩ | e
      · omega
      · omega
      · have := hgq q hq; omega
      · have := hfl x e; omega
    · rcases e with e | e
      · omega
      · have := hrow0 x e; omega
  obtain ⟨p, hpd⟩ : ∃ p : Pair, p = ⟨w6.heap.size, bx, yb, cc, (1, [], [], []), S, R, [], []⟩ := ⟨_, rfl⟩
  have pf : ∀ x, PFoot p x ↔ (x = w6.heap.size ∨ CFoot bx S x ∨ RFoot yb R [] x) := fun x => by rw [hpd]; exact Iff.rfl
  have hp' : PairAt w10 pw p := by
    rw [hpd]
    refine ⟨?_, ?_, ?_, hRc, rfl, fun x hx => ?_, fun x hx hy => ?_, fun hx => ?_, fun hx => ?_⟩
    · show w10.heap[w6.heap.size]? = _
      rw [hw10, Below.heap_setCell _ _ _ _ (by show w6.heap.size ≠ pw; omega), hgr.block w6.heap.size (by rw [zA]; omega) (fun e => by have := hrow0 _ e.symm; omega)]
      rw [Below.heap_alloc _ _ _ (by simp)]
      exact heap_alloc_new w6 _
    · show CliW w10 bx cc (1, [], [], []) S
      refine (k1.below (b34.trans (b45.mono z34))).keep (by omega) (fun x hx => ?_)
      have := cl x hx
      exact keep x (by omega) (by omega)
    · show RefW w10 pw yb R [] []
      refine (r4.below b45).keep (by omega) (fun x hx => ?_) keeplow
      have := rl x hx
      exact keep x (by omega) (by omega)
    · rcases hx with hx | hx | hx
      · have : x = w6.heap.size := hx; omega
      · have := cl x hx; omega
      · have := rl x hx; omega
    · have a := cl x hx; have b := rl x hy; omega
    · have := cl _ hx; have e : (⟨w6.heap.size, bx, yb, cc, (1, [], [], []), S, R, [], []⟩ : Pair).pc = w6.heap.size := rfl; omega
    · have := rl _ hx; have e : (⟨w6.heap.size, bx, yb, cc, (1, [], [], []), S, R, [], []⟩ : Pair).pc = w6.heap.size := rfl; omega
  have hblk : w10.heap[pw]? = some (.cells (fArr (upd F' 0 (.slice (some ⟨g9, 0, none⟩) (K.length + 1) cap9))) 37 (0, 0)) := by
    rw [hw10]
    refine set_f 0 _ (by omega) ?_
    rw [c69.block pw (by omega) (fun e => by have := hrow0 pw e; omega)]
    exact j1.blk
  have R := i2.moreq i1 j1 qq (p := p) (v' := .slice (some ⟨g9, 0, none⟩) (K.length + 1) cap9) hp' (fun x hx => ?_) (fun x hx hf => ?_) c610 hblk ?_ (fun x hx => ?_)
  · refine ⟨K ++ [p], ⟨_, nx', ls', R.2, R.1, mk, hn0, hn1, hls⟩, by simp, fun q hq => ?_, ?_⟩
    · rcases List.mem_append.1 hq with hq | hq
      · exact hhk q hq
      · simp at hq; subst hq; rw [hpd]; exact Nat.zero_le _
    · exact (qq.belowpw i1).trans (c610.below (by omega) (fun b e => by
        rcases e with e | e
        · omega
        · have := hrow0 b e; omega))
  · rcases (pf x).1 hx with h1 | h1 | h1
    · omega
    · have := cl x h1; omega
    · have := rl x h1; omega
  · rcases (pf x).1 hx with h1 | h1 | h1
    · have := j1.foot_lt hf; omega
    · have c := cl x h1
      exact j5 x (by omega) (by omega) (fun q hq e => by have := hgq q hq; omega) (fun e => by have := hfl x e; omega) hf
    · have c := rl x h1
      exact j5 x (by omega) (by omega) (fun q hq e => by have := hgq q hq; omega) (fun e => by have := hfl x e; omega) hf
  · have e : p.pc = w6.heap.size := by rw [hpd]
    rw [e, hw10]
    exact ownsRow_chg hr9 (Chg.setCell w9 ⟨pw, 0, none⟩ _) (fun b hb e => by have := hr9.lt b hb; simp at e; omega)
  · have ex : x = g9 := by simpa [Value.ownBlock] using hx.symm
    subst ex
    refine ⟨?_, fun hy => ?_⟩
    · rcases hat with h1 | h1
      · exact .inl h1
      · exact .inr (by omega)
    · rcases hat with h1 | h1
      · have a := hrow0 x h1
        rcases (pf x).1 hy with h2 | h2 | h2
        · omega
        · have := cl x h2; omega
        · have := rl x h2; omega
      · rcases (pf x).1 hy with h2 | h2 | h2
        · omega
        · have := cl x h2; omega
        · have := rl x h2; omega

end Go.Proofs.YtchideljndagjaaGreat
