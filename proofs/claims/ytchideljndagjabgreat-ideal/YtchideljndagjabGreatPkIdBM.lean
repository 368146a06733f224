/- Contract of package veilkeep: one step on a session, whatever it is. -/
import Derived.Test.YtchideljndagjabGreatPkIdBL
import Derived.Test.YtchideljndagjabGreatPkIdBK
import Derived.Test.YtchideljndagjabGreatPkIdBE
import Derived.BigQuiet
import Derived.Test.YtchideljndagjabGreatPkIdAC
import Derived.Laws.MakeOwn
import Derived.Laws.OwnMore
namespace Go.Proofs.YtchideljndagjabGreat
open Go.ChangeShapes Go.WideShapes Go.ChangeAt Go.RowKit
set_option linter.unusedVariables false

section
variable {w : World} {b n : Nat} {C : Srv.Cf} {cl : Nat → Cli.Cl} {s : Sn} {m : SM}
set_option maxHeartbeats 6000000 in
set_option maxRecDepth 100000 in
theorem act_inject (h : SesAt w b n C cl s m) (ok : SnOk C cl n s) (N T M D x y : Int) (st : ByteArray) (fg : Bool) (hy : inI y) (hN : N = (n : Int)) (hn : n ≤ 12) (hst : st.size ≤ maxLen) :
    Calls Tryz.prog 12 #[.pointer (some ⟨b, 0, none⟩), .agg #[.int .i64 N, .int .i64 T, .int .i64 M, .int .i64 D], .agg #[.int .i64 4, .int .i64 x, .int .i64 y, .string st], .bool fg] w fun e w' => e = .returned (.tuple #[.slice none 0 0, .bool true]) ∧ ∃ m', SesTook w w' b n C cl (if fg = true ∨ Frm.decF (bl st) = none then injectN C cl n s (Num.pickN y (N + 1)) (bl st) else s) m m' := by
  have HFL := hideG (fun (W : World) (hb : Below w.heap.size w W) => flight_at h ok hb)
  have a1 := Num.pickN_lo y (N + 1) (by omega)
  have a2 := Num.pickN_hi y (N + 1) (by omega)
  have HSE := hideG h
  have HDE := hideG (fun (W : World) (hb : Below w.heap.size w W) (v : Value) (hv : BytesAt W v (bl st)) => vInject (h.below hb) ok (Num.pickN y (N + 1)) hv)
  have e0 : injectE n (Num.pickN y (N + 1)) = 0 := by unfold injectE; rw [if_pos ⟨by omega, by omega⟩]
  rw [e0] at HDE
  have HPK := hideG (fun (W : World) => pick_calls y (N + 1) W hy.1 hy.2 (by omega) (by omega))
  have n12 : N ≤ 12 := by omega
  have n0 : 0 ≤ N := by omega
  obtain ⟨i, hi⟩ : ∃ i, i = Num.pickN y (N + 1) := ⟨_, rfl⟩
  rw [← hi] at HPK HDE a1 a2 ⊢
  obtain ⟨N1, hN1⟩ : ∃ N1, N1 = N + 1 := ⟨_, rfl⟩
  rw [← hN1] at HPK
  have hwr : IntKind.i64.wrap (N + 1) = N1 := by rw [IntWalk.i64_left, IntWalk.wrap64_in _ (by omega), hN1]
  have B0 := hideG (actW_below w N T M D 4 x y st)
  have z0 := actW_size w N T M D 4 x y st
  have HR := hideG (fun (W : World) hb => actW_rows (w := w) (W := W) (N := N) (T := T) (M := M) (D := D) (k := 4) (x := x) (y := y) (st := st) hb)
  obtain ⟨W0, hW0⟩ : ∃ W0, W0 = actW w N T M D 4 x y st := ⟨_, rfl⟩
  rw [← hW0] at B0 z0 HR
  unfold actW at hW0
  have HW0 := hideG hW0
  clear hW0 h ok hi e0 hN hn hN1 a1 a2
  obtain ⟨s2, hs2⟩ : ∃ s2, s2 = (if fg = true ∨ Frm.decF (bl st) = none then injectN C cl n s i (bl st) else s) := ⟨_, rfl⟩
  rw [← hs2]
  have HS2 := hideG hs2
  clear hs2
  obtain ⟨L, hL⟩ : ∃ L, L = s.fl.length := ⟨_, rfl⟩
  have HST := hideG hst
  clear hst
  go_enter Tryz.func12, Tryz.ntmps12
  go_upto_region 1 with fail
  rw [← HW0.out]
  go_wp2_with fail
  refine (HFL.out W0 B0.out).mono ?_
  rintro e w1 ⟨v, vs, rfl, hpk, hb1⟩
  obtain ⟨q0, q1, q2, q3, q4⟩ := HR.out w1 hb1
  have z1 := hb1.size
  have B1 := hideG (B0.out.trans (hb1.mono (by omega)))
  have HB1 := hideG hb1
  obtain ⟨av, cv, hv, -⟩ := hpk.viewK
  rw [← hL] at hv
  rw [hv]
  clear hpk hv hL hb1
  obtain ⟨v2, w2, hcv, hba, hb2⟩ := conv_ex w1 st HST.out
  have z2 := hb2.size
  have HDC := hideG (veilDecode v2 (bl st) w2 hba)
  have HB2 := hideG (HB1.out.trans (hb2.mono z1))
  have B2 := hideG (B1.out.trans (hb2.mono B1.out.size))
  clear hba hb2
  go_wp2_with fail
  refine HDC.out.mono ?_
  rintro e w3 ⟨vo, rfl, hown, hb3⟩
  have z3 := hb3.size
  obtain ⟨ao, co, hvo⟩ := owns_form hown
  subst hvo
  have HB3 := hideG (HB2.out.trans (hb3.mono (by omega)))
  have B3 := hideG (B2.out.trans (hb3.mono B2.out.size))
  clear hb3 hown hcv
  have hdE : (Frm.decF (bl st) = none → (dE (bl st) != 0) = true) ∧ (Frm.decF (bl st) ≠ none → (dE (bl st) != 0) = false) := by
    constructor
    · intro q; rw [(d_none q).2.2.2]; rfl
    · intro q
      cases q2 : Frm.decF (bl st) with
      | none => exact absurd q2 q
      | some f => rw [(d_some q2).2.2.2]; rfl
  generalize dK (bl st) = dk at *
  generalize dF (bl st) = df at *
  generalize (dL (bl st)).length = nl at *
  generalize dE (bl st) = de at *
  clear q0 q1 q2 q3 q4
  obtain ⟨W4, hW4⟩ : ∃ W4, W4 = w3.alloc (.cells #[.int .i64 dk, .int .i64 df, .slice ao nl co] 65) := ⟨_, rfl⟩
  have hb4 : Below w3.heap.size w3 W4 := by rw [hW4]; exact (Below.refl _ _).alloc (Nat.le_refl _) _
  have z4 := hb4.size
  have B4 := hideG (B3.out.trans (hb4.mono B3.out.size))
  have HB4 := hideG (HB3.out.trans (hb4.mono (by omega)))
  have HW4 := hideG hW4
  clear hW4 hb4
  obtain ⟨q0, q1, q2, q3, q4⟩ := HR.out W4 HB4.out
  go_upto_region 21 with fail
  rw [← HW4.out]
  have nfin : (fg = true ∨ Frm.decF (bl st) = none) ∨ (fg = false ∧ Frm.decF (bl st) ≠ none) := by
    cases fg
    · by_cases q : Frm.decF (bl st) = none
      · exact .inl (.inr q)
      · exact .inr ⟨rfl, q⟩
    · exact .inl (.inl rfl)
  rcases nfin with hyes | ⟨hf, hdn⟩
  · have es2 : s2 = injectN C cl n s i (bl st) := by rw [HS2.out, if_pos hyes]
    rw [← es2] at HDE
    have hcond : (if fg = true then true else (de != 0)) = true := by
      rcases hyes with q | q
      · rw [q]; rfl
      · rw [hdE.1 q]; split <;> rfl
    obtain ⟨v5, w5, hcv, hba, hb5⟩ := conv_ex W4.drew st HST.out
    have hb45 : Below W4.heap.size W4 w5 := (Below.refl W4.heap.size W4).drew.trans hb5
    have z5 := hb45.size
    have B5 := hideG (B4.out.trans (hb45.mono B4.out.size))
    have HINJ := hideG (HDE.out w5 B5.out v5 hba)
    obtain ⟨p0, p1, p2, p3, p4⟩ := HR.out w5 (HB4.out.trans (hb45.mono (by omega)))
    have hpl : w.heap.size + 1 < W4.heap.size := by omega
    clear hb5 hb45 hba hdE es2
    go_cut [76] (fun q wc => q = .bool true ∧ wc = W4)
    case first =>
      cases fg
      · have hdd : (de != 0) = true := by simpa using hcond
        go_wp2_with fail
        go_meet
        exact ⟨rfl, rfl⟩
      · go_wp2_with fail
        go_meet
        exact ⟨rfl, rfl⟩
    case rest =>
      obtain ⟨hq, hwc⟩ := hcut
      subst hq
      subst hwc
      clear HFL HSE HDE HB1 B1 HDC HB2 B2 HB3 B3 B4 HB4 HW4 hcond hyes HS2 HR HW0 B0 HST z0 z1 z2 z3 z4 z5 n12 n0
      go_upto_region 22 with fail
      go_region_with (first | (go_at_call 21; refine (HPK.out _).mono ?_; rintro e w' ⟨rfl, rfl⟩) | (go_at_call 22; refine HINJ.out.mono ?_; rintro e w6 ⟨rfl, m', ht⟩; have HFIN := hideG (show ∃ m', SesTook w w6 b n C cl s2 m m' from ⟨m', ht.after B5.out⟩); clear ht))
      all_goals (go_wp2_with fail; go_ret2; exact ⟨rfl, HFIN.out⟩)
  · subst hf
    have hdd : (de != 0) = false := hdE.2 hdn
    have es2 : s2 = s := by
      rw [HS2.out, if_neg]
      rintro (q | q)
      · cases q
      · exact hdn q
    have HT := hideG (show SesTook w W4 b n C cl s2 m m by rw [es2]; exact sesTook_same HSE.out B4.out)
    clear es2
    go_wp2_with fail
    go_ret2
    exact ⟨rfl, m, HT.out⟩
end
theorem act_calls {w : World} {b n : Nat} {C : Srv.Cf} {cl : Nat → Cli.Cl} {s : Sn} {m : SM} (h : SesAt w b n C cl s m) (hC : Cast C cl n) (ok : SnOk C cl n s) (hB : FlB s) (k x y : Int) (hx : inI x) (hy : inI y) (st : ByteArray) (hst : st.size ≤ maxLen) (fg : Bool) :
    Calls Tryz.prog 12 #[.pointer (some ⟨b, 0, none⟩), .agg #[.int .i64 C.N, .int .i64 C.T, .int .i64 C.M, .int .i64 C.D], .agg #[.int .i64 k, .int .i64 x, .int .i64 y, .string st], .bool fg] w fun e w' => ∃ v, e = .returned (.tuple #[v, .bool true]) ∧ Acted w w' b n C cl (actN C cl n fg s ⟨k, x, y, bl st⟩) m v (actD s ⟨k, x, y, bl st⟩) := by
  have hn := hC.le
  have none_ : ∀ s' w', k ≠ 1 ∨ s.fl.length = 0 → (∃ m', SesTook w w' b n C cl s' m m') → Acted w w' b n C cl s' m (.slice none 0 0) (actD s ⟨k, x, y, bl st⟩) := fun s' w' hk ⟨m', ht⟩ => by
    have hd : actD s ⟨k, x, y, bl st⟩ = none := by
      unfold actD
      by_cases c : k = 1
      · rcases hk with q | q
        · exact absurd c q
        · rw [if_pos c, List.length_eq_zero_iff.1 q]; rfl
      · exact if_neg c
    exact ⟨⟨m', ht, fun g o k c e => (by cases e)⟩, ⟨w.heap.size, Nat.le_refl _, by rw [hd]; rfl⟩⟩
  by_cases h0 : s.fl.length = 0
  · by_cases k13 : k = 1 ∨ k = 2 ∨ k = 3
    · have e : actN C cl n fg s ⟨k, x, y, bl st⟩ = s := by
        unfold actN
        rcases k13 with q | q | q
        · rw [if_pos q, if_pos h0]
        · rw [if_neg (by show ¬ k = 1; omega), if_pos q, if_pos h0]
        · rw [if_neg (by show ¬ k = 1; omega), if_neg (by show ¬ k = 2; omega), if_pos q, if_pos h0]
      rw [e]
      exact (act_empty h ok _ _ _ _ k x y st fg k13 h0).mono (fun e w' ⟨h1, h2⟩ => ⟨_, h1, none_ _ _ (.inr h0) h2⟩)
    · by_cases k4 : k = 4
      · subst k4
        exact (act_inject h ok _ _ _ _ x y st fg hy hC.num hn.2 hst).mono (fun e w' ⟨h1, h2⟩ => ⟨_, h1, none_ _ _ (.inr h0) h2⟩)
      by_cases k5 : k = 5
      · subst k5
        exact (act_tick h ok _ _ _ _ x y st fg).mono (fun e w' ⟨h1, h2⟩ => ⟨_, h1, none_ _ _ (.inr h0) h2⟩)
      by_cases k6 : k = 6
      · subst k6
        exact (act_crash h ok _ _ _ _ x y st fg hx hC.num hn).mono (fun e w' ⟨h1, h2⟩ => ⟨_, h1, none_ _ _ (.inr h0) h2⟩)
      have e : actN C cl n fg s ⟨k, x, y, bl st⟩ = s := by
        unfold actN
        rw [if_neg (by show ¬ k = 1; omega), if_neg (by show ¬ k = 2; omega), if_neg (by show ¬ k = 3; omega), if_neg (by show ¬ k = 4; omega), if_neg (by show ¬ k = 5; omega), if_neg (by show ¬ k = 6; omega)]
      rw [e]
      exact (act_skip h ok _ _ _ _ k x y st fg (by omega) (by omega) (by omega) k4 k5 k6).mono (fun e w' ⟨h1, h2⟩ => ⟨_, h1, none_ _ _ (.inr h0) h2⟩)
  · have hp : 0 < s.fl.length := by omega
    by_cases k1 : k = 1
    · subst k1
      have e : actN C cl n fg s ⟨1, x, y, bl st⟩ = deliverN C cl n s (Num.pickN x s.fl.length) := by unfold actN; rw [if_pos rfl, if_neg h0]
      have e2 : actD s ⟨1, x, y, bl st⟩ = s.fl[(Num.pickN x s.fl.length).toNat]? := if_pos rfl
      rw [e, e2]
      exact act_deliver h ok hB _ _ _ _ x y hx st fg hp
    by_cases k2 : k = 2
    · subst k2
      have e : actN C cl n fg s ⟨2, x, y, bl st⟩ = dropN s (Num.pickN x s.fl.length) := by unfold actN; rw [if_neg (by show ¬ (2 : Int) = 1; omega), if_pos rfl, if_neg h0]
      rw [e]
      exact (act_drop h ok _ _ _ _ x y st fg hx hp).mono (fun e w' ⟨h1, h2⟩ => ⟨_, h1, none_ _ _ (.inl k1) h2⟩)
    by_cases k3 : k = 3
    · subst k3
      have e : actN C cl n fg s ⟨3, x, y, bl st⟩ = doubleN s (Num.pickN x s.fl.length) := by unfold actN; rw [if_neg (by show ¬ (3 : Int) = 1; omega), if_neg (by show ¬ (3 : Int) = 2; omega), if_pos rfl, if_neg h0]
      rw [e]
      exact (act_double h ok _ _ _ _ x y st fg hx hp).mono (fun e w' ⟨h1, h2⟩ => ⟨_, h1, none_ _ _ (.inl k1) h2⟩)
    by_cases k4 : k = 4
    · subst k4
      exact (act_inject h ok _ _ _ _ x y st fg hy hC.num hn.2 hst).mono (fun e w' ⟨h1, h2⟩ => ⟨_, h1, none_ _ _ (.inl k1) h2⟩)
    by_cases k5 : k = 5
    · subst k5
      exact (act_tick h ok _ _ _ _ x y st fg).mono (fun e w' ⟨h1, h2⟩ => ⟨_, h1, none_ _ _ (.inl k1) h2⟩)
    by_cases k6 : k = 6
    · subst k6
      exact (act_crash h ok _ _ _ _ x y st fg hx hC.num hn).mono (fun e w' ⟨h1, h2⟩ => ⟨_, h1, none_ _ _ (.inl k1) h2⟩)
    have e : actN C cl n fg s ⟨k, x, y, bl st⟩ = s := by
      unfold actN
      rw [if_neg k1, if_neg k2, if_neg k3, if_neg k4, if_neg k5, if_neg k6]
    rw [e]
    exact (act_skip h ok _ _ _ _ k x y st fg k1 k2 k3 k4 k5 k6).mono (fun e w' ⟨h1, h2⟩ => ⟨_, h1, none_ _ _ (.inl k1) h2⟩)
end Go.Proofs.YtchideljndagjabGreat
namespace Go.Proofs.YtchideljndagjabGreat
open Go.ChangeShapes Go.WideShapes Go.ChangeAt Go.RowKit
set_option linter.unusedVariables false
def ParAt2 (w : World) (B : Nat) (own : Nat → Prop) (v : Value) : Option Pk → Prop
  | none => v = .slice none 0 0
  | some p => ∃ g o c y, v = .slice (some ⟨g, o, none⟩) 1 c ∧ 1 ≤ c ∧ c ≤ 9223372036854775807 ∧ B ≤ g ∧ g < w.heap.size ∧ w.cell? ⟨g, o, none⟩ = some (.int .i64 p.1) ∧ w.cell? ⟨g, o + 1, none⟩ = some (.int .i64 p.2.1) ∧ w.cell? ⟨g, o + 2, none⟩ = some y ∧ BytesAt w y p.2.2 ∧ ¬ own g ∧ ∀ x, y.ownBlock = some x → B ≤ x ∧ x < w.heap.size ∧ ¬ own x
def Acted2 (w w' : World) (b n : Nat) (C : Srv.Cf) (cl : Nat → Cli.Cl) (s' : Sn) (m : SM) (v : Value) (op : Option Pk) : Prop := ∃ m', SesTook w w' b n C cl s' m m' ∧ ∃ B, w.heap.size ≤ B ∧ ParAt2 w' B (SesOwn b m') v op
theorem par_keep2 {w1 w2 : World} {b n : Nat} {C : Srv.Cf} {cl : Nat → Cli.Cl} {s' : Sn} {m m' : SM} {B : Nat} {v : Value} {vs : List Value} {ps : List Pk} (hp : Packs w1 B v vs ps) (hB : ∀ p ∈ ps, Frm.isB p.2.2) (ht : SesTook w1 w2 b n C cl s' m m') (hm : ∀ x, SesOwn b m x → x < B)
    {j : Nat} {p : Pk} (hj : ps[j]? = some p) : ∃ g c y, v = .slice (some ⟨g, 0, none⟩) ps.length c ∧ ps.length ≤ c ∧ c ≤ 9223372036854775807 ∧ B ≤ g ∧ g < w2.heap.size ∧ w2.cell? ⟨g, j * 3, none⟩ = some (.int .i64 p.1) ∧ w2.cell? ⟨g, j * 3 + 1, none⟩ = some (.int .i64 p.2.1) ∧ w2.cell? ⟨g, j * 3 + 2, none⟩ = some y ∧ BytesAt w2 y p.2.2 ∧ (∀ x, y.ownBlock = some x → B ≤ x ∧ x < w2.heap.size ∧ ¬ SesOwn b m' x) ∧ ¬ SesOwn b m' g := by
  have z := ht.chg.size
  obtain ⟨a, c, e1, e2, e3, e4⟩ := hp.viewK
  obtain ⟨g, y, f1, f2, f3, f4, f5, f6, f7⟩ := e4 j p hj
  have hg := hp.low g (.inl (by rw [e1, f1]; rfl))
  have hbl : ∀ x, B ≤ x → x < w1.heap.size → w2.heap[x]? = w1.heap[x]? := fun x h1 h2 => ht.chg.block x h2 (fun e => by have := hm x e; omega)
  have hgb := hbl g hg.1 hg.2
  have nown : ∀ x, B ≤ x → x < w1.heap.size → ¬ SesOwn b m' x := fun x h1 h2 e => by
    rcases ht.own x e with q | q
    · have := hm x q; omega
    · omega
  refine ⟨g, c, y, by rw [e1, f1], e2, e3, hg.1, by omega, (World.cell?_of_block (w := w1) (a := ⟨g, j * 3, none⟩) hgb).trans f4, (World.cell?_of_block (w := w1) (a := ⟨g, j * 3 + 1, none⟩) hgb).trans f5, (World.cell?_of_block (w := w1) (a := ⟨g, j * 3 + 2, none⟩) hgb).trans f6, (bytesAt_of_owns f7 (hB p (List.mem_of_getElem? hj))).keepS z (fun x hx => hbl x (f7.lt x hx).1 (f7.lt x hx).2), fun x hx => ⟨(f7.lt x hx).1, Nat.lt_of_lt_of_le (f7.lt x hx).2 z, nown x (f7.lt x hx).1 (f7.lt x hx).2⟩, nown g hg.1 hg.2⟩

section
variable {w : World} {b n : Nat} {C : Srv.Cf} {cl : Nat → Cli.Cl} {s : Sn} {m : SM}
set_option maxHeartbeats 2000000 in
set_option maxRecDepth 100000 in
theorem act_deliver2 (h : SesAt w b n C cl s m) (ok : SnOk C cl n s) (hB : FlB s) (N T M D x y : Int) (hx : inI x) (st : ByteArray) (fg : Bool) (h0 : 0 < s.fl.length) :
    Calls Tryz.prog 12 #[.pointer (some ⟨b, 0, none⟩), .agg #[.int .i64 N, .int .i64 T, .int .i64 M, .int .i64 D], .agg #[.int .i64 1, .int .i64 x, .int .i64 y, .string st], .bool fg] w fun e w' => ∃ v, e = .returned (.tuple #[v, .bool true]) ∧ Acted2 w w' b n C cl (deliverN C cl n s (Num.pickN x s.fl.length)) m v (s.fl[(Num.pickN x s.fl.length).toNat]?) := by
  have HFL := hideG (fun (W : World) (hb : Below w.heap.size w W) => flight_at h ok hb)
  obtain ⟨a1, a2, a3⟩ := pick_in (c := x) h0
  obtain ⟨i, hi⟩ : ∃ i : Nat, (i : Int) = Num.pickN x s.fl.length := ⟨(Num.pickN x s.fl.length).toNat, by omega⟩
  have hil : i < s.fl.length := by omega
  have HDE := hideG (fun (W : World) (hb : Below w.heap.size w W) => vDeliver (h.below hb) ok (i : Int))
  have e0 : deliverE s (i : Int) = 0 := by unfold deliverE; rw [if_pos ⟨by omega, by omega⟩]
  rw [e0] at HDE
  have HPK := hideG (fun (W : World) => pick_calls x s.fl.length W hx.1 hx.2 (by omega) (by have := ok.fl; omega))
  rw [← hi] at HPK ⊢
  rw [show ((i : Int)).toNat = i by omega, List.getElem?_eq_getElem hil]
  have HG := hideG (List.getElem?_eq_getElem hil)
  have HLO := hideG (fun x (hx : SesOwn b m x) => h.low (.inl hx : SesFoot b n m x))
  have HFB := hideG hB
  have hlen : s.fl.length ≤ 300 := by have := ok.fl; omega
  obtain ⟨p, hp⟩ : ∃ p, p = s.fl[i] := ⟨_, rfl⟩
  rw [← hp] at HG ⊢
  have B0 := hideG (actW_below w N T M D 1 x y st)
  have z0 := actW_size w N T M D 1 x y st
  have HR := hideG (fun (W : World) hb => actW_rows (w := w) (W := W) (N := N) (T := T) (M := M) (D := D) (k := 1) (x := x) (y := y) (st := st) hb)
  obtain ⟨W0, hW0⟩ : ∃ W0, W0 = actW w N T M D 1 x y st := ⟨_, rfl⟩
  rw [← hW0] at B0 z0 HR
  unfold actW at hW0
  have HW0 := hideG hW0
  clear h ok hB hW0 a1 a2 a3 hi e0 hp h0
  obtain ⟨L, hL⟩ : ∃ L, L = s.fl.length := ⟨_, rfl⟩
  have HLL := hideG hL
  rw [← hL] at hil hlen HPK
  go_enter Tryz.func12, Tryz.ntmps12
  go_upto_region 1 with fail
  rw [← HW0.out]
  go_wp2_with fail
  refine (HFL.out W0 B0.out).mono ?_
  rintro e w1 ⟨v, vs, rfl, hpk, hb1⟩
  obtain ⟨q0, q1, q2, q3, q4⟩ := HR.out w1 hb1
  have z1 := hb1.size
  have B1 := hideG (B0.out.trans (hb1.mono (by omega)))
  have HDW := hideG (HDE.out w1 B1.out)
  have HPR := hideG hpk
  obtain ⟨av, cv, hv, hlc, hcm, -⟩ := hpk.viewK
  rw [← hL] at hv hlc
  have HV := hideG hv
  rw [hv]
  clear hpk hb1 hL hv
  have l0 : (0 : Int) < (L : Int) := by omega
  have hiL : (i : Int) < (L : Int) := by omega
  go_wp2_with fail
  refine (HPK.out w1).mono ?_
  rintro e w' ⟨rfl, rfl⟩
  go_wp2_with fail
  refine HDW.out.mono ?_
  rintro e w2 ⟨rfl, m', ht⟩
  have PK := hideG (par_keep2 HPR.out HFB.out ht (fun x hx => Nat.lt_of_lt_of_le (HLO.out x hx) (by omega)) HG.out)
  have HT := hideG (ht.after B1.out)
  clear ht
  obtain ⟨g, c, yv, f1, f2, f3, f4, f5, f6, f7, f8, f9, f10, f11⟩ := PK.out
  rw [HV.out, ← HLL.out] at f1
  obtain ⟨rfl, rfl⟩ : av = some ⟨g, 0, none⟩ ∧ cv = c := by injection f1 with q1 q2 q3; exact ⟨q1, q3⟩
  have HP2 := hideG (And.intro f4 (And.intro f5 (And.intro f6 (And.intro f7 (And.intro f8 (And.intro f9 (And.intro f10 f11)))))))
  clear f1 f4 f5 f6 f7 f8 f9 f10 f11 q0 q1 q2 q3 q4
  go_wp2_with fail
  go_ret2
  obtain ⟨f4, f5, f6, f7, f8, f9, f10, f11⟩ := HP2.out
  refine ⟨_, rfl, m', HT.out, W0.heap.size, by omega, g, i * 3, cv - i, yv, ?_, by omega, by omega, f4, f5, f6, f7, f8, f9, f11, f10⟩
  congr 1
  all_goals (first | rfl | omega | (congr 2; omega))
end
theorem act_calls2 {w : World} {b n : Nat} {C : Srv.Cf} {cl : Nat → Cli.Cl} {s : Sn} {m : SM} (h : SesAt w b n C cl s m) (hC : Cast C cl n) (ok : SnOk C cl n s) (hB : FlB s) (k x y : Int) (hx : inI x) (hy : inI y) (st : ByteArray) (hst : st.size ≤ maxLen) (fg : Bool) :
    Calls Tryz.prog 12 #[.pointer (some ⟨b, 0, none⟩), .agg #[.int .i64 C.N, .int .i64 C.T, .int .i64 C.M, .int .i64 C.D], .agg #[.int .i64 k, .int .i64 x, .int .i64 y, .string st], .bool fg] w fun e w' => ∃ v, e = .returned (.tuple #[v, .bool true]) ∧ Acted2 w w' b n C cl (actN C cl n fg s ⟨k, x, y, bl st⟩) m v (actD s ⟨k, x, y, bl st⟩) := by
  by_cases hk : k = 1 ∧ 0 < s.fl.length
  · obtain ⟨rfl, hp⟩ := hk
    have e : actN C cl n fg s ⟨1, x, y, bl st⟩ = deliverN C cl n s (Num.pickN x s.fl.length) := by unfold actN; rw [if_pos rfl, if_neg (by omega)]
    have e2 : actD s ⟨1, x, y, bl st⟩ = s.fl[(Num.pickN x s.fl.length).toNat]? := if_pos rfl
    rw [e, e2]
    exact act_deliver2 h ok hB _ _ _ _ x y hx st fg hp
  · refine (act_calls h hC ok hB k x y hx hy st hst fg).mono (fun e w' ⟨v, h1, h2⟩ => ⟨v, h1, ?_⟩)
    have hd : actD s ⟨k, x, y, bl st⟩ = none := by
      unfold actD
      by_cases c : k = 1
      · rw [if_pos c, List.length_eq_zero_iff.1 (by omega : s.fl.length = 0)]; rfl
      · exact if_neg c
    obtain ⟨⟨m', ht, _⟩, B, hB1, hp⟩ := h2
    rw [hd] at hp ⊢
    exact ⟨m', ht, B, hB1, hp⟩
end Go.Proofs.YtchideljndagjabGreat
namespace Go.Proofs.YtchideljndagjabGreat
open Go.ChangeShapes Go.WideShapes Go.ChangeAt Go.RowKit
set_option linter.unusedVariables false
def idV (C : Srv.Cf) (vd va vb : Value) (I : Idl) (t : Nat) : Value :=
  if t = 0 then .int .i64 C.N else if t = 1 then .int .i64 C.T else if t = 2 then .int .i64 C.M else if t = 3 then .int .i64 C.D
  else if t = 4 then vd else if t = 5 then .int .i64 I.tm else if t = 6 then .int .i64 I.out.1 else if t = 7 then .int .i64 I.out.2.1
  else if t = 8 then va else if t = 9 then vb else if t = 10 then .int .i64 (I.rd : Int) else .bool (I.got ((t - 11) / 13) ((t - 11) % 13))
def IdAt (w : World) (g : Nat) (C : Srv.Cf) (vd va vb : Value) (I : Idl) : Prop := FRow w g 40 63 (idV C vd va vb I)
section
variable {w w' : World} {g : Nat} {C : Srv.Cf} {vd va vb : Value} {I : Idl}
theorem IdAt.lt (h : IdAt w g C vd va vb I) : g < w.heap.size := FRow.lt h
theorem IdAt.block (h : IdAt w g C vd va vb I) (e : w'.heap[g]? = w.heap[g]?) : IdAt w' g C vd va vb I := FRow.block h e
theorem IdAt.below (h : IdAt w g C vd va vb I) (hb : Below w.heap.size w w') : IdAt w' g C vd va vb I := h.block (hb.block g h.lt)
theorem IdAt.cells (h : IdAt w g C vd va vb I) : w.cell? ⟨g, 0, none⟩ = some (.int .i64 C.N) ∧ w.cell? ⟨g, 1, none⟩ = some (.int .i64 C.T) ∧ w.cell? ⟨g, 2, none⟩ = some (.int .i64 C.M) ∧ w.cell? ⟨g, 3, none⟩ = some (.int .i64 C.D) ∧ w.cell? ⟨g, 4, none⟩ = some vd ∧ w.cell? ⟨g, 5, none⟩ = some (.int .i64 I.tm) ∧ w.cell? ⟨g, 6, none⟩ = some (.int .i64 I.out.1) ∧ w.cell? ⟨g, 7, none⟩ = some (.int .i64 I.out.2.1) ∧ w.cell? ⟨g, 8, none⟩ = some va ∧ w.cell? ⟨g, 9, none⟩ = some vb ∧ w.cell? ⟨g, 10, none⟩ = some (.int .i64 (I.rd : Int)) :=
  ⟨FRow.cell h 0 (by omega), FRow.cell h 1 (by omega), FRow.cell h 2 (by omega), FRow.cell h 3 (by omega), FRow.cell h 4 (by omega), FRow.cell h 5 (by omega), FRow.cell h 6 (by omega), FRow.cell h 7 (by omega), FRow.cell h 8 (by omega), FRow.cell h 9 (by omega), FRow.cell h 10 (by omega)⟩
theorem idV_got (C : Srv.Cf) (vd va vb : Value) (I : Idl) (r u : Nat) (hu : u < 13) : idV C vd va vb I (11 + r * 13 + u) = .bool (I.got r u) := by
  unfold idV
  rw [if_neg (by omega), if_neg (by omega), if_neg (by omega), if_neg (by omega), if_neg (by omega), if_neg (by omega), if_neg (by omega), if_neg (by omega), if_neg (by omega), if_neg (by omega), if_neg (by omega), show (11 + r * 13 + u - 11) / 13 = r by omega, show (11 + r * 13 + u - 11) % 13 = u by omega]
theorem IdAt.got (h : IdAt w g C vd va vb I) (r u : Nat) (hr : r < 4) (hu : u < 13) : w.cell? ⟨g, 11 + r * 13 + u, none⟩ = some (.bool (I.got r u)) := by
  rw [FRow.cell h _ (by omega), idV_got _ _ _ _ _ _ _ hu]
theorem IdAt.froz (h : IdAt w g C vd va vb I) (t : Nat) : w.frozen? ⟨g, t, none⟩ = false := FRow.froz h t
theorem IdAt.hear (h : IdAt w g C vd va vb I) (r u : Nat) (hr : r < 4) (hu : u < 13) : IdAt (w.setCell ⟨g, 11 + r * 13 + u, none⟩ (.bool true)) g C vd va vb { I with got := upd2 I.got r u } := by
  refine FRow.upd h (11 + r * 13 + u) (by omega) _ ?_ (fun t ht hne => ?_)
  · rw [idV_got _ _ _ _ _ _ _ hu]
    show Value.bool (I.got r u || decide (r = r ∧ u = u)) = _
    simp
  · by_cases c : t < 11
    · have hd : t = 0 ∨ t = 1 ∨ t = 2 ∨ t = 3 ∨ t = 4 ∨ t = 5 ∨ t = 6 ∨ t = 7 ∨ t = 8 ∨ t = 9 ∨ t = 10 := by omega
      rcases hd with rfl | rfl | rfl | rfl | rfl | rfl | rfl | rfl | rfl | rfl | rfl <;> rfl
    · obtain ⟨r', u', hu', rfl⟩ : ∃ r' u', u' < 13 ∧ t = 11 + r' * 13 + u' := ⟨(t - 11) / 13, (t - 11) % 13, by omega, by omega⟩
      rw [idV_got _ _ _ _ _ _ _ hu', idV_got _ _ _ _ _ _ _ hu']
      show Value.bool (I.got r' u' || decide (r' = r ∧ u' = u)) = _
      rw [decide_eq_false (fun e => hne (by rw [e.1, e.2])), Bool.or_false]
theorem IdAt.row (h : IdAt w g C vd va vb I) (r : Nat) (hr : r < 4) : w.rangeAt g (11 + r * 13) (bl13 (I.got r)) := by
  intro j v hv
  have hj : j < 13 := by
    by_cases c : j < 13
    · exact c
    · rw [List.getElem?_eq_none (by rw [bl13_length]; omega)] at hv; cases hv
  rw [h.got r j hr hj, ← bl13_get _ j hj, hv]
end
set_option maxHeartbeats 2000000 in
set_option maxRecDepth 100000 in
theorem khears_calls {w : World} {g : Nat} {N T M D : Int} {vd va vb : Value} {I : Idl} (h : IdAt w g ⟨N, T, M, D⟩ vd va vb I) (hrd : I.rd ≤ 4) (hN : 1 ≤ N ∧ N ≤ 12) (p0 pt : Int) (y : Value) (E : List Int) (hy : BytesAt w y E) :
    Calls Tryz.prog 13 #[.pointer (some ⟨g, 0, none⟩), .agg #[.int .i64 p0, .int .i64 pt, y]] w fun e w' => e = .returned (.tuple #[]) ∧ Chg (fun x => x = g) w w' ∧ IdAt w' g ⟨N, T, M, D⟩ vd va vb (hearsN ⟨N, T, M, D⟩ I (p0, pt, E)) := by
  obtain ⟨W0, hW0⟩ : ∃ W0, W0 = w.alloc (.cells #[.int .i64 p0, .int .i64 pt, y] 49) := ⟨_, rfl⟩
  have B0 : Below w.heap.size w W0 := by rw [hW0]; exact (Below.refl _ _).alloc (Nat.le_refl _) _
  have z0 : w.heap.size < W0.heap.size := by rw [hW0]; simp
  have HR := hideG (show W0.heap[w.heap.size]? = some (.cells #[.int .i64 p0, .int .i64 pt, y] 49 (0, 0)) by rw [hW0]; exact heap_alloc_new w _)
  have I0 := hideG (h.below B0)
  have hgl := h.lt
  have hgl0 := I0.out.lt
  have C0 := hideG (Chg.of_below (S := fun x => x = g) B0)
  have hy0 := hy.below B0
  obtain ⟨ay, cy, hyv, y1, y2, y3, y4⟩ := bytes_view hy0
  have HY := hideG y4
  have HIS := hideG y3
  rw [hyv] at hW0 HR ⊢
  have HW0 := hideG hW0
  have g0 : W0.cell? ⟨w.heap.size, 0, none⟩ = some (.int .i64 p0) := (cell_of_row W0 _ 0 _ _ (0, 0) HR.out).trans rfl
  have g1 : W0.cell? ⟨w.heap.size, 1, none⟩ = some (.int .i64 pt) := (cell_of_row W0 _ 1 _ _ (0, 0) HR.out).trans rfl
  have g2 : W0.cell? ⟨w.heap.size, 2, none⟩ = some (.slice ay E.length cy) := (cell_of_row W0 _ 2 _ _ (0, 0) HR.out).trans rfl
  obtain ⟨i0, i1, i2, i3, i4, i5, i6, i7, i8, i9, i10⟩ := I0.out.cells
  have HN0 := hideG (fun (q : ¬ (pt = 0 ∧ I.out.1 = 0 ∧ I.rd ≤ 3 ∧ E.length ≠ 0 ∧ 1 ≤ p0 ∧ p0 ≤ N)) => (show hearsN ⟨N, T, M, D⟩ I (p0, pt, E) = I by
    unfold hearsN hearsB
    rw [decide_eq_false q]; rfl))
  have HN1 := hideG (fun (q : pt = 0 ∧ I.out.1 = 0 ∧ I.rd ≤ 3 ∧ E.length ≠ 0 ∧ 1 ≤ p0 ∧ p0 ≤ N) => (show hearsN ⟨N, T, M, D⟩ I (p0, pt, E) = if E.getD 0 0 = 2 * (I.rd : Int) + 1 then { I with got := upd2 I.got I.rd p0.toNat } else I by
    unfold hearsN hearsB
    rw [decide_eq_true q, Bool.true_and]
    simp only [decide_eq_true_eq]))
  have hib : Frm.bAt E 0 = E.getD 0 0 := by first | rfl | (unfold Frm.bAt; rfl) | simp [Frm.bAt]
  have HST := hideG (fun (u : Nat) (hr : I.rd < 4) (hu : u < 13) => I0.out.hear I.rd u hr hu)
  have HFZ := hideG (I0.out.froz)
  have HGT := hideG (I0.out.got)
  clear hW0 B0 hy hy0 h y3 y4
  go_enter Tryz.func13, Tryz.ntmps13
  go_upto_region 1 with fail
  rw [← HW0.out]
  obtain ⟨tm, rd, ⟨st, ro, ls, us⟩, got⟩ := I
  dsimp only at i5 i6 i7 i10 hrd HN0 HN1 HST HGT
  obtain ⟨nE, hnE⟩ : ∃ nE, nE = E.length := ⟨_, rfl⟩
  rw [← hnE] at g2 HY HN0 HN1 y1
  have HNE := hideG hnE
  clear hnE
  by_cases c1 : pt = 0
  rotate_left
  · have c1' : (pt != 0) = true := by simpa using c1
    have FIN := hideG (HN0.out (fun q => c1 q.1))
    clear c1
    go_quiet (fail)
    go_wp2_with fail
    (try simp only [Exit.inBlock, Exit.then])
    refine bodyPost_ret (results_none rfl _ _ _) rfl ?_
    exact ⟨rfl, C0.out.grow (below_drewN _ _), by rw [FIN.out]; exact I0.out.below (below_drewN _ _)⟩
  · by_cases c2 : st = 0
    rotate_left
    · have c1' : (pt != 0) = false := by simpa using c1
      have c2' : (st != 0) = true := by simpa using c2
      have FIN := hideG (HN0.out (fun q => c2 q.2.1))
      clear c1 c2
      go_quiet (fail)
      go_wp2_with fail
      (try simp only [Exit.inBlock, Exit.then])
      refine bodyPost_ret (results_none rfl _ _ _) rfl ?_
      exact ⟨rfl, C0.out.grow (below_drewN _ _), by rw [FIN.out]; exact I0.out.below (below_drewN _ _)⟩
    · have c1' : (pt != 0) = false := by simpa using c1
      have c2' : (st != 0) = false := by simpa using c2
      by_cases c3 : rd ≤ 3
      rotate_left
      · have c3' : decide (3 < (rd : Int)) = true := decide_eq_true (by omega)
        have c3x : decide (3 < rd) = true := decide_eq_true (by omega)
        have FIN := hideG (HN0.out (fun q => c3 q.2.2.1))
        clear c1 c2 c3
        go_quiet (fail)
        go_wp2_with fail
        (try simp only [Exit.inBlock, Exit.then])
        refine bodyPost_ret (results_none rfl _ _ _) rfl ?_
        exact ⟨rfl, C0.out.grow (below_drewN _ _), by rw [FIN.out]; exact I0.out.below (below_drewN _ _)⟩
      · have c3' : decide (3 < (rd : Int)) = false := decide_eq_false (by omega)
        have c3x : decide (3 < rd) = false := decide_eq_false (by omega)
        by_cases c4 : nE = 0
        · have c4' : ((nE : Int) == 0) = true := by simp; omega
          have c4x : (nE == 0) = true := by simpa using c4
          have c4y : decide (nE = 0) = true := decide_eq_true c4
          have FIN := hideG (HN0.out (fun q => q.2.2.2.1 c4))
          clear c1 c2 c3 c4
          go_quiet (fail)
          go_wp2_with fail
          (try simp only [Exit.inBlock, Exit.then])
          refine bodyPost_ret (results_none rfl _ _ _) rfl ?_
          exact ⟨rfl, C0.out.grow (below_drewN _ _), by rw [FIN.out]; exact I0.out.below (below_drewN _ _)⟩
        · have c4' : ((nE : Int) == 0) = false := by simp; omega
          have c4x : (nE == 0) = false := by simpa using c4
          have c4y : decide (nE = 0) = false := decide_eq_false c4
          by_cases c5 : 1 ≤ p0
          rotate_left
          · have c5' : decide (p0 < 1) = true := decide_eq_true (by omega)
            have FIN := hideG (HN0.out (fun q => c5 q.2.2.2.2.1))
            clear c1 c2 c3 c4 c5
            go_quiet (fail)
            go_wp2_with fail
            (try simp only [Exit.inBlock, Exit.then])
            refine bodyPost_ret (results_none rfl _ _ _) rfl ?_
            exact ⟨rfl, C0.out.grow (below_drewN _ _), by rw [FIN.out]; exact I0.out.below (below_drewN _ _)⟩
          · have c5' : decide (p0 < 1) = false := decide_eq_false (by omega)
            by_cases c6 : p0 ≤ N
            rotate_left
            · have c6' : decide (N < p0) = true := decide_eq_true (by omega)
              have FIN := hideG (HN0.out (fun q => c6 q.2.2.2.2.2))
              clear c1 c2 c3 c4 c5 c6
              go_quiet (fail)
              go_wp2_with fail
              (try simp only [Exit.inBlock, Exit.then])
              refine bodyPost_ret (results_none rfl _ _ _) rfl ?_
              exact ⟨rfl, C0.out.grow (below_drewN _ _), by rw [FIN.out]; exact I0.out.below (below_drewN _ _)⟩
            · have c6' : decide (N < p0) = false := decide_eq_false (by omega)
              have HN2 := hideG (HN1.out ⟨c1, c2, c3, c4, c5, c6⟩)
              obtain ⟨yb, yo, rfl, yl, yc⟩ := HY.out 0 (by omega)
              rw [Nat.add_zero, hib] at yc
              have hE0 : 0 < E.length := by have := HNE.out; omega
              have hzr := HIS.out (E.getD 0 0) (by rw [List.getD_eq_getElem?_getD, List.getElem?_eq_getElem hE0]; exact List.getElem_mem hE0)
              obtain ⟨z, hz⟩ : ∃ z, z = E.getD 0 0 := ⟨_, rfl⟩
              rw [← hz] at yc HN2 hzr
              have hp13 : 0 ≤ p0 ∧ p0 < 13 := by omega
              have hr4 : (rd : Int) < 4 := by omega
              have hnE : 0 < (nE : Int) := by omega
              have ST := hideG (HST.out p0.toNat (by omega) (by omega))
              have gt := HGT.out rd p0.toNat (by omega) (by omega)
              have fz := HFZ.out (11 + rd * 13 + p0.toNat)
              clear c1 c2 c3 c4 c5 c6 hz HN0 HN1 HST HGT HFZ hib hE0
              go_quiet (fail)
              go_upto_region 2 with fail
              by_cases d : z = 2 * (rd : Int) + 1
              · have d' : (z == 2 * (rd : Int) + 1) = true := by simpa using d
                have FIN := hideG (HN2.out.trans (if_pos d))
                clear d
                go_quiet (fail)
                go_upto_region 3 with fail
                go_region
                all_goals (go_end0; exact ⟨rfl, (C0.out.grow (below_drewN _ _)).trans (Chg.setCell _ _ _) (fun _ e _ => e), by rw [FIN.out]; exact IdAt.hear (I0.out.below (below_drewN _ _)) rd p0.toNat (by omega) (by omega)⟩)
              · have d' : (z == 2 * (rd : Int) + 1) = false := by simpa using d
                have FIN := hideG (HN2.out.trans (if_neg d))
                clear d
                go_quiet (fail)
                go_wp2_with fail
                (try simp only [Exit.inBlock, Exit.then])
                go_end0
                exact ⟨rfl, C0.out.grow (below_drewN _ _), by rw [FIN.out]; exact I0.out.below (below_drewN _ _)⟩
end Go.Proofs.YtchideljndagjabGreat
namespace Go.Proofs.YtchideljndagjabGreat
open Go.ChangeShapes Go.WideShapes Go.ChangeAt Go.RowKit
set_option linter.unusedVariables false
def IntsRow (w : World) (g n : Nat) (r : Nat → Int) : Prop := w.heap[g]? = some (.cells ((List.range n).map fun t => Value.int .i64 (r t)).toArray 3 (0, 0))
theorem rowF_get (n : Nat) (r : Nat → Int) (t : Nat) (ht : t < n) : ((List.range n).map fun t => Value.int .i64 (r t))[t]? = some (.int .i64 (r t)) := by
  rw [List.getElem?_map, List.getElem?_range ht]; rfl
theorem IntsRow.cell {w : World} {g n : Nat} {r : Nat → Int} (h : IntsRow w g n r) (t : Nat) (ht : t < n) : w.cell? ⟨g, t, none⟩ = some (.int .i64 (r t)) := by
  rw [cell_of_row w g t _ _ (0, 0) h, List.getElem?_toArray]; exact rowF_get n r t ht
theorem IntsRow.froz {w : World} {g n : Nat} {r : Nat → Int} (h : IntsRow w g n r) (t : Nat) : w.frozen? ⟨g, t, none⟩ = false := frozen_of_row w g t _ _ h
theorem IntsRow.lt {w : World} {g n : Nat} {r : Nat → Int} (h : IntsRow w g n r) : g < w.heap.size := by
  by_cases hb : g < w.heap.size
  · exact hb
  · unfold IntsRow at h; rw [Array.getElem?_eq_none (by omega)] at h; cases h
theorem IntsRow.block {w w' : World} {g n : Nat} {r : Nat → Int} (h : IntsRow w g n r) (e : w'.heap[g]? = w.heap[g]?) : IntsRow w' g n r := e.trans h
theorem IntsRow.ext {w : World} {g n : Nat} {r r' : Nat → Int} (h : IntsRow w g n r) (e : ∀ t, t < n → r t = r' t) : IntsRow w g n r' := by
  unfold IntsRow at h ⊢
  rw [h]
  congr 3
  apply List.map_congr_left
  intro t ht
  rw [e t (List.mem_range.1 ht)]
theorem IntsRow.set {w : World} {g n : Nat} {r r' : Nat → Int} (h : IntsRow w g n r) (t : Nat) (ht : t < n) (z : Int) (hz : r' t = z) (e : ∀ u, u < n → u ≠ t → r' u = r u) : IntsRow (w.setCell ⟨g, t, none⟩ (.int .i64 z)) g n r' := by
  have := heap_setCell_same w g t _ _ (.int .i64 z) h
  unfold IntsRow
  rw [this, List.setIfInBounds_toArray]
  congr 3
  apply List.ext_getElem?
  intro u
  rw [List.getElem?_set]
  by_cases hu : u < n
  · rw [rowF_get n r' u hu]
    by_cases ee : t = u
    · subst ee; rw [if_pos rfl, if_pos (by simpa using ht), hz]
    · rw [if_neg ee, rowF_get n r u hu, e u hu (fun x => ee x.symm)]
  · rw [List.getElem?_eq_none (by simp; omega)]
    by_cases ee : t = u
    · omega
    · rw [if_neg ee, List.getElem?_eq_none (by simp; omega)]
theorem rrow_of_full {w : World} {B g n : Nat} {e : TypeId} {xs : List Value} (h : w.ownsRow B e 1 (.slice (some ⟨g, 0, none⟩) n n) n xs) : w.heap[g]? = some (.cells xs.toArray e (0, 0)) := by
  have hl := h.1
  rcases h.2 with ⟨e0, _⟩ | ⟨g', cap, cur, e0, _, hg, _, _, hcs, htake⟩
  · cases e0
  · cases e0
    rw [hg]
    congr 2
    have : cur.toList.take (n * 1) = cur.toList := List.take_of_length_le (by simp; omega)
    rw [this] at htake
    rw [← htake]
theorem rep_range (n : Nat) (x : Value) : List.replicate n x = (List.range n).map fun _ => x := by rw [List.map_const', List.length_range]
theorem chg_drew {S : Nat → Prop} {a b : World} (h : Chg S a b) : Chg S a b.drew := h.trans (S' := fun _ => False) ⟨rfl, rfl, rfl, Nat.le_refl _, fun _ _ _ => rfl⟩ (fun _ e _ => e.elim)
theorem IntsRow.drew {w : World} {g n : Nat} {r : Nat → Int} (h : IntsRow w g n r) : IntsRow w.drew g n r := h
end Go.Proofs.YtchideljndagjabGreat
