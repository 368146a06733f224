/- Contracts of package veilkeep: a Masked frame; two masked lists that differ by what the inputs differ by. -/
import Derived.Test.YtchideljndagjaaKAllGr
namespace Go.Proofs.Ytchideljndagjaa
open Go.ChangeShapes Go.WideShapes Go.ChangeAt Go.RowKit
set_option linter.unusedVariables false

theorem kmasks_nil (w : World) : Calls Try.prog 40 #[.slice none 0 0] w fun e w' => e = .returned (.bool false) ∧ w' = w := by
  go_enter Try.func40, Try.ntmps40
  go_wp2_with fail
  go_ret
  exact ⟨rfl, rfl⟩
theorem kmasks_enc (k fr : Int) (l : List Frm.It) (va : Value) (q : Bool) (hq : (k == 5) = q) (w : World) (h : BytesAt w va (Frm.encF k fr l)) :
    Calls Try.prog 40 #[va] w fun e w' => e = .returned (.bool q) ∧ w' = w := by
  obtain ⟨a, cap, rfl, l2, l3, _, hcl⟩ := bytes_view h
  have hln := Frm.encF_length k fr l
  have hL : 3 ≤ (Frm.encF k fr l).length := by omega
  obtain ⟨b, off, rfl, hb, c0⟩ := hcl 0 (by omega)
  have e0 : Frm.bAt (Frm.encF k fr l) 0 = k := rfl
  rw [e0, Nat.add_zero] at c0
  clear h hcl hln e0
  generalize (Frm.encF k fr l).length = L at *
  have hL' : (0 : Int) < (L : Int) := by omega
  have hL0 : 0 < L := by omega
  go_enter Try.func40, Try.ntmps40
  go_wp2_with fail
  go_ret
  exact ⟨ret_bool (by first | rfl | exact hq | simpa using hq), rfl⟩

set_option maxHeartbeats 1000000 in
set_option maxRecDepth 100000 in
theorem kshifted_yes (fr : Int) (l1 l2 : List Frm.It) (inp oth : List Int) (va vb vx vy : Value) (n : Nat) (w : World) (o1 : Frm.okF 5 fr l1 = true) (o2 : Frm.okF 5 fr l2 = true) (h1 : BytesAt w va (Frm.encF 5 fr l1)) (h2 : BytesAt w vb (Frm.encF 5 fr l2)) (hx : ListAt w vx inp) (hy : ListAt w vy oth)
    (n1 : l1.length = n) (n2 : l2.length = n) (n3 : inp.length = n) (n4 : oth.length = n)
    (hin : ∀ z ∈ inp, 0 ≤ z ∧ z < 4294967296) (hot : ∀ z ∈ oth, 0 ≤ z ∧ z < 4294967296)
    (hA : ∀ i, i < n → (0 ≤ (Frm.it l1 i).2.1 ∧ (Frm.it l1 i).2.1 < 4294967296) ∧ (0 ≤ (Frm.it l2 i).2.1 ∧ (Frm.it l2 i).2.1 < 4294967296) ∧ ((Frm.it l1 i).2.1 + 4294967296 - inp.getD i 0) % 4294967296 = ((Frm.it l2 i).2.1 + 4294967296 - oth.getD i 0) % 4294967296) :
    Calls Try.prog 41 #[va, vb, vx, vy] w fun e w' => e = .returned (.bool true) ∧ Below w.heap.size w w' := by
  have HV1 := hideG (veilDecode va _ w h1)
  obtain ⟨x1, x2, x3, x4⟩ := d_some (Frm.dec_enc o1)
  rw [x1, x2, x3, x4, n1] at HV1
  have HV2 := hideG (fun (W : World) (hb : Below w.heap.size w W) => veilDecode vb _ W (h2.below hb))
  obtain ⟨y1, y2, y3, y4⟩ := d_some (Frm.dec_enc o2)
  rw [y1, y2, y3, y4, n2] at HV2
  have IN1 := hideG (okF_in o1)
  have IN2 := hideG (okF_in o2)
  obtain ⟨a1, c1, rfl, -⟩ := bytes_view h1
  obtain ⟨a2, c2, rfl, -⟩ := bytes_view h2
  obtain ⟨a3, c3, rfl, m3, k3, hc3⟩ := list_view hx
  obtain ⟨a4, c4, rfl, m4, k4, hc4⟩ := list_view hy
  rw [n3] at m3 hc3
  rw [n4] at m4 hc4
  have HX := hideG hc3
  have HY := hideG hc4
  have HA := hideG hA
  have HIN := hideG (fun i (hi : i < n) => hin (inp.getD i 0) (by rw [List.getD_eq_getElem?_getD, List.getElem?_eq_getElem (by omega)]; exact List.getElem_mem _))
  have HOT := hideG (fun i (hi : i < n) => hot (oth.getD i 0) (by rw [List.getD_eq_getElem?_getD, List.getElem?_eq_getElem (by omega)]; exact List.getElem_mem _))
  rw [n3, n4]
  have N1 := hideG n1
  have N2 := hideG n2
  clear x1 x2 x3 x4 y1 y2 y3 y4 h1 h2 hx hy hc3 hc4 hA hin hot o1 o2 n1 n2 n3 n4
  generalize (Frm.encF 5 fr l1).length = L1 at *
  generalize (Frm.encF 5 fr l2).length = L2 at *
  go_enter Try.func41, Try.ntmps41
  go_wp2_with fail
  refine HV1.out.mono ?_
  rintro e w1 ⟨vi, rfl, hown1, hb1⟩
  obtain ⟨p1, q1, hv1⟩ := owns_form hown1
  subst hv1
  have s1 := hb1.size
  obtain ⟨w1', hw1'⟩ : ∃ w1', w1' = w1.alloc (.cells #[.int .i64 5, .int .i64 fr, .slice p1 n q1] 52) := ⟨_, rfl⟩
  have hb1' : Below w1.heap.size w1 w1' := by rw [hw1']; exact (Below.refl _ _).alloc (Nat.le_refl _) _
  have Z1 := hideG (show w1'.heap.size = w1.heap.size + 1 by rw [hw1']; simp)
  have I1 := hideG (show ItemsAt w1' (.slice p1 n q1) l1 from (itemsAt_of_owns (by rw [N1.out]; exact hown1) IN1.out).below hb1')
  have F1 := hideG (show FrAt w1' w1.heap.size 5 fr (.slice p1 n q1) by rw [hw1']; refine ⟨?_, ?_, ?_⟩ <;> simp)
  have B1 := hideG (show Below w.heap.size w w1' from hb1.trans (hb1'.mono (by omega)))
  have HW1 := hideG hw1'
  clear hown1 hb1 hb1' hw1'
  go_wp2_with fail
  rw [← HW1.out]
  refine (HV2.out w1' B1.out).mono ?_
  rintro e w2 ⟨vo, rfl, hown2, hb2⟩
  obtain ⟨p2, q2, hv2⟩ := owns_form hown2
  subst hv2
  have s2 := hb2.size
  obtain ⟨w2', hw2'⟩ : ∃ w2', w2' = w2.alloc (.cells #[.int .i64 5, .int .i64 fr, .slice p2 n q2] 52) := ⟨_, rfl⟩
  have hb2' : Below w2.heap.size w2 w2' := by rw [hw2']; exact (Below.refl _ _).alloc (Nat.le_refl _) _
  have Z2 := hideG (show w2'.heap.size = w2.heap.size + 1 by rw [hw2']; simp)
  have I2 := hideG (show ItemsAt w2' (.slice p2 n q2) l2 from (itemsAt_of_owns (by rw [N2.out]; exact hown2) IN2.out).below hb2')
  have I1' := hideG ((I1.out.below hb2).below hb2')
  have F2 := hideG (show FrAt w2' w2.heap.size 5 fr (.slice p2 n q2) by rw [hw2']; refine ⟨?_, ?_, ?_⟩ <;> simp)
  have F1' := hideG (show FrAt w2' w1.heap.size 5 fr (.slice p1 n q1) from (F1.out.below hb2 (by have := Z1.out; omega)).below hb2' (by have := Z1.out; omega))
  have B2 := hideG (show Below w.heap.size w w2' from (B1.out.trans (hb2.mono B1.out.size)).trans (hb2'.mono (by have := B1.out.size; omega)))
  have HW2 := hideG hw2'
  clear hown2 hb2 hb2' hw2'
  go_upto_region 3 with fail
  rw [← HW2.out]
  try simp only [Act.put]
  obtain ⟨f0, f1, f2⟩ := F1'.out
  obtain ⟨g0, g1, g2⟩ := F2.out
  have eff : (fr != fr) = false := by simp
  have enn : ((n : Int) != (n : Int)) = false := by simp
  go_wp2_with fail
  go_loopw [13] (fun i wr => ∃ (j : Nat), j ≤ n ∧ i = .int .i64 j ∧ Below w2'.heap.size w2' wr) (fun i _ => n - (intOf i).toNat)
  case atStart => exact ⟨0, Nat.zero_le _, rfl, Below.refl _ _⟩
  case round =>
    obtain ⟨j, hj, rfl, hbr⟩ := hrel
    have HWR := hideG hbr
    have BR := hideG (B2.out.trans (hbr.mono B2.out.size))
    clear f0 f1 f2 g0 g1 g2
    obtain ⟨f0, f1, f2⟩ := F1'.out.below hbr (by have := Z1.out; have := Z2.out; omega)
    obtain ⟨g0, g1, g2⟩ := F2.out.below hbr (by have := Z2.out; omega)
    by_cases hlt : j < n
    · obtain ⟨aa, ca, hva, _, _, _, hca⟩ := items_view (I1'.out.below hbr)
      obtain ⟨ab, cb, hvb, _, _, _, hcb⟩ := items_view (I2.out.below hbr)
      obtain ⟨b1, o1, e1, _, i0, i1, i2, i3⟩ := hca j (by rw [N1.out]; exact hlt)
      obtain ⟨b2, o2, e2, _, j0, j1, j2, j3⟩ := hcb j (by rw [N2.out]; exact hlt)
      obtain ⟨b3, o3, e3, u0⟩ := HX.out j hlt
      obtain ⟨b4, o4, e4, v0⟩ := HY.out j hlt
      have hpa : p1 = some ⟨b1, o1, none⟩ := by cases hva; exact e1
      have hpb : p2 = some ⟨b2, o2, none⟩ := by cases hvb; exact e2
      have u1 := (BR.out.cell (p := ⟨b3, o3 + j, none⟩) (cell_in u0)).trans u0
      have v1 := (BR.out.cell (p := ⟨b4, o4 + j, none⟩) (cell_in v0)).trans v0
      obtain ⟨⟨r1, r2⟩, ⟨r3, r4⟩, r5⟩ := HA.out j hlt
      obtain ⟨t1, t2⟩ := HIN.out j hlt
      obtain ⟨t3, t4⟩ := HOT.out j hlt
      generalize (Frm.it l1 j).2.1 = A1 at *
      generalize (Frm.it l2 j).2.1 = A2 at *
      generalize inp.getD j 0 = X1 at *
      generalize oth.getD j 0 = X2 at *
      obtain ⟨R, hR⟩ : ∃ R, R = (A1 + 4294967296 - X1) % 4294967296 := ⟨_, rfl⟩
      have E1 : (A1 + 4294967296 - X1) % 4294967296 = R := hR.symm
      have E2 : (A2 + 4294967296 - X2) % 4294967296 = R := by rw [← r5]; exact hR.symm
      have ERR : (R != R) = false := by simp
      clear hR r5 u0 v0 hca hcb hva hvb e1 e2 hbr
      subst hpa hpb e3 e4
      have hlt' : (j : Int) < (n : Int) := by omega
      go_wp2_with fail
      go_quiet (fail)
      go_wp2_with fail
      go_quiet (fail)
      go_wp2_with fail
      go_roundw
      case rel => exact ⟨j + 1, by omega, by go_num, HWR.out.trans ((below_drewN _ _).mono HWR.out.size)⟩
      case measure => simp [intOf]; omega
    · clear hbr
      go_wp2_with fail
      go_ret
      exact ⟨rfl, BR.out⟩

/-! ### Two clients that differ in their input alone -/
theorem step_inp (c : Cli.Cl) (oth : List Int) (s : Cli.St) (zs : List Int) : stepD { c with inp := oth } s zs = stepD c s zs := rfl
theorem rel_inp (c : Cli.Cl) (oth : List Int) (s : Cli.St) : relL { c with inp := oth } s = relL c s := rfl
theorem hello_inp (c : Cli.Cl) (oth : List Int) : helloL { c with inp := oth } = helloL c := rfl
theorem ans_pair (c : Cli.Cl) (oth : List Int) (s : Cli.St) (zs : List Int) :
    (ansD c s zs = none ∧ ansD { c with inp := oth } s zs = none) ∨ (∃ k l, (k == 5) = false ∧ ansD c s zs = some (k, c.id, l) ∧ ansD { c with inp := oth } s zs = some (k, c.id, l)) ∨
    (∃ k l, ansD c s zs = some (5, c.id, Cli.masking c k l) ∧ ansD { c with inp := oth } s zs = some (5, c.id, Cli.masking { c with inp := oth } k l)) := by
  cases hd : Frm.decF zs with
  | none => exact .inl ⟨(stepD_none hd).2, (stepD_none hd).2⟩
  | some f =>
    obtain ⟨k, fr, l⟩ := f
    by_cases k1 : s.1 = 1 ∧ k = 2
    · obtain ⟨p1, rfl⟩ := k1
      have e1 := (stepD_keys (c := c) hd p1).2
      have e2 := (stepD_keys (c := { c with inp := oth }) hd p1).2
      change ansD { c with inp := oth } s zs = (if Cli.keysAgree c l = true then some (3, c.id, Cli.sharing c l) else none) at e2
      cases q : Cli.keysAgree c l
      · rw [q, if_neg (by simp)] at e1 e2; exact .inl ⟨e1, e2⟩
      · rw [q, if_pos rfl] at e1 e2; exact .inr (.inl ⟨3, _, rfl, e1, e2⟩)
    · by_cases k2 : s.1 = 2 ∧ k = 4
      · obtain ⟨p1, rfl⟩ := k2
        have e1 := (stepD_box (c := c) hd p1).2
        have e2 := (stepD_box (c := { c with inp := oth }) hd p1).2
        change ansD { c with inp := oth } s zs = (if Cli.boxAgree c s.2.1 l = true then some (5, c.id, Cli.masking { c with inp := oth } s.2.1 l) else none) at e2
        cases q : Cli.boxAgree c s.2.1 l
        · rw [q, if_neg (by simp)] at e1 e2; exact .inl ⟨e1, e2⟩
        · rw [q, if_pos rfl] at e1 e2; exact .inr (.inr ⟨_, _, e1, e2⟩)
      · by_cases k3 : s.1 = 3 ∧ k = 6
        · obtain ⟨p1, rfl⟩ := k3
          have e1 := (stepD_ask (c := c) hd p1).2
          have e2 := (stepD_ask (c := { c with inp := oth }) hd p1).2
          change ansD { c with inp := oth } s zs = (if Cli.askAgree c s.2.2.1 l = true then some (7, c.id, Cli.tells c s.2.1 s.2.2.1 l) else none) at e2
          cases q : Cli.askAgree c s.2.2.1 l
          · rw [q, if_neg (by simp)] at e1 e2; exact .inl ⟨e1, e2⟩
          · rw [q, if_pos rfl] at e1 e2; exact .inr (.inl ⟨7, _, rfl, e1, e2⟩)
        · exact .inl ⟨(stepD_rest hd k1 k2 k3).2, (stepD_rest hd k1 k2 k3).2⟩

/-- The two masked lists: the same masks. -/
theorem mask_shift (c : Cli.Cl) (oth : List Int) (k l : List Frm.It) (i : Nat) (hi : i < c.M.toNat) :
    ((Frm.it (Cli.masking c k l) i).2.1 + 4294967296 - c.inp.getD i 0) % 4294967296 = ((Frm.it (Cli.masking { c with inp := oth } k l) i).2.1 + 4294967296 - oth.getD i 0) % 4294967296 := by
  rw [Cli.masking_it c k l i hi, Cli.masking_it { c with inp := oth } k l i hi]
  show (Cli.maskSum c k l i % 4294967296 + 4294967296 - c.inp.getD i 0) % 4294967296 = (Cli.maskSum { c with inp := oth } k l i % 4294967296 + 4294967296 - oth.getD i 0) % 4294967296
  have e1 : Cli.maskSum c k l i = c.inp.getD i 0 + (Num.strAt c.sd i + (l.map fun x => if c.id < x.1 then Num.strAt (Cli.mkKey c k x.1) i else - Num.strAt (Cli.mkKey c k x.1) i).sum) := by unfold Cli.maskSum; omega
  have e2 : Cli.maskSum { c with inp := oth } k l i = oth.getD i 0 + (Num.strAt c.sd i + (l.map fun x => if c.id < x.1 then Num.strAt (Cli.mkKey c k x.1) i else - Num.strAt (Cli.mkKey c k x.1) i).sum) := by
    have : Cli.maskSum { c with inp := oth } k l i = oth.getD i 0 + Num.strAt c.sd i + (l.map fun x => if c.id < x.1 then Num.strAt (Cli.mkKey c k x.1) i else - Num.strAt (Cli.mkKey c k x.1) i).sum := rfl
    omega
  rw [e1, e2]
  omega

end Go.Proofs.Ytchideljndagjaa
