/- PROVED: veilkeep.Withheld answers true at every input, and its arguments read afterwards as they read before. No condition. -/
import Derived.Test.YtchideljndagjaaArgOpen
import Derived.Test.YtchideljndagjaaKAllGr
import Derived.Below
import Derived.ChangeMaps5
import Derived.SizedLaws
namespace Go.Proofs.Ytchideljndagjaa.withheld
open Go.ChangeShapes Go.WideShapes Go.ChangeAt Go.RowKit
set_option linter.unusedVariables false

theorem own : ownKnob Try.prog.godebug = none := by kernel_rfl
theorem laidOut : laidOutB Try.prog = true := by kernel_rfl

theorem relL_in {c : Cli.Cl} (hc : Cli.Good c) (s : Cli.St) : ∀ x ∈ relL c s, inIt x := by
  unfold relL
  split
  · exact okF_in (Cli.tells_ok hc _ _ _)
  · intro x hx; cases hx

/-- The client and its diary, side by side. -/
structure Inv (w : World) (b bd : Nat) (c : Cli.Cl) (wr : World) (s : Cli.St) (S : PS) (st : Int) (f g : Nat → Bool) (told : Value) : Prop where
  cli : CliW wr b c s S
  dia : DAt wr bd c.id c.T st f g told
  rel : DRel wr c s st f g told
  apart : ¬ CFoot b S bd
  toldA : ∀ x, told.ownBlock = some x → ¬ CFoot b S x ∧ x ≠ bd ∧ x < wr.heap.size
  below : Below w.heap.size w wr
  lo : w.heap.size ≤ b ∧ w.heap.size ≤ bd

/-- Memory was made. -/
theorem Inv.grow {w : World} {b bd : Nat} {c : Cli.Cl} {wr wr' : World} {s : Cli.St} {S : PS} {st : Int} {f g : Nat → Bool} {told : Value} (h : Inv w b bd c wr s S st f g told) (hb : Below wr.heap.size wr wr') : Inv w b bd c wr' s S st f g told where
  cli := h.cli.below hb
  dia := h.dia.below hb
  rel := ⟨h.rel.one, h.rel.two, h.rel.three, h.rel.items.below hb⟩
  apart := h.apart
  toldA := fun x hx => ⟨(h.toldA x hx).1, (h.toldA x hx).2.1, Nat.lt_of_lt_of_le (h.toldA x hx).2.2 hb.size⟩
  below := h.below.trans (hb.mono h.below.size)
  lo := h.lo

set_option maxHeartbeats 1000000 in
set_option maxRecDepth 100000 in
theorem walk_no (N T M D id : Int) (vi vm vs : Value) (inp sm ss : List Int) (ch mk sd : Int) (a3 : Option Addr) (n3 cap3 : Nat) (w : World) (hi : ListAt w vi inp) (hm : ListAt w vm sm) (hs : ListAt w vs ss) (h1 : inI ch) (h2 : inI mk) (h3 : inI sd) (hE : newE N T M D id inp ch mk sd sm ss ≠ 0) :
    Calls Try.prog 8 #[.agg #[.int .i64 N, .int .i64 T, .int .i64 M, .int .i64 D], .int .i64 id, .agg #[vi, .int .i64 ch, .int .i64 mk, .int .i64 sd, vm, vs], .slice a3 n3 cap3] w fun e w' => e = .returned (.bool true) ∧ Below w.heap.size w w' := by
  have HN := hideG (fun (W : World) (hb : Below w.heap.size w W) => veilNew_no N T M D id vi vm vs inp sm ss ch mk sd W (hi.below hb) (hm.below hb) (hs.below hb) hE)
  have HM := hideG (fun (W : World) (hb : Below w.heap.size w W) => kmay_calls N T M D id vi vm vs inp sm ss ch mk sd W (hi.below hb) (hm.below hb) (hs.below hb) h1 h2 h3)
  have hEE : (newE N T M D id inp ch mk sd sm ss != 0) = true := by simpa using hE
  generalize newE N T M D id inp ch mk sd sm ss = E at *
  have eEE : (E != E) = false := by simp
  obtain ⟨a1, c1, rfl, -⟩ := hi
  obtain ⟨a2, c2, rfl, -⟩ := hm
  obtain ⟨a4, c4, rfl, -⟩ := hs
  generalize inp.length = m1 at *
  generalize sm.length = m2 at *
  generalize ss.length = m3 at *
  obtain ⟨W0, hW0⟩ : ∃ W0, W0 = (w.alloc (.cells #[.int .i64 N, .int .i64 T, .int .i64 M, .int .i64 D] 65)).alloc (.cells #[.slice a1 m1 c1, .int .i64 ch, .int .i64 mk, .int .i64 sd, .slice a2 m2 c2, .slice a4 m3 c4] 67) := ⟨_, rfl⟩
  have BB := hideG (show Below w.heap.size w W0 by rw [hW0]; exact ((Below.refl _ _).alloc (Nat.le_refl _) _).alloc (by simp) _)
  have z0 : w.heap.size + 1 < W0.heap.size := by rw [hW0]; simp
  have HX := hideG (show SixAt W0 (w.heap.size + 1) 67 (.slice a1 m1 c1) (.int .i64 ch) (.int .i64 mk) (.int .i64 sd) (.slice a2 m2 c2) (.slice a4 m3 c4) by rw [hW0]; exact heap_alloc2_new w _ _)
  have HNN := hideG (show W0.cell? ⟨w.heap.size, 0, none⟩ = some (.int .i64 N) ∧ W0.cell? ⟨w.heap.size, 1, none⟩ = some (.int .i64 T) ∧ W0.cell? ⟨w.heap.size, 2, none⟩ = some (.int .i64 M) ∧ W0.cell? ⟨w.heap.size, 3, none⟩ = some (.int .i64 D) by rw [hW0]; refine ⟨?_, ?_, ?_, ?_⟩ <;> simp)
  have HW0 := hideG hW0
  clear hW0 hE
  go_enter Try.func8, Try.ntmps8
  go_wp2_with fail
  rw [← HW0.out]
  refine (HN.out W0 BB.out).mono ?_
  rintro e w1 ⟨rfl, hb1⟩
  have s1 := hb1.size
  have B1 := hideG (BB.out.trans (hb1.mono (by omega)))
  obtain ⟨⟨u0, u1, u2, u3, u4, u5⟩, uf⟩ := (HX.out.below hb1 z0).cells
  have x0 := (hb1.cell (p := ⟨w.heap.size, 0, none⟩) (by show w.heap.size < _; omega)).trans HNN.out.1
  have x1 := (hb1.cell (p := ⟨w.heap.size, 1, none⟩) (by show w.heap.size < _; omega)).trans HNN.out.2.1
  have x2 := (hb1.cell (p := ⟨w.heap.size, 2, none⟩) (by show w.heap.size < _; omega)).trans HNN.out.2.2.1
  have x3 := (hb1.cell (p := ⟨w.heap.size, 3, none⟩) (by show w.heap.size < _; omega)).trans HNN.out.2.2.2
  clear hb1
  go_wp2_with fail
  refine (HM.out w1 B1.out).mono ?_
  rintro e w2 ⟨rfl, hb2⟩
  have B2 := hideG (B1.out.trans (hb2.mono B1.out.size))
  clear hb2
  go_wp2_with fail
  go_ret
  exact ⟨rfl, B2.out⟩

set_option maxHeartbeats 2000000 in
set_option maxRecDepth 100000 in
theorem walk_ok (N T M D id : Int) (vi vm vs : Value) (inp sm ss : List Int) (ch mk sd : Int) (a3 : Option Addr) (n3 cap3 : Nat) (Sx : Nat → ByteArray) (w : World) (hi : ListAt w vi inp) (hm : ListAt w vm sm) (hs : ListAt w vs ss) (h1 : inI ch) (h2 : inI mk) (h3 : inI sd) (hE : newE N T M D id inp ch mk sd sm ss = 0)
    (hst : StrsAt w a3 n3 cap3 Sx) :
    Calls Try.prog 8 #[.agg #[.int .i64 N, .int .i64 T, .int .i64 M, .int .i64 D], .int .i64 id, .agg #[vi, .int .i64 ch, .int .i64 mk, .int .i64 sd, vm, vs], .slice a3 n3 cap3] w fun e w' => e = .returned (.bool true) ∧ Below w.heap.size w w' := by
  have HN := hideG (fun (W : World) (hb : Below w.heap.size w W) => veilNew_ok N T M D id vi vm vs inp sm ss ch mk sd W (hi.below hb) (hm.below hb) (hs.below hb) hE)
  have HM := hideG (fun (W : World) (hb : Below w.heap.size w W) => kmay_calls N T M D id vi vm vs inp sm ss ch mk sd W (hi.below hb) (hm.below hb) (hs.below hb) h1 h2 h3)
  rw [hE] at HM
  obtain ⟨g1, g2, g3⟩ := newE_ok hE
  have hc := Cli.good_of g1 g2 g3
  obtain ⟨c, hcc⟩ : ∃ c : Cli.Cl, c = ⟨N, T, M, id, inp, ch, mk, sd, sm, ss⟩ := ⟨_, rfl⟩
  have cid : c.id = id := by rw [hcc]
  have cT : c.T = T := by rw [hcc]
  rw [← hcc] at HN hc
  clear hcc g1 g2 g3 hE h1 h2 h3
  obtain ⟨l2, l3, hcl⟩ := hst
  replace l3 : cap3 ≤ 9223372036854775807 := by unfold maxLen at l3; omega
  have HST := hideG hcl
  obtain ⟨a1, c1, rfl, -⟩ := hi
  obtain ⟨a2, c2, rfl, -⟩ := hm
  obtain ⟨a4, c4, rfl, -⟩ := hs
  generalize inp.length = m1 at *
  generalize sm.length = m2 at *
  generalize ss.length = m3 at *
  obtain ⟨W0, hW0⟩ : ∃ W0, W0 = (w.alloc (.cells #[.int .i64 N, .int .i64 T, .int .i64 M, .int .i64 D] 65)).alloc (.cells #[.slice a1 m1 c1, .int .i64 ch, .int .i64 mk, .int .i64 sd, .slice a2 m2 c2, .slice a4 m3 c4] 67) := ⟨_, rfl⟩
  have BB := hideG (show Below w.heap.size w W0 by rw [hW0]; exact ((Below.refl _ _).alloc (Nat.le_refl _) _).alloc (by simp) _)
  have z0 : w.heap.size + 1 < W0.heap.size := by rw [hW0]; simp
  have HX := hideG (show SixAt W0 (w.heap.size + 1) 67 (.slice a1 m1 c1) (.int .i64 ch) (.int .i64 mk) (.int .i64 sd) (.slice a2 m2 c2) (.slice a4 m3 c4) by rw [hW0]; exact heap_alloc2_new w _ _)
  have HNN := hideG (show W0.cell? ⟨w.heap.size, 0, none⟩ = some (.int .i64 N) ∧ W0.cell? ⟨w.heap.size, 1, none⟩ = some (.int .i64 T) ∧ W0.cell? ⟨w.heap.size, 2, none⟩ = some (.int .i64 M) ∧ W0.cell? ⟨w.heap.size, 3, none⟩ = some (.int .i64 D) by rw [hW0]; refine ⟨?_, ?_, ?_, ?_⟩ <;> simp)
  have HW0 := hideG hW0
  have CID := hideG cid
  have CT := hideG cT
  clear hW0 hcl cid cT
  go_enter Try.func8, Try.ntmps8
  go_wp2_with fail
  rw [← HW0.out]
  refine (HN.out W0 BB.out).mono ?_
  rintro e w1 ⟨b, rfl, S, hcw, hb1, hfo⟩
  have s1 := hb1.size
  have B1 := hideG (BB.out.trans (hb1.mono (by omega)))
  have BW := hideG hb1
  obtain ⟨⟨u0, u1, u2, u3, u4, u5⟩, uf⟩ := (HX.out.below hb1 z0).cells
  have x0 := (hb1.cell (p := ⟨w.heap.size, 0, none⟩) (by show w.heap.size < _; omega)).trans HNN.out.1
  have x1 := (hb1.cell (p := ⟨w.heap.size, 1, none⟩) (by show w.heap.size < _; omega)).trans HNN.out.2.1
  have x2 := (hb1.cell (p := ⟨w.heap.size, 2, none⟩) (by show w.heap.size < _; omega)).trans HNN.out.2.2.1
  have x3 := (hb1.cell (p := ⟨w.heap.size, 3, none⟩) (by show w.heap.size < _; omega)).trans HNN.out.2.2.2
  have CW1 := hideG hcw
  have FO := hideG hfo
  have bW : W0.heap.size ≤ b := hfo b (.inl rfl)
  clear hb1 hcw hfo
  go_wp2_with fail
  refine (HM.out w1 B1.out).mono ?_
  rintro e w2 ⟨rfl, hb2⟩
  have s2 := hb2.size
  have B2 := hideG (B1.out.trans (hb2.mono B1.out.size))
  have CW2 := hideG (CW1.out.below hb2)
  have BW2 := hideG (BW.out.trans (hb2.mono s1))
  clear hb2 u0 u1 u2 u3 u4 u5 uf x0 x1 x2 x3
  go_wp2_with fail
  refine (cliHello hc CW2.out).mono ?_
  rintro e w3 ⟨va, rfl, hown3, hb3⟩
  obtain ⟨p3, q3, hv3⟩ := owns_form hown3
  subst hv3
  have s3 := hb3.size
  have GR := hideG (kgreets_yes c.id _ (helloL c) w3 (helloL_ok hc) (bytesAt_of_owns hown3 (encF_isB (helloL_ok hc))))
  rw [CID.out] at GR
  have CW3 := hideG (CW2.out.below hb3)
  have B3 := hideG (B2.out.trans (hb3.mono B2.out.size))
  have BW3 := hideG (BW2.out.trans (hb3.mono (by omega)))
  clear hown3 hb3
  rw [CID.out]
  go_wp2_with fail
  refine GR.out.mono ?_
  rintro e w4 ⟨rfl, hb4⟩
  have s4 := hb4.size
  have CW4 := hideG (CW3.out.below hb4)
  have B4 := hideG (B3.out.trans (hb4.mono B3.out.size))
  have BW4 := hideG (BW3.out.trans (hb4.mono (by omega)))
  have x1 := (BW4.out.cell (p := ⟨w.heap.size, 1, none⟩) (by show w.heap.size < _; omega)).trans HNN.out.2.1
  clear hb4
  go_upto_region 12 with fail
  obtain ⟨w5, hw5⟩ : ∃ w5, w5 = w4.alloc (.cells #[.int .i64 id, .int .i64 T, .int .i64 0, .bool false, .bool false, .bool false, .bool false, .bool false, .bool false, .bool false, .bool false, .bool false, .bool false, .bool false, .bool false, .bool false, .bool false, .bool false, .bool false, .bool false, .bool false, .bool false, .bool false, .bool false, .bool false, .bool false, .bool false, .bool false, .bool false, .slice none 0 0] 79) := ⟨_, rfl⟩
  rw [← hw5]
  have hb5 : Below w4.heap.size w4 w5 := by rw [hw5]; exact (Below.refl _ _).alloc (Nat.le_refl _) _
  have D5 : DAt w5 w4.heap.size c.id c.T 0 (fun _ => false) (fun _ => false) (.slice none 0 0) := by rw [hw5, CID.out, CT.out]; exact heap_alloc_new w4 _
  have INV := hideG (show Inv w b w4.heap.size c w5 (1, [], [], []) S 0 (fun _ => false) (fun _ => false) (.slice none 0 0) from
    { cli := CW4.out.below hb5, dia := D5, rel := ⟨fun _ => rfl, fun e => absurd e (by show ¬ (1 : Int) = 2; omega), fun e => absurd e (by show ¬ (1 : Int) = 3; omega), by unfold relL; rw [if_neg (by show ¬ (1 : Int) = 4; omega)]; exact ⟨none, 0, rfl, by simp, Nat.zero_le _, (fun x hx => by cases hx), .inl rfl⟩⟩,
      apart := (fun h => by have := CW4.out.low _ h; omega), toldA := (fun x hx => by rw [nil_own] at hx; cases hx), below := B4.out.trans (hb5.mono B4.out.size), lo := ⟨by omega, by omega⟩ })
  clear D5 hb5 hw5 x1
  obtain ⟨bd, hbd⟩ : ∃ bd, bd = w4.heap.size := ⟨_, rfl⟩
  rw [← hbd] at INV ⊢
  clear hbd
  go_wp2_with fail
  go_loopw [15] (fun i wr => ∃ (j : Nat) (s : Cli.St) (S : PS) (st : Int) (f g : Nat → Bool) (told : Value), j ≤ n3 ∧ i = .int .i64 j ∧ Inv w b bd c wr s S st f g told) (fun i _ => n3 - (intOf i).toNat)
  case atStart => exact ⟨0, _, _, _, _, _, _, Nat.zero_le _, rfl, INV.out⟩
  case round =>
    obtain ⟨j, s, S, st, f, g, told, hj, rfl, hinv⟩ := hrel
    have IV := hideG hinv
    clear hinv
    by_cases hlt : j < n3
    · obtain ⟨hsz, b', off, rfl, hb', hcel⟩ := HST.out j hlt
      have y0 := (IV.out.below.cell (p := ⟨b', off + j, none⟩) hb').trans hcel
      obtain ⟨v0, w0, hcv, hba, hb0⟩ := conv_ex wr (Sx j) hsz
      have s0 := hb0.size
      have HSZ := hideG hsz
      have I0 := hideG (IV.out.grow hb0)
      have TK := hideG (veilTake_calls b c s S v0 (bl (Sx j)) w0 hc I0.out.cli hba)
      clear hba hb0 hsz
      go_wp2_with fail
      refine TK.out.mono ?_
      rintro e w1 ⟨va, rfl, S', ht, hans⟩
      have lo := I0.out.lo
      have hbne : b ≠ bd := fun e => I0.out.apart (.inl e.symm)
      have hb1 : Below w.heap.size w w1 := I0.out.below.trans (ht.chg.below I0.out.below.size (fun x e => by omega))
      have y1 := (hb1.cell (p := ⟨b', off + j, none⟩) hb').trans hcel
      have D1 := I0.out.dia.chg ht.chg (fun e => hbne e.symm)
      have R1 : DRel w1 c s st f g told := ⟨I0.out.rel.one, I0.out.rel.two, I0.out.rel.three, I0.out.rel.items.chg ht.chg (fun x hx e => (I0.out.toldA x hx).1 (.inl e))⟩
      have HE := hideG (kheard_all bd c s st f g told (Sx j) HSZ.out va w1 hc I0.out.cli.cli.ph D1 R1 (ans_bytes hc hans))
      have nf : ¬ CFoot b S' bd := fun h => by
        rcases ht.foot bd h with h | h
        · exact I0.out.apart h
        · have := I0.out.dia.lt; omega
      have HTK := hideG ht
      have NF := hideG nf
      have B1 := hideG hb1
      obtain ⟨ap, np, cp, hvp⟩ := hans.form
      subst hvp
      clear ht hans hb1 D1 R1 nf hcv y0
      go_wp2_with fail
      refine HE.out.mono ?_
      rintro e w2 ⟨rfl, ⟨st', f', g', told', hd', hr', hto⟩, hch⟩
      have s2 := hch.size
      have I2 : Inv w b bd c w2 (stepD c s (bl (Sx j))) S' st' f' g' told' :=
        { cli := HTK.out.cli.chg hch (fun x hx e => NF.out (by rw [← e]; exact hx)), dia := hd', rel := hr', apart := NF.out,
          toldA := fun x hx => by
            rcases hto with hto | hto
            · rw [hto] at hx
              have h0 := I0.out.toldA x hx
              have hsz := HTK.out.chg.size
              refine ⟨fun h => ?_, h0.2.1, by omega⟩
              rcases HTK.out.foot x h with h | h
              · exact h0.1 h
              · omega
            · have h0 := hto x hx
              have := hd'.lt
              have hl := I0.out.dia.lt
              have hsz := HTK.out.chg.size
              exact ⟨fun h => by have := HTK.out.cli.low x h; omega, by omega, h0.2⟩
          below := B1.out.trans (hch.below B1.out.size (fun x e => by omega)), lo := lo }
      have IV2 := hideG I2
      clear I2 hd' hr' hto hch
      go_wp2_with fail
      refine (cliReleased hc IV2.out.cli).mono ?_
      rintro e w3 ⟨vr, rfl, hown3, hb3⟩
      have I3 := IV2.out.grow hb3
      have d29 := I3.dia.cell 29
      change w3.cell? ⟨bd, 29, none⟩ = some told' at d29
      have SI := hideG (ksameItems_same vr told' (relL c (stepD c s (bl (Sx j)))) w3 (itemsAt_of_owns hown3 (relL_in hc _)) I3.rel.items)
      have IV3 := hideG I3
      obtain ⟨a5, c5, hv5⟩ := owns_form hown3
      subst hv5
      clear hown3 hb3 I3
      go_wp2_with fail
      refine SI.out.mono ?_
      rintro e w6 ⟨rfl, nq, hw6⟩
      have hb6 : Below w3.heap.size w3 w6 := by rw [hw6]; exact below_drewN _ _
      have IV6 := hideG (IV3.out.grow hb6)
      clear hw6 hb6 d29 y1
      go_wp2_with fail
      go_roundw
      case rel => exact ⟨j + 1, _, _, _, _, _, _, by omega, by go_num, IV6.out⟩
      case measure => simp [intOf]; omega
    · go_wp2_with fail
      go_ret
      exact ⟨rfl, IV.out.below⟩

theorem walk (N T M D id : Int) (vi vm vs : Value) (inp sm ss : List Int) (ch mk sd : Int) (a3 : Option Addr) (n3 cap3 : Nat) (Sx : Nat → ByteArray) (w : World) (hi : ListAt w vi inp) (hm : ListAt w vm sm) (hs : ListAt w vs ss) (h1 : inI ch) (h2 : inI mk) (h3 : inI sd) (hst : StrsAt w a3 n3 cap3 Sx) :
    Calls Try.prog 8 #[.agg #[.int .i64 N, .int .i64 T, .int .i64 M, .int .i64 D], .int .i64 id, .agg #[vi, .int .i64 ch, .int .i64 mk, .int .i64 sd, vm, vs], .slice a3 n3 cap3] w fun e w' => e = .returned (.bool true) ∧ Below w.heap.size w w' := by
  by_cases hE : newE N T M D id inp ch mk sd sm ss = 0
  · exact walk_ok N T M D id vi vm vs inp sm ss ch mk sd a3 n3 cap3 Sx w hi hm hs h1 h2 h3 hE hst
  · exact walk_no N T M D id vi vm vs inp sm ss ch mk sd a3 n3 cap3 w hi hm hs h1 h2 h3 hE

/-! ### The row's step -/
set_option maxRecDepth 100000 in
theorem lifted (os : Os) (started : os.Started) (H : Type) (enc : TypeId × Value → H) :
    ReturnsInHanded {} Try.checked os 8 .any (Rows.withheldSpec.pre6 enc Try.prog Try.f8 Rows.withheldRow.domain false) (Rows.withheldSpec.post enc Try.prog Try.f8 false true false false) := by
  refine returnsInHanded_of_change (C := Try.checked) own started (by kernel_rfl) Try.func8
    (ChangeSpec.witness6 (enc := enc) (C := Try.checked) false ⟨#[], #[.agg #[.int .i64 0, .int .i64 0, .int .i64 0, .int .i64 0], .int .i64 0, .agg #[.slice none 0 0, .int .i64 0, .int .i64 0, .int .i64 0, .slice none 0 0, .slice none 0 0], .slice none 0 0], []⟩ 8 (by kernel_rfl) (by kernel_rfl) (by kernel_rfl) (by kernel_rfl)) ?_
  intro W base args ds gs before hval0 hW hcnd _
  have hval : ∀ (j : Nat) t v, Try.f8.params[j]? = some t → args[j]? = some v → Value.okWide Try.prog W .any base t v := hval0
  have hW' := hW
  obtain ⟨p, q, hA0, hV, rfl, hfz, hnd⟩ := hW
  have hA : DataW.TrodAll enc Try.prog W 0 (fun _ => true) true Try.f8.params.toList args.toList ds p := hA0
  rw [Try.params8] at hA hval
  obtain ⟨v0, vs0, d0, ds0, p0, q0, hargs, rfl, rfl, h0, r0⟩ := trodAll_cons hA
  obtain ⟨v1, vs1, d1, ds1, p1, q1, rfl, rfl, rfl, h1, r1⟩ := trodAll_cons r0
  obtain ⟨v2, vs2, d2, ds2, p2, q2, rfl, rfl, rfl, h2, r2⟩ := trodAll_cons r1
  obtain ⟨v3, vs3, d3, ds3, p3, q3, rfl, rfl, rfl, h3, r3⟩ := trodAll_cons r2
  obtain ⟨rfl, rfl, rfl⟩ := trodAll_nil r3
  obtain rfl : args = #[v0, v1, v2, v3] := by cases args; simp_all
  obtain ⟨rfl, rfl⟩ := trodVars_none hV
  have k0 := h0
  have k2 := h2
  have k3 := h3
  have lt0 : ∀ x ∈ p0, x.block < W.heap.size := by obtain ⟨m, hm⟩ := k0; exact DataW.trod_lt m _ _ _ hm
  have lt2 : ∀ x ∈ p2, x.block < W.heap.size := by obtain ⟨m, hm⟩ := k2; exact DataW.trod_lt m _ _ _ hm
  have lt3 : ∀ x ∈ p3, x.block < W.heap.size := by obtain ⟨m, hm⟩ := k3; exact DataW.trod_lt m _ _ _ hm
  obtain ⟨N, T, M, D, rfl⟩ := cfg_open (hval 0 65 v0 rfl rfl) h0
  obtain ⟨a1, rfl, rfl, rfl, w1⟩ := open_int Try.underlying3 (hval 1 3 v1 rfl rfl) h1
  obtain ⟨vi, vm, vs, ch, mk, sd, inp, sm, ss, rfl, li, lm, ls, i1, i2, i3⟩ := draw_open (hval 2 67 v2 rfl rfl) h2
  obtain ⟨a3, n3, cap3, rfl⟩ := okWide_slice Try.underlying68 (hval 3 68 v3 rfl rfl)
  obtain ⟨Sx, hSx⟩ := strs_open h3
  clear hA0 hval0
  refine (walk N T M D a1 vi vm vs inp sm ss ch mk sd a3 n3 cap3 Sx W li lm ls i1 i2 i3 hSx).mono fun e W' ⟨he, bel⟩ => ?_
  subst he
  exact ⟨_, rfl, _, _, _, [], _, [], hW', trodAll_mk1 (shut_bool Try.underlying4 _), (trodAll_cons_mk (Below.trod laidOut (by kernel_rfl) (of_decide_eq_true (by kernel_rfl)) k0 bel lt0) (trodAll_cons_mk (shut_int Try.underlying3 w1) (trodAll_cons_mk (Below.trod laidOut (by kernel_rfl) (of_decide_eq_true (by kernel_rfl)) k2 bel lt2) (trodAll_cons_mk (Below.trod laidOut (by kernel_rfl) (of_decide_eq_true (by kernel_rfl)) k3 bel lt3) trodAll_mk0)))), rfl, bel.frame _, fun h => by cases h⟩

theorem over : Rows.withheldRow.holds Try.pinned (OpenSpec.ofChange Rows.withheldSpec) :=
  OpenClaim.holds_of_wide 8 Try.f8 rfl rfl rfl rfl rfl rfl rfl ⟨rfl, rfl, rfl, rfl, rfl⟩ rfl rfl rfl rfl rfl (by kernel_rfl) Try.func8 (by kernel_rfl)
    (of_decide_eq_true (by kernel_rfl)) (by unfold Func.isWrapper; first | (rw [if_pos (by decide +kernel)]; kernel_rfl) | (rw [if_neg (by decide +kernel)]; exact ⟨rfl, rfl⟩))
    (fun os started H enc _ => lifted os started H enc)

end Go.Proofs.Ytchideljndagjaa.withheld
namespace Go.Proofs.Ytchideljndagjaa

/-- The statement. -/
theorem withheld_holds : Rows.WithheldSaid := withheld.over
#print axioms withheld_holds
end Go.Proofs.Ytchideljndagjaa
