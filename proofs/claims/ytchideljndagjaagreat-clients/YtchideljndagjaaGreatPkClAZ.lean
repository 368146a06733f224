/- Contracts of veilref's client: is it a configuration, is it a draw, the Ids, an item, its own item. -/
import Derived.Test.YtchideljndagjaaGreatPkClAO
import Derived.Test.YtchideljndagjaaGreatPkClAB
import Derived.Test.YtchideljndagjaaGreatPkClAG
import Derived.Test.YtchideljndagjaaGreatPkClAU
import Derived.Test.YtchideljndagjaaGreatPkClAT
import Derived.Test.YtchideljndagjaaGreatPkClAW
namespace Go.Proofs.YtchideljndagjaaGreat
open Go.ChangeShapes Go.WideShapes Go.ChangeAt Go.RowKit
set_option linter.unusedVariables false

set_option maxHeartbeats 1000000 in
theorem rconfig_calls (N T M D : Int) (w : World) :
    Calls Tryz.prog 104 #[.agg #[.int .i64 N, .int .i64 T, .int .i64 M, .int .i64 D]] w fun e w' => e = .returned (.bool (Cli.cfgB N T M D)) ∧ Below w.heap.size w w' := by
  by_cases c0 : 1 ≤ N
  rotate_left
  · have H := hideG (cfg_no (N := N) (T := T) (M := M) (D := D) (by omega))
    go_enter Tryz.func104, Tryz.ntmps104
    go_wp2_with fail
    go_ret
    exact ⟨ret_bool (by rw [H.out]; try simp; try omega), by go_grown⟩
  by_cases c1 : N ≤ 12
  rotate_left
  · have H := hideG (cfg_no (N := N) (T := T) (M := M) (D := D) (by omega))
    go_enter Tryz.func104, Tryz.ntmps104
    go_wp2_with fail
    go_ret
    exact ⟨ret_bool (by rw [H.out]; try simp; try omega), by go_grown⟩
  by_cases c2 : 1 ≤ T
  rotate_left
  · have H := hideG (cfg_no (N := N) (T := T) (M := M) (D := D) (by omega))
    go_enter Tryz.func104, Tryz.ntmps104
    go_wp2_with fail
    go_ret
    exact ⟨ret_bool (by rw [H.out]; try simp; try omega), by go_grown⟩
  by_cases c3 : T ≤ N
  rotate_left
  · have H := hideG (cfg_no (N := N) (T := T) (M := M) (D := D) (by omega))
    go_enter Tryz.func104, Tryz.ntmps104
    go_wp2_with fail
    go_ret
    exact ⟨ret_bool (by rw [H.out]; try simp; try omega), by go_grown⟩
  by_cases c4 : 1 ≤ M
  rotate_left
  · have H := hideG (cfg_no (N := N) (T := T) (M := M) (D := D) (by omega))
    go_enter Tryz.func104, Tryz.ntmps104
    go_wp2_with fail
    go_ret
    exact ⟨ret_bool (by rw [H.out]; try simp; try omega), by go_grown⟩
  by_cases c5 : M ≤ 12
  rotate_left
  · have H := hideG (cfg_no (N := N) (T := T) (M := M) (D := D) (by omega))
    go_enter Tryz.func104, Tryz.ntmps104
    go_wp2_with fail
    go_ret
    exact ⟨ret_bool (by rw [H.out]; try simp; try omega), by go_grown⟩
  by_cases c6 : 1 ≤ D
  rotate_left
  · have H := hideG (cfg_no (N := N) (T := T) (M := M) (D := D) (by omega))
    go_enter Tryz.func104, Tryz.ntmps104
    go_wp2_with fail
    go_ret
    exact ⟨ret_bool (by rw [H.out]; try simp; try omega), by go_grown⟩
  by_cases c7 : D ≤ 50
  rotate_left
  · have H := hideG (cfg_no (N := N) (T := T) (M := M) (D := D) (by omega))
    go_enter Tryz.func104, Tryz.ntmps104
    go_wp2_with fail
    go_ret
    exact ⟨ret_bool (by rw [H.out]; try simp; try omega), by go_grown⟩
  have H := hideG (cfg_yes (N := N) (T := T) (M := M) (D := D) (by omega))
  go_enter Tryz.func104, Tryz.ntmps104
  go_wp2_with fail
  go_ret
  exact ⟨ret_bool (by rw [H.out]; try simp; try omega), by go_grown⟩

theorem rlist3 (w : World) (a b c : Int) (ha : inI a) (hb : inI b) (hc : inI c) : ListAt (w.alloc (.cells #[.int .i64 a, .int .i64 b, .int .i64 c] 3)) (.slice (some ⟨w.heap.size, 0, none⟩) 3 3) [a, b, c] := by
  refine ⟨_, _, rfl, by simp, by unfold maxLen; omega, fun z hz => ?_, .inr ⟨w.heap.size, 0, rfl, by simp, fun i hi => ?_⟩⟩
  · simp at hz; rcases hz with rfl | rfl | rfl <;> assumption
  · match i, hi with
    | 0, _ => simp
    | 1, _ => simp
    | 2, _ => simp

theorem draw_words {T M : Int} {inp : List Int} {ch mk sd : Int} {sm ss : List Int} (h : Cli.wordsB inp = false) : Cli.drawB T M inp ch mk sd sm ss = false := by unfold Cli.drawB; rw [h]; rfl

set_option maxHeartbeats 2000000 in
set_option maxRecDepth 100000 in
theorem rdraw_calls (N T M D : Int) (vi vm vs : Value) (inp sm ss : List Int) (ch mk sd : Int) (w : World) (hi : ListAt w vi inp) (hm : ListAt w vm sm) (hs : ListAt w vs ss) (hT : 1 ≤ T) (hT' : T ≤ 12) (h1 : inI ch) (h2 : inI mk) (h3 : inI sd) :
    Calls Tryz.prog 105 #[.agg #[.int .i64 N, .int .i64 T, .int .i64 M, .int .i64 D], .agg #[vi, .int .i64 ch, .int .i64 mk, .int .i64 sd, vm, vs]] w fun e w' => e = .returned (.bool (Cli.drawB T M inp ch mk sd sm ss)) ∧ Below w.heap.size w w' := by
  have HE1 := hideG (fun (W : World) (hb : Below w.heap.size w W) => relements_list vm sm W (hm.below hb))
  have HE2 := hideG (fun (W : World) (hb : Below w.heap.size w W) => relements_list vs ss W (hs.below hb))
  have HE0 := hideG (fun (W : World) => relements_list _ [ch, mk, sd] _ (rlist3 W ch mk sd h1 h2 h3))
  obtain ⟨b1, hb1⟩ : ∃ b1, b1 = [ch, mk, sd].all Num.elB := ⟨_, rfl⟩
  obtain ⟨b2, hb2⟩ : ∃ b2, b2 = sm.all Num.elB := ⟨_, rfl⟩
  obtain ⟨b3, hb3⟩ : ∃ b3, b3 = ss.all Num.elB := ⟨_, rfl⟩
  rw [← hb1] at HE0
  rw [← hb2] at HE1
  rw [← hb3] at HE2
  have HBS := hideG (And.intro hb1 (And.intro hb2 hb3))
  clear hb1 hb2 hb3
  have HR := hideG (fun q1 q2 q3 => draw_rest (T := T) (M := M) (inp := inp) (ch := ch) (mk := mk) (sd := sd) (sm := sm) (ss := ss) q1 q2 q3)
  have HL := hideG (fun h => draw_len (M := M) (T := T) (inp := inp) (ch := ch) (mk := mk) (sd := sd) (sm := sm) (ss := ss) h)
  have HFA := hideG (fun h => draw_words (T := T) (M := M) (inp := inp) (ch := ch) (mk := mk) (sd := sd) (sm := sm) (ss := ss) h)
  obtain ⟨a1, c1, rfl, i2, i3, hcl⟩ := list_view hi
  obtain ⟨a2, c2, rfl, m2, m3, _⟩ := hm
  obtain ⟨a3, c3, rfl, s2, s3, _⟩ := hs
  have HC := hideG hcl
  have HG := hideG (fun k (hk : k < inp.length) => (show inp.getD k 0 ∈ inp by rw [List.getD_eq_getElem?_getD, List.getElem?_eq_getElem hk]; exact List.getElem_mem hk))
  have HS := hideG (fun k (hk : k < inp.length) => (show (inp.take (k + 1)).all Frm.wdB = ((inp.take k).all Frm.wdB && Frm.wdB (inp.getD k 0)) by
    rw [List.take_succ_eq_append_getElem hk, List.all_append, List.getD_eq_getElem?_getD, List.getElem?_eq_getElem hk]; simp))
  have HT := hideG (show inp.take inp.length = inp from List.take_length)
  clear hcl hi h1 h2 h3
  generalize inp.length = n1 at *
  generalize sm.length = n2 at *
  generalize ss.length = n3 at *
  obtain ⟨W0, hW0⟩ : ∃ W0, W0 = (w.alloc (.cells #[.int .i64 N, .int .i64 T, .int .i64 M, .int .i64 D] 42)).alloc (.cells #[.slice a1 n1 c1, .int .i64 ch, .int .i64 mk, .int .i64 sd, .slice a2 n2 c2, .slice a3 n3 c3] 74) := ⟨_, rfl⟩
  have BB := hideG (show Below w.heap.size w W0 by rw [hW0]; exact ((Below.refl _ _).alloc (Nat.le_refl _) _).alloc (by simp) _)
  have z0 : w.heap.size + 1 < W0.heap.size := by rw [hW0]; simp
  have HX := hideG (show SixAt W0 (w.heap.size + 1) 74 (.slice a1 n1 c1) (.int .i64 ch) (.int .i64 mk) (.int .i64 sd) (.slice a2 n2 c2) (.slice a3 n3 c3) by rw [hW0]; exact heap_alloc2_new w _ _)
  have HN := hideG (show W0.cell? ⟨w.heap.size, 1, none⟩ = some (.int .i64 T) ∧ W0.cell? ⟨w.heap.size, 2, none⟩ = some (.int .i64 M) by rw [hW0]; refine ⟨?_, ?_⟩ <;> simp)
  have HW0 := hideG hW0
  clear hW0
  obtain ⟨⟨x0, x1, x2, x3, x4, x5⟩, xf⟩ := HX.out.cells
  obtain ⟨xt, xm⟩ := HN.out
  go_enter Tryz.func105, Tryz.ntmps105
  go_wp2_with fail
  rw [← HW0.out]
  go_loop [5] (fun i => ∃ k : Nat, k ≤ n1 ∧ i = .int .i64 k ∧ (inp.take k).all Frm.wdB = true) (fun i => n1 - (intOf i).toNat)
  case atStart => exact ⟨0, Nat.zero_le _, rfl, rfl⟩
  case round =>
    obtain ⟨k, hk, rfl, hall⟩ := hrel
    have HA := hideG hall
    clear hall
    by_cases hlt : k < n1
    · obtain ⟨b, off, rfl, c0⟩ := HC.out k hlt
      have hbl : b < w.heap.size := cell_in c0
      have HM := hideG (HG.out k hlt)
      have HU := hideG (HS.out k hlt)
      replace c0 := (BB.out.cell (p := ⟨b, off + k, none⟩) hbl).trans c0
      obtain ⟨z, hz⟩ : ∃ z, z = inp.getD k 0 := ⟨_, rfl⟩
      rw [← hz] at c0 HM HU
      clear hz
      by_cases y1 : z < 0
      · have H := hideG (HFA.out (List.all_eq_false.2 ⟨z, HM.out, by rw [show Frm.wdB z = false from decide_eq_false (by omega)]; exact Bool.false_ne_true⟩))
        go_wp2_with fail
        go_ret
        exact ⟨ret_bool H.out.symm, BB.out⟩
      by_cases y2 : z < 4294967296
      · rw [show Frm.wdB z = true from Frm.wdB_iff.2 (by omega), HA.out] at HU
        go_wp2_with fail
        go_round
        case rel => exact ⟨k + 1, by omega, by go_num, HU.out⟩
        case measure => simp [intOf]; omega
      · have H := hideG (HFA.out (List.all_eq_false.2 ⟨z, HM.out, by rw [show Frm.wdB z = false from decide_eq_false (by omega)]; exact Bool.false_ne_true⟩))
        go_wp2_with fail
        go_ret
        exact ⟨ret_bool H.out.symm, BB.out⟩
    · have ek : k = n1 := by omega
      subst ek
      have HWB := hideG (show Cli.wordsB inp = true by have := HA.out; rwa [HT.out] at this)
      by_cases q1 : (k : Int) = M
      · have p1 : ((k : Int) != M) = false := by simpa using q1
        by_cases q2 : (n2 : Int) = T - 1
        · have p2 : ((n2 : Int) != T - 1) = false := by simpa using q2
          by_cases q3 : (n3 : Int) = T - 1
          · have p3 : ((n3 : Int) != T - 1) = false := by simpa using q3
            have HR2 := hideG (show Cli.drawB T M inp ch mk sd sm ss = (b1 && (b2 && b3)) by rw [HR.out q1 q2 q3, HWB.out, HBS.out.1, HBS.out.2.1, HBS.out.2.2]; simp [Bool.and_assoc])
            have B1 := hideG (fun (o : Obj) => BB.out.alloc (Nat.le_of_lt (by omega)) o)
            clear q1 q2 q3
            go_wp2_with fail
            refine (HE1.out _ BB.out).mono ?_
            rintro e w' ⟨rfl, hw'⟩
            rw [hw']
            clear hw'
            cases b2
            · have H := hideG (show Cli.drawB T M inp ch mk sd sm ss = false by rw [HR2.out]; simp)
              go_wp2_with fail
              go_ret
              exact ⟨ret_bool H.out.symm, BB.out⟩
            go_wp2_with fail
            refine (HE2.out _ BB.out).mono ?_
            rintro e w' ⟨rfl, hw'⟩
            rw [hw']
            clear hw'
            cases b3
            · have H := hideG (show Cli.drawB T M inp ch mk sd sm ss = false by rw [HR2.out]; simp)
              go_wp2_with fail
              go_ret
              exact ⟨ret_bool H.out.symm, BB.out⟩
            go_wp2_with fail
            refine (HE0.out W0).mono ?_
            rintro e w' ⟨rfl, hw'⟩
            rw [hw']
            clear hw'
            have H := hideG (show Cli.drawB T M inp ch mk sd sm ss = b1 by rw [HR2.out]; simp)
            go_wp2_with fail
            go_ret
            exact ⟨ret_bool H.out.symm, B1.out _⟩
          · have H := hideG (HL.out (fun h => q3 h.2.2))
            have p3 : ((n3 : Int) != T - 1) = true := by simpa using q3
            clear q1 q2 q3
            go_wp2_with fail
            go_ret
            exact ⟨ret_bool H.out.symm, BB.out⟩
        · have H := hideG (HL.out (fun h => q2 h.2.1))
          have p2 : ((n2 : Int) != T - 1) = true := by simpa using q2
          clear q1 q2
          go_wp2_with fail
          go_ret
          exact ⟨ret_bool H.out.symm, BB.out⟩
      · have H := hideG (HL.out (fun h => q1 h.1))
        have p1 : ((k : Int) != M) = true := by simpa using q1
        clear q1
        go_wp2_with fail
        go_ret
        exact ⟨ret_bool H.out.symm, BB.out⟩

end Go.Proofs.YtchideljndagjaaGreat

namespace Go.Proofs.YtchideljndagjaaGreat
open Go.ChangeShapes Go.WideShapes Go.ChangeAt Go.RowKit
set_option linter.unusedVariables false

set_option maxHeartbeats 2000000 in
set_option maxRecDepth 100000 in
theorem rNew_no (N T M D id : Int) (vi vm vs : Value) (inp sm ss : List Int) (ch mk sd : Int) (w : World) (hi : ListAt w vi inp) (hm : ListAt w vm sm) (hs : ListAt w vs ss) (h1 : inI ch) (h2 : inI mk) (h3 : inI sd) (hE : newE N T M D id inp ch mk sd sm ss ≠ 0) :
    Calls Tryz.prog 48 #[.agg #[.int .i64 N, .int .i64 T, .int .i64 M, .int .i64 D], .int .i64 id, .agg #[vi, .int .i64 ch, .int .i64 mk, .int .i64 sd, vm, vs]] w fun e w' =>
      e = .returned (.tuple #[.pointer none, .int .i64 (newE N T M D id inp ch mk sd sm ss)]) ∧ Below w.heap.size w w' := by
  have HCF := hideG (fun (W : World) => rconfig_calls N T M D W)
  have HDR := hideG (fun (W : World) (hb : Below w.heap.size w W) (t1 : 1 ≤ T) (t2 : T ≤ 12) => rdraw_calls N T M D vi vm vs inp sm ss ch mk sd W (hi.below hb) (hm.below hb) (hs.below hb) t1 t2 h1 h2 h3)
  obtain ⟨a1, c1, rfl, -⟩ := hi
  obtain ⟨a2, c2, rfl, -⟩ := hm
  obtain ⟨a3, c3, rfl, -⟩ := hs
  generalize inp.length = n1 at *
  generalize sm.length = n2 at *
  generalize ss.length = n3 at *
  obtain ⟨W0, hW0⟩ : ∃ W0, W0 = (w.alloc (.cells #[.int .i64 N, .int .i64 T, .int .i64 M, .int .i64 D] 42)).alloc (.cells #[.slice a1 n1 c1, .int .i64 ch, .int .i64 mk, .int .i64 sd, .slice a2 n2 c2, .slice a3 n3 c3] 74) := ⟨_, rfl⟩
  have BB := hideG (show Below w.heap.size w W0 by rw [hW0]; exact ((Below.refl _ _).alloc (Nat.le_refl _) _).alloc (by simp) _)
  have z0 : w.heap.size + 1 < W0.heap.size := by rw [hW0]; simp
  have HX := hideG (show SixAt W0 (w.heap.size + 1) 74 (.slice a1 n1 c1) (.int .i64 ch) (.int .i64 mk) (.int .i64 sd) (.slice a2 n2 c2) (.slice a3 n3 c3) by rw [hW0]; exact heap_alloc2_new w _ _)
  have HN := hideG (show W0.cell? ⟨w.heap.size, 0, none⟩ = some (.int .i64 N) ∧ W0.cell? ⟨w.heap.size, 1, none⟩ = some (.int .i64 T) ∧ W0.cell? ⟨w.heap.size, 2, none⟩ = some (.int .i64 M) ∧ W0.cell? ⟨w.heap.size, 3, none⟩ = some (.int .i64 D) by rw [hW0]; refine ⟨?_, ?_, ?_, ?_⟩ <;> simp)
  have HW0 := hideG hW0
  obtain ⟨x0, x1, x2, x3⟩ := HN.out
  clear hW0
  cases hcf : Cli.cfgB N T M D
  · have HEE := hideG (show newE N T M D id inp ch mk sd sm ss = 5 by unfold newE; rw [if_pos hcf])
    rw [hcf] at HCF
    clear hcf hE
    go_enter Tryz.func48, Tryz.ntmps48
    go_upto_region 1 with fail
    rw [← HW0.out]
    go_wp2_with fail
    refine (HCF.out W0).mono ?_
    rintro e w1 ⟨rfl, hb1⟩
    have HB := hideG (BB.out.trans (hb1.mono (by omega)))
    clear hb1 x0 x1 x2 x3
    go_wp2_with fail
    go_ret2
    exact ⟨by rw [HEE.out]; rfl, HB.out⟩
  obtain ⟨g1, g2, g3, g4, g5, g6, g7, g8⟩ : 1 ≤ N ∧ N ≤ 12 ∧ 1 ≤ T ∧ T ≤ N ∧ 1 ≤ M ∧ M ≤ 12 ∧ 1 ≤ D ∧ D ≤ 50 := by
    unfold Cli.cfgB at hcf; simp only [Bool.and_eq_true, decide_eq_true_iff] at hcf; omega
  rw [hcf] at HCF
  by_cases q1 : id < 1
  · have HEE := hideG (show newE N T M D id inp ch mk sd sm ss = 1 by unfold newE; rw [if_neg (by rw [hcf]; simp), if_pos (.inl q1)])
    clear hcf hE
    go_enter Tryz.func48, Tryz.ntmps48
    go_upto_region 1 with fail
    rw [← HW0.out]
    go_wp2_with fail
    refine (HCF.out W0).mono ?_
    rintro e w1 ⟨rfl, hb1⟩
    have HB := hideG (BB.out.trans (hb1.mono (by omega)))
    clear x0 x1 x2 x3
    have x0 := (hb1.cell (p := ⟨w.heap.size, 0, none⟩) (by show w.heap.size < _; omega)).trans HN.out.1
    clear hb1
    go_wp2_with fail
    go_ret2
    exact ⟨by rw [HEE.out]; rfl, HB.out⟩
  by_cases q2 : N < id
  · have HEE := hideG (show newE N T M D id inp ch mk sd sm ss = 1 by unfold newE; rw [if_neg (by rw [hcf]; simp), if_pos (.inr q2)])
    clear hcf hE
    go_enter Tryz.func48, Tryz.ntmps48
    go_upto_region 1 with fail
    rw [← HW0.out]
    go_wp2_with fail
    refine (HCF.out W0).mono ?_
    rintro e w1 ⟨rfl, hb1⟩
    have HB := hideG (BB.out.trans (hb1.mono (by omega)))
    clear x0 x1 x2 x3
    have x0 := (hb1.cell (p := ⟨w.heap.size, 0, none⟩) (by show w.heap.size < _; omega)).trans HN.out.1
    clear hb1
    go_wp2_with fail
    go_ret2
    exact ⟨by rw [HEE.out]; rfl, HB.out⟩
  have hdr : Cli.drawB T M inp ch mk sd sm ss = false := by
    cases e : Cli.drawB T M inp ch mk sd sm ss
    · rfl
    · exfalso; apply hE; unfold newE; rw [if_neg (by rw [hcf]; simp), if_neg (by omega), if_neg (by rw [e]; simp)]
  have HEE := hideG (show newE N T M D id inp ch mk sd sm ss = 6 by unfold newE; rw [if_neg (by rw [hcf]; simp), if_neg (by omega), if_pos hdr])
  rw [hdr] at HDR
  clear hcf hdr hE
  go_enter Tryz.func48, Tryz.ntmps48
  go_upto_region 1 with fail
  rw [← HW0.out]
  go_wp2_with fail
  refine (HCF.out W0).mono ?_
  rintro e w1 ⟨rfl, hb1⟩
  have HB := hideG (BB.out.trans (hb1.mono (by omega)))
  have s1 := hb1.size
  clear x0 x1 x2 x3
  have x0 := (hb1.cell (p := ⟨w.heap.size, 0, none⟩) (by show w.heap.size < _; omega)).trans HN.out.1
  have x1 := (hb1.cell (p := ⟨w.heap.size, 1, none⟩) (by show w.heap.size < _; omega)).trans HN.out.2.1
  have x2 := (hb1.cell (p := ⟨w.heap.size, 2, none⟩) (by show w.heap.size < _; omega)).trans HN.out.2.2.1
  have x3 := (hb1.cell (p := ⟨w.heap.size, 3, none⟩) (by show w.heap.size < _; omega)).trans HN.out.2.2.2
  obtain ⟨⟨u0, u1, u2, u3, u4, u5⟩, uf⟩ := (HX.out.below hb1 z0).cells
  clear hb1
  go_wp2_with fail
  refine (HDR.out w1 HB.out g3 (by omega)).mono ?_
  rintro e w2 ⟨rfl, hb2⟩
  have HB2 := hideG (HB.out.trans (hb2.mono HB.out.size))
  clear hb2 x0 x1 x2 x3 u0 u1 u2 u3 u4 u5 uf
  go_wp2_with fail
  go_ret2
  exact ⟨by rw [HEE.out]; rfl, HB2.out⟩

theorem hello_items (W : World) (g : Nat) (id pa pb : Int) (E6 : W.heap[g]? = some (.cells #[.int .i64 id, .int .i64 pa, .int .i64 pb, .int .i64 0] 142 (0, 0))) (hin : ∀ x ∈ [((id, pa, pb, (0 : Int)) : Frm.It)], inIt x) : ItemsAt W (.slice (some ⟨g, 0, none⟩) 1 1) [(id, pa, pb, 0)] := by
  refine ⟨some ⟨g, 0, none⟩, 1, rfl, Nat.le_refl _, by unfold maxLen; omega, hin, .inr ⟨g, 0, rfl, ?_, fun i hi => ?_⟩⟩
  · by_cases hb : g < W.heap.size
    · exact hb
    · rw [Array.getElem?_eq_none (by omega)] at E6; cases E6
  · obtain rfl : i = 0 := by simp at hi; omega
    exact ⟨(cell_of_row W g 0 _ _ (0, 0) E6).trans rfl, (cell_of_row W g 1 _ _ (0, 0) E6).trans rfl, (cell_of_row W g 2 _ _ (0, 0) E6).trans rfl, (cell_of_row W g 3 _ _ (0, 0) E6).trans rfl⟩

theorem rNew_ref {w' : World} {pw b : Nat} {c : Cli.Cl} {D : Int} {vi vm vs hiv : Value} (hr : RAt w' b ⟨c, D, vi, vm, vs, .slice none 0 0, hiv, 1, .slice none 0 0⟩) (hg : Cli.Good c) (h1 : ListAt w' vi c.inp) (h2 : ListAt w' vm c.sm) (h3 : ListAt w' vs c.ss)
    (hlow : ∀ x, ((c.inp ≠ [] ∧ vi.ownBlock = some x) ∨ (c.sm ≠ [] ∧ vm.ownBlock = some x) ∨ (c.ss ≠ [] ∧ vs.ownBlock = some x)) → x < pw) (hh : BytesAt w' hiv (Frm.encF 1 c.id (helloL c))) (hb : pw < b) (hb2 : b < w'.heap.size) (hhi : ∀ x, hiv.ownBlock = some x → b < x ∧ x < w'.heap.size) :
    RefW w' pw b ⟨c, D, vi, vm, vs, .slice none 0 0, hiv, 1, .slice none 0 0⟩ [] [] where
  at_ := hr
  good := hg
  vi := h1
  vm := h2
  vz := h3
  low := hlow
  hi := hh
  heard := ⟨rfl, World.ownsRow_nil _ _ _ _, fun j u hu => by simp at hu⟩
  told := ⟨none, 0, rfl, Nat.zero_le _, Nat.zero_le _, fun x hx => (by cases hx), .inl rfl⟩
  ph := rfl
  ok := fun f hf => by cases hf
  foot := fun x hx => by
    rcases hx with (hx | hx) | hx | hx | ⟨u, hu, _⟩
    · subst hx; exact ⟨hb, hb2⟩
    · cases hx
    · have := hhi x hx; omega
    · cases hx
    · cases hu
  apart := fun x hx => by
    rcases hx with hx | hx | ⟨u, hu, _⟩
    · have := hhi x hx
      exact ⟨by omega, fun e => by cases e⟩
    · cases hx
    · cases hu
  apartb := fun e => by cases e

end Go.Proofs.YtchideljndagjaaGreat

namespace Go.Proofs.YtchideljndagjaaGreat
open Go.ChangeShapes Go.WideShapes Go.ChangeAt Go.RowKit
set_option linter.unusedVariables false

set_option maxHeartbeats 2000000 in
set_option maxRecDepth 100000 in
theorem rNew_ok (pw : Nat) (N T M D id : Int) (vi vm vs : Value) (inp sm ss : List Int) (ch mk sd : Int) (w : World) (hi : ListAt w vi inp) (hm : ListAt w vm sm) (hs : ListAt w vs ss) (h1 : inI ch) (h2 : inI mk) (h3 : inI sd) (hE : newE N T M D id inp ch mk sd sm ss = 0)
    (hpw : pw < w.heap.size) (hlow : ∀ x, ((inp ≠ [] ∧ vi.ownBlock = some x) ∨ (sm ≠ [] ∧ vm.ownBlock = some x) ∨ (ss ≠ [] ∧ vs.ownBlock = some x)) → x < pw) :
    Calls Tryz.prog 48 #[.agg #[.int .i64 N, .int .i64 T, .int .i64 M, .int .i64 D], .int .i64 id, .agg #[vi, .int .i64 ch, .int .i64 mk, .int .i64 sd, vm, vs]] w fun e w' =>
      ∃ b, e = .returned (.tuple #[.pointer (some ⟨b, 0, none⟩), .int .i64 0]) ∧ ∃ s, s.c = ⟨N, T, M, id, inp, ch, mk, sd, sm, ss⟩ ∧ RefW w' pw b s [] [] ∧ Below w.heap.size w w' ∧ ∀ x, RFoot b s [] x → w.heap.size ≤ x := by
  obtain ⟨hcf, hid, hdr⟩ := newE_ok hE
  have hgood := Cli.good_of hcf hid hdr
  have HCF := hideG (fun (W : World) => rconfig_calls N T M D W)
  obtain ⟨g1, g2, g3, g4, g5, g6, g7, g8⟩ : 1 ≤ N ∧ N ≤ 12 ∧ 1 ≤ T ∧ T ≤ N ∧ 1 ≤ M ∧ M ≤ 12 ∧ 1 ≤ D ∧ D ≤ 50 := by
    have := hcf; unfold Cli.cfgB at this; simp only [Bool.and_eq_true, decide_eq_true_iff] at this; omega
  have HDR := hideG (fun (W : World) (hb : Below w.heap.size w W) => rdraw_calls N T M D vi vm vs inp sm ss ch mk sd W (hi.below hb) (hm.below hb) (hs.below hb) g3 (by omega) h1 h2 h3)
  rw [hcf] at HCF
  rw [hdr] at HDR
  have HLI := hideG (fun (W : World) (hb : Below w.heap.size w W) => (show ListAt W vi inp ∧ ListAt W vm sm ∧ ListAt W vs ss from ⟨hi.below hb, hm.below hb, hs.below hb⟩))
  have HLO := hideG hlow
  obtain ⟨a1, c1, rfl, -⟩ := hi
  obtain ⟨a2, c2, rfl, -⟩ := hm
  obtain ⟨a3, c3, rfl, -⟩ := hs
  obtain ⟨n1, hn1⟩ : ∃ n, n = inp.length := ⟨_, rfl⟩
  obtain ⟨n2, hn2⟩ : ∃ n, n = sm.length := ⟨_, rfl⟩
  obtain ⟨n3, hn3⟩ : ∃ n, n = ss.length := ⟨_, rfl⟩
  rw [← hn1] at HDR HLI HLO ⊢
  rw [← hn2] at HDR HLI HLO ⊢
  rw [← hn3] at HDR HLI HLO ⊢
  obtain ⟨cc, hcc⟩ : ∃ cc : Cli.Cl, cc = ⟨N, T, M, id, inp, ch, mk, sd, sm, ss⟩ := ⟨_, rfl⟩
  rw [← hcc] at hgood ⊢
  have HG := hideG hgood
  have HCC := hideG hcc
  obtain ⟨W0, hW0⟩ : ∃ W0, W0 = (w.alloc (.cells #[.int .i64 N, .int .i64 T, .int .i64 M, .int .i64 D] 42)).alloc (.cells #[.slice a1 n1 c1, .int .i64 ch, .int .i64 mk, .int .i64 sd, .slice a2 n2 c2, .slice a3 n3 c3] 74) := ⟨_, rfl⟩
  have BB := hideG (show Below w.heap.size w W0 by rw [hW0]; exact ((Below.refl _ _).alloc (Nat.le_refl _) _).alloc (by simp) _)
  have z0 : w.heap.size + 1 < W0.heap.size := by rw [hW0]; simp
  have HX := hideG (show SixAt W0 (w.heap.size + 1) 74 (.slice a1 n1 c1) (.int .i64 ch) (.int .i64 mk) (.int .i64 sd) (.slice a2 n2 c2) (.slice a3 n3 c3) by rw [hW0]; exact heap_alloc2_new w _ _)
  have HN := hideG (show W0.cell? ⟨w.heap.size, 0, none⟩ = some (.int .i64 N) ∧ W0.cell? ⟨w.heap.size, 1, none⟩ = some (.int .i64 T) ∧ W0.cell? ⟨w.heap.size, 2, none⟩ = some (.int .i64 M) ∧ W0.cell? ⟨w.heap.size, 3, none⟩ = some (.int .i64 D) by rw [hW0]; refine ⟨?_, ?_, ?_, ?_⟩ <;> simp)
  have HW0 := hideG hW0
  obtain ⟨x0, x1, x2, x3⟩ := HN.out
  obtain ⟨q1, q2⟩ := hid
  have q1' : ¬ id < 1 := by omega
  have q2' : ¬ N < id := by omega
  clear hW0 hn1 hn2 hn3 hcf hdr hgood hcc hlow hE
  go_enter Tryz.func48, Tryz.ntmps48
  go_upto_region 1 with fail
  rw [← HW0.out]
  go_wp2_with fail
  refine (HCF.out W0).mono ?_
  rintro e w1 ⟨rfl, hb1⟩
  have HB := hideG (BB.out.trans (hb1.mono (by omega)))
  have HB01 := hideG hb1
  have s1 := hb1.size
  clear x0 x1 x2 x3
  have x0 := (hb1.cell (p := ⟨w.heap.size, 0, none⟩) (by show w.heap.size < _; omega)).trans HN.out.1
  have x1 := (hb1.cell (p := ⟨w.heap.size, 1, none⟩) (by show w.heap.size < _; omega)).trans HN.out.2.1
  have x2 := (hb1.cell (p := ⟨w.heap.size, 2, none⟩) (by show w.heap.size < _; omega)).trans HN.out.2.2.1
  have x3 := (hb1.cell (p := ⟨w.heap.size, 3, none⟩) (by show w.heap.size < _; omega)).trans HN.out.2.2.2
  obtain ⟨⟨u0, u1, u2, u3, u4, u5⟩, uf⟩ := (HX.out.below hb1 z0).cells
  clear hb1
  go_wp2_with fail
  refine (HDR.out w1 HB.out).mono ?_
  rintro e w2 ⟨rfl, hb2⟩
  have s2 := hb2.size
  have HB2 := hideG (HB.out.trans (hb2.mono HB.out.size))
  have hb02 := HB01.out.trans (hb2.mono s1)
  clear hb2 x0 x1 x2 x3 u0 u1 u2 u3 u4 u5 uf
  have x0 := (hb02.cell (p := ⟨w.heap.size, 0, none⟩) (by show w.heap.size < _; omega)).trans HN.out.1
  have x1 := (hb02.cell (p := ⟨w.heap.size, 1, none⟩) (by show w.heap.size < _; omega)).trans HN.out.2.1
  have x2 := (hb02.cell (p := ⟨w.heap.size, 2, none⟩) (by show w.heap.size < _; omega)).trans HN.out.2.2.1
  have x3 := (hb02.cell (p := ⟨w.heap.size, 3, none⟩) (by show w.heap.size < _; omega)).trans HN.out.2.2.2
  obtain ⟨⟨u0, u1, u2, u3, u4, u5⟩, uf⟩ := (HX.out.below hb02 z0).cells
  clear hb02
  obtain ⟨W3, hW3⟩ : ∃ W3, W3 = w2.alloc (.cells #[.int .i64 N, .int .i64 T, .int .i64 M, .int .i64 D, .int .i64 id, .slice a1 n1 c1, .int .i64 ch, .int .i64 mk, .int .i64 sd, .slice a2 n2 c2, .slice a3 n3 c3, .slice none 0 0, .slice none 0 0, .int .i64 1, .slice none 0 0] 108) := ⟨_, rfl⟩
  have hb23 : Below w2.heap.size w2 W3 := by rw [hW3]; exact (Below.refl _ _).alloc (Nat.le_refl _) _
  have sW3 : W3.heap.size = w2.heap.size + 1 := by rw [hW3]; simp
  have HB3 := hideG (HB2.out.trans (hb23.mono HB2.out.size))
  have RA3 := hideG (show RAt W3 w2.heap.size ⟨cc, D, .slice a1 n1 c1, .slice a2 n2 c2, .slice a3 n3 c3, .slice none 0 0, .slice none 0 0, 1, .slice none 0 0⟩ by rw [hW3, HCC.out]; exact heap_alloc_new w2 _)
  have HW3 := hideG hW3
  clear hW3 hb23
  go_upto_region 10 with fail
  rw [← HW3.out]
  clear x0 x1 x2 x3 u0 u1 u2 u3 u4 u5 uf
  have HOW := hideG (rown_calls w2.heap.size _ W3 RA3.out HG.out.ch.1 HG.out.ch.2 HG.out.ms.1 HG.out.ms.2)
  have hccid : cc.id = id := by rw [HCC.out]
  have HHL := hideG (show helloL cc = [(id, Cli.pubA cc, Cli.pubB cc, 0)] by unfold helloL; rw [hccid])
  have HOKL := hideG (helloL_ok HG.out)
  simp only at HOW
  rw [hccid] at HOW HOKL
  have HEN := hideG (fun (W : World) (v : Value) (hv : ItemsAt W v (helloL cc)) => rencode_yes 1 id v (helloL cc) W hv HOKL.out)
  have HCI := hideG hccid
  clear hccid
  generalize Cli.pubA cc = pa at *
  generalize Cli.pubB cc = pb at *
  go_wp2_with fail
  refine HOW.out.mono ?_
  rintro e w4 ⟨rfl, hb4⟩
  have s4 := hb4.size
  obtain ⟨W5, hW5⟩ : ∃ W5, W5 = w4.alloc (.cells #[.int .i64 id, .int .i64 pa, .int .i64 pb, .int .i64 0] 142) := ⟨_, rfl⟩
  have hb45 : Below w4.heap.size w4 W5 := by rw [hW5]; exact (Below.refl _ _).alloc (Nat.le_refl _) _
  have E1 : W5.heap[w4.heap.size]? = some (.cells #[.int .i64 id, .int .i64 pa, .int .i64 pb, .int .i64 0] 142 (0, 0)) := by rw [hW5]; exact heap_alloc_new w4 _
  have e0 := cell_of_row W5 w4.heap.size 0 _ _ (0, 0) E1
  have e1 := cell_of_row W5 w4.heap.size 1 _ _ (0, 0) E1
  have e2 := cell_of_row W5 w4.heap.size 2 _ _ (0, 0) E1
  have e3 := cell_of_row W5 w4.heap.size 3 _ _ (0, 0) E1
  simp only [List.getElem?_toArray, List.getElem?_cons_zero, List.getElem?_cons_succ] at e0 e1 e2 e3
  have sW5 : W5.heap.size = w4.heap.size + 1 := by rw [hW5]; simp
  have HB35 := hideG (hb4.trans (hb45.mono s4))
  have HW5 := hideG hW5
  clear hW5 hb4 hb45 E1 sW5
  go_upto_region 11 with fail
  rw [← HW5.out]
  obtain ⟨W6, hW6⟩ : ∃ W6, W6 = W5.alloc (.cells #[.int .i64 id, .int .i64 pa, .int .i64 pb, .int .i64 0] 142) := ⟨_, rfl⟩
  have hb56 : Below W5.heap.size W5 W6 := by rw [hW6]; exact (Below.refl _ _).alloc (Nat.le_refl _) _
  have IT6 := hideG (show ItemsAt W6 (.slice (some ⟨W5.heap.size, 0, none⟩) 1 1) (helloL cc) by
    have hin : ∀ x ∈ helloL cc, inIt x := okF_in HOKL.out
    rw [HHL.out] at hin ⊢
    exact hello_items W6 W5.heap.size id pa pb (by rw [hW6]; exact heap_alloc_new W5 _) hin)
  have HB36 := hideG (HB35.out.trans (hb56.mono HB35.out.size))
  have HW6 := hideG hW6
  have s36 := HB36.out.size
  clear hW6 hb56
  go_wp2_with fail
  rw [← HW6.out]
  refine (HEN.out W6 _ IT6.out).mono ?_
  rintro e w7 ⟨va, rfl, hoa, hb7⟩
  have s7 := hb7.size
  obtain ⟨a7, c7, hva⟩ := owns_form hoa
  have HB37 := hideG (HB36.out.trans (hb7.mono HB36.out.size))
  have RA7 := hideG (RA3.out.below HB37.out)
  have c12 := RA7.out.cell 12
  change w7.cell? ⟨w2.heap.size, 12, none⟩ = some (.slice none 0 0) at c12
  have f12 := RA7.out.froz 12
  subst hva
  have OA := hideG hoa
  clear hoa hb7 e0 e1 e2 e3
  obtain ⟨EL, hEL⟩ : ∃ EL, EL = (Frm.encF 1 id (helloL cc)).length := ⟨_, rfl⟩
  rw [← hEL] at OA ⊢ 
  have HEL := hideG hEL
  clear hEL
  obtain ⟨W8, hW8⟩ : ∃ W8, W8 = w7.setCell ⟨w2.heap.size, 12, none⟩ (.slice a7 EL c7) := ⟨_, rfl⟩
  have hc8 : Chg (fun x => x = w2.heap.size) w7 W8 := by rw [hW8]; exact Chg.setCell w7 ⟨w2.heap.size, 12, none⟩ _
  have RA8 := hideG (show RAt W8 w2.heap.size ⟨cc, D, .slice a1 n1 c1, .slice a2 n2 c2, .slice a3 n3 c3, .slice none 0 0, .slice a7 EL c7, 1, .slice none 0 0⟩ by
    rw [hW8]
    have := heap_setCell_same w7 w2.heap.size 12 _ _ (.slice a7 EL c7) RA7.out
    rw [List.setIfInBounds_toArray] at this
    exact this)
  have s8 := hc8.size
  have OA8 := hideG (ownsRow_chg OA.out hc8 (fun x hx e => by have := OA.out.lt x hx; omega))
  have sw2 := HB2.out.size
  have s23 := HB37.out.size
  have HB8 := hideG (show Below w.heap.size w W8 from (HB3.out.trans (HB37.out.mono (by omega))).trans (hc8.below (by omega) (fun x e => by omega)))
  have HW8 := hideG hW8
  clear hW8 hc8
  go_wp2_with fail
  rw [← HW8.out]
  go_ret2
  have HLW := HLI.out W8 HB8.out
  have hci := HCI.out
  have hc1 : cc.inp = inp ∧ cc.sm = sm ∧ cc.ss = ss := by rw [HCC.out]; exact ⟨rfl, rfl, rfl⟩
  refine ⟨_, rfl, ⟨cc, D, .slice a1 n1 c1, .slice a2 n2 c2, .slice a3 n3 c3, .slice none 0 0, .slice a7 EL c7, 1, .slice none 0 0⟩, rfl, ?_, HB8.out, ?_⟩
  · refine rNew_ref RA8.out HG.out (by rw [hc1.1]; exact HLW.1) (by rw [hc1.2.1]; exact HLW.2.1) (by rw [hc1.2.2]; exact HLW.2.2) (by rw [hc1.1, hc1.2.1, hc1.2.2]; exact HLO.out) ?_ (by omega) RA8.out.lt (fun x hx => by have := OA8.out.lt x hx; omega)
    rw [hci]
    exact bytesAt_of_owns OA8.out (encF_isB HOKL.out)
  · intro x hx
    rcases hx with (hx | hx) | hx | hx | ⟨u, hu, _⟩
    · omega
    · cases hx
    · have := OA8.out.lt x hx; omega
    · cases hx
    · cases hu

end Go.Proofs.YtchideljndagjaaGreat

namespace Go.Proofs.YtchideljndagjaaGreat
open Go.RowKit
set_option linter.unusedVariables false

def FRow (w : World) (g : Nat) (T : TypeId) (N : Nat) (f : Nat → Value) : Prop := w.heap[g]? = some (.cells ((List.range N).map f).toArray T (0, 0))
theorem frow_get (N : Nat) (f : Nat → Value) (t : Nat) (ht : t < N) : ((List.range N).map f)[t]? = some (f t) := by rw [List.getElem?_map, List.getElem?_range ht]; rfl
section
variable {w w' : World} {g N : Nat} {T : TypeId} {f f' : Nat → Value}
theorem FRow.cell (h : FRow w g T N f) (t : Nat) (ht : t < N) : w.cell? ⟨g, t, none⟩ = some (f t) := by
  rw [cell_of_row w g t _ _ (0, 0) h, List.getElem?_toArray]; exact frow_get N f t ht
theorem FRow.froz (h : FRow w g T N f) (t : Nat) : w.frozen? ⟨g, t, none⟩ = false := frozen_of_row w g t _ _ h
theorem FRow.lt (h : FRow w g T N f) : g < w.heap.size := by
  by_cases hb : g < w.heap.size
  · exact hb
  · unfold FRow at h; rw [Array.getElem?_eq_none (by omega)] at h; cases h
theorem FRow.block (h : FRow w g T N f) (e : w'.heap[g]? = w.heap[g]?) : FRow w' g T N f := e.trans h
theorem FRow.ext (h : FRow w g T N f) (e : ∀ t, t < N → f t = f' t) : FRow w g T N f' := by
  unfold FRow at h ⊢
  rw [h]
  congr 3
  apply List.map_congr_left
  intro t ht
  exact e t (List.mem_range.1 ht)
theorem FRow.upd (h : FRow w g T N f) (t : Nat) (ht : t < N) (v : Value) (hz : f' t = v) (e : ∀ u, u < N → u ≠ t → f' u = f u) : FRow (w.setCell ⟨g, t, none⟩ v) g T N f' := by
  have := heap_setCell_same w g t _ _ v h
  unfold FRow
  rw [this, List.setIfInBounds_toArray]
  congr 3
  apply List.ext_getElem?
  intro u
  rw [List.getElem?_set]
  by_cases hu : u < N
  · rw [frow_get N f' u hu]
    by_cases ee : t = u
    · subst ee; rw [if_pos rfl, if_pos (by simpa using ht), hz]
    · rw [if_neg ee, frow_get N f u hu, e u hu (fun x => ee x.symm)]
  · rw [List.getElem?_eq_none (by simp; omega)]
    by_cases ee : t = u
    · omega
    · rw [if_neg ee, List.getElem?_eq_none (by simp; omega)]
theorem FRow.set (h : FRow w g T N f) (t : Nat) (ht : t < N) (v : Value) : FRow (w.setCell ⟨g, t, none⟩ v) g T N (fun u => if u = t then v else f u) := h.upd t ht v (if_pos rfl) (fun u _ hu => if_neg hu)
end

def pick6 (d0 d1 d2 d3 d4 d5 : Value) : Nat → Value
  | 0 => d0
  | 1 => d1
  | 2 => d2
  | 3 => d3
  | 4 => d4
  | _ => d5

def set6 (w : World) (g o : Nat) (d0 d1 d2 d3 d4 d5 : Value) : World := (((((w.setCell ⟨g, o, none⟩ d0).setCell ⟨g, o + 1, none⟩ d1).setCell ⟨g, o + 2, none⟩ d2).setCell ⟨g, o + 3, none⟩ d3).setCell ⟨g, o + 4, none⟩ d4).setCell ⟨g, o + 5, none⟩ d5

theorem FRow.set6 {w : World} {g N : Nat} {T : TypeId} {f : Nat → Value} (h : FRow w g T N f) (i : Nat) (hi : i * 6 + 5 < N) (d0 d1 d2 d3 d4 d5 : Value) : FRow (set6 w g (i * 6) d0 d1 d2 d3 d4 d5) g T N (fun t => if t / 6 = i then pick6 d0 d1 d2 d3 d4 d5 (t % 6) else f t) := by
  have h5 := (((((h.set (i * 6) (by omega) d0).set (i * 6 + 1) (by omega) d1).set (i * 6 + 2) (by omega) d2).set (i * 6 + 3) (by omega) d3).set (i * 6 + 4) (by omega) d4).set (i * 6 + 5) (by omega) d5
  refine FRow.ext h5 (fun t ht => ?_)
  by_cases e : t / 6 = i
  · rw [if_pos e]
    have hm : t % 6 = 0 ∨ t % 6 = 1 ∨ t % 6 = 2 ∨ t % 6 = 3 ∨ t % 6 = 4 ∨ t % 6 = 5 := by omega
    rcases hm with hm | hm | hm | hm | hm | hm
    · rw [if_neg (by omega), if_neg (by omega), if_neg (by omega), if_neg (by omega), if_neg (by omega), if_pos (by omega), hm]; rfl
    · rw [if_neg (by omega), if_neg (by omega), if_neg (by omega), if_neg (by omega), if_pos (by omega), hm]; rfl
    · rw [if_neg (by omega), if_neg (by omega), if_neg (by omega), if_pos (by omega), hm]; rfl
    · rw [if_neg (by omega), if_neg (by omega), if_pos (by omega), hm]; rfl
    · rw [if_neg (by omega), if_pos (by omega), hm]; rfl
    · rw [if_pos (by omega), hm]; rfl
  · rw [if_neg e, if_neg (by omega), if_neg (by omega), if_neg (by omega), if_neg (by omega), if_neg (by omega), if_neg (by omega)]
theorem set6_chg (w : World) (g o : Nat) (d0 d1 d2 d3 d4 d5 : Value) : Chg (fun b => b = g) w (set6 w g o d0 d1 d2 d3 d4 d5) := by
  unfold set6
  exact ((((((Chg.setCell w ⟨g, o, none⟩ d0).trans (Chg.setCell _ ⟨g, o + 1, none⟩ d1) (fun _ e _ => e)).trans (Chg.setCell _ ⟨g, o + 2, none⟩ d2) (fun _ e _ => e)).trans (Chg.setCell _ ⟨g, o + 3, none⟩ d3) (fun _ e _ => e)).trans (Chg.setCell _ ⟨g, o + 4, none⟩ d4) (fun _ e _ => e)).trans (Chg.setCell _ ⟨g, o + 5, none⟩ d5) (fun _ e _ => e))

structure DD where
  inp : List Int
  ch : Int
  ms : Int
  sd : Int
  sm : List Int
  ss : List Int
def dl (d : DD) : Nat → List Int
  | 0 => d.inp
  | 1 => d.sm
  | _ => d.ss

/-- A draw's six cells in a block of its own. -/
def BoxAt (w : World) (b : Nat) (d0 d1 d2 d3 d4 d5 : Value) : Prop := w.heap[b]? = some (.cells #[d0, d1, d2, d3, d4, d5] 74 (0, 0))
theorem BoxAt.cells {w : World} {b : Nat} {d0 d1 d2 d3 d4 d5 : Value} (h : BoxAt w b d0 d1 d2 d3 d4 d5) : (w.cell? ⟨b, 0, none⟩ = some d0 ∧ w.cell? ⟨b, 1, none⟩ = some d1 ∧ w.cell? ⟨b, 2, none⟩ = some d2 ∧ w.cell? ⟨b, 3, none⟩ = some d3 ∧ w.cell? ⟨b, 4, none⟩ = some d4 ∧ w.cell? ⟨b, 5, none⟩ = some d5) ∧ ∀ i, w.frozen? ⟨b, i, none⟩ = false :=
  ⟨⟨(cell_of_row w b 0 _ _ (0, 0) h).trans rfl, (cell_of_row w b 1 _ _ (0, 0) h).trans rfl, (cell_of_row w b 2 _ _ (0, 0) h).trans rfl, (cell_of_row w b 3 _ _ (0, 0) h).trans rfl, (cell_of_row w b 4 _ _ (0, 0) h).trans rfl, (cell_of_row w b 5 _ _ (0, 0) h).trans rfl⟩, fun i => frozen_of_row w b i _ _ h⟩
theorem BoxAt.below {w w' : World} {b B : Nat} {d0 d1 d2 d3 d4 d5 : Value} (h : BoxAt w b d0 d1 d2 d3 d4 d5) (hb : Below B w w') (hB : b < B) : BoxAt w' b d0 d1 d2 d3 d4 d5 := (hb.block b hB).trans h
theorem BoxAt.set0 {w : World} {b : Nat} {d0 d1 d2 d3 d4 d5 : Value} (h : BoxAt w b d0 d1 d2 d3 d4 d5) (v : Value) : BoxAt (w.setCell ⟨b, 0, none⟩ v) b v d1 d2 d3 d4 d5 := heap_setCell_same w b 0 _ _ v h
theorem BoxAt.set4 {w : World} {b : Nat} {d0 d1 d2 d3 d4 d5 : Value} (h : BoxAt w b d0 d1 d2 d3 d4 d5) (v : Value) : BoxAt (w.setCell ⟨b, 4, none⟩ v) b d0 d1 d2 d3 v d5 := heap_setCell_same w b 4 _ _ v h
theorem BoxAt.set5 {w : World} {b : Nat} {d0 d1 d2 d3 d4 d5 : Value} (h : BoxAt w b d0 d1 d2 d3 d4 d5) (v : Value) : BoxAt (w.setCell ⟨b, 5, none⟩ v) b d0 d1 d2 d3 d4 v := heap_setCell_same w b 5 _ _ v h

def DrawIs (w : World) (vi vm vs : Value) (d : DD) : Prop := ListAt w vi d.inp ∧ ListAt w vm d.sm ∧ ListAt w vs d.ss ∧ inI d.ch ∧ inI d.ms ∧ inI d.sd
theorem DrawIs.below {w w' : World} {vi vm vs : Value} {d : DD} (h : DrawIs w vi vm vs d) (hb : Below w.heap.size w w') : DrawIs w' vi vm vs d := ⟨h.1.below hb, h.2.1.below hb, h.2.2.1.below hb, h.2.2.2⟩

/-- A list of draws. -/
structure DrawsAt (w : World) (a : Option Addr) (n cap : Nat) (vi vm vs : Nat → Value) (D : Nat → DD) : Prop where
  le : n ≤ cap
  mx : cap ≤ 9223372036854775807
  cells : ∀ i, i < n → ∃ b off, a = some ⟨b, off, none⟩ ∧ b < w.heap.size ∧ w.cell? ⟨b, off + i * 6, none⟩ = some (vi i) ∧ w.cell? ⟨b, off + i * 6 + 1, none⟩ = some (.int .i64 (D i).ch) ∧ w.cell? ⟨b, off + i * 6 + 2, none⟩ = some (.int .i64 (D i).ms) ∧ w.cell? ⟨b, off + i * 6 + 3, none⟩ = some (.int .i64 (D i).sd) ∧ w.cell? ⟨b, off + i * 6 + 4, none⟩ = some (vm i) ∧ w.cell? ⟨b, off + i * 6 + 5, none⟩ = some (vs i)
  its : ∀ i, i < n → DrawIs w (vi i) (vm i) (vs i) (D i)
theorem DrawsAt.below {w w' : World} {a : Option Addr} {n cap : Nat} {vi vm vs : Nat → Value} {D : Nat → DD} (h : DrawsAt w a n cap vi vm vs D) (hb : Below w.heap.size w w') : DrawsAt w' a n cap vi vm vs D :=
  ⟨h.le, h.mx, fun i hi => by
    obtain ⟨b, off, e1, e2, e3, e4, e5, e6, e7, e8⟩ := h.cells i hi
    exact ⟨b, off, e1, Nat.lt_of_lt_of_le e2 hb.size, (hb.cell (p := ⟨b, off + i * 6, none⟩) e2).trans e3, (hb.cell (p := ⟨b, off + i * 6 + 1, none⟩) e2).trans e4, (hb.cell (p := ⟨b, off + i * 6 + 2, none⟩) e2).trans e5, (hb.cell (p := ⟨b, off + i * 6 + 3, none⟩) e2).trans e6, (hb.cell (p := ⟨b, off + i * 6 + 4, none⟩) e2).trans e7, (hb.cell (p := ⟨b, off + i * 6 + 5, none⟩) e2).trans e8⟩,
   fun i hi => (h.its i hi).below hb⟩

def gsl (g : Nat) (l : List Int) : Value := .slice (some ⟨g, 0, none⟩) l.length (l.length + 3)
/-- What is handed in: the draws, their lists in blocks of their own, and three that are marked. -/
def dgiven (n : Nat) (G : Nat → Nat → Nat) (D : Nat → DD) (t : Nat) : Value :=
  if t / 6 < n then pick6 (gsl (G (t / 6) 0) (D (t / 6)).inp) (.int .i64 (D (t / 6)).ch) (.int .i64 (D (t / 6)).ms) (.int .i64 (D (t / 6)).sd) (gsl (G (t / 6) 1) (D (t / 6)).sm) (gsl (G (t / 6) 2) (D (t / 6)).ss) (t % 6)
  else pick6 (.slice none 0 0) (.int .i64 77) (.int .i64 77) (.int .i64 77) (.slice none 0 0) (.slice none 0 0) (t % 6)

/-- The lists of the draws, in their blocks: all apart. -/
structure GivenAt (w : World) (B g n : Nat) (G : Nat → Nat → Nat) (D : Nat → DD) : Prop where
  row : ∀ i k, i < n → k < 3 → w.heap[G i k]? = some (.cells (given (dl (D i) k) 3).toArray 3 (0, 0))
  lo : ∀ i k, i < n → k < 3 → B ≤ G i k ∧ G i k ≠ g
  inj : ∀ i k i' k', i < n → k < 3 → i' < n → k' < 3 → G i k = G i' k' → i = i' ∧ k = k'
theorem GivenAt.lt {w : World} {B g n : Nat} {G : Nat → Nat → Nat} {D : Nat → DD} (h : GivenAt w B g n G D) (i k : Nat) (hi : i < n) (hk : k < 3) : G i k < w.heap.size := by
  have := h.row i k hi hk
  by_cases hb : G i k < w.heap.size
  · exact hb
  · rw [Array.getElem?_eq_none (by omega)] at this; cases this

theorem made6 (n : Nat) : (madeCells #[Value.slice none 0 0, .int .i64 0, .int .i64 0, .int .i64 0, .slice none 0 0, .slice none 0 0] (n * 6)).toList = (List.range (n * 6)).map (fun t => pick6 (.slice none 0 0) (.int .i64 0) (.int .i64 0) (.int .i64 0) (.slice none 0 0) (.slice none 0 0) (t % 6)) := by
  apply List.ext_getElem?
  intro i
  by_cases hi : i < n * 6
  · rw [frow_get _ _ i hi]
    unfold madeCells
    simp [hi]
    rcases (show i % 6 = 0 ∨ i % 6 = 1 ∨ i % 6 = 2 ∨ i % 6 = 3 ∨ i % 6 = 4 ∨ i % 6 = 5 by omega) with e | e | e | e | e | e <;> simp [e, pick6]
  · rw [List.getElem?_eq_none (by simp [madeCells]; omega), List.getElem?_eq_none (by simp; omega)]
theorem row_of_full6 {w : World} {B g n : Nat} {e : TypeId} {xs : List Value} (h : w.ownsRow B e 6 (.slice (some ⟨g, 0, none⟩) n n) n xs) : w.heap[g]? = some (.cells xs.toArray e (0, 0)) := by
  have hl := h.1
  rcases h.2 with ⟨e0, _⟩ | ⟨g', cap, cur, e0, _, hg, _, _, hcs, htake⟩
  · cases e0
  · cases e0
    rw [hg]
    congr 2
    have : cur.toList.take (n * 6) = cur.toList := List.take_of_length_le (by simp; omega)
    rw [this] at htake
    rw [← htake]

theorem infoDr : (Tryz.prog.info? 74).map (fun i => (i.zero, i.size, i.bytes)) = some (some (.agg #[.slice none 0 0, .int .i64 0, .int .i64 0, .int .i64 0, .slice none 0 0, .slice none 0 0]), 6, 96) := by kernel_rfl

end Go.Proofs.YtchideljndagjaaGreat
