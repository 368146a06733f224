/- Contracts of package veilkeep: is it a configuration, is it a draw, what does NewClient answer. -/
import Derived.Test.YtchideljndagjaaCliNew
import Derived.Test.YtchideljndagjaaMay
import Derived.Test.YtchideljndagjaaMemAll
import Derived.Test.YtchideljndagjaaKDiary
import Derived.Test.YtchideljndagjaaCliR
namespace Go.Proofs.Ytchideljndagjaa
open Go.ChangeShapes Go.WideShapes Go.ChangeAt Go.RowKit
set_option linter.unusedVariables false

set_option maxHeartbeats 1000000 in
theorem kwellConfig_calls (N T M D : Int) (w : World) :
    Calls Try.prog 55 #[.agg #[.int .i64 N, .int .i64 T, .int .i64 M, .int .i64 D]] w fun e w' => e = .returned (.bool (Cli.cfgB N T M D)) ∧ Below w.heap.size w w' := by
  by_cases c0 : 1 ≤ N
  rotate_left
  · have H := hideG (cfg_no (N := N) (T := T) (M := M) (D := D) (by omega))
    go_enter Try.func55, Try.ntmps55
    go_wp2_with fail
    go_ret
    exact ⟨ret_bool (by rw [H.out]; try simp; try omega), by go_grown⟩
  by_cases c1 : N ≤ 12
  rotate_left
  · have H := hideG (cfg_no (N := N) (T := T) (M := M) (D := D) (by omega))
    go_enter Try.func55, Try.ntmps55
    go_wp2_with fail
    go_ret
    exact ⟨ret_bool (by rw [H.out]; try simp; try omega), by go_grown⟩
  by_cases c2 : 1 ≤ T
  rotate_left
  · have H := hideG (cfg_no (N := N) (T := T) (M := M) (D := D) (by omega))
    go_enter Try.func55, Try.ntmps55
    go_wp2_with fail
    go_ret
    exact ⟨ret_bool (by rw [H.out]; try simp; try omega), by go_grown⟩
  by_cases c3 : T ≤ N
  rotate_left
  · have H := hideG (cfg_no (N := N) (T := T) (M := M) (D := D) (by omega))
    go_enter Try.func55, Try.ntmps55
    go_wp2_with fail
    go_ret
    exact ⟨ret_bool (by rw [H.out]; try simp; try omega), by go_grown⟩
  by_cases c4 : 1 ≤ M
  rotate_left
  · have H := hideG (cfg_no (N := N) (T := T) (M := M) (D := D) (by omega))
    go_enter Try.func55, Try.ntmps55
    go_wp2_with fail
    go_ret
    exact ⟨ret_bool (by rw [H.out]; try simp; try omega), by go_grown⟩
  by_cases c5 : M ≤ 12
  rotate_left
  · have H := hideG (cfg_no (N := N) (T := T) (M := M) (D := D) (by omega))
    go_enter Try.func55, Try.ntmps55
    go_wp2_with fail
    go_ret
    exact ⟨ret_bool (by rw [H.out]; try simp; try omega), by go_grown⟩
  by_cases c6 : 1 ≤ D
  rotate_left
  · have H := hideG (cfg_no (N := N) (T := T) (M := M) (D := D) (by omega))
    go_enter Try.func55, Try.ntmps55
    go_wp2_with fail
    go_ret
    exact ⟨ret_bool (by rw [H.out]; try simp; try omega), by go_grown⟩
  by_cases c7 : D ≤ 50
  rotate_left
  · have H := hideG (cfg_no (N := N) (T := T) (M := M) (D := D) (by omega))
    go_enter Try.func55, Try.ntmps55
    go_wp2_with fail
    go_ret
    exact ⟨ret_bool (by rw [H.out]; try simp; try omega), by go_grown⟩
  have H := hideG (cfg_yes (N := N) (T := T) (M := M) (D := D) (by omega))
  go_enter Try.func55, Try.ntmps55
  go_wp2_with fail
  go_ret
  exact ⟨ret_bool (by rw [H.out]; try simp; try omega), by go_grown⟩

theorem list3 (w : World) (a b c : Int) (ha : inI a) (hb : inI b) (hc : inI c) : ListAt (w.alloc (.cells #[.int .i64 a, .int .i64 b, .int .i64 c] 3)) (.slice (some ⟨w.heap.size, 0, none⟩) 3 3) [a, b, c] := by
  refine ⟨_, _, rfl, by simp, by unfold maxLen; omega, fun z hz => ?_, .inr ⟨w.heap.size, 0, rfl, by simp, fun i hi => ?_⟩⟩
  · simp at hz; rcases hz with rfl | rfl | rfl <;> assumption
  · match i, hi with
    | 0, _ => simp
    | 1, _ => simp
    | 2, _ => simp

set_option maxHeartbeats 2000000 in
set_option maxRecDepth 100000 in
theorem kwellDraw_calls (N T M D : Int) (vi vm vs : Value) (inp sm ss : List Int) (ch mk sd : Int) (w : World) (hi : ListAt w vi inp) (hm : ListAt w vm sm) (hs : ListAt w vs ss) (hT : 1 ≤ T) (hT' : T ≤ 12) (h1 : inI ch) (h2 : inI mk) (h3 : inI sd) :
    Calls Try.prog 56 #[.agg #[.int .i64 N, .int .i64 T, .int .i64 M, .int .i64 D], .agg #[vi, .int .i64 ch, .int .i64 mk, .int .i64 sd, vm, vs]] w fun e w' => e = .returned (.bool (Cli.drawB T M inp ch mk sd sm ss)) ∧ Below w.heap.size w w' := by
  have HE1 := hideG (fun (W : World) (hb : Below w.heap.size w W) => kelements_list vm sm W (hm.below hb))
  have HE2 := hideG (fun (W : World) (hb : Below w.heap.size w W) => kelements_list vs ss W (hs.below hb))
  have HE0 := hideG (fun (W : World) => kelements_list _ [ch, mk, sd] _ (list3 W ch mk sd h1 h2 h3))
  obtain ⟨b1, hb1⟩ : ∃ b1, b1 = [ch, mk, sd].all Num.elB := ⟨_, rfl⟩
  obtain ⟨b2, hb2⟩ : ∃ b2, b2 = sm.all Num.elB := ⟨_, rfl⟩
  obtain ⟨b3, hb3⟩ : ∃ b3, b3 = ss.all Num.elB := ⟨_, rfl⟩
  rw [← hb1] at HE0
  rw [← hb2] at HE1
  rw [← hb3] at HE2
  have HBS := hideG (And.intro hb1 (And.intro hb2 hb3))
  clear hb1 hb2 hb3
  obtain ⟨a1, c1, rfl, i2, i3, hcl⟩ := list_view hi
  obtain ⟨a2, c2, rfl, m2, m3, _⟩ := hm
  obtain ⟨a3, c3, rfl, s2, s3, _⟩ := hs
  have HC := hideG hcl
  clear hcl hi
  obtain ⟨W0, hW0⟩ : ∃ W0, W0 = (w.alloc (.cells #[.int .i64 N, .int .i64 T, .int .i64 M, .int .i64 D] 65)).alloc (.cells #[.slice a1 inp.length c1, .int .i64 ch, .int .i64 mk, .int .i64 sd, .slice a2 sm.length c2, .slice a3 ss.length c3] 67) := ⟨_, rfl⟩
  have BB := hideG (show Below w.heap.size w W0 by rw [hW0]; exact ((Below.refl _ _).alloc (Nat.le_refl _) _).alloc (by simp) _)
  have z0 : w.heap.size + 1 < W0.heap.size := by rw [hW0]; simp
  have HX := hideG (show SixAt W0 (w.heap.size + 1) 67 (.slice a1 inp.length c1) (.int .i64 ch) (.int .i64 mk) (.int .i64 sd) (.slice a2 sm.length c2) (.slice a3 ss.length c3) by rw [hW0]; exact heap_alloc2_new w _ _)
  by_cases q1 : (inp.length : Int) = M
  · by_cases q2 : (sm.length : Int) = T - 1
    · by_cases q3 : (ss.length : Int) = T - 1
      · have HR := hideG (draw_rest (ch := ch) (mk := mk) (sd := sd) q1 q2 q3)
        have p1 : ((inp.length : Int) != M) = false := by simpa using q1
        have p2 : ((sm.length : Int) != T - 1) = false := by simpa using q2
        have p3 : ((ss.length : Int) != T - 1) = false := by simpa using q3
        have HG := hideG (fun k (hk : k < inp.length) => (show inp.getD k 0 ∈ inp by rw [List.getD_eq_getElem?_getD, List.getElem?_eq_getElem hk]; exact List.getElem_mem hk))
        have HS := hideG (fun k (hk : k < inp.length) => (show (inp.take (k + 1)).all Frm.wdB = ((inp.take k).all Frm.wdB && Frm.wdB (inp.getD k 0)) by
          rw [List.take_succ_eq_append_getElem hk, List.all_append, List.getD_eq_getElem?_getD, List.getElem?_eq_getElem hk]; simp))
        have HT := hideG (show inp.take inp.length = inp from List.take_length)
        have HFA := hideG (show Cli.wordsB inp = false → Cli.drawB T M inp ch mk sd sm ss = false from fun e => by rw [HR.out, e, Bool.false_and, Bool.and_false])
        have HW0 := hideG hW0
        clear hW0 q1 q2 q3
        generalize inp.length = n1 at *
        generalize sm.length = n2 at *
        generalize ss.length = n3 at *
        go_enter Try.func56, Try.ntmps56
        go_wp2_with fail
        rw [← HW0.out]
        obtain ⟨⟨x0, x1, x2, x3, x4, x5⟩, xf⟩ := HX.out.cells
        go_loop [5] (fun i => ∃ k : Nat, k ≤ n1 ∧ i = .int .i64 k ∧ (inp.take k).all Frm.wdB = true) (fun i => n1 - (intOf i).toNat)
        case atStart => exact ⟨0, Nat.zero_le _, rfl, rfl⟩
        case round =>
          obtain ⟨k, hk, rfl, hall⟩ := hrel
          have HA := hideG hall
          clear hall
          by_cases hlt : k < n1
          · obtain ⟨b, off, rfl, c0⟩ := HC.out k hlt
            have hbl : b < w.heap.size := cell_in c0
            have HM := hideG (HG.out k hlt)
            have HU := hideG (HS.out k hlt)
            replace c0 := (BB.out.cell (p := ⟨b, off + k, none⟩) hbl).trans c0
            obtain ⟨z, hz⟩ : ∃ z, z = inp.getD k 0 := ⟨_, rfl⟩
            rw [← hz] at c0 HM HU
            clear hz
            by_cases y1 : z < 0
            · have H := hideG (HFA.out (List.all_eq_false.2 ⟨z, HM.out, by rw [show Frm.wdB z = false from decide_eq_false (by omega)]; exact Bool.false_ne_true⟩))
              go_wp2_with fail
              go_ret
              exact ⟨ret_bool H.out.symm, BB.out⟩
            by_cases y2 : z < 4294967296
            · rw [show Frm.wdB z = true from Frm.wdB_iff.2 (by omega), HA.out] at HU
              go_wp2_with fail
              go_round
              case rel => exact ⟨k + 1, by omega, by go_num, HU.out⟩
              case measure => simp [intOf]; omega
            · have H := hideG (HFA.out (List.all_eq_false.2 ⟨z, HM.out, by rw [show Frm.wdB z = false from decide_eq_false (by omega)]; exact Bool.false_ne_true⟩))
              go_wp2_with fail
              go_ret
              exact ⟨ret_bool H.out.symm, BB.out⟩
          · have ek : k = n1 := by omega
            subst ek
            have HWB := hideG (show Cli.wordsB inp = true by have := HA.out; rwa [HT.out] at this)
            have HR2 := hideG (show Cli.drawB T M inp ch mk sd sm ss = (b1 && (b2 && b3)) by rw [HR.out, HWB.out, HBS.out.1, HBS.out.2.1, HBS.out.2.2]; simp [Bool.and_assoc])
            have B1 := hideG (fun (o : Obj) => BB.out.alloc (Nat.le_of_lt (by omega)) o)
            go_wp2_with fail
            refine (HE0.out W0).mono ?_
            rintro e w' ⟨rfl, hw'⟩
            rw [hw']
            clear hw'
            obtain ⟨⟨u0, u1, u2, u3, u4, u5⟩, uf⟩ := (HX.out.below ((Below.refl W0.heap.size W0).alloc (Nat.le_refl _) (.cells #[.int .i64 ch, .int .i64 mk, .int .i64 sd] 3)) z0).cells
            obtain ⟨W1, hW1⟩ : ∃ W1, W1 = W0.alloc (.cells #[.int .i64 ch, .int .i64 mk, .int .i64 sd] 3) := ⟨_, rfl⟩
            have BW1 := hideG (show Below w.heap.size w W1 by rw [hW1]; exact B1.out _)
            rw [← hW1] at u4 u5 ⊢
            clear hW1 u0 u1 u2 u3 uf
            go_wp2_with fail
            refine (HE1.out _ BW1.out).mono ?_
            rintro e w' ⟨rfl, hw'⟩
            rw [hw']
            clear hw'
            go_wp2_with fail
            refine (HE2.out _ BW1.out).mono ?_
            rintro e w' ⟨rfl, hw'⟩
            rw [hw']
            clear hw'
            cases b1 <;> cases b2 <;> cases b3 <;> (go_wp2_with fail; go_ret; exact ⟨ret_bool (by rw [HR2.out]; rfl), BW1.out⟩)
      · have H := hideG (draw_len (M := M) (T := T) (inp := inp) (ch := ch) (mk := mk) (sd := sd) (sm := sm) (ss := ss) (fun h => q3 h.2.2))
        have p1 : ((inp.length : Int) != M) = false := by simpa using q1
        have p2 : ((sm.length : Int) != T - 1) = false := by simpa using q2
        have p3 : ((ss.length : Int) != T - 1) = true := by simpa using q3
        clear q1 q2 q3 hW0
        go_enter Try.func56, Try.ntmps56
        go_wp2_with fail
        go_ret
        exact ⟨ret_bool H.out.symm, by go_grown⟩
    · have H := hideG (draw_len (M := M) (T := T) (inp := inp) (ch := ch) (mk := mk) (sd := sd) (sm := sm) (ss := ss) (fun h => q2 h.2.1))
      have p1 : ((inp.length : Int) != M) = false := by simpa using q1
      have p2 : ((sm.length : Int) != T - 1) = true := by simpa using q2
      clear q1 q2 hW0
      go_enter Try.func56, Try.ntmps56
      go_wp2_with fail
      go_ret
      exact ⟨ret_bool H.out.symm, by go_grown⟩
  · have H := hideG (draw_len (M := M) (T := T) (inp := inp) (ch := ch) (mk := mk) (sd := sd) (sm := sm) (ss := ss) (fun h => q1 h.1))
    have p1 : ((inp.length : Int) != M) = true := by simpa using q1
    clear q1 hW0
    go_enter Try.func56, Try.ntmps56
    go_wp2_with fail
    go_ret
    exact ⟨ret_bool H.out.symm, by go_grown⟩

set_option maxHeartbeats 2000000 in
set_option maxRecDepth 100000 in
theorem kmay_calls (N T M D id : Int) (vi vm vs : Value) (inp sm ss : List Int) (ch mk sd : Int) (w : World) (hi : ListAt w vi inp) (hm : ListAt w vm sm) (hs : ListAt w vs ss) (h1 : inI ch) (h2 : inI mk) (h3 : inI sd) :
    Calls Try.prog 34 #[.agg #[.int .i64 N, .int .i64 T, .int .i64 M, .int .i64 D], .int .i64 id, .agg #[vi, .int .i64 ch, .int .i64 mk, .int .i64 sd, vm, vs]] w fun e w' => e = .returned (.int .i64 (newE N T M D id inp ch mk sd sm ss)) ∧ Below w.heap.size w w' := by
  have HCF := hideG (fun (W : World) => kwellConfig_calls N T M D W)
  have HDR := hideG (fun (W : World) (hb : Below w.heap.size w W) (t1 : 1 ≤ T) (t2 : T ≤ 12) => kwellDraw_calls N T M D vi vm vs inp sm ss ch mk sd W (hi.below hb) (hm.below hb) (hs.below hb) t1 t2 h1 h2 h3)
  obtain ⟨a1, c1, rfl, -⟩ := hi
  obtain ⟨a2, c2, rfl, -⟩ := hm
  obtain ⟨a3, c3, rfl, -⟩ := hs
  generalize inp.length = n1 at *
  generalize sm.length = n2 at *
  generalize ss.length = n3 at *
  obtain ⟨W0, hW0⟩ : ∃ W0, W0 = (w.alloc (.cells #[.int .i64 N, .int .i64 T, .int .i64 M, .int .i64 D] 65)).alloc (.cells #[.slice a1 n1 c1, .int .i64 ch, .int .i64 mk, .int .i64 sd, .slice a2 n2 c2, .slice a3 n3 c3] 67) := ⟨_, rfl⟩
  have BB := hideG (show Below w.heap.size w W0 by rw [hW0]; exact ((Below.refl _ _).alloc (Nat.le_refl _) _).alloc (by simp) _)
  have z0 : w.heap.size + 1 < W0.heap.size := by rw [hW0]; simp
  have HX := hideG (show SixAt W0 (w.heap.size + 1) 67 (.slice a1 n1 c1) (.int .i64 ch) (.int .i64 mk) (.int .i64 sd) (.slice a2 n2 c2) (.slice a3 n3 c3) by rw [hW0]; exact heap_alloc2_new w _ _)
  have HN := hideG (show W0.cell? ⟨w.heap.size, 0, none⟩ = some (.int .i64 N) ∧ W0.cell? ⟨w.heap.size, 1, none⟩ = some (.int .i64 T) ∧ W0.cell? ⟨w.heap.size, 2, none⟩ = some (.int .i64 M) ∧ W0.cell? ⟨w.heap.size, 3, none⟩ = some (.int .i64 D) by rw [hW0]; refine ⟨?_, ?_, ?_, ?_⟩ <;> simp)
  have HW0 := hideG hW0
  clear hW0
  cases hcf : Cli.cfgB N T M D
  · have HEE := hideG (show newE N T M D id inp ch mk sd sm ss = 5 by unfold newE; rw [if_pos hcf])
    rw [hcf] at HCF
    clear hcf
    go_enter Try.func34, Try.ntmps34
    go_wp2_with fail
    rw [← HW0.out]
    refine (HCF.out W0).mono ?_
    rintro e w1 ⟨rfl, hb1⟩
    have HB := hideG (BB.out.trans (hb1.mono (by omega)))
    clear hb1
    go_wp2_with fail
    go_ret
    exact ⟨ret_i64 HEE.out.symm, HB.out⟩
  obtain ⟨g1, g2, g3, g4, g5, g6, g7, g8⟩ : 1 ≤ N ∧ N ≤ 12 ∧ 1 ≤ T ∧ T ≤ N ∧ 1 ≤ M ∧ M ≤ 12 ∧ 1 ≤ D ∧ D ≤ 50 := by
    unfold Cli.cfgB at hcf; simp only [Bool.and_eq_true, decide_eq_true_iff] at hcf; omega
  rw [hcf] at HCF
  by_cases q1 : id < 1
  · have HEE := hideG (show newE N T M D id inp ch mk sd sm ss = 1 by unfold newE; rw [if_neg (by rw [hcf]; simp), if_pos (.inl q1)])
    clear hcf
    go_enter Try.func34, Try.ntmps34
    go_wp2_with fail
    rw [← HW0.out]
    refine (HCF.out W0).mono ?_
    rintro e w1 ⟨rfl, hb1⟩
    have HB := hideG (BB.out.trans (hb1.mono (by omega)))
    have x0 := (hb1.cell (p := ⟨w.heap.size, 0, none⟩) (by show w.heap.size < _; omega)).trans HN.out.1
    clear hb1
    go_wp2_with fail
    go_ret
    exact ⟨ret_i64 HEE.out.symm, HB.out⟩
  by_cases q2 : N < id
  · have HEE := hideG (show newE N T M D id inp ch mk sd sm ss = 1 by unfold newE; rw [if_neg (by rw [hcf]; simp), if_pos (.inr q2)])
    clear hcf
    go_enter Try.func34, Try.ntmps34
    go_wp2_with fail
    rw [← HW0.out]
    refine (HCF.out W0).mono ?_
    rintro e w1 ⟨rfl, hb1⟩
    have HB := hideG (BB.out.trans (hb1.mono (by omega)))
    have x0 := (hb1.cell (p := ⟨w.heap.size, 0, none⟩) (by show w.heap.size < _; omega)).trans HN.out.1
    clear hb1
    go_wp2_with fail
    go_ret
    exact ⟨ret_i64 HEE.out.symm, HB.out⟩
  have HEE := hideG (show newE N T M D id inp ch mk sd sm ss = if Cli.drawB T M inp ch mk sd sm ss = false then 6 else 0 by unfold newE; rw [if_neg (by rw [hcf]; simp), if_neg (by omega)])
  clear hcf
  cases hdr : Cli.drawB T M inp ch mk sd sm ss
  all_goals
    rw [hdr] at HDR HEE
    go_enter Try.func34, Try.ntmps34
    go_wp2_with fail
    rw [← HW0.out]
    refine (HCF.out W0).mono ?_
    rintro e w1 ⟨rfl, hb1⟩
    have HB := hideG (BB.out.trans (hb1.mono (by omega)))
    have s1 := hb1.size
    have x0 := (hb1.cell (p := ⟨w.heap.size, 0, none⟩) (by show w.heap.size < _; omega)).trans HN.out.1
    have x1 := (hb1.cell (p := ⟨w.heap.size, 1, none⟩) (by show w.heap.size < _; omega)).trans HN.out.2.1
    have x2 := (hb1.cell (p := ⟨w.heap.size, 2, none⟩) (by show w.heap.size < _; omega)).trans HN.out.2.2.1
    have x3 := (hb1.cell (p := ⟨w.heap.size, 3, none⟩) (by show w.heap.size < _; omega)).trans HN.out.2.2.2
    obtain ⟨⟨u0, u1, u2, u3, u4, u5⟩, uf⟩ := (HX.out.below hb1 z0).cells
    clear hb1
    go_wp2_with fail
    refine (HDR.out w1 HB.out g3 (by omega)).mono ?_
    rintro e w2 ⟨rfl, hb2⟩
    have HB2 := hideG (HB.out.trans (hb2.mono (by omega)))
    clear hb2
    go_wp2_with fail
    go_ret
    exact ⟨ret_i64 (by rw [HEE.out]; simp), HB2.out⟩

end Go.Proofs.Ytchideljndagjaa

/- A client's diary goes with the client. -/
namespace Go.Proofs.Ytchideljndagjaa
open Go.RowKit
set_option linter.unusedVariables false

/-- What the diary knows of a client at a state. -/
structure DRel (w : World) (c : Cli.Cl) (s : Cli.St) (st : Int) (f g : Nat → Bool) (told : Value) : Prop where
  one : s.1 = 1 → st = 0
  two : s.1 = 2 → st = 1 ∧ (∀ u : Nat, f u = Cli.hasI s.2.1 u) ∧ Frm.riseB s.2.1 = true ∧ Cli.keysAgree c s.2.1 = true
  three : s.1 = 3 → st = 2 ∧ (∀ u : Nat, g u = (Cli.hasI s.2.2.1 u || decide ((u : Int) = c.id))) ∧ Frm.riseB s.2.2.1 = true ∧ Cli.boxAgree c s.2.1 s.2.2.1 = true
  items : ItemsAt w told (relL c s)

theorem items_nil {w w' : World} {v : Value} (h : ItemsAt w v []) : ItemsAt w' v [] := by
  obtain ⟨a, cap, h1, h2, h3, h4, _⟩ := h
  exact ⟨a, cap, h1, h2, h3, h4, .inl rfl⟩

/-- The answer's bytes, as they are read. -/
def AnsB (w : World) (va : Value) : Option Cli.Fr → Prop
  | none => va = .slice none 0 0
  | some f => BytesAt w va (Frm.encF f.1 f.2.1 f.2.2)

theorem upd_or (b : List Frm.It) (c : Cli.Cl) (U : Nat) (hU : c.id = (U : Int)) : updB (fun u : Nat => Cli.hasI b u) U true = fun u : Nat => Cli.hasI b u || decide ((u : Int) = c.id) := by
  funext u
  unfold updB
  by_cases e : u = U
  · subst e; rw [if_pos rfl, hU, decide_eq_true rfl, Bool.or_true]
  · rw [if_neg e, hU, decide_eq_false (show ¬ (u : Int) = (U : Int) by omega), Bool.or_false]

set_option maxHeartbeats 1000000 in
theorem kheard_all (bd : Nat) (c : Cli.Cl) (s : Cli.St) (st : Int) (f g : Nat → Bool) (told : Value) (str : ByteArray) (hs : str.size ≤ maxLen) (va : Value) (w : World) (hc : Cli.Good c) (hp : 0 ≤ s.1 ∧ s.1 ≤ 4) (hd : DAt w bd c.id c.T st f g told) (hr : DRel w c s st f g told)
    (hva : AnsB w va (ansD c s (bl str))) :
    Calls Try.prog 38 #[.pointer (some ⟨bd, 0, none⟩), .string str, va] w fun e w' => e = .returned (.bool true) ∧
      (∃ st' f' g' told', DAt w' bd c.id c.T st' f' g' told' ∧ DRel w' c (stepD c s (bl str)) st' f' g' told' ∧ (told' = told ∨ ∀ x, told'.ownBlock = some x → w.heap.size ≤ x ∧ x < w'.heap.size)) ∧ Chg (fun x => x = bd) w w' := by
  have gi := hc.i
  have gn := hc.n
  have hbl := hd.lt
  obtain ⟨U, hU⟩ : ∃ U : Nat, c.id = (U : Int) := ⟨c.id.toNat, by omega⟩
  have U13 : U < 13 := by omega
  have U1 : 1 ≤ U := by omega
  cases ho : ansD c s (bl str) with
  | none =>
    rw [ho] at hva
    change va = .slice none 0 0 at hva
    subst hva
    refine (kheard_nil bd str w).mono ?_
    rintro e w' ⟨rfl, rfl⟩
    refine ⟨rfl, ⟨st, f, g, told, hd, ?_, .inl rfl⟩, Chg.refl _ _⟩
    rcases ans_none hp ho with e | ⟨e, e4⟩
    · rw [e]; exact hr
    · refine ⟨fun q => by omega, fun q => by omega, fun q => by omega, ?_⟩
      have h0 := hr.items
      unfold relL at h0 ⊢
      rw [if_neg e4] at h0
      rw [if_neg (by omega)]
      exact h0
  | some fr =>
    rw [ho] at hva
    rcases ans_some ho with ⟨f1, l, p1, hd1, ha, rfl, hst⟩ | ⟨f1, l, p1, hd1, ha, rfl, hst⟩ | ⟨f1, l, p1, hd1, ha, rfl, hst⟩
    · -- Keys
      obtain ⟨o1, o2, o3, o4, o5⟩ := Frm.okF_parts (Frm.enc_dec (bl_isB str) hd1).1
      have ho2 := Cli.sharing_ok hc (k := l) o3
      have hr2 := (Frm.okF_parts ho2).2.2.1
      have hst0 := hr.one p1
      rw [hst]
      have hnil : relL c s = [] := by unfold relL; rw [if_neg (by omega)]
      have hown := Cli.hasI_own hc ha
      have hown' := hown
      rw [hU] at hown
      have hT : c.T ≤ (l.length : Int) := by unfold Cli.keysAgree at ha; simp only [Bool.and_eq_true, decide_eq_true_iff] at ha; exact ha.2.1
      have hR : ∀ u : Nat, Cli.hasI (Cli.sharing c l) u = updB (fun u : Nat => Cli.hasI l u) U false u := fun u => by
        rw [has_sharing, hU]; unfold updB
        by_cases e : u = U
        · subst e; simp
        · rw [if_neg e, decide_eq_true (show (u : Int) ≠ (U : Int) by omega), Bool.and_true]
      have hcnt : (Cli.sharing c l).length + 1 = l.length := by
        rw [← cnt_len hr2, ← cnt_len o3, ← cnt_del (fun u : Nat => Cli.hasI l u) U 12 U1 (by omega) hown]
        congr 1
        exact cnt_ext (fun u _ _ => hR u)
      rw [hst0] at hd
      have hd' := hd
      rw [hU] at hd'
      have hva' : BytesAt w va (Frm.encF 3 (U : Int) (Cli.sharing c l)) := by rw [← hU]; exact hva
      have ho2' : Frm.okF 3 (U : Int) (Cli.sharing c l) = true := by rw [← hU]; exact ho2
      refine (kheard_shared bd U c.T f g told str hs va 2 f1 l hd1 3 (Cli.sharing c l) ho2' w hva' hd' (fun f' g' told' w' => f' = (fun u : Nat => Cli.hasI l u) ∧ told' = told) ?_).mono ?_
      · intro W q1 q2 r1 r2 hD i1 i2 hfr
        refine (kshared_walk bd U c.T 1 f g (fun u : Nat => Cli.hasI l u) (fun u : Nat => Cli.hasI (Cli.sharing c l) u) (updB (fun u : Nat => Cli.hasI l u) U false) told f1 q1 q2 l.length r1 (Cli.sharing c l).length r2 l.length W U13 hD
          (fun X hb => kids_calls 2 f1 _ l X (i1.below hb) o3) (fun X hb => kids_calls 3 U _ (Cli.sharing c l) X (i2.chg hb (fun x hx e => by have := (hfr x hx).1; omega)) hr2)
          (fun X => kalike_yes _ _ X (fun u _ _ => hR u)) (fun X => by have := ksize_calls (fun u : Nat => Cli.hasI l u) X; rw [cnt_len o3] at this; exact this) rfl hown hT (by simp; omega) o1).mono ?_
        rintro e w' ⟨rfl, h1, h2⟩
        exact ⟨rfl, ⟨_, _, _, h1, rfl, rfl⟩, h2⟩
      · rintro e w' ⟨rfl, ⟨f', g', told', h1, h2, h3⟩, hch⟩
        refine ⟨rfl, ⟨1, f', g', told', by rw [hU]; exact h1, ⟨fun q => absurd q (by show ¬ (2 : Int) = 1; omega), fun _ => ⟨rfl, fun u => by rw [h2], o3, ha⟩, fun q => absurd q (by show ¬ (2 : Int) = 3; omega), ?_⟩, .inl h3⟩, hch⟩
        have h0 := hr.items
        rw [hnil] at h0
        rw [h3]
        exact items_nil h0
    · -- Box
      obtain ⟨o1, o2, o3, o4, o5⟩ := Frm.okF_parts (Frm.enc_dec (bl_isB str) hd1).1
      have ho2 := Cli.masking_ok hc s.2.1 l
      obtain ⟨hst0, hf, hrk, hak⟩ := hr.two p1
      rw [hst]
      have hnil : relL c s = [] := by unfold relL; rw [if_neg (by omega)]
      have ha' := ha
      unfold Cli.boxAgree at ha'
      rw [Bool.and_eq_true, Bool.and_eq_true, decide_eq_true_iff, List.all_eq_true] at ha'
      obtain ⟨b1, b2, b3⟩ := ha'
      have hno : Cli.hasI l (U : Int) = false := by rw [← hU]; simpa using b1
      have hown := Cli.hasI_own hc hak
      have hcnt : cntN (updB (fun u : Nat => Cli.hasI l u) U true) 12 = l.length + 1 := by
        rw [cnt_add _ U 12 U1 hno, cnt_len o3, if_pos (by omega)]
      have hl11 : l.length + 1 ≤ 12 := by rw [← hcnt]; exact cntN_le _ _
      rw [hst0] at hd
      have hd' := hd
      rw [hU] at hd'
      have hva' : BytesAt w va (Frm.encF 5 (U : Int) (Cli.masking c s.2.1 l)) := by rw [← hU]; exact hva
      have ho2' : Frm.okF 5 (U : Int) (Cli.masking c s.2.1 l) = true := by rw [← hU]; exact ho2
      refine (kheard_masked bd U c.T f g told str hs va 4 f1 l hd1 5 (Cli.masking c s.2.1 l) ho2' w hva' hd' (fun f' g' told' w' => g' = updB (fun u : Nat => Cli.hasI l u) U true ∧ told' = told) ?_).mono ?_
      · intro W q1 q2 r1 r2 hD i1 i2 hfr
        refine (kmasked_walk bd U c.T 2 f g (fun u : Nat => Cli.hasI l u) (updB (fun u : Nat => Cli.hasI l u) U true) told f1 U q1 q2 l.length r1 (Cli.masking c s.2.1 l).length r2 (l.length + 1) W U13 hD
          (fun X hb => kids_calls 4 f1 _ l X (i1.below hb) o3)
          (fun X => kwithin_yes _ _ X (fun u _ _ e => by
            rw [hf u]
            unfold updB at e
            by_cases q : u = U
            · rw [q, ← hU]; exact hown
            · rw [if_neg q] at e
              obtain ⟨x, hx, ex⟩ := Cli.hasI_iff.1 e
              have := b3 x hx
              rw [Bool.and_eq_true, ex] at this
              exact this.1)) (fun X => by have := ksize_calls (updB (fun u : Nat => Cli.hasI l u) U true) X; rw [hcnt] at this; exact this) rfl hno (by omega) hl11).mono ?_
        rintro e w' ⟨rfl, h1, h2⟩
        exact ⟨rfl, ⟨_, _, _, h1, rfl, rfl⟩, h2⟩
      · rintro e w' ⟨rfl, ⟨f', g', told', h1, h2, h3⟩, hch⟩
        refine ⟨rfl, ⟨2, f', g', told', by rw [hU]; exact h1, ⟨fun q => absurd q (by show ¬ (3 : Int) = 1; omega), fun q => absurd q (by show ¬ (3 : Int) = 2; omega), fun _ => ⟨rfl, fun u => by rw [h2, upd_or l c U hU], o3, ha⟩, ?_⟩, .inl h3⟩, hch⟩
        have h0 := hr.items
        rw [hnil] at h0
        rw [h3]
        exact items_nil h0
    · -- Ask
      obtain ⟨o1, o2, o3, o4, o5⟩ := Frm.okF_parts (Frm.enc_dec (bl_isB str) hd1).1
      have ho2 := Cli.tells_ok hc s.2.1 s.2.2.1 l
      obtain ⟨t1, t2, t3, t4, t5⟩ := Frm.okF_parts ho2
      obtain ⟨hst0, hg, hrb, hab⟩ := hr.three p1
      rw [hst]
      have ha' := ha
      unfold Cli.askAgree at ha'
      rw [Bool.and_eq_true, Bool.and_eq_true, decide_eq_true_iff, List.all_eq_true] at ha'
      obtain ⟨b1, b2, b3⟩ := ha'
      have hal : ∀ u : Nat, 1 ≤ u → u ≤ 12 → Cli.hasI (Cli.tells c s.2.1 s.2.2.1 l) u = g u := fun u h1 h2 => by rw [has_tells hc hrb _ _ u h1 h2, hg u]
      rw [hst0] at hd
      have hd' := hd
      rw [hU] at hd'
      have hva' : BytesAt w va (Frm.encF 7 (U : Int) (Cli.tells c s.2.1 s.2.2.1 l)) := by rw [← hU]; exact hva
      have ho2' : Frm.okF 7 (U : Int) (Cli.tells c s.2.1 s.2.2.1 l) = true := by rw [← hU]; exact ho2
      refine (kheard_tells bd U c.T f g told str hs va 6 f1 l hd1 7 (Cli.tells c s.2.1 s.2.2.1 l) ho2' w hva' hd' (fun f' g' told' w' => ItemsAt w' told' (Cli.tells c s.2.1 s.2.2.1 l) ∧ ∀ x, told'.ownBlock = some x → w.heap.size ≤ x ∧ x < w'.heap.size) ?_).mono ?_
      · intro W q1 q2 r1 r2 hD i1 i2 hfr
        refine (ktells_walk bd U c.T 3 f g (fun u : Nat => Cli.hasI l u) (fun u : Nat => Cli.hasI (Cli.tells c s.2.1 s.2.2.1 l) u) told f1 U q1 q2 l.length r1 (Cli.tells c s.2.1 s.2.2.1 l).length r2 l.length (Cli.tells c s.2.1 s.2.2.1 l) W U13 hD
          (fun X hb => kids_calls 6 f1 _ l X (i1.below hb) o3) (fun X hb => kids_calls 7 U _ (Cli.tells c s.2.1 s.2.2.1 l) X (i2.below hb) t3) i2
          (fun x hx => by
            have := (Cli.rise_pair t3).2 x hx
            exact ⟨x.1.toNat, by omega, by omega, by show x.2.1 = if Cli.hasI l ((x.1.toNat : Nat) : Int) = true then 1 else 2; rw [show ((x.1.toNat : Nat) : Int) = x.1 by omega]; exact tells_item hx⟩)
          (fun X => kwithin_yes _ _ X (fun u _ _ e => by
            rw [hg u]
            obtain ⟨x, hx, ex⟩ := Cli.hasI_iff.1 e
            have := b1 x hx
            rw [ex] at this
            exact this)) (fun X => kalike_yes _ _ X hal) (fun X => by have := ksize_calls (fun u : Nat => Cli.hasI l u) X; rw [cnt_len o3] at this; exact this)
          (fun X => by have := ksize_calls g X; rw [show cntN g 12 = (Cli.tells c s.2.1 s.2.2.1 l).length by rw [← cnt_len t3]; exact cnt_ext (fun u h1 h2 => (hal u h1 h2).symm)] at this; exact this) (by rw [← hU]; exact b2) b3 o1).mono ?_
        rintro e w' ⟨rfl, h1, h2⟩
        exact ⟨rfl, ⟨_, _, _, h1, i2.chg h2 (fun x hx e => by have := (hfr x hx).1; omega), fun x hx => ⟨(hfr x hx).1, Nat.lt_of_lt_of_le (hfr x hx).2 h2.size⟩⟩, h2⟩
      · rintro e w' ⟨rfl, ⟨f', g', told', h1, h2, h3⟩, hch⟩
        refine ⟨rfl, ⟨3, f', g', told', by rw [hU]; exact h1, ⟨fun q => absurd q (by show ¬ (4 : Int) = 1; omega), fun q => absurd q (by show ¬ (4 : Int) = 2; omega), fun q => absurd q (by show ¬ (4 : Int) = 3; omega), ?_⟩, .inr h3⟩, hch⟩
        unfold relL
        rw [if_pos rfl]
        exact h2

end Go.Proofs.Ytchideljndagjaa

/- Contracts of package veilkeep: a Hello frame; a new diary. -/
namespace Go.Proofs.Ytchideljndagjaa
open Go.ChangeShapes Go.WideShapes Go.ChangeAt Go.RowKit
set_option linter.unusedVariables false

theorem kgreets_yes (id : Int) (va : Value) (l : List Frm.It) (w : World) (ok : Frm.okF 1 id l = true) (h : BytesAt w va (Frm.encF 1 id l)) :
    Calls Try.prog 36 #[va, .int .i64 id] w fun e w' => e = .returned (.bool true) ∧ Below w.heap.size w w' := by
  have HV := hideG (veilDecode va _ w h)
  obtain ⟨x1, x2, x3, x4⟩ := d_some (Frm.dec_enc ok)
  rw [x1, x2, x3, x4] at HV
  obtain ⟨aa, ca, rfl, -⟩ := bytes_view h
  have eii : (id == id) = true := by simp
  clear x1 x2 x3 x4 h ok
  generalize (Frm.encF 1 id l).length = L at *
  go_enter Try.func36, Try.ntmps36
  go_wp2_with fail
  refine HV.out.mono ?_
  rintro e w1 ⟨vo, rfl, hown, hb⟩
  obtain ⟨p2, q2, hv2⟩ := owns_form hown
  subst hv2
  have HB := hideG hb
  clear hown hb
  go_wp2_with fail
  go_ret
  exact ⟨rfl, HB.out.alloc HB.out.size _⟩

theorem ansD_ok {c : Cli.Cl} (hc : Cli.Good c) {s : Cli.St} {str : ByteArray} {f : Cli.Fr} (h : ansD c s (bl str) = some f) : Frm.okF f.1 f.2.1 f.2.2 = true := by
  rcases ans_some h with ⟨f1, l, p1, hd1, ha, rfl, hst⟩ | ⟨f1, l, p1, hd1, ha, rfl, hst⟩ | ⟨f1, l, p1, hd1, ha, rfl, hst⟩
  · exact Cli.sharing_ok hc (Frm.okF_parts (Frm.enc_dec (bl_isB str) hd1).1).2.2.1
  · exact Cli.masking_ok hc _ _
  · exact Cli.tells_ok hc _ _ _
theorem ans_bytes {w w' : World} {b : Nat} {c : Cli.Cl} (hc : Cli.Good c) {s : Cli.St} {str : ByteArray} {S' : PS} {va : Value} (h : Ans w w' b S' va (ansD c s (bl str))) : AnsB w' va (ansD c s (bl str)) := by
  cases e : ansD c s (bl str) with
  | none => rw [e] at h; exact h
  | some f => rw [e] at h; exact bytesAt_of_owns h.1 (encF_isB (ansD_ok hc e))

end Go.Proofs.Ytchideljndagjaa
