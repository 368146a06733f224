/- Lists copied by an append onto nothing; is it a configuration, is it a draw. -/
import Derived.Test.YtchideljndagjaaGreatPkClAL
import Derived.Test.YtchideljndagjaaGreatPkClAI
import Derived.Test.YtchideljndagjaaGreatPkClAE
import Derived.Test.YtchideljndagjaaGreatPkClAG
import Derived.Deep.Upon
import Derived.Test.YtchideljndagjaaGreatPkClAC
import Derived.WalkSpells
import Derived.RegionTactic
import Derived.BigRegion
namespace Go.Proofs.YtchideljndagjaaGreat
open Go.ChangeShapes Go.WideShapes Go.ChangeAt Go.RowKit
set_option linter.unusedVariables false

/-- Nothing, and a list's elements behind it: a list of its own. -/
def Copied (P : Program) (w : World) (t e : TypeId) (size : Nat) (vx : Value) (n : Nat) (xs : List Value) : Prop :=
  ∀ ty, ∃ v' w', (Builtin.append_ #[t, t] ty #[.slice none 0 0, vx]).run P w = .ok v' w' ∧ w'.ownsRow w.heap.size e size v' n xs ∧ Below w.heap.size w w'

theorem copied_row {P : Program} (w : World) (t e : TypeId) (i : TypeInfo) (z : Value) (size bytes : Nat) (ht : P.underlying t = some (.slice e)) (hi : P.info? e = some i) (hz : i.zero = some z)
    (hsize : i.size = size) (hby : i.bytes = bytes) (hzs : z.cells.size = size) (hsz : 0 < size) (ad : Addr) (m c : Nat) (news : List Value) (hl : news.length = m * size) (hnews : ∀ j u, news[j]? = some u → w.cell? (ad.add j) = some u) (h1 : ∀ u ∈ news, u.oneCell' = true)
    (h63 : m ≤ maxLen) (hbytes : m * bytes ≤ 140737488355328) : Copied P w t e size (.slice (some ad) m c) m news := fun ty => by
  obtain ⟨v', w', hr, h2, h3, h4⟩ := run_append_own (P := P) w w.heap.size t ty e i z size bytes ht hi hz hsize hby hzs hsz (.slice none 0 0) 0 [] (World.ownsRow_nil _ _ _ _) ad m c news hl hnews h1 (by omega) (by rw [Nat.zero_add]; exact hbytes) (Nat.le_refl _)
  rw [Nat.zero_add, List.nil_append] at h2
  exact ⟨v', w', hr, h2, (Below.refl w.heap.size w).grown h3 (Nat.le_refl _) (fun y hy => by rw [nil_own] at hy; cases hy)⟩
theorem copied_nil {P : Program} (w : World) (t e : TypeId) (i : TypeInfo) (size c : Nat) (ht : P.underlying t = some (.slice e)) (hi : P.info? e = some i) : Copied P w t e size (.slice none 0 c) 0 [] := fun ty =>
  ⟨.slice none 0 0, w, run_append_nothing w t t ty e i ht hi none 0 0 (Nat.le_refl _) _ (Src.ofNil w ht c), World.ownsRow_nil _ _ _ _, Below.refl _ _⟩

theorem wpList_append_copy {P : Program} (w : World) {ops : Array Oper} {rest : List Oper} {o : Oper} {a : Act} {Q : Exit → Act → World → Prop} (hgd : o.guard = none) (s x : Operand) (t : TypeId)
    (ho : o.op = .call { callee := .builtin .append, args := #[s, x], argTypes := #[t, t] }) (hs : a.eval s = .slice none 0 0) (vx : Value) (hx : a.eval x = vx) (e : TypeId) (size n : Nat) (xs : List Value) (hc : Copied P w t e size vx n xs)
    (h : ∀ v' w', w'.ownsRow w.heap.size e size v' n xs → Below w.heap.size w w' → wpList P ops Q rest (a.put o.dst v') w') : wpList P ops Q (o :: rest) a w := by
  obtain ⟨v', w', hr, h2, h3⟩ := hc o.type
  refine wpList_plain hgd fun K hK => ?_
  unfold Oper.wp execOp
  simp only [ho, resolve, invoke, builtin, Sem.run_bind, Sem.run_pure, Result.andThen_ok, List.map_toArray, List.map_cons, List.map_nil, hs, hx, hr]
  exact hK _ _ (h v' w' h2 h3)

theorem copied_ints (w : World) (v : Value) (zs : List Int) (h : ListAt w v zs) (hl : zs.length ≤ 12) : Copied Tryz.prog w 35 3 1 v zs.length (zs.map (Value.int .i64)) := by
  obtain ⟨i1, hi1, hy0, hy1, hy2⟩ := info_parts infoInt
  obtain ⟨a, cap, rfl, h2, h3, h4, h5⟩ := h
  cases a with
  | none =>
    have : zs = [] := by
      rcases h5 with h5 | ⟨b, off, e, _⟩
      · exact h5
      · cases e
    subst this
    exact copied_nil w _ _ i1 1 cap Tryz.underlying35 hi1
  | some ad =>
    refine copied_row w _ _ i1 (.int .i64 0) 1 8 Tryz.underlying35 hi1 hy0 hy1 hy2 rfl (by decide) ad zs.length cap _ (by simp) ?_ ?_ (by unfold maxLen; omega) (by omega)
    · intro j u hj
      rcases h5 with h5 | ⟨b, off, e, hb, hc⟩
      · subst h5; simp at hj
      · cases e
        have hjl : j < zs.length := by have := (List.getElem?_eq_some_iff.1 hj).1; simpa using this
        rw [Addr.add_mid, hc j hjl]
        rw [List.getElem?_map, List.getElem?_eq_getElem hjl] at hj
        rw [List.getD_eq_getElem?_getD, List.getElem?_eq_getElem hjl]
        exact hj
    · intro u hu
      obtain ⟨_, _, rfl⟩ := List.mem_map.1 hu
      rfl

theorem flat4_one (l : List Frm.It) : ∀ u ∈ flat4 l, u.oneCell' = true := by
  induction l with
  | nil => intro u hu; cases hu
  | cons p l ih =>
    intro u hu
    simp only [flat4, List.mem_cons] at hu
    rcases hu with rfl | rfl | rfl | rfl | hu
    · rfl
    · rfl
    · rfl
    · rfl
    · exact ih u hu

theorem copied_items (w : World) (v : Value) (l : List Frm.It) (h : ItemsAt w v l) (hl : l.length ≤ 12) : Copied Tryz.prog w 38 142 4 v l.length (flat4 l) := by
  obtain ⟨i1, hi1, hy0, hy1, hy2⟩ := info_parts infoIt
  obtain ⟨a, cap, rfl, h2, h3, h4, h5⟩ := h
  cases a with
  | none =>
    have : l = [] := by
      rcases h5 with h5 | ⟨b, off, e, _⟩
      · exact h5
      · cases e
    subst this
    exact copied_nil w _ _ i1 4 cap Tryz.underlying38 hi1
  | some ad =>
    refine copied_row w _ _ i1 (.agg #[.int .i64 0, .int .i64 0, .int .i64 0, .int .i64 0]) 4 32 Tryz.underlying38 hi1 hy0 hy1 hy2 rfl (by decide) ad l.length cap _ (flat4_length l) ?_ (flat4_one l) (by unfold maxLen; omega) (by omega)
    intro j u hj
    rcases h5 with h5 | ⟨b, off, e, hb, hc⟩
    · subst h5; simp [flat4] at hj
    · cases e
      have hjl : j < l.length * 4 := by have := (List.getElem?_eq_some_iff.1 hj).1; rwa [flat4_length] at this
      obtain ⟨q, r, hr, rfl⟩ : ∃ q r, r < 4 ∧ j = q * 4 + r := ⟨j / 4, j % 4, Nat.mod_lt _ (by omega), by omega⟩
      obtain ⟨f0, f1, f2, f3⟩ := flat4_get l q (by omega)
      obtain ⟨g0, g1, g2, g3⟩ := hc q (by omega)
      rw [Addr.add_mid, ← Nat.add_assoc]
      match r, hr with
      | 0, _ => rw [Nat.add_zero] at hj ⊢; rw [f0] at hj; rw [g0]; exact hj
      | 1, _ => rw [f1] at hj; rw [g1]; exact hj
      | 2, _ => rw [f2] at hj; rw [g2]; exact hj
      | 3, _ => rw [f3] at hj; rw [g3]; exact hj

theorem cfg_no {N T M D : Int} (h : ¬ (1 ≤ N ∧ N ≤ 12 ∧ 1 ≤ T ∧ T ≤ N ∧ 1 ≤ M ∧ M ≤ 12 ∧ 1 ≤ D ∧ D ≤ 50)) : Cli.cfgB N T M D = false := by
  unfold Cli.cfgB
  cases e : (decide (1 ≤ N ∧ N ≤ 12) && (decide (1 ≤ T ∧ T ≤ N) && (decide (1 ≤ M ∧ M ≤ 12) && decide (1 ≤ D ∧ D ≤ 50))))
  · rfl
  · simp only [Bool.and_eq_true, decide_eq_true_iff] at e; omega
theorem cfg_yes {N T M D : Int} (h : 1 ≤ N ∧ N ≤ 12 ∧ 1 ≤ T ∧ T ≤ N ∧ 1 ≤ M ∧ M ≤ 12 ∧ 1 ≤ D ∧ D ≤ 50) : Cli.cfgB N T M D = true := by
  unfold Cli.cfgB
  simp only [Bool.and_eq_true, decide_eq_true_iff]; omega

set_option maxHeartbeats 1000000 in
theorem config_calls (N T M D : Int) (w : World) :
    Calls Tryz.prog 162 #[.agg #[.int .i64 N, .int .i64 T, .int .i64 M, .int .i64 D]] w fun e w' => e = .returned (.bool (Cli.cfgB N T M D)) ∧ Below w.heap.size w w' := by
  cases hc : Num.clB N
  · have H := hideG (cfg_no (N := N) (T := T) (M := M) (D := D) (fun h => by rw [Num.clB_yes h.1 h.2.1] at hc; cases hc))
    go_enter Tryz.func162, Tryz.ntmps162
    go_wp2_with (go_at_call 217; refine (client_calls _ _).mono ?_; rintro e w' ⟨rfl, rfl⟩)
    go_ret
    exact ⟨ret_bool H.out.symm, by go_grown⟩
  obtain ⟨n1, n2⟩ := Num.clB_iff.1 hc
  by_cases t1 : T < 1
  · have H := hideG (cfg_no (N := N) (T := T) (M := M) (D := D) (by omega))
    go_enter Tryz.func162, Tryz.ntmps162
    go_wp2_with (go_at_call 217; refine (client_calls _ _).mono ?_; rintro e w' ⟨rfl, rfl⟩)
    go_ret
    exact ⟨ret_bool H.out.symm, by go_grown⟩
  by_cases t2 : N < T
  · have H := hideG (cfg_no (N := N) (T := T) (M := M) (D := D) (by omega))
    go_enter Tryz.func162, Tryz.ntmps162
    go_wp2_with (go_at_call 217; refine (client_calls _ _).mono ?_; rintro e w' ⟨rfl, rfl⟩)
    go_ret
    exact ⟨ret_bool H.out.symm, by go_grown⟩
  by_cases m1 : 1 ≤ M
  · by_cases m2 : M ≤ 12
    · by_cases d1 : 1 ≤ D
      · by_cases d2 : D ≤ 50
        · have H := hideG (cfg_yes (N := N) (T := T) (M := M) (D := D) (by omega))
          go_enter Tryz.func162, Tryz.ntmps162
          go_wp2_with (go_at_call 217; refine (client_calls _ _).mono ?_; rintro e w' ⟨rfl, rfl⟩)
          go_ret
          exact ⟨ret_bool H.out.symm, by go_grown⟩
        · have H := hideG (cfg_no (N := N) (T := T) (M := M) (D := D) (by omega))
          go_enter Tryz.func162, Tryz.ntmps162
          go_wp2_with (go_at_call 217; refine (client_calls _ _).mono ?_; rintro e w' ⟨rfl, rfl⟩)
          go_ret
          exact ⟨ret_bool (by rw [H.out, decide_eq_false (show ¬ D ≤ 50 by omega)]), by go_grown⟩
      · have H := hideG (cfg_no (N := N) (T := T) (M := M) (D := D) (by omega))
        go_enter Tryz.func162, Tryz.ntmps162
        go_wp2_with (go_at_call 217; refine (client_calls _ _).mono ?_; rintro e w' ⟨rfl, rfl⟩)
        go_ret
        exact ⟨ret_bool H.out.symm, by go_grown⟩
    · have H := hideG (cfg_no (N := N) (T := T) (M := M) (D := D) (by omega))
      go_enter Tryz.func162, Tryz.ntmps162
      go_wp2_with (go_at_call 217; refine (client_calls _ _).mono ?_; rintro e w' ⟨rfl, rfl⟩)
      go_ret
      exact ⟨ret_bool H.out.symm, by go_grown⟩
  · have H := hideG (cfg_no (N := N) (T := T) (M := M) (D := D) (by omega))
    go_enter Tryz.func162, Tryz.ntmps162
    go_wp2_with (go_at_call 217; refine (client_calls _ _).mono ?_; rintro e w' ⟨rfl, rfl⟩)
    go_ret
    exact ⟨ret_bool H.out.symm, by go_grown⟩

theorem words_calls (v : Value) (zs : List Int) (w : World) (h : ListAt w v zs) :
    Calls Tryz.prog 218 #[v] w fun e w' => e = .returned (.bool (Cli.wordsB zs)) ∧ w' = w := by
  obtain ⟨a, cap, rfl, h2, h3, hc⟩ := list_view h
  have HC := hideG hc
  clear hc h
  have HG := hideG (fun k (hk : k < zs.length) => (show zs.getD k 0 ∈ zs by rw [List.getD_eq_getElem?_getD, List.getElem?_eq_getElem hk]; exact List.getElem_mem hk))
  have HS := hideG (fun k (hk : k < zs.length) => (show (zs.take (k + 1)).all Frm.wdB = ((zs.take k).all Frm.wdB && Frm.wdB (zs.getD k 0)) by
    rw [List.take_succ_eq_append_getElem hk, List.all_append, List.getD_eq_getElem?_getD, List.getElem?_eq_getElem hk]; simp))
  have HT := hideG (show zs.take zs.length = zs from List.take_length)
  generalize hn : zs.length = n at *
  clear hn
  go_enter Tryz.func218, Tryz.ntmps218
  go_wp2_with fail
  go_loop [7] (fun i => ∃ k : Nat, k ≤ n ∧ i = .int .i64 k ∧ (zs.take k).all Frm.wdB = true) (fun i => n - (intOf i).toNat)
  case atStart => exact ⟨0, Nat.zero_le _, rfl, rfl⟩
  case round =>
    obtain ⟨k, hk, rfl, hall⟩ := hrel
    have HA := hideG hall
    clear hall
    by_cases hlt : k < n
    · obtain ⟨b, off, rfl, c0⟩ := HC.out k hlt
      have HM := hideG (HG.out k hlt)
      have HU := hideG (HS.out k hlt)
      obtain ⟨z, hz⟩ : ∃ z, z = zs.getD k 0 := ⟨_, rfl⟩
      rw [← hz] at c0 HM HU
      clear hz
      cases q : Frm.wdB z
      · have H := hideG (show Cli.wordsB zs = false from List.all_eq_false.2 ⟨z, HM.out, by rw [q]; exact Bool.false_ne_true⟩)
        go_wp2_with fail
        refine (word_calls _ _).mono ?_
        rintro e w' ⟨rfl, rfl⟩
        go_wp2_with fail
        go_ret
        exact ⟨ret_bool H.out.symm, rfl⟩
      · rw [q, HA.out] at HU
        go_wp2_with fail
        refine (word_calls _ _).mono ?_
        rintro e w' ⟨rfl, rfl⟩
        go_wp2_with fail
        go_round
        case rel => exact ⟨k + 1, by omega, by go_num, HU.out⟩
        case measure => simp [intOf]; omega
    · have ek : k = n := by omega
      subst ek
      have H := hideG (show Cli.wordsB zs = true by have := HA.out; rwa [HT.out] at this)
      go_wp2_with fail
      go_ret
      exact ⟨ret_bool H.out.symm, rfl⟩

theorem draw_len {T M : Int} {inp : List Int} {ch mk sd : Int} {sm ss : List Int} (h : ¬ ((inp.length : Int) = M ∧ (sm.length : Int) = T - 1 ∧ (ss.length : Int) = T - 1)) : Cli.drawB T M inp ch mk sd sm ss = false := by
  unfold Cli.drawB
  cases e : (Cli.wordsB inp && (decide ((inp.length : Int) = M) && (decide ((sm.length : Int) = T - 1) && (decide ((ss.length : Int) = T - 1) && (sm.all Num.elB && (ss.all Num.elB && (Num.elB ch && (Num.elB mk && Num.elB sd))))))))
  · rfl
  · simp only [Bool.and_eq_true, decide_eq_true_iff] at e; omega
theorem draw_rest {T M : Int} {inp : List Int} {ch mk sd : Int} {sm ss : List Int} (h1 : (inp.length : Int) = M) (h2 : (sm.length : Int) = T - 1) (h3 : (ss.length : Int) = T - 1) :
    Cli.drawB T M inp ch mk sd sm ss = ((Num.elB ch && (Num.elB mk && Num.elB sd)) && (Cli.wordsB inp && (sm.all Num.elB && ss.all Num.elB))) := by
  unfold Cli.drawB
  rw [decide_eq_true h1, decide_eq_true h2, decide_eq_true h3]
  cases Cli.wordsB inp <;> cases sm.all Num.elB <;> cases ss.all Num.elB <;> cases Num.elB ch <;> cases Num.elB mk <;> cases Num.elB sd <;> rfl

set_option maxHeartbeats 2000000 in
set_option maxRecDepth 100000 in
theorem draw_calls (N T M D : Int) (vi vm vs : Value) (inp sm ss : List Int) (ch mk sd : Int) (w : World) (hi : ListAt w vi inp) (hm : ListAt w vm sm) (hs : ListAt w vs ss) (hT : 1 ≤ T) (hT' : T ≤ 12) :
    Calls Tryz.prog 163 #[.agg #[.int .i64 N, .int .i64 T, .int .i64 M, .int .i64 D], .agg #[vi, .int .i64 ch, .int .i64 mk, .int .i64 sd, vm, vs]] w fun e w' => e = .returned (.bool (Cli.drawB T M inp ch mk sd sm ss)) ∧ Below w.heap.size w w' := by
  have HWO := hideG (fun (W : World) (hb : Below w.heap.size w W) => words_calls vi inp W (hi.below hb))
  have HE1 := hideG (fun (W : World) (hb : Below w.heap.size w W) => elements_calls vm sm W (hm.below hb))
  have HE2 := hideG (fun (W : World) (hb : Below w.heap.size w W) => elements_calls vs ss W (hs.below hb))
  have hBB : Below w.heap.size w ((w.alloc (.cells #[.int .i64 N, .int .i64 T, .int .i64 M, .int .i64 D] 42)).alloc (.cells #[vi, .int .i64 ch, .int .i64 mk, .int .i64 sd, vm, vs] 74)) := ((Below.refl _ _).alloc (Nat.le_refl _) _).alloc (by simp) _
  obtain ⟨a1, c1, rfl, i2, i3, _⟩ := hi
  obtain ⟨a2, c2, rfl, m2, m3, _⟩ := hm
  obtain ⟨a3, c3, rfl, s2, s3, _⟩ := hs
  have BB := hideG hBB
  clear hBB
  by_cases q1 : (inp.length : Int) = M
  · by_cases q2 : (sm.length : Int) = T - 1
    · by_cases q3 : (ss.length : Int) = T - 1
      · have HR := hideG (draw_rest (ch := ch) (mk := mk) (sd := sd) q1 q2 q3)
        have p1 : ((inp.length : Int) != M) = false := by simpa using q1
        have p2 : ((sm.length : Int) != T - 1) = false := by simpa using q2
        have p3 : ((ss.length : Int) != T - 1) = false := by simpa using q3
        generalize inp.length = n1 at *
        generalize sm.length = n2 at *
        generalize ss.length = n3 at *
        clear q1 q2 q3
        cases e1 : Num.elB ch
        · rw [e1] at HR
          go_enter Tryz.func163, Tryz.ntmps163
          go_wp2_with (go_at_call 74; refine (element_calls _ _).mono ?_; rintro e w' ⟨rfl, rfl⟩)
          go_ret
          exact ⟨ret_bool HR.out.symm, BB.out⟩
        cases e2 : Num.elB mk
        · rw [e1, e2] at HR
          go_enter Tryz.func163, Tryz.ntmps163
          go_wp2_with (go_at_call 74; refine (element_calls _ _).mono ?_; rintro e w' ⟨rfl, rfl⟩)
          go_ret
          exact ⟨ret_bool HR.out.symm, BB.out⟩
        cases e3 : Num.elB sd
        · rw [e1, e2, e3] at HR
          go_enter Tryz.func163, Tryz.ntmps163
          go_wp2_with (go_at_call 74; refine (element_calls _ _).mono ?_; rintro e w' ⟨rfl, rfl⟩)
          go_ret
          exact ⟨ret_bool HR.out.symm, BB.out⟩
        rw [e1, e2, e3] at HR
        cases e4 : Cli.wordsB inp
        · rw [e4] at HR HWO
          go_enter Tryz.func163, Tryz.ntmps163
          go_wp2_with (first | (go_at_call 74; refine (element_calls _ _).mono ?_; rintro e w' ⟨rfl, rfl⟩) | (go_at_call 218; refine (HWO.out _ BB.out).mono ?_; rintro e w' ⟨rfl, rfl⟩))
          go_ret
          exact ⟨ret_bool HR.out.symm, BB.out⟩
        rw [e4] at HR HWO
        cases e5 : sm.all Num.elB
        · rw [e5] at HR HE1
          go_enter Tryz.func163, Tryz.ntmps163
          go_wp2_with (first | (go_at_call 74; refine (element_calls _ _).mono ?_; rintro e w' ⟨rfl, rfl⟩) | (go_at_call 218; refine (HWO.out _ BB.out).mono ?_; rintro e w' ⟨rfl, rfl⟩))
          refine (HE1.out _ BB.out).mono ?_
          rintro e w' ⟨rfl, rfl⟩
          go_wp2_with fail
          go_ret
          exact ⟨ret_bool HR.out.symm, BB.out⟩
        rw [e5] at HR HE1
        have HR2 := hideG (show Cli.drawB T M inp ch mk sd sm ss = ss.all Num.elB from HR.out)
        go_enter Tryz.func163, Tryz.ntmps163
        go_wp2_with (first | (go_at_call 74; refine (element_calls _ _).mono ?_; rintro e w' ⟨rfl, rfl⟩) | (go_at_call 218; refine (HWO.out _ BB.out).mono ?_; rintro e w' ⟨rfl, rfl⟩))
        refine (HE1.out _ BB.out).mono ?_
        rintro e w' ⟨rfl, rfl⟩
        go_wp2_with fail
        refine (HE2.out _ BB.out).mono ?_
        rintro e w' ⟨rfl, rfl⟩
        go_wp2_with fail
        go_ret
        exact ⟨ret_bool HR2.out.symm, BB.out⟩
      · have H := hideG (draw_len (M := M) (T := T) (inp := inp) (ch := ch) (mk := mk) (sd := sd) (sm := sm) (ss := ss) (fun h => q3 h.2.2))
        have p1 : ((inp.length : Int) != M) = false := by simpa using q1
        have p2 : ((sm.length : Int) != T - 1) = false := by simpa using q2
        have p3 : ((ss.length : Int) != T - 1) = true := by simpa using q3
        clear q1 q2 q3
        go_enter Tryz.func163, Tryz.ntmps163
        go_wp2_with fail
        go_ret
        exact ⟨ret_bool H.out.symm, BB.out⟩
    · have H := hideG (draw_len (M := M) (T := T) (inp := inp) (ch := ch) (mk := mk) (sd := sd) (sm := sm) (ss := ss) (fun h => q2 h.2.1))
      have p1 : ((inp.length : Int) != M) = false := by simpa using q1
      have p2 : ((sm.length : Int) != T - 1) = true := by simpa using q2
      clear q1 q2
      go_enter Tryz.func163, Tryz.ntmps163
      go_wp2_with fail
      go_ret
      exact ⟨ret_bool H.out.symm, BB.out⟩
  · have H := hideG (draw_len (M := M) (T := T) (inp := inp) (ch := ch) (mk := mk) (sd := sd) (sm := sm) (ss := ss) (fun h => q1 h.1))
    have p1 : ((inp.length : Int) != M) = true := by simpa using q1
    clear q1
    go_enter Tryz.func163, Tryz.ntmps163
    go_wp2_with fail
    go_ret
    exact ⟨ret_bool H.out.symm, BB.out⟩

end Go.Proofs.YtchideljndagjaaGreat

namespace Go.Proofs.YtchideljndagjaaGreat
open Go.ChangeShapes Go.WideShapes Go.ChangeAt Go.RowKit
set_option linter.unusedVariables false

theorem zero_size : (Tryz.prog.info? 162).map (·.size) = some Tryz.zeroCells162.size := by kernel_rfl
theorem zero_one : Tryz.zeroCells162.all (·.oneCell') = true := by rw [zero_circ]; exact all_oneCell_toArray (circ_one _)
theorem zero_list : Tryz.zeroCells162.toList = circ fun _ => Cli.Pr.z := by rw [zero_circ]

theorem stc (P : Program) (b o : Nat) (vs : List Value) (w : World) (ht : w.there b o vs.length) (h1 : ∀ v ∈ vs, v.oneCell' = true) : (storeCells ⟨b, o, none⟩ vs).run P w = .ok () (w.setCells b o vs) :=
  run_storeCells_cells (P := P) b o vs 0 w (fun j hj => (ht j hj).1) (fun j hj => (ht j hj).2) h1

/-- Nothing of it agrees where one item does not. -/
theorem box_bad {c : Cli.Cl} {k l : List Frm.It} {j : Nat} (hj : j < l.length) (h : (Frm.it l j).1 = c.id ∨ Cli.hasI k (Frm.it l j).1 = false ∨ Cli.opensB c k l (Frm.it l j).1 = false) : Cli.boxAgree c k l = false := by
  unfold Cli.boxAgree
  have hm : Frm.it l j ∈ l := by rw [Cli.it_get l j hj]; exact List.getElem_mem hj
  rcases h with h | h | h
  · rw [Cli.hasI_iff.2 ⟨_, hm, h⟩]; rfl
  · rw [show (l.all fun x => Cli.hasI k x.1 && Cli.opensB c k l x.1) = false from List.all_eq_false.2 ⟨_, hm, by rw [h]; exact Bool.false_ne_true⟩, Bool.and_false, Bool.and_false]
  · rw [show (l.all fun x => Cli.hasI k x.1 && Cli.opensB c k l x.1) = false from List.all_eq_false.2 ⟨_, hm, by rw [h, Bool.and_false]; exact Bool.false_ne_true⟩, Bool.and_false, Bool.and_false]
theorem box_good {c : Cli.Cl} {k l : List Frm.It} (ht : c.T ≤ (l.length : Int) + 1) (h : ∀ j, j < l.length → (Frm.it l j).1 ≠ c.id ∧ Cli.hasI k (Frm.it l j).1 = true ∧ Cli.opensB c k l (Frm.it l j).1 = true) : Cli.boxAgree c k l = true := by
  unfold Cli.boxAgree
  have g : ∀ x ∈ l, x.1 ≠ c.id ∧ Cli.hasI k x.1 = true ∧ Cli.opensB c k l x.1 = true := fun x hx => by
    obtain ⟨i, hi, rfl⟩ := List.getElem_of_mem hx
    have := h i hi
    rwa [Cli.it_get l i hi] at this
  rw [Cli.hasI_off.2 (fun x hx => (g x hx).1), decide_eq_true ht, List.all_eq_true.2 (fun x hx => by rw [(g x hx).2.1, (g x hx).2.2]; rfl)]
  rfl


set_option maxHeartbeats 400000 in
set_option maxRecDepth 100000 in
theorem second_short (b : Nat) (T : TypeId) (S : PS) (v : Value) (l : List Frm.It) (w : World) (h : PSAt w b T S) (hl : ItemsAt w v l) (hlen : l.length ≤ 12) (ht : (l.length : Int) + 1 < S.t) :
    Calls Tryz.prog 224 #[.pointer (some ⟨b, 0, none⟩), v] w fun e w' =>
      e = .returned (.tuple #[.agg (circ fun _ => Cli.Pr.z).toArray, .bool false]) ∧ Below w.heap.size w w' := by
  have hbl := h.lt
  have c5 := h.c5
  obtain ⟨a, cap, rfl, l2, l3, _, hcl⟩ := items_view hl
  have HZ := hideG zero_circ
  have HZL := hideG zero_list
  clear h hl hcl
  have HC0 := hideG (show CircAt (w.alloc (.cells Tryz.zeroCells162 162)) w.heap.size (fun _ => Cli.Pr.z) by unfold CircAt; rw [← HZ.out]; exact heap_alloc_new w _)
  have al : (w.alloc (.cells Tryz.zeroCells162 162)).cell? ⟨b, 5, none⟩ = some (.int .i64 S.t) := by rw [((Below.refl w.heap.size w).alloc (Nat.le_refl _) _).cell (p := ⟨b, 5, none⟩) (by exact hbl)]; exact c5
  generalize S.t = t at *
  generalize l.length = n at *
  have HT0 := hideG (show (w.alloc (.cells Tryz.zeroCells162 162)).there w.heap.size 0 Tryz.zeroCells162.toList.length by
    rw [HZL.out, circ_length]; exact HC0.out.there 0 65 (by omega))
  have hst := stc Tryz.prog w.heap.size 0 Tryz.zeroCells162.toList _ HT0.out (by rw [HZL.out]; exact circ_one _)
  have HROW := hideG (show ((w.alloc (.cells Tryz.zeroCells162 162)).setCells w.heap.size 0 Tryz.zeroCells162.toList).heap[w.heap.size]? = some (.cells (circ fun _ => Cli.Pr.z).toArray 162 (0, 0)) by rw [HZL.out]; exact HC0.out.all _)
  have HSZ := hideG (show (Tryz.prog.info? 162).map (·.size) = some (circ fun _ => Cli.Pr.z).toArray.size by rw [size_circ, List.size_toArray, circ_length])
  obtain ⟨CZ, hCZ⟩ : ∃ CZ, CZ = (circ fun _ => Cli.Pr.z).toArray := ⟨_, rfl⟩
  rw [← hCZ] at HROW HSZ ⊢
  have HBW := hideG (show Below w.heap.size w ((w.alloc (.cells Tryz.zeroCells162 162)).setCells w.heap.size 0 Tryz.zeroCells162.toList) from below_setCells (Nat.le_refl _) _ _ _ ((Below.refl w.heap.size w).alloc (Nat.le_refl _) _))
  obtain ⟨W2, hW2⟩ : ∃ W2, W2 = (w.alloc (.cells Tryz.zeroCells162 162)).setCells w.heap.size 0 Tryz.zeroCells162.toList := ⟨_, rfl⟩
  rw [← hW2] at hst HROW HBW
  clear hW2
  clear hCZ
  go_enter Tryz.func224, Tryz.ntmps224
  go_wp2_with fail
  trace "1"
  refine bodyPost_ret (results_row_tmp rfl _ _ w.heap.size 162 CZ (0, 0) _ rfl HROW.out Tryz.underlying162 rfl HSZ.out) rfl ?_
  trace "2"
  exact ⟨rfl, HBW.out⟩

end Go.Proofs.YtchideljndagjaaGreat
