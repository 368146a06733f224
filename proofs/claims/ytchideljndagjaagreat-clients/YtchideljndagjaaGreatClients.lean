/- PROVED: veillaw.Clients answers true at every script, and the script reads afterwards as it read before. No condition. -/
import Derived.Test.YtchideljndagjaaGreatPkClBE
import Derived.Test.YtchideljndagjaaGreatPkClAY
import Derived.ShutString
import Derived.Below
import Derived.SizedLaws
namespace Go.Proofs.YtchideljndagjaaGreat.clients
open Go.ChangeShapes Go.WideShapes Go.ChangeAt Go.RowKit
set_option linter.unusedVariables false

theorem own : ownKnob Tryz.prog.godebug = none := by kernel_rfl
theorem laidOut : laidOutB Tryz.prog = true := by kernel_rfl

theorem step_10 (pw : Value) (x y z : Int) (r : Nat → Value) (w : World) (Q : World → Prop)
    (hc : ∀ w1, Below w.heap.size w w1 → Calls Tryz.prog 15 #[pw, .agg #[.int .i64 10, .int .i64 x, .int .i64 y, .int .i64 z, r 0, r 1, r 2, r 3, r 4, r 5, r 6, r 7, r 8, r 9]] w1 fun e w' => e = .returned (.bool true) ∧ Q w') :
    Calls Tryz.prog 9 #[pw, .agg #[.int .i64 10, .int .i64 x, .int .i64 y, .int .i64 z, r 0, r 1, r 2, r 3, r 4, r 5, r 6, r 7, r 8, r 9]] w fun e w' => e = .returned (.bool true) ∧ Q w' := by
  have HC := hideG hc
  clear hc
  go_enter Tryz.func9, Tryz.ntmps9
  go_wp2_with fail
  refine (HC.out _ ((Below.refl _ _).alloc (Nat.le_refl _) _)).mono ?_
  rintro e w' ⟨rfl, hq⟩
  have HQ := hideG hq
  clear hq
  go_wp2_with fail
  go_ret
  exact ⟨rfl, HQ.out⟩

theorem step_11 (pw : Value) (x y z : Int) (r : Nat → Value) (w : World) (Q : World → Prop)
    (hc : ∀ w1, Below w.heap.size w w1 → Calls Tryz.prog 15 #[pw, .agg #[.int .i64 11, .int .i64 x, .int .i64 y, .int .i64 z, r 0, r 1, r 2, r 3, r 4, r 5, r 6, r 7, r 8, r 9]] w1 fun e w' => e = .returned (.bool true) ∧ Q w') :
    Calls Tryz.prog 9 #[pw, .agg #[.int .i64 11, .int .i64 x, .int .i64 y, .int .i64 z, r 0, r 1, r 2, r 3, r 4, r 5, r 6, r 7, r 8, r 9]] w fun e w' => e = .returned (.bool true) ∧ Q w' := by
  have HC := hideG hc
  clear hc
  go_enter Tryz.func9, Tryz.ntmps9
  go_wp2_with fail
  refine (HC.out _ ((Below.refl _ _).alloc (Nat.le_refl _) _)).mono ?_
  rintro e w' ⟨rfl, hq⟩
  have HQ := hideG hq
  clear hq
  go_wp2_with fail
  go_ret
  exact ⟨rfl, HQ.out⟩

theorem step_12 (pw : Value) (x y z : Int) (r : Nat → Value) (w : World) (Q : World → Prop)
    (hc : ∀ w1, Below w.heap.size w w1 → Calls Tryz.prog 15 #[pw, .agg #[.int .i64 12, .int .i64 x, .int .i64 y, .int .i64 z, r 0, r 1, r 2, r 3, r 4, r 5, r 6, r 7, r 8, r 9]] w1 fun e w' => e = .returned (.bool true) ∧ Q w') :
    Calls Tryz.prog 9 #[pw, .agg #[.int .i64 12, .int .i64 x, .int .i64 y, .int .i64 z, r 0, r 1, r 2, r 3, r 4, r 5, r 6, r 7, r 8, r 9]] w fun e w' => e = .returned (.bool true) ∧ Q w' := by
  have HC := hideG hc
  clear hc
  go_enter Tryz.func9, Tryz.ntmps9
  go_wp2_with fail
  refine (HC.out _ ((Below.refl _ _).alloc (Nat.le_refl _) _)).mono ?_
  rintro e w' ⟨rfl, hq⟩
  have HQ := hideG hq
  clear hq
  go_wp2_with fail
  go_ret
  exact ⟨rfl, HQ.out⟩

theorem step_13 (pw : Value) (x y z : Int) (r : Nat → Value) (w : World) (Q : World → Prop)
    (hc : ∀ w1, Below w.heap.size w w1 → Calls Tryz.prog 15 #[pw, .agg #[.int .i64 13, .int .i64 x, .int .i64 y, .int .i64 z, r 0, r 1, r 2, r 3, r 4, r 5, r 6, r 7, r 8, r 9]] w1 fun e w' => e = .returned (.bool true) ∧ Q w') :
    Calls Tryz.prog 9 #[pw, .agg #[.int .i64 13, .int .i64 x, .int .i64 y, .int .i64 z, r 0, r 1, r 2, r 3, r 4, r 5, r 6, r 7, r 8, r 9]] w fun e w' => e = .returned (.bool true) ∧ Q w' := by
  have HC := hideG hc
  clear hc
  go_enter Tryz.func9, Tryz.ntmps9
  go_wp2_with fail
  refine (HC.out _ ((Below.refl _ _).alloc (Nat.le_refl _) _)).mono ?_
  rintro e w' ⟨rfl, hq⟩
  have HQ := hideG hq
  clear hq
  go_wp2_with fail
  go_ret
  exact ⟨rfl, HQ.out⟩

theorem step_14 (pw : Value) (x y z : Int) (r : Nat → Value) (w : World) (Q : World → Prop)
    (hc : ∀ w1, Below w.heap.size w w1 → Calls Tryz.prog 15 #[pw, .agg #[.int .i64 14, .int .i64 x, .int .i64 y, .int .i64 z, r 0, r 1, r 2, r 3, r 4, r 5, r 6, r 7, r 8, r 9]] w1 fun e w' => e = .returned (.bool true) ∧ Q w') :
    Calls Tryz.prog 9 #[pw, .agg #[.int .i64 14, .int .i64 x, .int .i64 y, .int .i64 z, r 0, r 1, r 2, r 3, r 4, r 5, r 6, r 7, r 8, r 9]] w fun e w' => e = .returned (.bool true) ∧ Q w' := by
  have HC := hideG hc
  clear hc
  go_enter Tryz.func9, Tryz.ntmps9
  go_wp2_with fail
  refine (HC.out _ ((Below.refl _ _).alloc (Nat.le_refl _) _)).mono ?_
  rintro e w' ⟨rfl, hq⟩
  have HQ := hideG hq
  clear hq
  go_wp2_with fail
  go_ret
  exact ⟨rfl, HQ.out⟩

/-- What holds behind each step. -/
def J (w : World) (k : Nat) (wr : World) : Prop := Below w.heap.size w wr ∧ ∃ K, KI wr w.heap.size (4 * k) K ∧ K.length ≤ k ∧ ∀ q ∈ K, q.hh.length ≤ k
def J2 (w : World) (wr : World) : Prop := Below w.heap.size w wr ∧ ∃ m K, KI wr w.heap.size m K

theorem inv_new (w : World) : InvW (w.alloc (.cells #[.slice none 0 0, .slice none 0 0, .slice none 0 0, .slice none 0 0, .slice none 0 0, .slice none 0 0, .slice none 0 0, .slice none 0 0, .slice none 0 0, .slice none 0 0, .slice none 0 0, .slice none 0 0, .slice none 0 0, .slice none 0 0, .slice none 0 0, .int .i64 0] 37)) w.heap.size (fun j => if j = 15 then .int .i64 0 else .slice none 0 0) 0 (fun _ => []) := by
  refine ⟨?_, rfl, fun c hc => ?_, ⟨fun _ => (0, 0, 0), fun c hc b hb => ?_, fun c hc b hb => ?_, fun c hc i o b hi hb => by simp at hi⟩⟩
  · rw [heap_alloc_new]; rfl
  · have a := cat_fi c; have b := cat_fm c
    rw [if_neg (show ¬ (cat c).fi = 15 by omega), if_neg (show ¬ (cat c).fm = 15 by omega)]
    exact ⟨World.ownsRow_nil _ _ _ _, World.ownsRow_nil _ _ _ _, fun o ho => by cases ho⟩
  · have a := cat_fi c
    rw [if_neg (by omega)] at hb; cases hb
  · have a := cat_fm c
    rw [if_neg (by omega)] at hb; cases hb

theorem ki_new (w : World) : KI (w.alloc (.cells #[.slice none 0 0, .slice none 0 0, .slice none 0 0, .slice none 0 0, .slice none 0 0, .slice none 0 0, .slice none 0 0, .slice none 0 0, .slice none 0 0, .slice none 0 0, .slice none 0 0, .slice none 0 0, .slice none 0 0, .slice none 0 0, .slice none 0 0, .int .i64 0] 37)) w.heap.size 0 [] := by
  refine ⟨_, 0, _, inv_new w, ⟨?_, if_neg (by omega), if_neg (by omega), fun p hp => (by cases hp), ⟨fun _ => 0, fun i p x hp => (by simp at hp), fun x hx => ?_, fun x hx => rfl⟩⟩, fun o ho => (by cases ho), Int.le_refl _, Int.le_refl _, fun c => Nat.le_refl _⟩
  · show World.ownsRow _ _ _ 1 (if 0 = 15 then _ else _) 0 []
    rw [if_neg (by omega)]
    exact World.ownsRow_nil _ _ _ _
  · have hx' : (if 0 = 15 then Value.int .i64 0 else Value.slice none 0 0).ownBlock = some x := hx
    rw [if_neg (by omega)] at hx'
    cases hx'

theorem j_below {w wr w' : World} {k : Nat} (h : J w k wr) (hB : Below wr.heap.size wr w') : J w k w' := by
  obtain ⟨h1, K, h2, h3⟩ := h
  exact ⟨h1.trans (hB.mono h1.size), K, h2.below hB, h3⟩
theorem j_skip {w wr : World} {k : Nat} (h : J w k wr) : J w (k + 1) wr := by
  obtain ⟨h1, K, h2, h3, h4⟩ := h
  exact ⟨h1, K, h2.mono (by omega), by omega, fun q hq => by have := h4 q hq; omega⟩
theorem b24 {len k : Nat} (hl : len * 168 ≤ 140737488351232) (hk : k < len) {a : Nat} (ha : a ≤ 4 * k + 4) : a * 24 ≤ 140737488355328 :=
  Nat.le_trans (Nat.mul_le_mul_right 24 ha) (Nat.le_trans (show (4 * k + 4) * 24 ≤ len * 168 by omega) (Nat.le_trans hl (by decide)))
theorem b40 {len k : Nat} (hl : len * 168 ≤ 140737488351232) (hk : k < len) : (k + 1) * 40 ≤ 140737488355328 :=
  Nat.le_trans (show (k + 1) * 40 ≤ len * 168 by omega) (Nat.le_trans hl (by decide))
theorem bend {len n : Nat} (hl : len * 168 ≤ 140737488351232) (hn : n ≤ len) : (4 * len + 2 * n) * 24 ≤ 140737488355328 :=
  Nat.le_trans (show (4 * len + 2 * n) * 24 ≤ len * 168 by omega) (Nat.le_trans hl (by decide))

set_option maxRecDepth 100000 in
theorem walk (a : Option Addr) (len cap : Nat) (w : World) (hs : Scr3 w a len) :
    Calls Tryz.prog 7 #[.slice a len cap] w fun e w' => e = .returned (.bool true) ∧ Below w.heap.size w w' := by
  have HS := hideG hs
  have hr := hs.1
  clear hs
  go_enter Tryz.func7, Tryz.ntmps7
  go_wp2_with fail
  refine (plays_any3 10 14 a len cap w HS.out (J w) (J2 w) ?_ ?_ ?_ ?_ ?_ ?_).mono ?_
  · exact ⟨(Below.refl _ _).alloc (Nat.le_refl _) _, [], ki_new w, Nat.le_refl _, fun q hq => by cases hq⟩
  · exact fun k wr h => h.1
  · exact fun k wr h => j_skip h
  · intro k wr kd x y z r hk hj h1 h2 ho
    obtain ⟨⟨_, ⟨st, hst, hsz⟩, _, _⟩, ⟨N, T, M, Dd, e5, e6, e7, e8, _⟩, ⟨aD, nD, cD, vi, vm, vs, D, e9, hD, _, hDl⟩⟩ := ho
    have hlw : ∀ i x, i < nD → (((D i).inp ≠ [] ∧ (vi i).ownBlock = some x) ∨ ((D i).sm ≠ [] ∧ (vm i).ownBlock = some x) ∨ ((D i).ss ≠ [] ∧ (vs i).ownBlock = some x)) → x < w.heap.size := fun i x hi hx => by
      obtain ⟨l1, l2, l3, _⟩ := hD.its i hi
      rcases hx with ⟨h0, hx⟩ | ⟨h0, hx⟩ | ⟨h0, hx⟩
      · exact list_low l1 h0 x hx
      · exact list_low l2 h0 x hx
      · exact list_low l3 h0 x hx
    rcases (show kd = 10 ∨ kd = 11 ∨ kd = 12 ∨ kd = 13 ∨ kd = 14 by omega) with rfl | rfl | rfl | rfl | rfl
    · refine step_10 _ x y z r wr (fun w' => J w (k + 1) w') (fun w1 hB1 => ?_)
      obtain ⟨b1, K, b2, b3, b4⟩ := j_below hj hB1
      refine (clients_new w.heap.size (4 * k) K x y z r k N T M Dd aD nD cD vi vm vs D w1 b2 e5 e6 e7 e8 e9 (hD.below b1) hDl hlw b4 (b24 hr hk (Nat.le_refl _)) b3 (b40 hr hk)).mono ?_
      rintro e w' ⟨rfl, K', f1, f2, f3, f4⟩
      exact ⟨rfl, b1.trans f4, K', f1, by omega, fun q hq => by have := f3 q hq; omega⟩
    · refine step_11 _ x y z r wr (fun w' => J w (k + 1) w') (fun w1 hB1 => ?_)
      obtain ⟨b1, K, b2, b3, b4⟩ := j_below hj hB1
      refine (clients_take w.heap.size (4 * k) K x y z r k st w1 b2 hst hsz b4 (b40 hr hk) (b24 hr hk (by omega))).mono ?_
      rintro e w' ⟨rfl, K', f1, f2, f3, f4⟩
      exact ⟨rfl, b1.trans f4, K', f1.mono (by omega), by omega, f3⟩
    · refine step_12 _ x y z r wr (fun w' => J w (k + 1) w') (fun w1 hB1 => ?_)
      obtain ⟨b1, K, b2, b3, b4⟩ := j_below hj hB1
      refine (clients_hello w.heap.size (4 * k) K x y z r w1 b2 (b24 hr hk (by omega))).mono ?_
      rintro e w' ⟨rfl, f1, f4⟩
      exact ⟨rfl, b1.trans f4, K, f1.mono (by omega), by omega, fun q hq => by have := b4 q hq; omega⟩
    · refine step_13 _ x y z r wr (fun w' => J w (k + 1) w') (fun w1 hB1 => ?_)
      obtain ⟨b1, K, b2, b3, b4⟩ := j_below hj hB1
      refine (clients_phase w.heap.size (4 * k) K x y z r w1 b2 (b24 hr hk (by omega))).mono ?_
      rintro e w' ⟨rfl, f1, f4⟩
      exact ⟨rfl, b1.trans f4, K, f1.mono (by omega), by omega, fun q hq => by have := b4 q hq; omega⟩
    · refine step_14 _ x y z r wr (fun w' => J w (k + 1) w') (fun w1 hB1 => ?_)
      obtain ⟨b1, K, b2, b3, b4⟩ := j_below hj hB1
      refine (clients_told w.heap.size (4 * k) K x y z r w1 b2 (b24 hr hk (by omega))).mono ?_
      rintro e w' ⟨rfl, f1, f4⟩
      exact ⟨rfl, b1.trans f4, K, f1.mono (by omega), by omega, fun q hq => by have := b4 q hq; omega⟩
  · intro wr hj
    obtain ⟨b1, K, b2, b3, b4⟩ := hj
    refine (ends_ki w.heap.size (4 * len) K wr b2 (bend hr b3)).mono ?_
    rintro e w' ⟨rfl, f1, f2⟩
    exact ⟨rfl, b1.trans f2, _, K, f1⟩
  · intro wr hj
    obtain ⟨b1, m, K, F, nx, ls, c1, c2, c3, _⟩ := hj
    refine (looks_all _ F nx ls wr c1 c3).mono ?_
    rintro e w' ⟨rfl, hb⟩
    exact ⟨rfl, b1.trans (hb.mono b1.size)⟩
  · rintro e w' ⟨rfl, hb⟩
    have HB := hideG hb
    clear hb
    go_wp2_with fail
    go_ret
    exact ⟨rfl, HB.out⟩

set_option maxRecDepth 100000 in
theorem lifted (os : Os) (started : os.Started) (H : Type) (enc : TypeId × Value → H) :
    ReturnsInHanded {} Tryz.checked os 7 .any (Rows.clientsSpec.pre6 enc Tryz.prog Tryz.f7 Rows.clientsRow.domain false) (Rows.clientsSpec.post enc Tryz.prog Tryz.f7 false true false false) := by
  refine returnsInHanded_of_change_sized (C := Tryz.checked) own started (by kernel_rfl) Tryz.func7
    (ChangeSpec.witness6 (enc := enc) (C := Tryz.checked) false ⟨#[], #[.slice none 0 0], []⟩ 8 (by kernel_rfl) (by kernel_rfl) (by kernel_rfl) (by kernel_rfl)) ?_
  intro W base args ds gs before hval0 hW hcnd hsz0 _
  have hsz : (DataW.weightsEach Tryz.prog (Tryz.f7.params.toList ++ Rows.clientsSpec.plain.varTypes Tryz.prog) (ds ++ gs)).all (· ≤ reachBytes) = true := hsz0
  clear hsz0
  have hval : ∀ (j : Nat) t v, Tryz.f7.params[j]? = some t → args[j]? = some v → Value.okWide Tryz.prog W .any base t v := hval0
  have hW' := hW
  obtain ⟨p, q, hA0, hV, rfl, hfz, hnd⟩ := hW
  have hA : DataW.TrodAll enc Tryz.prog W 0 (fun _ => true) true Tryz.f7.params.toList args.toList ds p := hA0
  rw [Tryz.params7] at hA hval hsz
  obtain ⟨v0, vs0, d0, ds0, p0, q0, hargs, rfl, rfl, h0, r0⟩ := trodAll_cons hA
  obtain ⟨rfl, rfl, rfl⟩ := trodAll_nil r0
  obtain rfl : args = #[v0] := by cases args; simp_all
  obtain ⟨rfl, rfl⟩ := trodVars_none hV
  obtain ⟨a0, len0, cap0, rfl⟩ := okWide_slice Tryz.underlying22 (hval 0 22 v0 rfl rfl)
  have k0 := h0
  have lt0 : ∀ x ∈ p0, x.block < W.heap.size := by obtain ⟨m, hm⟩ := k0; exact DataW.trod_lt m _ _ _ hm
  have w0 : Scr3 W a0 len0 := by
    obtain ⟨fuel, hf⟩ := h0
    exact scr_of3 hf (fun n hn => by
      have := List.all_eq_true.1 hsz _ (DataW.weights_mem_each (j := 0) (t := 22) rfl rfl n hn)
      simpa using this)
  clear hA0 hval0
  refine (walk a0 len0 cap0 W w0).mono fun e W' ⟨he, bel⟩ => ?_
  subst he
  exact ⟨_, rfl, _, _, _, [], _, [], hW', trodAll_mk1 (shut_bool Tryz.underlying4 _), (trodAll_cons_mk (Below.trod laidOut (by kernel_rfl) (of_decide_eq_true (by kernel_rfl)) k0 bel lt0) trodAll_mk0), rfl, bel.frame _, fun h => by cases h⟩

theorem over : Rows.clientsRow.holds Tryz.pinned (OpenSpec.ofChange Rows.clientsSpec) :=
  OpenClaim.holds_of_wide 7 Tryz.f7 rfl rfl rfl rfl rfl rfl rfl ⟨rfl, rfl, rfl, rfl, rfl⟩ rfl rfl rfl rfl rfl (by kernel_rfl) Tryz.func7 (by kernel_rfl)
    (of_decide_eq_true (by kernel_rfl)) (by unfold Func.isWrapper; first | (rw [if_pos (by decide +kernel)]; kernel_rfl) | (rw [if_neg (by decide +kernel)]; exact ⟨rfl, rfl⟩))
    (fun os started H enc _ => lifted os started H enc)

end Go.Proofs.YtchideljndagjaaGreat.clients
namespace Go.Proofs.YtchideljndagjaaGreat

/-- The statement. -/
theorem clients_holds : Rows.ClientsSaid := clients.over
end Go.Proofs.YtchideljndagjaaGreat
