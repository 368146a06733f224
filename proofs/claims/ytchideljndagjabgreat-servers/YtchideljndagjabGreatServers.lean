/- PROVED: veillaw.Servers answers true at every script, and the script reads afterwards as it read before. No condition. -/
import Derived.Test.YtchideljndagjabGreatPkSeBI
import Derived.Test.YtchideljndagjabGreatPkSeAN
import Derived.Test.YtchideljndagjabGreatPkSeAM
import Derived.ShutString
import Derived.Below
import Derived.SizedLaws
namespace Go.Proofs.YtchideljndagjabGreat.servers
open Go.ChangeShapes Go.WideShapes Go.ChangeAt Go.RowKit
set_option linter.unusedVariables false

theorem own : ownKnob Tryz.prog.godebug = none := by kernel_rfl
theorem laidOut : laidOutB Tryz.prog = true := by kernel_rfl

theorem step_15 (pw : Value) (x y z : Int) (r : Nat → Value) (w : World) (Q : World → Prop)
    (hc : ∀ w1, Below w.heap.size w w1 → Calls Tryz.prog 54 #[pw, .agg #[.int .i64 15, .int .i64 x, .int .i64 y, .int .i64 z, r 0, r 1, r 2, r 3, r 4, r 5, r 6, r 7, r 8, r 9]] w1 fun e w' => e = .returned (.bool true) ∧ Q w') :
    Calls Tryz.prog 25 #[pw, .agg #[.int .i64 15, .int .i64 x, .int .i64 y, .int .i64 z, r 0, r 1, r 2, r 3, r 4, r 5, r 6, r 7, r 8, r 9]] w fun e w' => e = .returned (.bool true) ∧ Q w' := by
  have HC := hideG hc
  clear hc
  go_enter Tryz.func25, Tryz.ntmps25
  go_wp2_with fail
  refine (HC.out _ ((Below.refl _ _).alloc (Nat.le_refl _) _)).mono ?_
  rintro e w' ⟨rfl, hq⟩
  have HQ := hideG hq
  clear hq
  go_wp2_with fail
  go_ret
  exact ⟨rfl, HQ.out⟩

theorem step_16 (pw : Value) (x y z : Int) (r : Nat → Value) (w : World) (Q : World → Prop)
    (hc : ∀ w1, Below w.heap.size w w1 → Calls Tryz.prog 54 #[pw, .agg #[.int .i64 16, .int .i64 x, .int .i64 y, .int .i64 z, r 0, r 1, r 2, r 3, r 4, r 5, r 6, r 7, r 8, r 9]] w1 fun e w' => e = .returned (.bool true) ∧ Q w') :
    Calls Tryz.prog 25 #[pw, .agg #[.int .i64 16, .int .i64 x, .int .i64 y, .int .i64 z, r 0, r 1, r 2, r 3, r 4, r 5, r 6, r 7, r 8, r 9]] w fun e w' => e = .returned (.bool true) ∧ Q w' := by
  have HC := hideG hc
  clear hc
  go_enter Tryz.func25, Tryz.ntmps25
  go_wp2_with fail
  refine (HC.out _ ((Below.refl _ _).alloc (Nat.le_refl _) _)).mono ?_
  rintro e w' ⟨rfl, hq⟩
  have HQ := hideG hq
  clear hq
  go_wp2_with fail
  go_ret
  exact ⟨rfl, HQ.out⟩

theorem step_17 (pw : Value) (x y z : Int) (r : Nat → Value) (w : World) (Q : World → Prop)
    (hc : ∀ w1, Below w.heap.size w w1 → Calls Tryz.prog 54 #[pw, .agg #[.int .i64 17, .int .i64 x, .int .i64 y, .int .i64 z, r 0, r 1, r 2, r 3, r 4, r 5, r 6, r 7, r 8, r 9]] w1 fun e w' => e = .returned (.bool true) ∧ Q w') :
    Calls Tryz.prog 25 #[pw, .agg #[.int .i64 17, .int .i64 x, .int .i64 y, .int .i64 z, r 0, r 1, r 2, r 3, r 4, r 5, r 6, r 7, r 8, r 9]] w fun e w' => e = .returned (.bool true) ∧ Q w' := by
  have HC := hideG hc
  clear hc
  go_enter Tryz.func25, Tryz.ntmps25
  go_wp2_with fail
  refine (HC.out _ ((Below.refl _ _).alloc (Nat.le_refl _) _)).mono ?_
  rintro e w' ⟨rfl, hq⟩
  have HQ := hideG hq
  clear hq
  go_wp2_with fail
  go_ret
  exact ⟨rfl, HQ.out⟩

theorem step_18 (pw : Value) (x y z : Int) (r : Nat → Value) (w : World) (Q : World → Prop)
    (hc : ∀ w1, Below w.heap.size w w1 → Calls Tryz.prog 54 #[pw, .agg #[.int .i64 18, .int .i64 x, .int .i64 y, .int .i64 z, r 0, r 1, r 2, r 3, r 4, r 5, r 6, r 7, r 8, r 9]] w1 fun e w' => e = .returned (.bool true) ∧ Q w') :
    Calls Tryz.prog 25 #[pw, .agg #[.int .i64 18, .int .i64 x, .int .i64 y, .int .i64 z, r 0, r 1, r 2, r 3, r 4, r 5, r 6, r 7, r 8, r 9]] w fun e w' => e = .returned (.bool true) ∧ Q w' := by
  have HC := hideG hc
  clear hc
  go_enter Tryz.func25, Tryz.ntmps25
  go_wp2_with fail
  refine (HC.out _ ((Below.refl _ _).alloc (Nat.le_refl _) _)).mono ?_
  rintro e w' ⟨rfl, hq⟩
  have HQ := hideG hq
  clear hq
  go_wp2_with fail
  go_ret
  exact ⟨rfl, HQ.out⟩

/-- What holds behind each step. -/
structure JAt (w : World) (k : Nat) (wr : World) (len : Nat → Nat) (T : Nat → List Th) (K : List SP) : Prop where
  ai : AI wr w.heap.size (14 * k) len T
  one : T 1 = K.map (sTh w.heap.size)
  t0 : T 0 = []
  t2 : T 2 = []
  kl : K.length ≤ k
  kk : ∀ q ∈ K, q.L.length ≤ k
  l0 : len 0 ≤ 2 * k
  l1 : len 1 + pots K ≤ 2 * k
  l3 : len 3 ≤ k
def J (w : World) (k : Nat) (wr : World) : Prop := Below w.heap.size w wr ∧ ∃ len T K, JAt w k wr len T K
def J2 (w : World) (wr : World) : Prop := Below w.heap.size w wr ∧ ∃ m len T, AI wr w.heap.size m len T

theorem inv_new (w : World) : InvW (w.alloc (.cells #[.slice none 0 0, .slice none 0 0, .slice none 0 0, .slice none 0 0, .slice none 0 0, .slice none 0 0, .slice none 0 0, .slice none 0 0, .slice none 0 0, .slice none 0 0, .slice none 0 0, .slice none 0 0, .slice none 0 0, .slice none 0 0, .slice none 0 0, .int .i64 0] 89)) w.heap.size (fun j => if j = 15 then .int .i64 0 else .slice none 0 0) 0 (fun _ => []) := by
  refine ⟨?_, rfl, fun c hc => ?_, ⟨fun _ => (0, 0, 0), fun c hc b hb => ?_, fun c hc b hb => ?_, fun c hc i o b hi hb => by simp at hi⟩⟩
  · rw [heap_alloc_new]; rfl
  · have a := cat_fi c; have b := cat_fm c
    rw [if_neg (show ¬ (cat c).fi = 15 by omega), if_neg (show ¬ (cat c).fm = 15 by omega)]
    exact ⟨World.ownsRow_nil _ _ _ _, World.ownsRow_nil _ _ _ _, fun o ho => by cases ho⟩
  · have a := cat_fi c
    rw [if_neg (by omega)] at hb; cases hb
  · have a := cat_fm c
    rw [if_neg (by omega)] at hb; cases hb

theorem ai_new (w : World) : AI (w.alloc (.cells #[.slice none 0 0, .slice none 0 0, .slice none 0 0, .slice none 0 0, .slice none 0 0, .slice none 0 0, .slice none 0 0, .slice none 0 0, .slice none 0 0, .slice none 0 0, .slice none 0 0, .slice none 0 0, .slice none 0 0, .slice none 0 0, .slice none 0 0, .int .i64 0] 89)) w.heap.size 0 (fun _ => 0) (fun _ => []) := by
  refine ⟨_, 0, _, inv_new w, ⟨fun j hj => ?_, fun j hj t ht => (by cases ht), ⟨fun _ => 0, fun j i t x hj hp => (by simp at hp), fun j x hj hx => ?_, fun x hx => rfl⟩⟩, fun o ho => (by cases ho), Int.le_refl _, Int.le_refl _, fun c => Nat.le_refl _⟩
  · show World.ownsRow _ _ _ 1 (if j = 15 then _ else _) 0 []
    rw [if_neg (by omega)]
    exact World.ownsRow_nil _ _ _ _
  · have hx' : (if j = 15 then Value.int .i64 0 else Value.slice none 0 0).ownBlock = some x := hx
    rw [if_neg (by omega)] at hx'
    cases hx'

theorem j_below {w wr w' : World} {k : Nat} (h : J w k wr) (hB : Below wr.heap.size wr w') : J w k w' := by
  obtain ⟨h1, len, T, K, h2⟩ := h
  exact ⟨h1.trans (hB.mono h1.size), len, T, K, { h2 with ai := h2.ai.below hB }⟩
theorem j_skip {w wr : World} {k : Nat} (h : J w k wr) : J w (k + 1) wr := by
  obtain ⟨h1, len, T, K, h2⟩ := h
  exact ⟨h1, len, T, K, ⟨h2.ai.mono (by omega) (fun c => Nat.le_refl _), h2.one, h2.t0, h2.t2, by have := h2.kl; omega, fun q hq => by have := h2.kk q hq; omega, by have := h2.l0; omega, by have := h2.l1; omega, by have := h2.l3; omega⟩⟩
theorem b24 {len k : Nat} (hl : len * 168 ≤ 140737488351232) (hk : k < len) {a : Nat} (ha : a ≤ 2 * k + 2) : a * 24 ≤ 140737488355328 :=
  Nat.le_trans (Nat.mul_le_mul_right 24 ha) (Nat.le_trans (show (2 * k + 2) * 24 ≤ len * 168 by omega) (Nat.le_trans hl (by decide)))
theorem b48 {len k : Nat} (hl : len * 168 ≤ 140737488351232) (hk : k < len) : (k + 1) * 48 ≤ 140737488355328 :=
  Nat.le_trans (show (k + 1) * 48 ≤ len * 168 by omega) (Nat.le_trans hl (by decide))
theorem b8 {len k a : Nat} (hl : len * 168 ≤ 140737488351232) (hk : k < len) (ha : a ≤ k) : (a + 1) * 8 ≤ 140737488355328 :=
  Nat.le_trans (show (a + 1) * 8 ≤ len * 168 by omega) (Nat.le_trans hl (by decide))
theorem b14 {len k : Nat} (hl : len * 168 ≤ 140737488351232) (hk : k ≤ len) : 14 * k + 14 ≤ 1000000000000000000 := by omega
theorem bend {len a n : Nat} (hl : len * 168 ≤ 140737488351232) (ha : a ≤ 2 * len) (hn : n ≤ len) : (a + 2 * n) * 24 ≤ 140737488355328 :=
  Nat.le_trans (show (a + 2 * n) * 24 ≤ len * 168 by omega) (Nat.le_trans hl (by decide))
theorem bend2 {len n : Nat} (hl : len * 168 ≤ 140737488351232) (hn : n ≤ len) : 14 * len + 2 * n ≤ 1000000000000000000 := by omega

set_option maxRecDepth 100000 in
theorem walk (a : Option Addr) (len cap : Nat) (w : World) (hs : Scr3 w a len) :
    Calls Tryz.prog 3 #[.slice a len cap] w fun e w' => e = .returned (.bool true) ∧ Below w.heap.size w w' := by
  have HS := hideG hs
  have hr := hs.1
  clear hs
  go_enter Tryz.func3, Tryz.ntmps3
  go_wp2_with fail
  refine (plays_any3 15 18 a len cap w HS.out (J w) (J2 w) ?_ ?_ ?_ ?_ ?_ ?_).mono ?_
  · exact ⟨(Below.refl _ _).alloc (Nat.le_refl _) _, _, _, [], ai_new w, rfl, rfl, rfl, Nat.le_refl _, fun q hq => (by cases hq), Nat.le_refl _, Nat.le_refl _, Nat.le_refl _⟩
  · exact fun k wr h => h.1
  · exact fun k wr h => j_skip h
  · intro k wr kd x y z r hk hj h1 h2 ho
    obtain ⟨⟨_, ⟨st, hst, hsz⟩, _, _⟩, ⟨N, T, M, Dd, e5, e6, e7, e8, _⟩, _⟩ := ho
    rcases (show kd = 15 ∨ kd = 16 ∨ kd = 17 ∨ kd = 18 by omega) with rfl | rfl | rfl | rfl
    · refine step_15 _ x y z r wr (fun w' => J w (k + 1) w') (fun w1 hB1 => ?_)
      obtain ⟨b1, ln, TT, K, b2⟩ := j_below hj hB1
      have hkl := b2.kl
      have hl0 := b2.l0
      have hl1 := b2.l1
      have hl3 := b2.l3
      refine (servers_new w.heap.size (14 * k) ln TT K x y z r N T M Dd w1 b2.ai b2.one e5 e6 e7 e8 (b8 hr hk hkl)).mono ?_
      rintro e w' ⟨rfl, T', K', f1, f2, f3, f4, f5, f6⟩
      exact ⟨rfl, b1.trans f6, ln, T', K', f1.mono (by omega) (fun c => Nat.le_refl _), f2.one, (f2.other 0 (by decide)).trans b2.t0, (f2.other 2 (by decide)).trans b2.t2, by omega, fun q hq => by have := f4 k b2.kk q hq; omega, by omega, by rw [f5]; omega, by omega⟩
    · refine step_16 _ x y z r wr (fun w' => J w (k + 1) w') (fun w1 hB1 => ?_)
      obtain ⟨b1, ln, TT, K, b2⟩ := j_below hj hB1
      have hkl := b2.kl
      have hl0 := b2.l0
      have hl1 := b2.l1
      have hl3 := b2.l3
      have hb14 := b14 hr (Nat.le_of_lt hk)
      refine (servers_take w.heap.size (14 * k) k ln TT K x y z r st w1 b2.ai b2.one hst hsz b2.kk (b48 hr hk) (by omega) (b24 hr hk (by omega))).mono ?_
      rintro e w' ⟨rfl, T', K', f1, f2, f3, f4, f5, f6⟩
      exact ⟨rfl, b1.trans f6, _, T', K', f1.mono (by omega) (fun c => Nat.le_refl _), f2.one, (f2.other 0 (by decide)).trans b2.t0, (f2.other 2 (by decide)).trans b2.t2, by omega, f4, by rw [upn_other (by decide)]; omega, by rw [upn_same]; omega, by rw [upn_other (by decide)]; omega⟩
    · refine step_17 _ x y z r wr (fun w' => J w (k + 1) w') (fun w1 hB1 => ?_)
      obtain ⟨b1, ln, TT, K, b2⟩ := j_below hj hB1
      have hkl := b2.kl
      have hl0 := b2.l0
      have hl1 := b2.l1
      have hl3 := b2.l3
      have hb14 := b14 hr (Nat.le_of_lt hk)
      refine (servers_tick w.heap.size (14 * k) k ln TT K x y z r w1 b2.ai b2.one b2.kk (by omega) (b24 hr hk (by omega)) (b24 hr hk (by omega))).mono ?_
      rintro e w' ⟨rfl, n, T', K', f1, f2, f3, f4, f5, f6, f7⟩
      exact ⟨rfl, b1.trans f7, _, T', K', f1.mono (by omega) (fun c => Nat.le_refl _), f2.one, (f2.other 0 (by decide)).trans b2.t0, (f2.other 2 (by decide)).trans b2.t2, by omega, fun q hq => by have := f4 q hq; omega, by rw [upn_other (by decide), upn_other (by decide)]; omega, by rw [upn_other (by decide), upn_same]; omega, by rw [upn_same, upn_other (by decide)]; omega⟩
    · refine step_18 _ x y z r wr (fun w' => J w (k + 1) w') (fun w1 hB1 => ?_)
      obtain ⟨b1, ln, TT, K, b2⟩ := j_below hj hB1
      have hkl := b2.kl
      have hl0 := b2.l0
      have hl1 := b2.l1
      have hl3 := b2.l3
      have hb14 := b14 hr (Nat.le_of_lt hk)
      refine (servers_out w.heap.size (14 * k) ln TT K x y z r w1 b2.ai b2.one (by omega) (b24 hr hk (by omega))).mono ?_
      rintro e w' ⟨rfl, f1, f2⟩
      exact ⟨rfl, b1.trans f2, _, TT, K, f1.mono (by omega) (fun c => Nat.le_refl _), b2.one, b2.t0, b2.t2, by omega, fun q hq => by have := b2.kk q hq; omega, by rw [upn_same]; omega, by rw [upn_other (by decide)]; omega, by rw [upn_other (by decide)]; omega⟩
  · intro wr hj
    obtain ⟨b1, ln, TT, K, b2⟩ := hj
    refine (ends_sv w.heap.size (14 * len) ln TT K wr b2.ai b2.one b2.t0 b2.t2 (bend2 hr b2.kl) (bend hr b2.l0 b2.kl)).mono ?_
    rintro e w' ⟨rfl, f1, f2⟩
    exact ⟨rfl, b1.trans f2, _, _, TT, f1⟩
  · intro wr hj
    obtain ⟨b1, m, ln, TT, F, nx, ls, c1, c2, c3, _⟩ := hj
    refine (looks_all _ F nx ls wr c1 c3).mono ?_
    rintro e w' ⟨rfl, hb⟩
    exact ⟨rfl, b1.trans (hb.mono b1.size)⟩
  · rintro e w' ⟨rfl, hb⟩
    have HB := hideG hb
    clear hb
    go_wp2_with fail
    go_ret
    exact ⟨rfl, HB.out⟩

set_option maxRecDepth 100000 in
theorem lifted (os : Os) (started : os.Started) (H : Type) (enc : TypeId × Value → H) :
    ReturnsInHanded {} Tryz.checked os 3 .any (Rows.serversSpec.pre6 enc Tryz.prog Tryz.f3 Rows.serversRow.domain false) (Rows.serversSpec.post enc Tryz.prog Tryz.f3 false true false false) := by
  refine returnsInHanded_of_change_sized (C := Tryz.checked) own started (by kernel_rfl) Tryz.func3
    (ChangeSpec.witness6 (enc := enc) (C := Tryz.checked) false ⟨#[], #[.slice none 0 0], []⟩ 8 (by kernel_rfl) (by kernel_rfl) (by kernel_rfl) (by kernel_rfl)) ?_
  intro W base args ds gs before hval0 hW hcnd hsz0 _
  have hsz : (DataW.weightsEach Tryz.prog (Tryz.f3.params.toList ++ Rows.serversSpec.plain.varTypes Tryz.prog) (ds ++ gs)).all (· ≤ reachBytes) = true := hsz0
  clear hsz0
  have hval : ∀ (j : Nat) t v, Tryz.f3.params[j]? = some t → args[j]? = some v → Value.okWide Tryz.prog W .any base t v := hval0
  have hW' := hW
  obtain ⟨p, q, hA0, hV, rfl, hfz, hnd⟩ := hW
  have hA : DataW.TrodAll enc Tryz.prog W 0 (fun _ => true) true Tryz.f3.params.toList args.toList ds p := hA0
  rw [Tryz.params3] at hA hval hsz
  obtain ⟨v0, vs0, d0, ds0, p0, q0, hargs, rfl, rfl, h0, r0⟩ := trodAll_cons hA
  obtain ⟨rfl, rfl, rfl⟩ := trodAll_nil r0
  obtain rfl : args = #[v0] := by cases args; simp_all
  obtain ⟨rfl, rfl⟩ := trodVars_none hV
  obtain ⟨a0, len0, cap0, rfl⟩ := okWide_slice Tryz.underlying22 (hval 0 22 v0 rfl rfl)
  have k0 := h0
  have lt0 : ∀ x ∈ p0, x.block < W.heap.size := by obtain ⟨m, hm⟩ := k0; exact DataW.trod_lt m _ _ _ hm
  have w0 : Scr3 W a0 len0 := by
    obtain ⟨fuel, hf⟩ := h0
    exact scr_of3 hf (fun n hn => by
      have := List.all_eq_true.1 hsz _ (DataW.weights_mem_each (j := 0) (t := 22) rfl rfl n hn)
      simpa using this)
  clear hA0 hval0
  refine (walk a0 len0 cap0 W w0).mono fun e W' ⟨he, bel⟩ => ?_
  subst he
  exact ⟨_, rfl, _, _, _, [], _, [], hW', trodAll_mk1 (shut_bool Tryz.underlying4 _), (trodAll_cons_mk (Below.trod laidOut (by kernel_rfl) (of_decide_eq_true (by kernel_rfl)) k0 bel lt0) trodAll_mk0), rfl, bel.frame _, fun h => by cases h⟩

theorem over : Rows.serversRow.holds Tryz.pinned (OpenSpec.ofChange Rows.serversSpec) :=
  OpenClaim.holds_of_wide 3 Tryz.f3 rfl rfl rfl rfl rfl rfl rfl ⟨rfl, rfl, rfl, rfl, rfl⟩ rfl rfl rfl rfl rfl (by kernel_rfl) Tryz.func3 closed
    (of_decide_eq_true (by kernel_rfl)) (by unfold Func.isWrapper; first | (rw [if_pos (by decide +kernel)]; kernel_rfl) | (rw [if_neg (by decide +kernel)]; exact ⟨rfl, rfl⟩))
    (fun os started H enc _ => lifted os started H enc)

end Go.Proofs.YtchideljndagjabGreat.servers
namespace Go.Proofs.YtchideljndagjabGreat

/-- The statement. -/
theorem servers_holds : Rows.ServersSaid := servers.over
end Go.Proofs.YtchideljndagjabGreat
