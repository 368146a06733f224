/- Contracts of package frame: the bounds, how many numbers, the bytes of a number, a number read. -/
import Derived.Test.YtchideljndagjabGreatPkIdAB
import Derived.WalkSpells
import Derived.Laws.Rows
import Derived.LoopN
import Derived.Handy
namespace Go.Proofs.YtchideljndagjabGreat
open Go.ChangeShapes Go.WideShapes Go.ChangeAt Go.RowKit
set_option linter.unusedVariables false
theorem ret_bool {a b : Bool} (h : a = b) : Ending.returned (.bool a) = Ending.returned (.bool b) := congrArg (fun x => Ending.returned (.bool x)) h
theorem key_calls (a : Int) (w : World) :
    Calls Tryz.prog 253 #[.int .i64 a] w fun e w' => e = .returned (.bool (Frm.keyB a)) ∧ w' = w := by
  by_cases h : 1 ≤ a
  · have H := hideG (show Frm.keyB a = decide (a < 2305843009213693951) by unfold Frm.keyB; simp [h])
    by_cases h' : a < 2305843009213693951
    · go_enter Tryz.func253, Tryz.ntmps253
      go_wp2
      go_ret
      exact ⟨ret_bool (by rw [H.out]; exact (decide_eq_true h').symm), rfl⟩
    · go_enter Tryz.func253, Tryz.ntmps253
      go_wp2
      go_ret
      exact ⟨ret_bool (by rw [H.out]; exact (decide_eq_false (by omega)).symm), rfl⟩
  · have H := hideG (show Frm.keyB a = false from decide_eq_false (fun x => h x.1))
    go_enter Tryz.func253, Tryz.ntmps253
    go_wp2
    go_ret
    exact ⟨ret_bool H.out.symm, rfl⟩
theorem word_calls (a : Int) (w : World) :
    Calls Tryz.prog 254 #[.int .i64 a] w fun e w' => e = .returned (.bool (Frm.wdB a)) ∧ w' = w := by
  by_cases h : 0 ≤ a
  · have H := hideG (show Frm.wdB a = decide (a < 4294967296) by unfold Frm.wdB; simp [h])
    by_cases h' : a < 4294967296
    · go_enter Tryz.func254, Tryz.ntmps254
      go_wp2
      go_ret
      exact ⟨ret_bool (by rw [H.out]; exact (decide_eq_true h').symm), rfl⟩
    · go_enter Tryz.func254, Tryz.ntmps254
      go_wp2
      go_ret
      exact ⟨ret_bool (by rw [H.out]; exact (decide_eq_false (by omega)).symm), rfl⟩
  · have H := hideG (show Frm.wdB a = false from decide_eq_false (fun x => h x.1))
    go_enter Tryz.func254, Tryz.ntmps254
    go_wp2
    go_ret
    exact ⟨ret_bool H.out.symm, rfl⟩
theorem isShareKind_calls (a : Int) (w : World) :
    Calls Tryz.prog 255 #[.int .i64 a] w fun e w' => e = .returned (.bool (Frm.tB a)) ∧ w' = w := by
  by_cases h : a = 1
  · have H := hideG (show Frm.tB a = true from decide_eq_true (.inl h))
    subst h
    go_enter Tryz.func255, Tryz.ntmps255
    go_wp2
    go_ret
    exact ⟨ret_bool H.out.symm, rfl⟩
  · by_cases h' : a = 2
    · have H := hideG (show Frm.tB a = true from decide_eq_true (.inr h'))
      subst h'
      go_enter Tryz.func255, Tryz.ntmps255
      go_wp2
      go_ret
      exact ⟨ret_bool H.out.symm, rfl⟩
    · have H := hideG (show Frm.tB a = false from decide_eq_false (by omega))
      go_enter Tryz.func255, Tryz.ntmps255
      go_wp2
      go_ret
      exact ⟨ret_bool (by rw [H.out]; simp; omega), rfl⟩
theorem ret_i64 {a b : Int} (h : a = b) : Ending.returned (.int .i64 a) = Ending.returned (.int .i64 b) := congrArg (fun x => Ending.returned (.int .i64 x)) h
theorem named_calls (k : Int) (w : World) :
    Calls Tryz.prog 134 #[.int .i64 k] w fun e w' => e = .returned (.int .i64 (Frm.wid k : Int)) ∧ w' = w := by
  have main : ∀ (n : Int) (P : Prop), Hid ((Frm.wid k : Int) = n) → (∀ w, Calls Tryz.prog 134 #[.int .i64 k] w fun e w' => e = .returned (.int .i64 n) ∧ w' = w) → Calls Tryz.prog 134 #[.int .i64 k] w fun e w' => e = .returned (.int .i64 (Frm.wid k : Int)) ∧ w' = w :=
    fun n _ h hc => by rw [h.out]; exact hc w
  by_cases h5 : k = 5
  · subst h5
    refine main 1 True rfl (fun w => ?_)
    go_enter Tryz.func134, Tryz.ntmps134
    go_wp2
    go_ret
    exact ⟨rfl, rfl⟩
  by_cases h1 : k = 1
  · subst h1
    refine main 2 True rfl (fun w => ?_)
    go_enter Tryz.func134, Tryz.ntmps134
    go_wp2
    go_ret
    exact ⟨rfl, rfl⟩
  by_cases h2 : k = 2
  · subst h2
    refine main 2 True rfl (fun w => ?_)
    go_enter Tryz.func134, Tryz.ntmps134
    go_wp2
    go_ret
    exact ⟨rfl, rfl⟩
  by_cases h7 : k = 7
  · subst h7
    refine main 2 True rfl (fun w => ?_)
    go_enter Tryz.func134, Tryz.ntmps134
    go_wp2
    go_ret
    exact ⟨rfl, rfl⟩
  by_cases h3 : k = 3
  · subst h3
    refine main 3 True rfl (fun w => ?_)
    go_enter Tryz.func134, Tryz.ntmps134
    go_wp2
    go_ret
    exact ⟨rfl, rfl⟩
  by_cases h4 : k = 4
  · subst h4
    refine main 3 True rfl (fun w => ?_)
    go_enter Tryz.func134, Tryz.ntmps134
    go_wp2
    go_ret
    exact ⟨rfl, rfl⟩
  refine main 0 True (show ((Frm.wid k : Nat) : Int) = 0 by unfold Frm.wid; rw [if_neg h5, if_neg (by omega), if_neg (by omega)]; rfl) (fun w => ?_)
  go_enter Tryz.func134, Tryz.ntmps134
  go_wp2
  go_ret
  exact ⟨rfl, rfl⟩
theorem itemSize_calls (k : Int) (w : World) :
    Calls Tryz.prog 72 #[.int .i64 k] w fun e w' => e = .returned (.int .i64 (Frm.size k : Int)) ∧ w' = w := by
  have hw := Frm.wid_le k
  have H := hideG (show (Frm.size k : Int) = 1 + 8 * (Frm.wid k : Int) by unfold Frm.size; omega)
  go_enter Tryz.func72, Tryz.ntmps72
  go_wp2_with fail
  refine (named_calls _ _).mono ?_
  rintro e w' ⟨rfl, rfl⟩
  generalize Frm.wid k = n at *
  go_wp2_with fail
  go_ret
  exact ⟨ret_i64 (by rw [H.out]), rfl⟩
theorem namedNumbers_calls (k : Int) (x : Frm.It) (w : World) :
    Calls Tryz.prog 223 #[.int .i64 k, .agg #[.int .i64 x.1, .int .i64 x.2.1, .int .i64 x.2.2.1, .int .i64 x.2.2.2]] w fun e w' => ∃ a, e = .returned (.slice a (Frm.wid k) (Frm.wid k)) ∧
      (0 < Frm.wid k → ∃ g, a = some ⟨g, 0, none⟩ ∧ w.heap.size ≤ g ∧ g < w'.heap.size ∧ ∀ i, i < Frm.wid k → w'.cell? ⟨g, i, none⟩ = some (.int .i64 ((Frm.nums k x).getD i 0))) ∧ Below w.heap.size w w' := by
  have hw := Frm.wid_le k
  have HN := hideG (show Frm.nums k x = [x.2.1, x.2.2.1, x.2.2.2].take (Frm.wid k) from rfl)
  rcases (show Frm.wid k = 0 ∨ Frm.wid k = 1 ∨ Frm.wid k = 2 ∨ Frm.wid k = 3 by omega) with e | e | e | e
  · have HW := hideG e
    clear hw
    go_enter Tryz.func223, Tryz.ntmps223
    go_wp2_with fail
    refine (named_calls _ _).mono ?_
    rintro e w' ⟨rfl, rfl⟩
    go_wp2_with fail
    go_ret
    rw [HW.out]
    exact ⟨none, rfl, fun h => absurd h (by omega), (Below.refl _ _).alloc (Nat.le_refl _) _⟩
  · have HW := hideG e
    clear hw
    go_enter Tryz.func223, Tryz.ntmps223
    go_wp2_with fail
    refine (named_calls _ _).mono ?_
    rintro e w' ⟨rfl, rfl⟩
    go_wp2_with fail
    go_ret
    rw [HN.out, HW.out]
    refine ⟨_, rfl, fun _ => ⟨_, rfl, by simp, by simp, fun i hi => ?_⟩, ((Below.refl _ _).alloc (Nat.le_refl _) _).alloc (by simp) _⟩
    obtain rfl : i = 0 := by omega
    simp
  · have HW := hideG e
    clear hw
    go_enter Tryz.func223, Tryz.ntmps223
    go_wp2_with fail
    refine (named_calls _ _).mono ?_
    rintro e w' ⟨rfl, rfl⟩
    go_wp2_with fail
    go_ret
    rw [HN.out, HW.out]
    refine ⟨_, rfl, fun _ => ⟨_, rfl, by simp, by simp, fun i hi => ?_⟩, ((Below.refl _ _).alloc (Nat.le_refl _) _).alloc (by simp) _⟩
    rcases (show i = 0 ∨ i = 1 by omega) with rfl | rfl <;> simp
  · have HW := hideG e
    clear hw
    go_enter Tryz.func223, Tryz.ntmps223
    go_wp2_with fail
    refine (named_calls _ _).mono ?_
    rintro e w' ⟨rfl, rfl⟩
    go_wp2_with fail
    go_ret
    rw [HN.out, HW.out]
    refine ⟨_, rfl, fun _ => ⟨_, rfl, by simp, by simp, fun i hi => ?_⟩, ((Below.refl _ _).alloc (Nat.le_refl _) _).alloc (by simp) _⟩
    rcases (show i = 0 ∨ i = 1 ∨ i = 2 by omega) with rfl | rfl | rfl <;> simp
end Go.Proofs.YtchideljndagjabGreat
namespace Go.Proofs.YtchideljndagjabGreat
open Go.ChangeShapes Go.WideShapes Go.ChangeAt Go.RowKit
set_option linter.unusedVariables false
theorem divs (v : Int) : v / 256 / 256 = v / 65536 ∧ v / 65536 / 256 = v / 16777216 ∧ v / 16777216 / 256 = v / 4294967296 ∧ v / 4294967296 / 256 = v / 1099511627776 ∧ v / 1099511627776 / 256 = v / 281474976710656 ∧ v / 281474976710656 / 256 = v / 72057594037927936 := by
  refine ⟨?_, ?_, ?_, ?_, ?_, ?_⟩ <;> omega
set_option maxHeartbeats 1000000 in
set_option maxRecDepth 100000 in
theorem digits_calls (v : Int) (w : World) (h : 0 ≤ v) (h' : v < 9223372036854775808) :
    Calls Tryz.prog 224 #[.int .i64 v] w fun e w' => e = .returned (.agg #[.int .u8 (v % 256), .int .u8 (v / 256 % 256), .int .u8 (v / 65536 % 256), .int .u8 (v / 16777216 % 256), .int .u8 (v / 4294967296 % 256), .int .u8 (v / 1099511627776 % 256), .int .u8 (v / 281474976710656 % 256), .int .u8 (v / 72057594037927936 % 256)]) ∧ Below w.heap.size w w' := by
  obtain ⟨d1, d2, d3, d4, d5, d6⟩ := divs v
  go_enter Tryz.func224, Tryz.ntmps224
  go_wp2
  refine wp_loop_rounds 9 ?_
  rw [rounds_succ]
  go_wp2
  rw [rounds_succ]
  go_wp2
  rw [rounds_succ]
  go_wp2
  rw [rounds_succ]
  go_wp2
  rw [rounds_succ]
  go_wp2
  rw [rounds_succ]
  go_wp2
  rw [rounds_succ]
  go_wp2
  rw [rounds_succ]
  go_wp2
  rw [rounds_succ]
  go_wp2
  go_returns
  refine ⟨rfl, ?_⟩
  go_grown
def hiN (b : List Int) (m : Nat) : Nat → Int
  | 0 => 0
  | c + 1 => 256 * hiN b (m + 1) c + Frm.bAt b m
theorem hiN_num (b : List Int) (m : Nat) : hiN b m 8 = Frm.numAt b m := by
  unfold Frm.numAt
  simp only [hiN, Nat.add_assoc, Nat.reduceAdd]
  omega
theorem hiN_bd {b : List Int} (hb : Frm.isB b) (m c : Nat) (hc : c ≤ 7) (ht : 0 < c → Frm.bAt b (m + c - 1) < 128) : 0 ≤ hiN b m c ∧ hiN b m c ≤ 36028797018963967 := by
  have h0 := Frm.isB_at hb m
  have h1 := Frm.isB_at hb (m + 1)
  have h2 := Frm.isB_at hb (m + 2)
  have h3 := Frm.isB_at hb (m + 3)
  have h4 := Frm.isB_at hb (m + 4)
  have h5 := Frm.isB_at hb (m + 5)
  have h6 := Frm.isB_at hb (m + 6)
  match c, hc, ht with
  | 0, _, _ => simp [hiN]
  | 1, _, ht => simp only [hiN]; omega
  | 2, _, ht => simp only [hiN]; omega
  | 3, _, ht => simp only [hiN, Nat.add_assoc, Nat.reduceAdd]; omega
  | 4, _, ht => simp only [hiN, Nat.add_assoc, Nat.reduceAdd]; omega
  | 5, _, ht => simp only [hiN, Nat.add_assoc, Nat.reduceAdd]; omega
  | 6, _, ht => simp only [hiN, Nat.add_assoc, Nat.reduceAdd]; omega
  | 7, _, ht =>
    have := ht (by omega)
    simp only [hiN, Nat.add_assoc, Nat.reduceAdd, show m + 7 - 1 = m + 6 by omega] at this ⊢; omega
  | n + 8, h, _ => omega
set_option maxHeartbeats 1000000 in
set_option maxRecDepth 100000 in
theorem number_bytes (v : Value) (zs : List Int) (n : Nat) (w : World) (h : BytesAt w v zs) (hn : n + 8 ≤ zs.length) :
    Calls Tryz.prog 135 #[v, .int .i64 (n : Int)] w fun e w' => e = .returned (.int .i64 (Frm.rdN zs n)) ∧ w' = w := by
  obtain ⟨a, cap, rfl, l2, l3, hb, hc⟩ := bytes_view h
  have HB := hideG hb
  have HC := hideG hc
  have HR := hideG (show Frm.rdN zs n = if 128 ≤ Frm.bAt zs (n + 7) then -1 else Frm.numAt zs n from rfl)
  clear hc h hb
  generalize hl : zs.length = L at *
  clear hl
  obtain ⟨b, off, rfl, hlt, c7⟩ := HC.out (n + 7) (by omega)
  have B7 := Frm.isB_at HB.out (n + 7)
  obtain ⟨t, ht⟩ : ∃ t, t = Frm.bAt zs (n + 7) := ⟨_, rfl⟩
  rw [← ht] at c7 B7
  have HT := hideG ht
  clear ht
  have e7 : ((n : Int) + 7).toNat = n + 7 := by omega
  by_cases h128 : 128 ≤ t
  · go_enter Tryz.func135, Tryz.ntmps135
    go_wp2_with fail
    go_ret
    exact ⟨ret_i64 (by rw [HR.out, ← HT.out, if_pos h128]), rfl⟩
  · go_enter Tryz.func135, Tryz.ntmps135
    go_wp2_with fail
    go_loop [6, 7] (fun u i => ∃ m : Nat, n ≤ m ∧ m ≤ n + 8 ∧ i = .int .i64 ((m : Int) - 1) ∧ u = .int .i64 (hiN zs m (n + 8 - m))) (fun _ i => (intOf i + 1).toNat - n)
    case atStart => exact ⟨n + 8, by omega, by omega, by congr 1, by rw [Nat.sub_self]; rfl⟩
    case round =>
      obtain ⟨m, hm1, hm2, rfl, rfl⟩ := hrel
      by_cases hlt2 : n < m
      · obtain ⟨j, rfl⟩ : ∃ j, m = j + 1 := ⟨m - 1, by omega⟩
        obtain ⟨b', off', ea, _, cj⟩ := HC.out j (by omega)
        simp only [Option.some.injEq, Addr.mk.injEq, and_true] at ea
        obtain ⟨rfl, rfl⟩ := ea
        have BJ := Frm.isB_at HB.out j
        obtain ⟨u1, u2⟩ := hiN_bd HB.out (j + 1) (n + 8 - (j + 1)) (by omega) (fun hp => by
          rw [show j + 1 + (n + 8 - (j + 1)) - 1 = n + 7 by omega, ← HT.out]; omega)
        have HS := hideG (show hiN zs j (n + 8 - j) = 256 * hiN zs (j + 1) (n + 8 - (j + 1)) + Frm.bAt zs j by
          rw [show n + 8 - j = (n + 8 - (j + 1)) + 1 by omega]; rfl)
        generalize hiN zs (j + 1) (n + 8 - (j + 1)) = u at *
        obtain ⟨z, hz⟩ : ∃ z, z = Frm.bAt zs j := ⟨_, rfl⟩
        rw [← hz] at cj BJ HS
        clear hz
        go_wp2_with fail
        go_round
        case rel => exact ⟨j, by omega, by omega, by go_num, by rw [HS.out]⟩
        case measure => simp [intOf]; omega
      · have em : m = n := by omega
        subst em
        have HE := hideG (hiN_num zs m)
        rw [Nat.add_sub_cancel_left]
        go_wp2_with fail
        go_ret
        exact ⟨ret_i64 (by rw [HR.out, ← HT.out, if_neg (by omega)]; exact HE.out), rfl⟩
theorem number_int (v : Value) (zs : List Int) (x : Int) (n : Nat) (w : World) (h : BytesAt w v zs) (hx : x = (n : Int)) (hn : n + 8 ≤ zs.length) :
    Calls Tryz.prog 135 #[v, .int .i64 x] w fun e w' => e = .returned (.int .i64 (Frm.rdN zs n)) ∧ w' = w := by
  rw [hx]; exact number_bytes v zs n w h hn

abbrev itV (x : Frm.It) : Value := .agg #[.int .i64 x.1, .int .i64 x.2.1, .int .i64 x.2.2.1, .int .i64 x.2.2.2]
set_option maxHeartbeats 1000000 in
set_option maxRecDepth 100000 in
theorem readItem_calls (v : Value) (zs : List Int) (k x : Int) (n : Nat) (w : World) (h : BytesAt w v zs) (hx : x = (n : Int)) (hn : n + Frm.size k ≤ zs.length) :
    Calls Tryz.prog 73 #[v, .int .i64 x, .int .i64 k] w fun e w' => e = .returned (itV (Frm.rdI k zs n)) ∧ Below w.heap.size w w' := by
  subst hx
  have hw := Frm.wid_le k
  have HR := hideG (show Frm.rdI k zs n = (Frm.bAt zs n, if 1 ≤ Frm.wid k then Frm.rdN zs (n + 1) else 0, if 2 ≤ Frm.wid k then Frm.rdN zs (n + 9) else 0, if 3 ≤ Frm.wid k then Frm.rdN zs (n + 17) else 0) from rfl)
  have HM := hideG (fun (w1 : World) (hb : Below w.heap.size w w1) => h.below hb)
  have hs : Frm.size k = 1 + 8 * Frm.wid k := rfl
  have hl : 1 ≤ zs.length := by omega
  obtain ⟨a, cap, rfl, l2, l3, hb, hc⟩ := bytes_view h
  obtain ⟨b, off, rfl, hlt, c0⟩ := hc n (by omega)
  have B0 := Frm.isB_at hb n
  clear hc hb
  obtain ⟨t, ht⟩ : ∃ t, t = Frm.bAt zs n := ⟨_, rfl⟩
  rw [← ht] at c0 B0
  have HT := hideG ht
  obtain ⟨L, hL⟩ : ∃ L, L = zs.length := ⟨_, rfl⟩
  rw [← hL] at l2 hl hn HM ⊢
  have HL := hideG hL
  have hnL : n < L := by omega
  clear ht hL h
  have go : ∀ (q : Nat), Frm.wid k = q → q = 0 ∨ q = 1 ∨ q = 2 ∨ q = 3 := fun q hq => by omega
  rcases go _ rfl with e | e | e | e
  · have HW := hideG e
    clear hw hs go hn e
    go_enter Tryz.func73, Tryz.ntmps73
    go_wp2_with fail
    refine (named_calls _ _).mono ?_
    rintro e w' ⟨rfl, rfl⟩
    rw [HW.out]
    go_wp2_with fail
    go_returns
    refine ⟨?_, by go_grown⟩
    rw [HR.out, HW.out, ← HT.out]; rfl
  · have HW := hideG e
    have h1 : n + 1 + 8 ≤ L := by omega
    clear hw hs go hn e
    go_enter Tryz.func73, Tryz.ntmps73
    go_wp2_with fail
    refine (named_calls _ _).mono ?_
    rintro e w' ⟨rfl, rfl⟩
    rw [HW.out]
    go_wp2_with fail
    refine (number_int _ zs _ (n + 1) _ (HM.out _ (by go_grown)) (by omega) (by rw [← HL.out]; omega)).mono ?_
    rintro e w' ⟨rfl, rfl⟩
    go_wp2_with fail
    go_returns
    refine ⟨?_, by go_grown⟩
    rw [HR.out, HW.out, ← HT.out]; rfl
  · have HW := hideG e
    have h1 : n + 9 + 8 ≤ L := by omega
    clear hw hs go hn e
    go_enter Tryz.func73, Tryz.ntmps73
    go_wp2_with fail
    refine (named_calls _ _).mono ?_
    rintro e w' ⟨rfl, rfl⟩
    rw [HW.out]
    go_wp2_with fail
    refine (number_int _ zs _ (n + 1) _ (HM.out _ (by go_grown)) (by omega) (by rw [← HL.out]; omega)).mono ?_
    rintro e w' ⟨rfl, rfl⟩
    go_wp2_with fail
    refine (number_int _ zs _ (n + 9) _ (HM.out _ (by go_grown)) (by omega) (by rw [← HL.out]; omega)).mono ?_
    rintro e w' ⟨rfl, rfl⟩
    go_wp2_with fail
    go_returns
    refine ⟨?_, by go_grown⟩
    rw [HR.out, HW.out, ← HT.out]; rfl
  · have HW := hideG e
    have h1 : n + 17 + 8 ≤ L := by omega
    clear hw hs go hn e
    go_enter Tryz.func73, Tryz.ntmps73
    go_wp2_with fail
    refine (named_calls _ _).mono ?_
    rintro e w' ⟨rfl, rfl⟩
    rw [HW.out]
    go_wp2_with fail
    refine (number_int _ zs _ (n + 1) _ (HM.out _ (by go_grown)) (by omega) (by rw [← HL.out]; omega)).mono ?_
    rintro e w' ⟨rfl, rfl⟩
    go_wp2_with fail
    refine (number_int _ zs _ (n + 9) _ (HM.out _ (by go_grown)) (by omega) (by rw [← HL.out]; omega)).mono ?_
    rintro e w' ⟨rfl, rfl⟩
    go_wp2_with fail
    refine (number_int _ zs _ (n + 17) _ (HM.out _ (by go_grown)) (by omega) (by rw [← HL.out]; omega)).mono ?_
    rintro e w' ⟨rfl, rfl⟩
    go_wp2_with fail
    go_returns
    refine ⟨?_, by go_grown⟩
    rw [HR.out, HW.out, ← HT.out]; rfl
end Go.Proofs.YtchideljndagjabGreat
