/- Contracts of the pads of package pad. -/
import Derived.Test.YtchideljndagjaaGreatPkClAB
import Derived.Test.YtchideljndagjaaGreatPkClAG
import Derived.WalkSpells
import Derived.Test.YtchideljndagjaaGreatPkClAH
import Derived.Test.YtchideljndagjaaGreatPkClAI
import Derived.Test.YtchideljndagjaaGreatPkClAJ
import Derived.Test.YtchideljndagjaaGreatPkClAK
import Derived.Laws.MakeOwn
import Derived.Deep.CutRange
namespace Go.Proofs.YtchideljndagjaaGreat
open Go.ChangeShapes Go.WideShapes Go.ChangeAt Go.RowKit

theorem number_calls (k q : Int) (w : World) (ha : 0 ≤ k) (ha' : k < 2305843009213693951) (hb : 0 ≤ q) (hb' : q < 2305843009213693951) :
    Calls Tryz.prog 206 #[.int .i64 k, .int .i64 q] w fun e w' => e = .returned (.int .i64 (Num.padN k q)) ∧ w' = w := by
  go_enter Tryz.func206, Tryz.ntmps206
  go_wp2_with fail
  refine (times_calls _ _ _ hb hb' (by omega) (by omega)).mono ?_
  rintro e w' ⟨rfl, rfl⟩
  go_wp2_with fail
  refine (plus_calls _ _ _ ha ha' (Num.mulP_lo _ _) (Num.mulP_hi _ _)).mono ?_
  rintro e w' ⟨rfl, rfl⟩
  go_wp2_with fail
  refine (times_calls _ _ _ (Num.addP_lo _ _) (Num.addP_hi _ _) (Num.addP_lo _ _) (Num.addP_hi _ _)).mono ?_
  rintro e w' ⟨rfl, rfl⟩
  go_wp2_with fail
  refine (times_calls _ _ _ (Num.mulP_lo _ _) (Num.mulP_hi _ _) (Num.addP_lo _ _) (Num.addP_hi _ _)).mono ?_
  rintro e w' ⟨rfl, rfl⟩
  go_wp2_with fail
  go_ret
  exact ⟨rfl, rfl⟩

theorem firstPad_calls (a b : Int) (w : World) (ha : 1 ≤ a) (ha' : a ≤ 12) (hb : 1 ≤ b) (hb' : b ≤ 12) :
    Calls Tryz.prog 208 #[.int .i64 a, .int .i64 b] w fun e w' => e = .returned (.int .i64 (64 * a + 4 * b)) ∧ w' = w := by
  go_enter Tryz.func208, Tryz.ntmps208
  go_wp2
  go_ret
  exact ⟨rfl, rfl⟩

theorem tag_calls (k q x y : Int) (w : World) (hk : 0 ≤ k) (hk' : k < 2305843009213693951) (hq : 0 ≤ q) (hq' : q ≤ 1000) (hx : 0 ≤ x) (hx' : x < 2305843009213693951) (hy : 0 ≤ y) (hy' : y < 2305843009213693951) :
    Calls Tryz.prog 209 #[.int .i64 k, .int .i64 q, .int .i64 x, .int .i64 y] w fun e w' => e = .returned (.int .i64 (Num.tagN k q x y)) ∧ w' = w := by
  go_enter Tryz.func209, Tryz.ntmps209
  go_wp2_with fail
  refine (number_calls _ _ _ hk hk' (by omega) (by omega)).mono ?_
  rintro e w' ⟨rfl, rfl⟩
  have p1 := Num.padN_lo k (q + 2)
  have p2 := Num.padN_hi k (q + 2)
  go_wp2_with fail
  refine (times_calls _ _ _ p1 p2 hx hx').mono ?_
  rintro e w' ⟨rfl, rfl⟩
  go_wp2_with fail
  refine (times_calls _ _ _ p1 p2 p1 p2).mono ?_
  rintro e w' ⟨rfl, rfl⟩
  go_wp2_with fail
  refine (times_calls _ _ _ (Num.mulP_lo _ _) (Num.mulP_hi _ _) hy hy').mono ?_
  rintro e w' ⟨rfl, rfl⟩
  go_wp2_with fail
  refine (plus_calls _ _ _ (Num.mulP_lo _ _) (Num.mulP_hi _ _) (Num.mulP_lo _ _) (Num.mulP_hi _ _)).mono ?_
  rintro e w' ⟨rfl, rfl⟩
  go_wp2_with fail
  refine (number_calls _ _ _ hk hk' (by omega) (by omega)).mono ?_
  rintro e w' ⟨rfl, rfl⟩
  go_wp2_with fail
  refine (plus_calls _ _ _ (Num.addP_lo _ _) (Num.addP_hi _ _) (Num.padN_lo _ _) (Num.padN_hi _ _)).mono ?_
  rintro e w' ⟨rfl, rfl⟩
  go_wp2_with fail
  go_ret
  exact ⟨rfl, rfl⟩

theorem isWay_calls (k a b : Int) (w : World) :
    Calls Tryz.prog 207 #[.int .i64 k, .int .i64 a, .int .i64 b] w fun e w' => e = .returned (.bool (Num.elB k && (Num.clB a && Num.clB b))) ∧ w' = w := by
  cases h1 : Num.elB k
  · go_enter Tryz.func207, Tryz.ntmps207
    go_wp2_with (go_at_call 74; refine (element_calls _ _).mono ?_; rintro e w' ⟨rfl, rfl⟩)
    go_ret
    exact ⟨rfl, rfl⟩
  · cases h2 : Num.clB a
    · go_enter Tryz.func207, Tryz.ntmps207
      go_wp2_with (first | (go_at_call 74; refine (element_calls _ _).mono ?_; rintro e w' ⟨rfl, rfl⟩) | (go_at_call 217; refine (client_calls _ _).mono ?_; rintro e w' ⟨rfl, rfl⟩))
      go_ret
      exact ⟨rfl, rfl⟩
    · cases h3 : Num.clB b
      all_goals
        go_enter Tryz.func207, Tryz.ntmps207
        go_wp2_with (first | (go_at_call 74; refine (element_calls _ _).mono ?_; rintro e w' ⟨rfl, rfl⟩) | (go_at_call 217; refine (client_calls _ _).mono ?_; rintro e w' ⟨rfl, rfl⟩))
        go_ret
        exact ⟨rfl, rfl⟩

end Go.Proofs.YtchideljndagjaaGreat

namespace Go.Proofs.YtchideljndagjaaGreat
open Go.ChangeShapes Go.WideShapes Go.ChangeAt Go.RowKit

theorem seal_yes (k a b x y : Int) (w : World) (hk : 0 ≤ k) (hk' : k < 2305843009213693951) (ha : 1 ≤ a) (ha' : a ≤ 12) (hb : 1 ≤ b) (hb' : b ≤ 12)
    (hx : 0 ≤ x) (hx' : x < 2305843009213693951) (hy : 0 ≤ y) (hy' : y < 2305843009213693951) :
    Calls Tryz.prog 145 #[.int .i64 k, .int .i64 a, .int .i64 b, .int .i64 x, .int .i64 y] w fun e w' => e = .returned (.tuple #[.int .i64 (Num.addP x (Num.padN k (64 * a + 4 * b))), .int .i64 (Num.addP y (Num.padN k (64 * a + 4 * b + 1))), .int .i64 (Num.tagN k (64 * a + 4 * b) (Num.addP x (Num.padN k (64 * a + 4 * b))) (Num.addP y (Num.padN k (64 * a + 4 * b + 1)))), .int .i64 0]) ∧ w' = w := by
  have h1 : (Num.elB k && (Num.clB a && Num.clB b)) = true := by rw [Num.elB_yes hk hk', Num.clB_yes ha ha', Num.clB_yes hb hb']; rfl
  have h2 := Num.elB_yes hx hx'
  have h3 := Num.elB_yes hy hy'
  go_enter Tryz.func145, Tryz.ntmps145
  go_wp2_with fail
  refine (isWay_calls _ _ _ _).mono ?_
  rintro e w' ⟨rfl, rfl⟩
  rw [h1]
  go_wp2_with fail
  refine (element_calls _ _).mono ?_
  rintro e w' ⟨rfl, rfl⟩
  go_wp2_with fail
  refine (element_calls _ _).mono ?_
  rintro e w' ⟨rfl, rfl⟩
  go_wp2_with fail
  refine (firstPad_calls _ _ _ ha ha' hb hb').mono ?_
  rintro e w' ⟨rfl, rfl⟩
  clear h1 h2 h3
  go_wp2_with fail
  refine (number_calls _ _ _ hk hk' (by omega) (by omega)).mono ?_
  rintro e w' ⟨rfl, rfl⟩
  go_wp2_with fail
  refine (plus_calls _ _ _ hx hx' (Num.padN_lo _ _) (Num.padN_hi _ _)).mono ?_
  rintro e w' ⟨rfl, rfl⟩
  go_wp2_with fail
  refine (number_calls _ _ _ hk hk' (by omega) (by omega)).mono ?_
  rintro e w' ⟨rfl, rfl⟩
  go_wp2_with fail
  refine (plus_calls _ _ _ hy hy' (Num.padN_lo _ _) (Num.padN_hi _ _)).mono ?_
  rintro e w' ⟨rfl, rfl⟩
  go_wp2_with fail
  refine (tag_calls _ _ _ _ _ hk hk' (by omega) (by omega) (Num.addP_lo _ _) (Num.addP_hi _ _) (Num.addP_lo _ _) (Num.addP_hi _ _)).mono ?_
  rintro e w' ⟨rfl, rfl⟩
  go_wp2_with fail
  exact bodyPost_ret (v := .tuple #[.int .i64 (Num.addP x (Num.padN k (64 * a + 4 * b))), .int .i64 (Num.addP y (Num.padN k (64 * a + 4 * b + 1))), .int .i64 (Num.tagN k (64 * a + 4 * b) (Num.addP x (Num.padN k (64 * a + 4 * b))) (Num.addP y (Num.padN k (64 * a + 4 * b + 1)))), .int .i64 0]) (by simp [results, Tryz.results145, go_sem]) rfl ⟨rfl, rfl⟩

end Go.Proofs.YtchideljndagjaaGreat

namespace Go.Proofs.YtchideljndagjaaGreat
open Go.ChangeShapes Go.WideShapes Go.ChangeAt Go.RowKit

theorem open_tag (k a b x y z : Int) (w : World) (hk : 0 ≤ k) (hk' : k < 2305843009213693951) (ha : 1 ≤ a) (ha' : a ≤ 12) (hb : 1 ≤ b) (hb' : b ≤ 12)
    (hx : 0 ≤ x) (hx' : x < 2305843009213693951) (hy : 0 ≤ y) (hy' : y < 2305843009213693951) (hz : 0 ≤ z) (hz' : z < 2305843009213693951)
    (ht : (Num.tagN k (64 * a + 4 * b) x y != z) = true) :
    Calls Tryz.prog 149 #[.int .i64 k, .int .i64 a, .int .i64 b, .int .i64 x, .int .i64 y, .int .i64 z] w fun e w' => e = .returned (.tuple #[.int .i64 0, .int .i64 0, .int .i64 3]) ∧ w' = w := by
  have h1 : (Num.elB k && (Num.clB a && Num.clB b)) = true := by rw [Num.elB_yes hk hk', Num.clB_yes ha ha', Num.clB_yes hb hb']; rfl
  have h2 := Num.elB_yes hx hx'
  have h3 := Num.elB_yes hy hy'
  have h4 := Num.elB_yes hz hz'
  go_enter Tryz.func149, Tryz.ntmps149
  go_wp2_with fail
  refine (isWay_calls _ _ _ _).mono ?_
  rintro e w' ⟨rfl, rfl⟩
  rw [h1]
  go_wp2_with fail
  refine (element_calls _ _).mono ?_
  rintro e w' ⟨rfl, rfl⟩
  go_wp2_with fail
  refine (element_calls _ _).mono ?_
  rintro e w' ⟨rfl, rfl⟩
  go_wp2_with fail
  refine (element_calls _ _).mono ?_
  rintro e w' ⟨rfl, rfl⟩
  go_wp2_with fail
  refine (firstPad_calls _ _ _ ha ha' hb hb').mono ?_
  rintro e w' ⟨rfl, rfl⟩
  clear h1 h2 h3 h4
  go_wp2_with fail
  refine (tag_calls _ _ _ _ _ hk hk' (by omega) (by omega) hx hx' hy hy').mono ?_
  rintro e w' ⟨rfl, rfl⟩
  go_wp2_with fail
  go_ret3
  exact ⟨rfl, rfl⟩

theorem open_yes (k a b x y z : Int) (w : World) (hk : 0 ≤ k) (hk' : k < 2305843009213693951) (ha : 1 ≤ a) (ha' : a ≤ 12) (hb : 1 ≤ b) (hb' : b ≤ 12)
    (hx : 0 ≤ x) (hx' : x < 2305843009213693951) (hy : 0 ≤ y) (hy' : y < 2305843009213693951) (hz : 0 ≤ z) (hz' : z < 2305843009213693951)
    (ht : (Num.tagN k (64 * a + 4 * b) x y != z) = false) :
    Calls Tryz.prog 149 #[.int .i64 k, .int .i64 a, .int .i64 b, .int .i64 x, .int .i64 y, .int .i64 z] w fun e w' => e = .returned (.tuple #[.int .i64 (Num.subP x (Num.padN k (64 * a + 4 * b))), .int .i64 (Num.subP y (Num.padN k (64 * a + 4 * b + 1))), .int .i64 0]) ∧ w' = w := by
  have h1 : (Num.elB k && (Num.clB a && Num.clB b)) = true := by rw [Num.elB_yes hk hk', Num.clB_yes ha ha', Num.clB_yes hb hb']; rfl
  have h2 := Num.elB_yes hx hx'
  have h3 := Num.elB_yes hy hy'
  have h4 := Num.elB_yes hz hz'
  go_enter Tryz.func149, Tryz.ntmps149
  go_wp2_with fail
  refine (isWay_calls _ _ _ _).mono ?_
  rintro e w' ⟨rfl, rfl⟩
  rw [h1]
  go_wp2_with fail
  refine (element_calls _ _).mono ?_
  rintro e w' ⟨rfl, rfl⟩
  go_wp2_with fail
  refine (element_calls _ _).mono ?_
  rintro e w' ⟨rfl, rfl⟩
  go_wp2_with fail
  refine (element_calls _ _).mono ?_
  rintro e w' ⟨rfl, rfl⟩
  go_wp2_with fail
  refine (firstPad_calls _ _ _ ha ha' hb hb').mono ?_
  rintro e w' ⟨rfl, rfl⟩
  clear h1 h2 h3 h4
  go_wp2_with fail
  refine (tag_calls _ _ _ _ _ hk hk' (by omega) (by omega) hx hx' hy hy').mono ?_
  rintro e w' ⟨rfl, rfl⟩
  go_wp2_with fail
  refine (number_calls _ _ _ hk hk' (by omega) (by omega)).mono ?_
  rintro e w' ⟨rfl, rfl⟩
  go_wp2_with fail
  refine (minus_calls _ _ _ hx hx' (Num.padN_lo _ _) (Num.padN_hi _ _)).mono ?_
  rintro e w' ⟨rfl, rfl⟩
  go_wp2_with fail
  refine (number_calls _ _ _ hk hk' (by omega) (by omega)).mono ?_
  rintro e w' ⟨rfl, rfl⟩
  go_wp2_with fail
  refine (minus_calls _ _ _ hy hy' (Num.padN_lo _ _) (Num.padN_hi _ _)).mono ?_
  rintro e w' ⟨rfl, rfl⟩
  go_wp2_with fail
  go_ret3
  exact ⟨rfl, rfl⟩

end Go.Proofs.YtchideljndagjaaGreat

namespace Go.Proofs.YtchideljndagjaaGreat
open Go.ChangeShapes Go.WideShapes Go.ChangeAt Go.RowKit

theorem maskNumber_calls (k : Int) (i : Nat) (w : World) (ha : 0 ≤ k) (ha' : k < 2305843009213693951) (hi : i ≤ 12) :
    Calls Tryz.prog 144 #[.int .i64 k, .int .i64 ((i : Int) + 1)] w fun e w' => e = .returned (.int .i64 (Num.strAt k i)) ∧ w' = w := by
  go_enter Tryz.func144, Tryz.ntmps144
  go_wp2_with fail
  refine (number_calls _ _ _ ha ha' (by omega) (by omega)).mono ?_
  rintro e w' ⟨rfl, rfl⟩
  obtain ⟨p, hp⟩ : ∃ p, p = Num.padN k ((i : Int) + 1) := ⟨_, rfl⟩
  rw [← hp]
  have p1 : 0 ≤ p := by rw [hp]; exact Num.padN_lo _ _
  have p2 : p < 2305843009213693951 := by rw [hp]; exact Num.padN_hi _ _
  have HP := hideG hp
  clear hp
  have HQ := hideG (show Num.strAt k i = p / 1048576 % 4294967296 by rw [HP.out]; rfl)
  go_wp2_with fail
  go_ret
  rw [HQ.out]
  exact ⟨rfl, rfl⟩

end Go.Proofs.YtchideljndagjaaGreat

namespace Go.Proofs.YtchideljndagjaaGreat
open Go.ChangeShapes Go.WideShapes Go.ChangeAt Go.RowKit
set_option linter.unusedVariables false

theorem infoInt : (Tryz.prog.info? 3).map (fun i => (i.zero, i.size, i.bytes)) = some (some (.int .i64 0), 1, 8) := by kernel_rfl

set_option maxHeartbeats 1000000 in
set_option maxRecDepth 100000 in
theorem rstretch_yes (seed : Int) (n : Nat) (w : World) (hseed : 0 ≤ seed) (hseed' : seed < 2305843009213693951) (hn : n ≤ 12) :
    Calls Tryz.prog 31 #[.int .i64 seed, .int .i64 (n : Int)] w fun e w' => ∃ v, e = .returned (.tuple #[v, .int .i64 0]) ∧ w'.ownsRow w.heap.size 3 1 v n ((Num.strL seed n).map (Value.int .i64)) ∧ Below w.heap.size w w' := by
  obtain ⟨i0, hi, hz0, hz1, hz2⟩ := info_parts infoInt
  have q1 := Num.elB_yes hseed hseed'
  go_enter Tryz.func31, Tryz.ntmps31
  go_wp2_with fail
  refine (relement_calls _ _).mono ?_
  rintro e w ⟨rfl, rfl⟩
  go_wp2_with fail
  clear q1
  go_loopw [6, 7] (fun v i wr => ∃ k : Nat, k ≤ n ∧ i = .int .i64 ((k : Int) + 1) ∧ wr.ownsRow w.heap.size 3 1 v k ((Num.strL seed k).map (Value.int .i64)) ∧ Below w.heap.size w wr) (fun _ i _ => n + 1 - (intOf i).toNat)
  case atStart => exact ⟨0, by omega, rfl, World.ownsRow_nil _ _ _ _, Below.refl _ _⟩
  case round =>
    obtain ⟨k, hk, rfl, hown, hbel⟩ := hrel
    have HO := hideG hown
    have HB := hideG hbel
    have hsz := hbel.size
    clear hown hbel
    by_cases hlt : k < n
    · go_wp2_with fail
      refine (rpad_calls _ _ _ hseed hseed' (by omega) (by omega)).mono ?_
      rintro e wr ⟨rfl, rfl⟩
      obtain ⟨p, hp⟩ : ∃ p, p = Num.padN seed ((k : Int) + 1) := ⟨_, rfl⟩
      rw [← hp]
      have p1 : 0 ≤ p := by rw [hp]; exact Num.padN_lo _ _
      have p2 : p < 2305843009213693951 := by rw [hp]; exact Num.padN_hi _ _
      have HP := hideG hp
      clear hp
      go_wp2_with (at_builtin; refine wpList_append_own _ rfl _ _ 35 rfl w.heap.size 3 i0 (.int .i64 0) 1 8 Tryz.underlying35 hi hz0 hz1 hz2 rfl (by decide) _ _ _ rfl (HO.out.alloc _) ⟨wr.heap.size, 0, none⟩ 1 1 [.int .i64 (p / 1048576 % 4294967296)] rfl rfl ?c1 ?c2 ?c3 ?c4 ?c5 ?_)
      case c1 => exact cell_one_new _ _ _
      case c2 => intro u hu; simp at hu; subst hu; rfl
      case c3 => unfold maxLen; omega
      case c4 => omega
      case c5 => simp; omega
      intro v' w2 hown' hgrow' _
      have hbk := fun x (h : Value.ownBlock _ = some x) => HO.out.lt x h
      have hb2 := (HB.out.alloc hsz _).grown hgrow' (by simp; omega) (fun x h => (hbk x h).1)
      have HB2 := hideG hb2
      have ho2 : w2.ownsRow w.heap.size 3 1 v' (k + 1) ((Num.strL seed (k + 1)).map (Value.int .i64)) := by
        rw [Num.strL_succ, List.map_append]; rw [show Num.strAt seed k = p / 1048576 % 4294967296 by rw [HP.out]; rfl]; exact hown'
      have HO2 := hideG ho2
      clear hown' hgrow' hbk hb2 ho2
      go_wp2_with fail
      go_roundw
      case rel => exact ⟨k + 1, by omega, by go_num, HO2.out, HB2.out⟩
      case measure => simp [intOf]; omega
    · have ek : k = n := by omega
      subst ek
      go_wp2_with fail
      go_ret2
      exact ⟨_, rfl, HO.out, HB.out⟩

end Go.Proofs.YtchideljndagjaaGreat

namespace Go.Proofs.YtchideljndagjaaGreat
open Go.ChangeShapes Go.WideShapes Go.ChangeAt Go.RowKit
set_option linter.unusedVariables false

def IntsRow (w : World) (g n : Nat) (r : Nat → Int) : Prop := w.heap[g]? = some (.cells ((List.range n).map fun t => Value.int .i64 (r t)).toArray 3 (0, 0))
theorem rowF_get (n : Nat) (r : Nat → Int) (t : Nat) (ht : t < n) : ((List.range n).map fun t => Value.int .i64 (r t))[t]? = some (.int .i64 (r t)) := by
  rw [List.getElem?_map, List.getElem?_range ht]; rfl
theorem IntsRow.cell {w : World} {g n : Nat} {r : Nat → Int} (h : IntsRow w g n r) (t : Nat) (ht : t < n) : w.cell? ⟨g, t, none⟩ = some (.int .i64 (r t)) := by
  rw [cell_of_row w g t _ _ (0, 0) h, List.getElem?_toArray]; exact rowF_get n r t ht
theorem IntsRow.froz {w : World} {g n : Nat} {r : Nat → Int} (h : IntsRow w g n r) (t : Nat) : w.frozen? ⟨g, t, none⟩ = false := frozen_of_row w g t _ _ h
theorem IntsRow.lt {w : World} {g n : Nat} {r : Nat → Int} (h : IntsRow w g n r) : g < w.heap.size := by
  by_cases hb : g < w.heap.size
  · exact hb
  · unfold IntsRow at h; rw [Array.getElem?_eq_none (by omega)] at h; cases h
theorem IntsRow.block {w w' : World} {g n : Nat} {r : Nat → Int} (h : IntsRow w g n r) (e : w'.heap[g]? = w.heap[g]?) : IntsRow w' g n r := e.trans h
theorem IntsRow.ext {w : World} {g n : Nat} {r r' : Nat → Int} (h : IntsRow w g n r) (e : ∀ t, t < n → r t = r' t) : IntsRow w g n r' := by
  unfold IntsRow at h ⊢
  rw [h]
  congr 3
  apply List.map_congr_left
  intro t ht
  rw [e t (List.mem_range.1 ht)]
theorem IntsRow.set {w : World} {g n : Nat} {r r' : Nat → Int} (h : IntsRow w g n r) (t : Nat) (ht : t < n) (z : Int) (hz : r' t = z) (e : ∀ u, u < n → u ≠ t → r' u = r u) : IntsRow (w.setCell ⟨g, t, none⟩ (.int .i64 z)) g n r' := by
  have := heap_setCell_same w g t _ _ (.int .i64 z) h
  unfold IntsRow
  rw [this, List.setIfInBounds_toArray]
  congr 3
  apply List.ext_getElem?
  intro u
  rw [List.getElem?_set]
  by_cases hu : u < n
  · rw [rowF_get n r' u hu]
    by_cases ee : t = u
    · subst ee; rw [if_pos rfl, if_pos (by simpa using ht), hz]
    · rw [if_neg ee, rowF_get n r u hu, e u hu (fun x => ee x.symm)]
  · rw [List.getElem?_eq_none (by simp; omega)]
    by_cases ee : t = u
    · omega
    · rw [if_neg ee, List.getElem?_eq_none (by simp; omega)]

def msk0 (c : Cli.Cl) (t : Nat) : Int := c.inp.getD t 0 + Num.strAt c.sd t
def mskT (c : Cli.Cl) (k : List Frm.It) (v : Int) (t : Nat) : Int := if c.id < v then Num.strAt (Cli.mkKey c k v) t else - Num.strAt (Cli.mkKey c k v) t
def mskP (c : Cli.Cl) (k b : List Frm.It) (j t : Nat) : Int := msk0 c t + (((b.take j).map fun x => mskT c k x.1 t).sum)
theorem mskP_zero (c : Cli.Cl) (k b : List Frm.It) (t : Nat) : mskP c k b 0 t = msk0 c t := by unfold mskP; simp
theorem mskP_all (c : Cli.Cl) (k b : List Frm.It) (t : Nat) : mskP c k b b.length t = Cli.maskSum c k b t := by unfold mskP Cli.maskSum msk0; rw [List.take_length]; rfl
theorem mskP_succ (c : Cli.Cl) (k b : List Frm.It) (j t : Nat) (hj : j < b.length) : mskP c k b (j + 1) t = mskP c k b j t + mskT c k (Frm.it b j).1 t := by
  unfold mskP
  rw [List.take_succ_eq_append_getElem hj, List.map_append, List.sum_append, ← Cli.it_get b j hj]
  simp
  omega
theorem mskT_bd (c : Cli.Cl) (k : List Frm.It) (v : Int) (t : Nat) : -4294967296 < mskT c k v t ∧ mskT c k v t < 4294967296 := by
  have := Cli.strAt_range (Cli.mkKey c k v) t
  unfold mskT; split <;> omega
theorem msk0_bd {c : Cli.Cl} (hc : Cli.Good c) (t : Nat) (ht : (t : Int) < c.M) : 0 ≤ msk0 c t ∧ msk0 c t < 8589934592 := by
  have h1 := Cli.strAt_range c.sd t
  have hl := hc.len
  have h2 := hc.inp (c.inp.getD t 0) (by rw [List.getD_eq_getElem?_getD, List.getElem?_eq_getElem (show t < c.inp.length by omega)]; exact List.getElem_mem _)
  unfold msk0; omega
theorem mskP_bd {c : Cli.Cl} (hc : Cli.Good c) (k b : List Frm.It) (t : Nat) (ht : (t : Int) < c.M) (j : Nat) (hj : j ≤ b.length) : -4294967296 * (j : Int) ≤ mskP c k b j t ∧ mskP c k b j t ≤ 8589934592 + 4294967296 * (j : Int) := by
  induction j with
  | zero => rw [mskP_zero]; have := msk0_bd hc t ht; omega
  | succ j ih =>
    have h1 := ih (by omega)
    have h2 := mskT_bd c k (Frm.it b j).1 t
    rw [mskP_succ c k b j t (by omega)]
    push_cast
    omega
theorem mk_succ (c : Cli.Cl) (l m : List Frm.It) (k : Nat) (hk : k < c.M.toNat) : (Cli.masking c l m).take (k + 1) = (Cli.masking c l m).take k ++ [((k : Int) + 1, Cli.maskSum c l m k % 4294967296, 0, 0)] := by
  rw [List.take_succ_eq_append_getElem (by rw [Cli.masking_length]; exact hk)]
  congr 2
  rw [← Cli.it_get _ k (by rw [Cli.masking_length]; exact hk), Cli.masking_it c l m k hk]

/-- The lists that come out of Stretch, as the walks meet them. -/
theorem str_view {w : World} {B : Nat} {v : Value} {seed : Int} {n : Nat} (h : w.ownsRow B 3 1 v n ((Num.strL seed n).map (Value.int .i64))) (hn : 1 ≤ n) : ∃ g cap, v = .slice (some ⟨g, 0, none⟩) n cap ∧ B ≤ g ∧ g < w.heap.size ∧ n ≤ cap ∧ cap ≤ 9223372036854775807 ∧ ∀ t, t < n → w.cell? ⟨g, t, none⟩ = some (.int .i64 (Num.strAt seed t)) := by
  have h0 := h
  rcases h.2 with ⟨rfl, hn0⟩ | ⟨g, cap, cur, rfl, hBg, hb, hnc, hcm, _⟩
  · omega
  · refine ⟨g, cap, rfl, hBg, (h0.lt g rfl).2, hnc, by unfold maxLen at hcm; omega, fun t ht => ?_⟩
    rw [h0.cellAt t (by omega), List.getElem?_map, show (Num.strL seed n)[t]? = some (Num.strAt seed t) by unfold Num.strL; rw [List.getElem?_map, List.getElem?_range ht]; rfl]
    rfl

end Go.Proofs.YtchideljndagjaaGreat
