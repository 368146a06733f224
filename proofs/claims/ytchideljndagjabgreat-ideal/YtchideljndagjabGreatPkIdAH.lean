/- Contracts of the pads of package pad. -/
import Derived.Test.YtchideljndagjabGreatPkIdAB
import Derived.Test.YtchideljndagjabGreatPkIdAC
import Derived.Test.YtchideljndagjabGreatPkIdAG
import Derived.WalkSpells
import Derived.RegionTactic
import Derived.BigRegion
namespace Go.Proofs.YtchideljndagjabGreat
open Go.ChangeShapes Go.WideShapes Go.ChangeAt Go.RowKit
theorem number_calls (k q : Int) (w : World) (ha : 0 ≤ k) (ha' : k < 2305843009213693951) (hb : 0 ≤ q) (hb' : q < 2305843009213693951) :
    Calls Tryz.prog 269 #[.int .i64 k, .int .i64 q] w fun e w' => e = .returned (.int .i64 (Num.padN k q)) ∧ w' = w := by
  go_enter Tryz.func269, Tryz.ntmps269
  go_wp2_with fail
  refine (times_calls _ _ _ hb hb' (by omega) (by omega)).mono ?_
  rintro e w' ⟨rfl, rfl⟩
  go_wp2_with fail
  refine (plus_calls _ _ _ ha ha' (Num.mulP_lo _ _) (Num.mulP_hi _ _)).mono ?_
  rintro e w' ⟨rfl, rfl⟩
  go_wp2_with fail
  refine (times_calls _ _ _ (Num.addP_lo _ _) (Num.addP_hi _ _) (Num.addP_lo _ _) (Num.addP_hi _ _)).mono ?_
  rintro e w' ⟨rfl, rfl⟩
  go_wp2_with fail
  refine (times_calls _ _ _ (Num.mulP_lo _ _) (Num.mulP_hi _ _) (Num.addP_lo _ _) (Num.addP_hi _ _)).mono ?_
  rintro e w' ⟨rfl, rfl⟩
  go_wp2_with fail
  go_ret
  exact ⟨rfl, rfl⟩
theorem firstPad_calls (a b : Int) (w : World) (ha : 1 ≤ a) (ha' : a ≤ 12) (hb : 1 ≤ b) (hb' : b ≤ 12) :
    Calls Tryz.prog 271 #[.int .i64 a, .int .i64 b] w fun e w' => e = .returned (.int .i64 (64 * a + 4 * b)) ∧ w' = w := by
  go_enter Tryz.func271, Tryz.ntmps271
  go_wp2
  go_ret
  exact ⟨rfl, rfl⟩
theorem tag_calls (k q x y : Int) (w : World) (hk : 0 ≤ k) (hk' : k < 2305843009213693951) (hq : 0 ≤ q) (hq' : q ≤ 1000) (hx : 0 ≤ x) (hx' : x < 2305843009213693951) (hy : 0 ≤ y) (hy' : y < 2305843009213693951) :
    Calls Tryz.prog 272 #[.int .i64 k, .int .i64 q, .int .i64 x, .int .i64 y] w fun e w' => e = .returned (.int .i64 (Num.tagN k q x y)) ∧ w' = w := by
  go_enter Tryz.func272, Tryz.ntmps272
  go_wp2_with fail
  refine (number_calls _ _ _ hk hk' (by omega) (by omega)).mono ?_
  rintro e w' ⟨rfl, rfl⟩
  have p1 := Num.padN_lo k (q + 2)
  have p2 := Num.padN_hi k (q + 2)
  go_wp2_with fail
  refine (times_calls _ _ _ p1 p2 hx hx').mono ?_
  rintro e w' ⟨rfl, rfl⟩
  go_wp2_with fail
  refine (times_calls _ _ _ p1 p2 p1 p2).mono ?_
  rintro e w' ⟨rfl, rfl⟩
  go_wp2_with fail
  refine (times_calls _ _ _ (Num.mulP_lo _ _) (Num.mulP_hi _ _) hy hy').mono ?_
  rintro e w' ⟨rfl, rfl⟩
  go_wp2_with fail
  refine (plus_calls _ _ _ (Num.mulP_lo _ _) (Num.mulP_hi _ _) (Num.mulP_lo _ _) (Num.mulP_hi _ _)).mono ?_
  rintro e w' ⟨rfl, rfl⟩
  go_wp2_with fail
  refine (number_calls _ _ _ hk hk' (by omega) (by omega)).mono ?_
  rintro e w' ⟨rfl, rfl⟩
  go_wp2_with fail
  refine (plus_calls _ _ _ (Num.addP_lo _ _) (Num.addP_hi _ _) (Num.padN_lo _ _) (Num.padN_hi _ _)).mono ?_
  rintro e w' ⟨rfl, rfl⟩
  go_wp2_with fail
  go_ret
  exact ⟨rfl, rfl⟩
theorem isWay_calls (k a b : Int) (w : World) :
    Calls Tryz.prog 270 #[.int .i64 k, .int .i64 a, .int .i64 b] w fun e w' => e = .returned (.bool (Num.elB k && (Num.clB a && Num.clB b))) ∧ w' = w := by
  cases h1 : Num.elB k
  · go_enter Tryz.func270, Tryz.ntmps270
    go_wp2_with (go_at_call 143; refine (element_calls _ _).mono ?_; rintro e w' ⟨rfl, rfl⟩)
    go_ret
    exact ⟨rfl, rfl⟩
  · cases h2 : Num.clB a
    · go_enter Tryz.func270, Tryz.ntmps270
      go_wp2_with (first | (go_at_call 143; refine (element_calls _ _).mono ?_; rintro e w' ⟨rfl, rfl⟩) | (go_at_call 201; refine (client_calls _ _).mono ?_; rintro e w' ⟨rfl, rfl⟩))
      go_ret
      exact ⟨rfl, rfl⟩
    · cases h3 : Num.clB b
      all_goals
        go_enter Tryz.func270, Tryz.ntmps270
        go_wp2_with (first | (go_at_call 143; refine (element_calls _ _).mono ?_; rintro e w' ⟨rfl, rfl⟩) | (go_at_call 201; refine (client_calls _ _).mono ?_; rintro e w' ⟨rfl, rfl⟩))
        go_ret
        exact ⟨rfl, rfl⟩
end Go.Proofs.YtchideljndagjabGreat
namespace Go.Proofs.YtchideljndagjabGreat
open Go.ChangeShapes Go.WideShapes Go.ChangeAt Go.RowKit
theorem seal_yes (k a b x y : Int) (w : World) (hk : 0 ≤ k) (hk' : k < 2305843009213693951) (ha : 1 ≤ a) (ha' : a ≤ 12) (hb : 1 ≤ b) (hb' : b ≤ 12)
    (hx : 0 ≤ x) (hx' : x < 2305843009213693951) (hy : 0 ≤ y) (hy' : y < 2305843009213693951) :
    Calls Tryz.prog 218 #[.int .i64 k, .int .i64 a, .int .i64 b, .int .i64 x, .int .i64 y] w fun e w' => e = .returned (.tuple #[.int .i64 (Num.addP x (Num.padN k (64 * a + 4 * b))), .int .i64 (Num.addP y (Num.padN k (64 * a + 4 * b + 1))), .int .i64 (Num.tagN k (64 * a + 4 * b) (Num.addP x (Num.padN k (64 * a + 4 * b))) (Num.addP y (Num.padN k (64 * a + 4 * b + 1)))), .int .i64 0]) ∧ w' = w := by
  have h1 : (Num.elB k && (Num.clB a && Num.clB b)) = true := by rw [Num.elB_yes hk hk', Num.clB_yes ha ha', Num.clB_yes hb hb']; rfl
  have h2 := Num.elB_yes hx hx'
  have h3 := Num.elB_yes hy hy'
  go_enter Tryz.func218, Tryz.ntmps218
  go_wp2_with fail
  refine (isWay_calls _ _ _ _).mono ?_
  rintro e w' ⟨rfl, rfl⟩
  rw [h1]
  go_wp2_with fail
  refine (element_calls _ _).mono ?_
  rintro e w' ⟨rfl, rfl⟩
  go_wp2_with fail
  refine (element_calls _ _).mono ?_
  rintro e w' ⟨rfl, rfl⟩
  go_wp2_with fail
  refine (firstPad_calls _ _ _ ha ha' hb hb').mono ?_
  rintro e w' ⟨rfl, rfl⟩
  clear h1 h2 h3
  go_wp2_with fail
  refine (number_calls _ _ _ hk hk' (by omega) (by omega)).mono ?_
  rintro e w' ⟨rfl, rfl⟩
  go_wp2_with fail
  refine (plus_calls _ _ _ hx hx' (Num.padN_lo _ _) (Num.padN_hi _ _)).mono ?_
  rintro e w' ⟨rfl, rfl⟩
  go_wp2_with fail
  refine (number_calls _ _ _ hk hk' (by omega) (by omega)).mono ?_
  rintro e w' ⟨rfl, rfl⟩
  go_wp2_with fail
  refine (plus_calls _ _ _ hy hy' (Num.padN_lo _ _) (Num.padN_hi _ _)).mono ?_
  rintro e w' ⟨rfl, rfl⟩
  go_wp2_with fail
  refine (tag_calls _ _ _ _ _ hk hk' (by omega) (by omega) (Num.addP_lo _ _) (Num.addP_hi _ _) (Num.addP_lo _ _) (Num.addP_hi _ _)).mono ?_
  rintro e w' ⟨rfl, rfl⟩
  go_wp2_with fail
  exact bodyPost_ret (v := .tuple #[.int .i64 (Num.addP x (Num.padN k (64 * a + 4 * b))), .int .i64 (Num.addP y (Num.padN k (64 * a + 4 * b + 1))), .int .i64 (Num.tagN k (64 * a + 4 * b) (Num.addP x (Num.padN k (64 * a + 4 * b))) (Num.addP y (Num.padN k (64 * a + 4 * b + 1)))), .int .i64 0]) (by simp [results, Tryz.results218, go_sem]) rfl ⟨rfl, rfl⟩
end Go.Proofs.YtchideljndagjabGreat
namespace Go.Proofs.YtchideljndagjabGreat
open Go.ChangeShapes Go.WideShapes Go.ChangeAt Go.RowKit
theorem open_tag (k a b x y z : Int) (w : World) (hk : 0 ≤ k) (hk' : k < 2305843009213693951) (ha : 1 ≤ a) (ha' : a ≤ 12) (hb : 1 ≤ b) (hb' : b ≤ 12)
    (hx : 0 ≤ x) (hx' : x < 2305843009213693951) (hy : 0 ≤ y) (hy' : y < 2305843009213693951) (hz : 0 ≤ z) (hz' : z < 2305843009213693951)
    (ht : (Num.tagN k (64 * a + 4 * b) x y != z) = true) :
    Calls Tryz.prog 222 #[.int .i64 k, .int .i64 a, .int .i64 b, .int .i64 x, .int .i64 y, .int .i64 z] w fun e w' => e = .returned (.tuple #[.int .i64 0, .int .i64 0, .int .i64 3]) ∧ w' = w := by
  have h1 : (Num.elB k && (Num.clB a && Num.clB b)) = true := by rw [Num.elB_yes hk hk', Num.clB_yes ha ha', Num.clB_yes hb hb']; rfl
  have h2 := Num.elB_yes hx hx'
  have h3 := Num.elB_yes hy hy'
  have h4 := Num.elB_yes hz hz'
  go_enter Tryz.func222, Tryz.ntmps222
  go_wp2_with fail
  refine (isWay_calls _ _ _ _).mono ?_
  rintro e w' ⟨rfl, rfl⟩
  rw [h1]
  go_wp2_with fail
  refine (element_calls _ _).mono ?_
  rintro e w' ⟨rfl, rfl⟩
  go_wp2_with fail
  refine (element_calls _ _).mono ?_
  rintro e w' ⟨rfl, rfl⟩
  go_wp2_with fail
  refine (element_calls _ _).mono ?_
  rintro e w' ⟨rfl, rfl⟩
  go_wp2_with fail
  refine (firstPad_calls _ _ _ ha ha' hb hb').mono ?_
  rintro e w' ⟨rfl, rfl⟩
  clear h1 h2 h3 h4
  go_wp2_with fail
  refine (tag_calls _ _ _ _ _ hk hk' (by omega) (by omega) hx hx' hy hy').mono ?_
  rintro e w' ⟨rfl, rfl⟩
  go_wp2_with fail
  go_ret3
  exact ⟨rfl, rfl⟩
theorem open_yes (k a b x y z : Int) (w : World) (hk : 0 ≤ k) (hk' : k < 2305843009213693951) (ha : 1 ≤ a) (ha' : a ≤ 12) (hb : 1 ≤ b) (hb' : b ≤ 12)
    (hx : 0 ≤ x) (hx' : x < 2305843009213693951) (hy : 0 ≤ y) (hy' : y < 2305843009213693951) (hz : 0 ≤ z) (hz' : z < 2305843009213693951)
    (ht : (Num.tagN k (64 * a + 4 * b) x y != z) = false) :
    Calls Tryz.prog 222 #[.int .i64 k, .int .i64 a, .int .i64 b, .int .i64 x, .int .i64 y, .int .i64 z] w fun e w' => e = .returned (.tuple #[.int .i64 (Num.subP x (Num.padN k (64 * a + 4 * b))), .int .i64 (Num.subP y (Num.padN k (64 * a + 4 * b + 1))), .int .i64 0]) ∧ w' = w := by
  have h1 : (Num.elB k && (Num.clB a && Num.clB b)) = true := by rw [Num.elB_yes hk hk', Num.clB_yes ha ha', Num.clB_yes hb hb']; rfl
  have h2 := Num.elB_yes hx hx'
  have h3 := Num.elB_yes hy hy'
  have h4 := Num.elB_yes hz hz'
  go_enter Tryz.func222, Tryz.ntmps222
  go_wp2_with fail
  refine (isWay_calls _ _ _ _).mono ?_
  rintro e w' ⟨rfl, rfl⟩
  rw [h1]
  go_wp2_with fail
  refine (element_calls _ _).mono ?_
  rintro e w' ⟨rfl, rfl⟩
  go_wp2_with fail
  refine (element_calls _ _).mono ?_
  rintro e w' ⟨rfl, rfl⟩
  go_wp2_with fail
  refine (element_calls _ _).mono ?_
  rintro e w' ⟨rfl, rfl⟩
  go_wp2_with fail
  refine (firstPad_calls _ _ _ ha ha' hb hb').mono ?_
  rintro e w' ⟨rfl, rfl⟩
  clear h1 h2 h3 h4
  go_wp2_with fail
  refine (tag_calls _ _ _ _ _ hk hk' (by omega) (by omega) hx hx' hy hy').mono ?_
  rintro e w' ⟨rfl, rfl⟩
  go_wp2_with fail
  refine (number_calls _ _ _ hk hk' (by omega) (by omega)).mono ?_
  rintro e w' ⟨rfl, rfl⟩
  go_wp2_with fail
  refine (minus_calls _ _ _ hx hx' (Num.padN_lo _ _) (Num.padN_hi _ _)).mono ?_
  rintro e w' ⟨rfl, rfl⟩
  go_wp2_with fail
  refine (number_calls _ _ _ hk hk' (by omega) (by omega)).mono ?_
  rintro e w' ⟨rfl, rfl⟩
  go_wp2_with fail
  refine (minus_calls _ _ _ hy hy' (Num.padN_lo _ _) (Num.padN_hi _ _)).mono ?_
  rintro e w' ⟨rfl, rfl⟩
  go_wp2_with fail
  go_ret3
  exact ⟨rfl, rfl⟩
end Go.Proofs.YtchideljndagjabGreat
namespace Go.Proofs.YtchideljndagjabGreat
open Go.ChangeShapes Go.WideShapes Go.ChangeAt Go.RowKit
theorem maskNumber_calls (k : Int) (i : Nat) (w : World) (ha : 0 ≤ k) (ha' : k < 2305843009213693951) (hi : i ≤ 12) :
    Calls Tryz.prog 217 #[.int .i64 k, .int .i64 ((i : Int) + 1)] w fun e w' => e = .returned (.int .i64 (Num.strAt k i)) ∧ w' = w := by
  go_enter Tryz.func217, Tryz.ntmps217
  go_wp2_with fail
  refine (number_calls _ _ _ ha ha' (by omega) (by omega)).mono ?_
  rintro e w' ⟨rfl, rfl⟩
  obtain ⟨p, hp⟩ : ∃ p, p = Num.padN k ((i : Int) + 1) := ⟨_, rfl⟩
  rw [← hp]
  have p1 : 0 ≤ p := by rw [hp]; exact Num.padN_lo _ _
  have p2 : p < 2305843009213693951 := by rw [hp]; exact Num.padN_hi _ _
  have HP := hideG hp
  clear hp
  have HQ := hideG (show Num.strAt k i = p / 1048576 % 4294967296 by rw [HP.out]; rfl)
  go_wp2_with fail
  go_ret
  rw [HQ.out]
  exact ⟨rfl, rfl⟩
end Go.Proofs.YtchideljndagjabGreat
namespace Go.Proofs.YtchideljndagjabGreat
open Go.ChangeShapes Go.WideShapes Go.ChangeAt Go.RowKit
set_option linter.unusedVariables false
theorem zero_size : (Tryz.prog.info? 203).map (·.size) = some Tryz.zeroCells203.size := by kernel_rfl
theorem zero_one : Tryz.zeroCells203.all (·.oneCell') = true := by rw [zero_circ]; exact all_oneCell_toArray (circ_one _)
theorem zero_list : Tryz.zeroCells203.toList = circ fun _ => Cli.Pr.z := by rw [zero_circ]
theorem stc (P : Program) (b o : Nat) (vs : List Value) (w : World) (ht : w.there b o vs.length) (h1 : ∀ v ∈ vs, v.oneCell' = true) : (storeCells ⟨b, o, none⟩ vs).run P w = .ok () (w.setCells b o vs) :=
  run_storeCells_cells (P := P) b o vs 0 w (fun j hj => (ht j hj).1) (fun j hj => (ht j hj).2) h1
theorem box_bad {c : Cli.Cl} {k l : List Frm.It} {j : Nat} (hj : j < l.length) (h : (Frm.it l j).1 = c.id ∨ Cli.hasI k (Frm.it l j).1 = false ∨ Cli.opensB c k l (Frm.it l j).1 = false) : Cli.boxAgree c k l = false := by
  unfold Cli.boxAgree
  have hm : Frm.it l j ∈ l := by rw [Cli.it_get l j hj]; exact List.getElem_mem hj
  rcases h with h | h | h
  · rw [Cli.hasI_iff.2 ⟨_, hm, h⟩]; rfl
  · rw [show (l.all fun x => Cli.hasI k x.1 && Cli.opensB c k l x.1) = false from List.all_eq_false.2 ⟨_, hm, by rw [h]; exact Bool.false_ne_true⟩, Bool.and_false, Bool.and_false]
  · rw [show (l.all fun x => Cli.hasI k x.1 && Cli.opensB c k l x.1) = false from List.all_eq_false.2 ⟨_, hm, by rw [h, Bool.and_false]; exact Bool.false_ne_true⟩, Bool.and_false, Bool.and_false]
theorem box_good {c : Cli.Cl} {k l : List Frm.It} (ht : c.T ≤ (l.length : Int) + 1) (h : ∀ j, j < l.length → (Frm.it l j).1 ≠ c.id ∧ Cli.hasI k (Frm.it l j).1 = true ∧ Cli.opensB c k l (Frm.it l j).1 = true) : Cli.boxAgree c k l = true := by
  unfold Cli.boxAgree
  have g : ∀ x ∈ l, x.1 ≠ c.id ∧ Cli.hasI k x.1 = true ∧ Cli.opensB c k l x.1 = true := fun x hx => by
    obtain ⟨i, hi, rfl⟩ := List.getElem_of_mem hx
    have := h i hi
    rwa [Cli.it_get l i hi] at this
  rw [Cli.hasI_off.2 (fun x hx => (g x hx).1), decide_eq_true ht, List.all_eq_true.2 (fun x hx => by rw [(g x hx).2.1, (g x hx).2.2]; rfl)]
  rfl
set_option maxHeartbeats 400000 in
set_option maxRecDepth 100000 in
theorem second_short (b : Nat) (T : TypeId) (S : PS) (v : Value) (l : List Frm.It) (w : World) (h : PSAt w b T S) (hl : ItemsAt w v l) (hlen : l.length ≤ 12) (ht : (l.length : Int) + 1 < S.t) :
    Calls Tryz.prog 261 #[.pointer (some ⟨b, 0, none⟩), v] w fun e w' =>
      e = .returned (.tuple #[.agg (circ fun _ => Cli.Pr.z).toArray, .bool false]) ∧ Below w.heap.size w w' := by
  have hbl := h.lt
  have c5 := h.c5
  obtain ⟨a, cap, rfl, l2, l3, _, hcl⟩ := items_view hl
  have HZ := hideG zero_circ
  have HZL := hideG zero_list
  clear h hl hcl
  have HC0 := hideG (show CircAt (w.alloc (.cells Tryz.zeroCells203 203)) w.heap.size (fun _ => Cli.Pr.z) by unfold CircAt; rw [← HZ.out]; exact heap_alloc_new w _)
  have al : (w.alloc (.cells Tryz.zeroCells203 203)).cell? ⟨b, 5, none⟩ = some (.int .i64 S.t) := by rw [((Below.refl w.heap.size w).alloc (Nat.le_refl _) _).cell (p := ⟨b, 5, none⟩) (by exact hbl)]; exact c5
  generalize S.t = t at *
  generalize l.length = n at *
  have HT0 := hideG (show (w.alloc (.cells Tryz.zeroCells203 203)).there w.heap.size 0 Tryz.zeroCells203.toList.length by
    rw [HZL.out, circ_length]; exact HC0.out.there 0 65 (by omega))
  have hst := stc Tryz.prog w.heap.size 0 Tryz.zeroCells203.toList _ HT0.out (by rw [HZL.out]; exact circ_one _)
  have HROW := hideG (show ((w.alloc (.cells Tryz.zeroCells203 203)).setCells w.heap.size 0 Tryz.zeroCells203.toList).heap[w.heap.size]? = some (.cells (circ fun _ => Cli.Pr.z).toArray 203 (0, 0)) by rw [HZL.out]; exact HC0.out.all _)
  have HSZ := hideG (show (Tryz.prog.info? 203).map (·.size) = some (circ fun _ => Cli.Pr.z).toArray.size by rw [size_circ, List.size_toArray, circ_length])
  obtain ⟨CZ, hCZ⟩ : ∃ CZ, CZ = (circ fun _ => Cli.Pr.z).toArray := ⟨_, rfl⟩
  rw [← hCZ] at HROW HSZ ⊢
  have HBW := hideG (show Below w.heap.size w ((w.alloc (.cells Tryz.zeroCells203 203)).setCells w.heap.size 0 Tryz.zeroCells203.toList) from below_setCells (Nat.le_refl _) _ _ _ ((Below.refl w.heap.size w).alloc (Nat.le_refl _) _))
  obtain ⟨W2, hW2⟩ : ∃ W2, W2 = (w.alloc (.cells Tryz.zeroCells203 203)).setCells w.heap.size 0 Tryz.zeroCells203.toList := ⟨_, rfl⟩
  rw [← hW2] at hst HROW HBW
  clear hW2
  clear hCZ
  go_enter Tryz.func261, Tryz.ntmps261
  go_wp2_with fail
  trace "1"
  refine bodyPost_ret (results_row_tmp rfl _ _ w.heap.size 203 CZ (0, 0) _ rfl HROW.out Tryz.underlying203 rfl HSZ.out) rfl ?_
  trace "2"
  exact ⟨rfl, HBW.out⟩
end Go.Proofs.YtchideljndagjabGreat
