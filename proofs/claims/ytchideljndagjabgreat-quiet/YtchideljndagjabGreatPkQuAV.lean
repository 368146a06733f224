/- Contracts of Join: the value at 0, or what is refused. -/
import Derived.Test.YtchideljndagjabGreatPkQuAB
import Derived.Test.YtchideljndagjabGreatPkQuAR
import Derived.WalkSpells
import Derived.Laws.Rows
import Derived.Test.YtchideljndagjabGreatPkQuAU
namespace Go.Proofs.YtchideljndagjabGreat
open Go.ChangeShapes Go.WideShapes Go.ChangeAt Go.RowKit
set_option linter.unusedVariables false

/-- Points in memory. -/
def PtsAt (w : World) (v : Value) (ps : List (Int × Int)) : Prop :=
  ∃ (a : Option Addr) (cap : Nat), v = .slice a ps.length cap ∧ ps.length ≤ cap ∧ cap ≤ maxLen ∧ (∀ p ∈ ps, inI p.1 ∧ inI p.2) ∧
    (ps = [] ∨ ∃ b off, a = some ⟨b, off, none⟩ ∧ b < w.heap.size ∧ ∀ i, i < ps.length → w.cell? ⟨b, off + i * 2, none⟩ = some (.int .i64 (ps.getD i (0, 0)).1) ∧ w.cell? ⟨b, off + i * 2 + 1, none⟩ = some (.int .i64 (ps.getD i (0, 0)).2))

theorem PtsAt.below {w w' : World} {v : Value} {ps : List (Int × Int)} (h : PtsAt w v ps) (hb : Below w.heap.size w w') : PtsAt w' v ps := by
  obtain ⟨a, cap, h1, h2, h3, h4, h5⟩ := h
  refine ⟨a, cap, h1, h2, h3, h4, ?_⟩
  rcases h5 with h5 | ⟨b, off, e1, e2, e3⟩
  · exact .inl h5
  · exact .inr ⟨b, off, e1, Nat.lt_of_lt_of_le e2 hb.size, fun i hi => by
      rw [hb.cell (p := ⟨b, off + i * 2, none⟩) e2, hb.cell (p := ⟨b, off + i * 2 + 1, none⟩) e2]; exact e3 i hi⟩

theorem pts_view {w : World} {v : Value} {ps : List (Int × Int)} (h : PtsAt w v ps) : ∃ (a : Option Addr) (cap : Nat), v = .slice a ps.length cap ∧ ps.length ≤ cap ∧ cap ≤ 9223372036854775807 ∧
    ∀ k, k < ps.length → ∃ b off, a = some ⟨b, off, none⟩ ∧ b < w.heap.size ∧ w.cell? ⟨b, off + k * 2, none⟩ = some (.int .i64 (ps.getD k (0, 0)).1) ∧ w.cell? ⟨b, off + k * 2 + 1, none⟩ = some (.int .i64 (ps.getD k (0, 0)).2) := by
  obtain ⟨a, cap, h1, h2, h3, h4, h5⟩ := h
  refine ⟨a, cap, h1, h2, by unfold maxLen at h3; omega, fun k hk => ?_⟩
  rcases h5 with h5 | ⟨b, off, e, hb, hc⟩
  · rw [h5] at hk; simp at hk
  · exact ⟨b, off, e, hb, hc k hk⟩

theorem pget (ps : List (Int × Int)) (k : Nat) (hk : k < ps.length) : ps.take (k + 1) = ps.take k ++ [ps.getD k (0, 0)] := by
  rw [List.take_succ_eq_append_getElem hk, List.getD_eq_getElem?_getD, List.getElem?_eq_getElem hk]; rfl

def okP (p : Int × Int) : Bool := Num.clB p.1 && Num.elB p.2
/-- May these be points? -/
def ptsB (ps : List (Int × Int)) : Bool := decide (1 ≤ ps.length ∧ ps.length ≤ 12) && (ps.all okP && decide (Lag.xs ps).Nodup)

theorem ptsB_good {ps : List (Int × Int)} (h : ptsB ps = true) : Lag.good ps ∧ 1 ≤ ps.length ∧ ps.length ≤ 12 ∧ ∀ p ∈ ps, 0 ≤ p.2 ∧ p.2 < 2305843009213693951 := by
  unfold ptsB at h
  simp only [Bool.and_eq_true, decide_eq_true_iff, List.all_eq_true] at h
  obtain ⟨⟨h1, h2⟩, h3, h4⟩ := h
  refine ⟨⟨fun k hk => ?_, h4⟩, h1, h2, fun p hp => ?_⟩
  · obtain ⟨p, hp, rfl⟩ := List.mem_map.1 hk
    have := h3 p hp
    unfold okP at this
    rw [Bool.and_eq_true, Num.clB_iff] at this
    exact this.1
  · have := h3 p hp
    unfold okP at this
    rw [Bool.and_eq_true, Num.elB_iff] at this
    exact this.2

theorem ptsB_bad1 (ps : List (Int × Int)) (k : Nat) (hk : k < ps.length) (h : okP (ps.getD k (0, 0)) = false) : ptsB ps = false := by
  have : ps.all okP = false := by
    rw [List.all_eq_false]
    refine ⟨ps[k], List.getElem_mem hk, ?_⟩
    rw [List.getD_eq_getElem?_getD, List.getElem?_eq_getElem hk] at h
    simp only [Option.getD_some] at h
    rw [h]; exact Bool.false_ne_true
  unfold ptsB; rw [this]; simp

theorem ptsB_bad2 (ps : List (Int × Int)) (k : Nat) (hk : k < ps.length) (h : (ps.getD k (0, 0)).1 ∈ Lag.xs (ps.take k)) : ptsB ps = false := by
  have : ¬ (Lag.xs ps).Nodup := by
    intro hn
    have e : ps = ps.take k ++ (ps.getD k (0, 0) :: ps.drop (k + 1)) := by
      rw [List.getD_eq_getElem?_getD, List.getElem?_eq_getElem hk, Option.getD_some, ← List.drop_eq_getElem_cons hk, List.take_append_drop]
    rw [e, Lag.xs_append] at hn
    exact (List.nodup_append.1 hn).2.2 _ h _ (by simp [Lag.xs]) rfl
  unfold ptsB; rw [decide_eq_false this]; simp

theorem ptsB_done (ps : List (Int × Int)) (h1 : 1 ≤ ps.length) (h2 : ps.length ≤ 12) (h3 : ps.all okP = true) (h4 : (Lag.xs ps).Nodup) : ptsB ps = true := by
  unfold ptsB; rw [decide_eq_true ⟨h1, h2⟩, h3, decide_eq_true h4]; rfl

/-- Which X have been seen. -/
def SeenIs (w : World) (g : Nat) (T : TypeId) (xs : List Int) : Prop :=
  ∃ sb : Array Value, w.heap[g]? = some (.cells sb T (0, 0)) ∧ sb.size = 13 ∧ ∀ x : Int, 0 ≤ x → x ≤ 12 → sb[x.toNat]? = some (.bool (decide (x ∈ xs)))

theorem SeenIs.cell {w : World} {g : Nat} {T : TypeId} {xs : List Int} (h : SeenIs w g T xs) (x : Int) (h0 : 0 ≤ x) (h1 : x ≤ 12) : w.cell? ⟨g, x.toNat, none⟩ = some (.bool (decide (x ∈ xs))) ∧ w.frozen? ⟨g, x.toNat, none⟩ = false := by
  obtain ⟨sb, e, _, hs⟩ := h
  refine ⟨?_, by simp [World.frozen?, e]⟩
  simp only [World.cell?, e]
  exact hs x h0 h1

theorem SeenIs.set {w : World} {g : Nat} {T : TypeId} {xs : List Int} (h : SeenIs w g T xs) (x : Int) (h0 : 0 ≤ x) (h1 : x ≤ 12) : SeenIs (w.setCell ⟨g, x.toNat, none⟩ (.bool true)) g T (xs ++ [x]) := by
  obtain ⟨sb, e, hz, hs⟩ := h
  refine ⟨sb.setIfInBounds x.toNat (.bool true), heap_setCell_same w g x.toNat sb T _ e, by simp [hz], fun y y0 y1 => ?_⟩
  rw [Array.getElem?_setIfInBounds]
  by_cases e2 : x.toNat = y.toNat
  · have : x = y := by omega
    subst this
    rw [if_pos rfl, if_pos (by omega)]; simp
  · rw [if_neg e2, hs y y0 y1]
    have : y ≠ x := by omega
    simp [this]

theorem SeenIs.alloc {w : World} {g : Nat} {T : TypeId} {xs : List Int} (h : SeenIs w g T xs) (hg : g < w.heap.size) (o : Obj) : SeenIs (w.alloc o) g T xs := by
  obtain ⟨sb, e, hz, hs⟩ := h
  exact ⟨sb, by rw [Below.heap_alloc _ _ _ hg]; exact e, hz, hs⟩

set_option maxHeartbeats 1000000 in
set_option maxRecDepth 100000 in
theorem arePoints_calls (v : Value) (ps : List (Int × Int)) (w : World) (h : PtsAt w v ps) :
    Calls Tryz.prog 266 #[v] w fun e w' => e = .returned (.bool (ptsB ps)) ∧ Below w.heap.size w w' := by
  obtain ⟨a, cap, rfl, l2, l3, hc⟩ := pts_view h
  have HC := hideG hc
  clear hc h
  by_cases t1 : (ps.length : Int) < 1
  · have H := hideG (show ptsB ps = false by unfold ptsB; rw [decide_eq_false (by omega)]; rfl)
    go_enter Tryz.func266, Tryz.ntmps266
    go_wp2_with fail
    go_ret
    exact ⟨congrArg (fun x => Ending.returned (.bool x)) H.out.symm, Below.refl _ _⟩
  · by_cases t2 : 12 < (ps.length : Int)
    · have H := hideG (show ptsB ps = false by unfold ptsB; rw [decide_eq_false (by omega)]; rfl)
      go_enter Tryz.func266, Tryz.ntmps266
      go_wp2_with fail
      go_ret
      exact ⟨congrArg (fun x => Ending.returned (.bool x)) H.out.symm, Below.refl _ _⟩
    · generalize hn : ps.length = n at *
      have HN := hideG hn
      clear hn
      go_enter Tryz.func266, Tryz.ntmps266
      go_wp2_with fail
      go_loopw [16] (fun i wr => ∃ k : Nat, k ≤ n ∧ i = .int .i64 k ∧ SeenIs wr w.heap.size 36 (Lag.xs (ps.take k)) ∧ (ps.take k).all okP = true ∧ (Lag.xs (ps.take k)).Nodup ∧ Below w.heap.size w wr ∧ w.heap.size < wr.heap.size) (fun i _ => n - (intOf i).toNat)
      case atStart =>
        refine ⟨0, by omega, rfl, ⟨_, heap_alloc_new w _, rfl, fun x h0 h1 => ?_⟩, rfl, List.nodup_nil, (Below.refl _ _).alloc (Nat.le_refl _) _, by simp⟩
        have hx : x.toNat ≤ 12 := by omega
        rw [show decide (x ∈ Lag.xs (ps.take 0)) = false from decide_eq_false (by simp [Lag.xs])]
        match x.toNat, hx with
        | 0, _ => rfl
        | 1, _ => rfl
        | 2, _ => rfl
        | 3, _ => rfl
        | 4, _ => rfl
        | 5, _ => rfl
        | 6, _ => rfl
        | 7, _ => rfl
        | 8, _ => rfl
        | 9, _ => rfl
        | 10, _ => rfl
        | 11, _ => rfl
        | 12, _ => rfl
        | n + 13, h => exact absurd h (by omega)
      case round =>
        obtain ⟨k, hk, rfl, hseen, hall, hnd, hbel, hsz⟩ := hrel
        have HS := hideG hseen
        have HA := hideG hall
        have HD := hideG hnd
        have HB := hideG hbel
        clear hall hnd
        by_cases hlt : k < n
        · obtain ⟨b, off, rfl, hb, c0, c1⟩ := HC.out k hlt
          rw [← hbel.cell (p := ⟨b, off + k * 2, none⟩) hb] at c0
          rw [← hbel.cell (p := ⟨b, off + k * 2 + 1, none⟩) hb] at c1
          obtain ⟨x, hx⟩ : ∃ x, x = (ps.getD k (0, 0)).1 := ⟨_, rfl⟩
          obtain ⟨y, hy⟩ : ∃ y, y = (ps.getD k (0, 0)).2 := ⟨_, rfl⟩
          rw [← hx] at c0
          rw [← hy] at c1
          have HP := hideG (show ps.getD k (0, 0) = (x, y) by rw [hx, hy])
          clear hx hy hbel
          cases q1 : Num.clB x
          · clear hseen
            have H := hideG (ptsB_bad1 ps k (by rw [HN.out]; exact hlt) (by rw [HP.out]; show (Num.clB x && Num.elB y) = false; rw [q1]; rfl))
            go_wp2_with fail
            refine (client_calls _ _).mono ?_
            rintro e w' ⟨rfl, rfl⟩
            go_wp2_with fail
            go_ret
            exact ⟨congrArg (fun x => Ending.returned (.bool x)) H.out.symm, HB.out.alloc (by omega) _⟩
          · cases q2 : Num.elB y
            · clear hseen
              have H := hideG (ptsB_bad1 ps k (by rw [HN.out]; exact hlt) (by rw [HP.out]; show (Num.clB x && Num.elB y) = false; rw [q1, q2]; rfl))
              go_wp2_with fail
              refine (client_calls _ _).mono ?_
              rintro e w' ⟨rfl, rfl⟩
              go_wp2_with fail
              refine (element_calls _ _).mono ?_
              rintro e w' ⟨rfl, rfl⟩
              go_wp2_with fail
              go_ret
              exact ⟨congrArg (fun x => Ending.returned (.bool x)) H.out.symm, HB.out.alloc (by omega) _⟩
            · obtain ⟨x1, x2⟩ := Num.clB_iff.1 q1
              obtain ⟨s1, s2⟩ := hseen.cell x (by omega) x2
              have hok : okP (ps.getD k (0, 0)) = true := by rw [HP.out]; show (Num.clB x && Num.elB y) = true; rw [q1, q2]; rfl
              have HK := hideG hok
              clear hseen hok
              cases q3 : decide (x ∈ Lag.xs (ps.take k))
              · rw [q3] at s1
                have HX := hideG (of_decide_eq_false q3)
                clear q3
                go_wp2_with fail
                refine (client_calls _ _).mono ?_
                rintro e w' ⟨rfl, rfl⟩
                go_wp2_with fail
                refine (element_calls _ _).mono ?_
                rintro e w' ⟨rfl, rfl⟩
                go_wp2_with fail
                go_roundw
                case rel =>
                  have e := pget ps k (by rw [HN.out]; exact hlt)
                  have ex : Lag.xs (ps.take (k + 1)) = Lag.xs (ps.take k) ++ [x] := by rw [e, Lag.xs_append, HP.out]; rfl
                  refine ⟨k + 1, by omega, by go_num, ?_, ?_, ?_, (HB.out.setCell (p := ⟨w.heap.size, x.toNat, none⟩) (Nat.le_refl _) _).alloc (by simp [World.setCell]; omega) _, by simp [World.setCell]; omega⟩
                  · rw [ex]; exact (HS.out.set x (by omega) x2).alloc (by simp [World.setCell]; omega) _
                  · rw [e, List.all_append, HA.out, Bool.true_and, List.all_cons, List.all_nil, Bool.and_true]; exact HK.out
                  · rw [ex, List.nodup_append]
                    refine ⟨HD.out, by simp, fun u hu z hz e => ?_⟩
                    simp at hz; subst hz; subst e; exact HX.out hu
                case measure => simp [intOf]; omega
              · rw [q3] at s1
                have H := hideG (ptsB_bad2 ps k (by rw [HN.out]; exact hlt) (by rw [HP.out]; exact of_decide_eq_true q3))
                clear q3
                go_wp2_with fail
                refine (client_calls _ _).mono ?_
                rintro e w' ⟨rfl, rfl⟩
                go_wp2_with fail
                refine (element_calls _ _).mono ?_
                rintro e w' ⟨rfl, rfl⟩
                go_wp2_with fail
                go_ret
                exact ⟨congrArg (fun x => Ending.returned (.bool x)) H.out.symm, HB.out.alloc (by omega) _⟩
        · have ek : k = n := by omega
          subst ek
          clear hseen hbel
          have et : ps.take k = ps := List.take_of_length_le (by rw [HN.out]; exact Nat.le_refl _)
          have H := hideG (ptsB_done ps (by rw [HN.out]; omega) (by rw [HN.out]; omega) (by have := HA.out; rw [et] at this; exact this) (by have := HD.out; rw [et] at this; exact this))
          clear et
          go_wp2_with fail
          go_ret
          exact ⟨congrArg (fun x => Ending.returned (.bool x)) H.out.symm, HB.out⟩

end Go.Proofs.YtchideljndagjabGreat

namespace Go.Proofs.YtchideljndagjabGreat
open Go.ChangeShapes Go.WideShapes Go.ChangeAt Go.RowKit
set_option linter.unusedVariables false

/-- The products so far. -/
theorem ab_step (X : List Int) (k : Nat) (x c : Int) : (if c = x then Lag.ab X x % 2305843009213693951 else Num.mulP (Lag.ab X x % 2305843009213693951) c) = Lag.ab (X ++ [c]) x % 2305843009213693951 := by
  rw [Lag.ab_snoc]
  by_cases e : c = x
  · rw [if_pos e, if_pos e, Int.mul_one]
  · rw [if_neg e, if_neg e]; unfold Num.mulP; rw [Int.mul_emod, Int.emod_emod, ← Int.mul_emod]
theorem be_step (X : List Int) (k : Nat) (x c : Int) : (if c = x then Lag.be X x % 2305843009213693951 else Num.mulP (Lag.be X x % 2305843009213693951) (Num.subP c x)) = Lag.be (X ++ [c]) x % 2305843009213693951 := by
  rw [Lag.be_snoc]
  by_cases e : c = x
  · rw [if_pos e, if_pos e, Int.mul_one]
  · rw [if_neg e, if_neg e]; unfold Num.mulP Num.subP
    rw [Int.mul_emod, Int.emod_emod, show (c - x + 2305843009213693951) % 2305843009213693951 = (c - x) % 2305843009213693951 by omega, Int.emod_emod, ← Int.mul_emod]

theorem inverse_calls (a : Int) (w : World) (ha : 0 ≤ a) (ha' : a < 2305843009213693951) :
    Calls Tryz.prog 295 #[.int .i64 a] w fun e w' => e = .returned (.int .i64 (Pol.inv a)) ∧ w' = w := by
  go_enter Tryz.func295, Tryz.ntmps295
  go_wp2_with fail
  refine (power_calls _ _ _ ha ha' (by omega)).mono ?_
  rintro e w' ⟨rfl, rfl⟩
  go_wp2_with fail
  go_ret
  exact ⟨rfl, rfl⟩

set_option maxHeartbeats 1000000 in
set_option maxRecDepth 100000 in
theorem weight_calls (v : Value) (ps : List (Int × Int)) (x : Int) (w : World) (h : PtsAt w v ps) (hg : ∀ k ∈ Lag.xs ps, Lag.small k) (hx : Lag.small x) :
    Calls Tryz.prog 267 #[v, .int .i64 x] w fun e w' => e = .returned (.int .i64 (Lag.wt (Lag.xs ps) x)) ∧ Below w.heap.size w w' := by
  obtain ⟨a, cap, rfl, l2, l3, hc⟩ := pts_view h
  have HC := hideG hc
  have HG := hideG hg
  obtain ⟨x1, x2⟩ := hx
  clear hc h hg
  generalize hn : ps.length = n at *
  have HN := hideG hn
  clear hn
  go_enter Tryz.func267, Tryz.ntmps267
  go_wp2_with fail
  go_loopw [5, 6, 12] (fun u d i wr => ∃ k : Nat, k ≤ n ∧ i = .int .i64 k ∧ u = .int .i64 (Lag.ab (Lag.xs (ps.take k)) x % 2305843009213693951) ∧ d = .int .i64 (Lag.be (Lag.xs (ps.take k)) x % 2305843009213693951) ∧ Below w.heap.size w wr) (fun _ _ i _ => n - (intOf i).toNat)
  case atStart => exact ⟨0, by omega, rfl, rfl, rfl, Below.refl _ _⟩
  case round =>
    obtain ⟨k, hk, rfl, rfl, rfl, hbel⟩ := hrel
    have HB := hideG hbel
    have hsz := hbel.size
    have A1 : 0 ≤ Lag.ab (Lag.xs (ps.take k)) x % 2305843009213693951 := by omega
    have A2 : Lag.ab (Lag.xs (ps.take k)) x % 2305843009213693951 < 2305843009213693951 := by omega
    have D1 : 0 ≤ Lag.be (Lag.xs (ps.take k)) x % 2305843009213693951 := by omega
    have D2 : Lag.be (Lag.xs (ps.take k)) x % 2305843009213693951 < 2305843009213693951 := by omega
    by_cases hlt : k < n
    · obtain ⟨b, off, rfl, hb, c0, c1⟩ := HC.out k hlt
      rw [← hbel.cell (p := ⟨b, off + k * 2, none⟩) hb] at c0
      rw [← hbel.cell (p := ⟨b, off + k * 2 + 1, none⟩) hb] at c1
      obtain ⟨c, hcx⟩ : ∃ c, c = (ps.getD k (0, 0)).1 := ⟨_, rfl⟩
      obtain ⟨y, hy⟩ : ∃ y, y = (ps.getD k (0, 0)).2 := ⟨_, rfl⟩
      have hcs : Lag.small c := HG.out c (by rw [hcx, List.getD_eq_getElem?_getD, List.getElem?_eq_getElem (by rw [HN.out]; exact hlt)]; exact List.mem_map.2 ⟨_, List.getElem_mem _, rfl⟩)
      obtain ⟨s1, s2⟩ := hcs
      have ex : Lag.xs (ps.take (k + 1)) = Lag.xs (ps.take k) ++ [c] := by rw [pget ps k (by rw [HN.out]; exact hlt), Lag.xs_append, hcx]; rfl
      have EA := hideG (ab_step (Lag.xs (ps.take k)) k x c)
      have EB := hideG (be_step (Lag.xs (ps.take k)) k x c)
      have EX := hideG ex
      rw [← hcx] at c0
      rw [← hy] at c1
      clear hcx hy hbel ex
      generalize Lag.ab (Lag.xs (ps.take k)) x % 2305843009213693951 = A at *
      generalize Lag.be (Lag.xs (ps.take k)) x % 2305843009213693951 = D at *
      by_cases e : c = x
      · have et : (c != x) = false := by simp [e]
        have H1 := hideG (show A = Lag.ab (Lag.xs (ps.take (k + 1))) x % 2305843009213693951 by rw [EX.out, ← EA.out, if_pos e])
        have H2 := hideG (show D = Lag.be (Lag.xs (ps.take (k + 1))) x % 2305843009213693951 by rw [EX.out, ← EB.out, if_pos e])
        clear e
        go_wp2_with fail
        go_roundw
        case rel => exact ⟨k + 1, by omega, by go_num, by rw [← H1.out], by rw [← H2.out], HB.out.alloc hsz _⟩
        case measure => simp [intOf]; omega
      · have et : (c != x) = true := by simp [e]
        have H1 := hideG (show Num.mulP A c = Lag.ab (Lag.xs (ps.take (k + 1))) x % 2305843009213693951 by rw [EX.out, ← EA.out, if_neg e])
        have H2 := hideG (show Num.mulP D (Num.subP c x) = Lag.be (Lag.xs (ps.take (k + 1))) x % 2305843009213693951 by rw [EX.out, ← EB.out, if_neg e])
        clear e
        go_wp2_with fail
        refine (minus_calls _ _ _ (by omega) (by omega) (by omega) (by omega)).mono ?_
        rintro e w' ⟨rfl, rfl⟩
        go_wp2_with fail
        refine (times_calls _ _ _ A1 A2 (by omega) (by omega)).mono ?_
        rintro e w' ⟨rfl, rfl⟩
        go_wp2_with fail
        refine (times_calls _ _ _ D1 D2 (Num.subP_lo _ _) (Num.subP_hi _ _)).mono ?_
        rintro e w' ⟨rfl, rfl⟩
        go_wp2_with fail
        go_roundw
        case rel => exact ⟨k + 1, by omega, by go_num, by rw [← H1.out], by rw [← H2.out], HB.out.alloc hsz _⟩
        case measure => simp [intOf]; omega
    · have ek : k = n := by omega
      subst ek
      have et : ps.take k = ps := List.take_of_length_le (by rw [HN.out]; exact Nat.le_refl _)
      have H := hideG (show Num.mulP (Lag.ab (Lag.xs (ps.take k)) x % 2305843009213693951) (Pol.inv (Lag.be (Lag.xs (ps.take k)) x % 2305843009213693951)) = Lag.wt (Lag.xs ps) x by rw [et]; rfl)
      clear et hbel
      generalize Lag.ab (Lag.xs (ps.take k)) x % 2305843009213693951 = A at *
      generalize Lag.be (Lag.xs (ps.take k)) x % 2305843009213693951 = D at *
      go_wp2_with fail
      refine (inverse_calls _ _ D1 D2).mono ?_
      rintro e w' ⟨rfl, rfl⟩
      go_wp2_with fail
      refine (times_calls _ _ _ A1 A2 (Pol.inv_lo _) (Pol.inv_hi _)).mono ?_
      rintro e w' ⟨rfl, rfl⟩
      go_wp2_with fail
      go_ret
      exact ⟨congrArg (fun x => Ending.returned (.int .i64 x)) H.out, HB.out⟩

theorem sum_step (f : Int → Int) (l : List (Int × Int)) (p : Int × Int) : Num.addP (Lag.sm f l % 2305843009213693951) (Num.mulP p.2 (f p.1)) = Lag.sm f (l ++ [p]) % 2305843009213693951 := by
  rw [Lag.sm_append]
  show _ = (Lag.sm f l + (p.2 * f p.1 + 0)) % _
  unfold Num.addP Num.mulP
  omega

set_option maxHeartbeats 1000000 in
set_option maxRecDepth 100000 in
theorem join_yes (v : Value) (ps : List (Int × Int)) (w : World) (h : PtsAt w v ps) (hb : ptsB ps = true) :
    Calls Tryz.prog 213 #[v] w fun e w' => e = .returned (.tuple #[.int .i64 (Lag.joinN ps), .int .i64 0]) ∧ Below w.heap.size w w' := by
  have HP := hideG h
  obtain ⟨hgood, n1, n2, hel⟩ := ptsB_good hb
  obtain ⟨a, cap, hv, l2, l3, hc⟩ := pts_view h
  rw [hv] at HP ⊢
  have HC := hideG hc
  have HG := hideG hgood
  have HE := hideG hel
  have HBB := hideG hb
  clear hc h hgood hel hb hv
  generalize hn : ps.length = n at *
  have HN := hideG hn
  clear hn
  go_enter Tryz.func213, Tryz.ntmps213
  go_wp2_with fail
  refine (arePoints_calls _ ps _ HP.out).mono ?_
  rintro e w1 ⟨rfl, hb1⟩
  rw [HBB.out]
  have B1 := hideG hb1
  have z1 := hb1.size
  clear hb1
  go_wp2_with fail
  go_loopw [4, 13] (fun u i wr => ∃ k : Nat, k ≤ n ∧ i = .int .i64 k ∧ u = .int .i64 (Lag.sm (Lag.wt (Lag.xs ps)) (ps.take k) % 2305843009213693951) ∧ Below w.heap.size w wr) (fun _ i _ => n - (intOf i).toNat)
  case atStart => exact ⟨0, by omega, rfl, rfl, B1.out⟩
  case round =>
    obtain ⟨k, hk, rfl, rfl, hbel⟩ := hrel
    have HB := hideG hbel
    have hsz := hbel.size
    have A1 : 0 ≤ Lag.sm (Lag.wt (Lag.xs ps)) (ps.take k) % 2305843009213693951 := by omega
    have A2 : Lag.sm (Lag.wt (Lag.xs ps)) (ps.take k) % 2305843009213693951 < 2305843009213693951 := by omega
    by_cases hlt : k < n
    · obtain ⟨b, off, rfl, hb, c0, c1⟩ := HC.out k hlt
      rw [← hbel.cell (p := ⟨b, off + k * 2, none⟩) hb] at c0
      rw [← hbel.cell (p := ⟨b, off + k * 2 + 1, none⟩) hb] at c1
      obtain ⟨c, hcx⟩ : ∃ c, c = (ps.getD k (0, 0)).1 := ⟨_, rfl⟩
      obtain ⟨y, hy⟩ : ∃ y, y = (ps.getD k (0, 0)).2 := ⟨_, rfl⟩
      have hmem : ps.getD k (0, 0) ∈ ps := by rw [List.getD_eq_getElem?_getD, List.getElem?_eq_getElem (by rw [HN.out]; exact hlt)]; exact List.getElem_mem _
      have hcs : Lag.small c := HG.out.1 c (by rw [hcx]; exact List.mem_map.2 ⟨_, hmem, rfl⟩)
      have hye := HE.out _ hmem
      rw [← hy] at hye
      obtain ⟨y1, y2⟩ := hye
      have HS := hideG hcs
      have ES := hideG (show Num.addP (Lag.sm (Lag.wt (Lag.xs ps)) (ps.take k) % 2305843009213693951) (Num.mulP y (Lag.wt (Lag.xs ps) c)) = Lag.sm (Lag.wt (Lag.xs ps)) (ps.take (k + 1)) % 2305843009213693951 by
        rw [pget ps k (by rw [HN.out]; exact hlt), ← sum_step, hcx, hy])
      rw [← hcx] at c0
      rw [← hy] at c1
      clear hcx hy hbel hmem hcs
      generalize Lag.sm (Lag.wt (Lag.xs ps)) (ps.take k) % 2305843009213693951 = A at *
      have t1 := Lag.wt_lo (Lag.xs ps) c
      have t2 := Lag.wt_hi (Lag.xs ps) c
      go_wp2_with fail
      refine wp_region_grow (by kernel_rfl) (by kernel_rfl) ?_
      intro I G hI hG hGc hGn
      repeat (go_big_quiet_step (first | (go_at_call 267; exact call_grow hG hGn (weight_calls _ ps c _ ((HP.out.below HB.out).below (((Below.refl _ _).alloc (Nat.le_refl _) _).trans ((hG.out _).mono (by simp)))) HG.out.1 HS.out)) | (go_at_call 144; exact call_same (times_calls _ _ _ y1 y2 t1 t2))))
      refine wpQuiet_nil ?_
      intro wn hw'
      obtain ⟨u, hw''⟩ := hw'
      have hwn := hG.out u
      rw [← hw''] at hwn
      clear hw'' hGc hGn hG u hI G I
      have HW := hideG hwn
      clear hwn
      go_wp2_with fail
      refine (plus_calls _ _ _ A1 A2 (Num.mulP_lo _ _) (Num.mulP_hi _ _)).mono ?_
      rintro e wn ⟨rfl, rfl⟩
      go_wp2_with fail
      go_roundw
      case rel => exact ⟨k + 1, by omega, by go_num, by rw [ES.out], (HB.out.alloc hsz _).trans (HW.out.mono (by simp; omega))⟩
      case measure => simp [intOf]; omega
    · have ek : k = n := by omega
      subst ek
      have et : ps.take k = ps := List.take_of_length_le (by rw [HN.out]; exact Nat.le_refl _)
      have H := hideG (show Lag.sm (Lag.wt (Lag.xs ps)) (ps.take k) % 2305843009213693951 = Lag.joinN ps by rw [et]; rfl)
      clear et hbel
      generalize Lag.sm (Lag.wt (Lag.xs ps)) (ps.take k) % 2305843009213693951 = A at *
      go_wp2_with fail
      go_ret2
      exact ⟨congrArg (fun x => Ending.returned (.tuple #[.int .i64 x, .int .i64 0])) H.out, HB.out⟩

end Go.Proofs.YtchideljndagjabGreat

namespace Go.Proofs.YtchideljndagjabGreat
open Go.ChangeShapes Go.WideShapes Go.ChangeAt Go.RowKit
set_option linter.unusedVariables false

theorem infoPn : (Tryz.prog.info? 139).map (fun i => (i.zero, i.size, i.bytes)) = some (some (.agg #[.int .i64 0, .int .i64 0]), 2, 16) := by kernel_rfl
theorem infoMs : (Tryz.prog.info? 292).map (fun i => (i.zero, i.size, i.bytes)) = some (some (.agg #[.int .i64 0, .bool false]), 2, 16) := by kernel_rfl

def flatV (l : List (Value × Value)) : List Value := (l.map fun p => [p.1, p.2]).flatten
theorem flatV_append (l m : List (Value × Value)) : flatV (l ++ m) = flatV l ++ flatV m := by unfold flatV; rw [List.map_append, List.flatten_append]
theorem flatV_length : ∀ l : List (Value × Value), (flatV l).length = l.length * 2
  | [] => rfl
  | p :: l => by show (flatV l).length + 1 + 1 = (l.length + 1) * 2; rw [flatV_length l]; omega
theorem flatV_get : ∀ (l : List (Value × Value)) (i : Nat) (p : Value × Value), l[i]? = some p → (flatV l)[i * 2]? = some p.1 ∧ (flatV l)[i * 2 + 1]? = some p.2
  | [], i, p, h => by simp at h
  | q :: l, 0, p, h => by simp at h; subst h; exact ⟨rfl, rfl⟩
  | q :: l, i + 1, p, h => by
    have := flatV_get l i p (by simpa using h)
    have e : ∀ j, (flatV (q :: l))[(i + 1) * 2 + j]? = (flatV l)[i * 2 + j]? := fun j => by
      show (_ :: _ :: flatV l)[(i + 1) * 2 + j]? = _
      rw [show (i + 1) * 2 + j = i * 2 + j + 1 + 1 by omega]; rfl
    exact ⟨(e 0).trans this.1, (e 1).trans this.2⟩
theorem owns_cells {w : World} {B : Nat} {e : TypeId} {m : Nat} {v : Value} {n : Nat} {xs : List Value} (h : w.ownsRow B e m v n xs) (hn : 0 < n) :
    ∃ g cap, v = .slice (some ⟨g, 0, none⟩) n cap ∧ B ≤ g ∧ g < w.heap.size ∧ n ≤ cap ∧ cap ≤ maxLen ∧ ∀ j x, xs[j]? = some x → w.cell? ⟨g, j, none⟩ = some x := by
  have hlt := h.lt
  obtain ⟨h1, h2⟩ := h
  rcases h2 with ⟨_, h2⟩ | ⟨g, cap, cur, hv, hb, hc, h3, h4, h5, h6⟩
  · omega
  · refine ⟨g, cap, hv, hb, (hlt g (by rw [hv]; rfl)).2, h3, h4, fun j x hx => ?_⟩
    rw [cell_of_row w g j _ _ (0, 0) hc]
    rw [← h6] at hx
    rw [List.getElem?_take] at hx
    split at hx
    · rw [← Array.getElem?_toList]; exact hx
    · cases hx
theorem cell_two_n (w : World) (x y : Value) (t : TypeId) : ∀ j c, ([x, y] : List Value)[j]? = some c → (w.alloc (.cells #[x, y] t)).cell? ((⟨w.heap.size, 0, none⟩ : Addr).add j) = some c := by
  intro j c hj
  match j, hj with
  | 0, hj => simp at hj; subst hj; simp [Addr.add]
  | 1, hj => simp at hj; subst hj; simp [Addr.add]

def ptV (p : Int × Int) : Value × Value := (.int .i64 p.1, .int .i64 p.2)
def mkV (p : Int × Bool) : Value × Value := (.int .i64 p.1, .bool p.2)
theorem ptsAt_owns {w : World} {B : Nat} {v : Value} {ps : List (Int × Int)} (h : w.ownsRow B 139 2 v ps.length (flatV (ps.map ptV))) (hn : 0 < ps.length) (hi : ∀ p ∈ ps, inI p.1 ∧ inI p.2) : PtsAt w v ps := by
  obtain ⟨g, cap, hv, hb, hl, h3, h4, hc⟩ := owns_cells h hn
  refine ⟨_, _, hv, h3, h4, hi, .inr ⟨g, 0, rfl, hl, fun i hi => ?_⟩⟩
  have e : (ps.map ptV)[i]? = some (ptV ps[i]) := by rw [List.getElem?_map, List.getElem?_eq_getElem hi]; rfl
  have eg : ps.getD i (0, 0) = ps[i] := by rw [List.getD_eq_getElem?_getD, List.getElem?_eq_getElem hi]; rfl
  obtain ⟨e1, e2⟩ := flatV_get _ i _ e
  rw [eg, Nat.zero_add]
  exact ⟨hc _ _ e1, hc _ _ e2⟩

def tellG (p : Nat → Bool) (L : Nat → List Frm.It) (v n : Nat) : List (Int × Int) := (Srv.lstN p n).map fun x : Nat => ((x : Int), (Cli.itemOf (L x) v).2.2.1)
theorem tellG_succ (p : Nat → Bool) (L : Nat → List Frm.It) (v n : Nat) : tellG p L v (n + 1) = tellG p L v n ++ (if p n = true then [((n : Int), (Cli.itemOf (L n) v).2.2.1)] else []) := by
  unfold tellG; rw [Srv.lstN_succ, List.map_append]; split <;> rfl
theorem tellG_len (p : Nat → Bool) (L : Nat → List Frm.It) (v n : Nat) : (tellG p L v n).length ≤ n := by unfold tellG; rw [List.length_map]; exact Srv.lstN_le _ _

set_option maxHeartbeats 2000000 in
set_option maxRecDepth 100000 in
theorem secretOf_calls (b : Nat) (S : SS) (L : Nat → List Frm.It) (v : Nat) (w : World) (h : SSAt w b S) (hL : ∀ v, v < 13 → ItemsAt w (S.it v) (L v)) (hp : ptsB (tellG S.ct L v 13) = true) :
    Calls Tryz.prog 296 #[.pointer (some ⟨b, 0, none⟩), .int .i64 (v : Int)] w fun e w' => e = .returned (.int .i64 (Lag.joinN (tellG S.ct L v 13))) ∧ Below w.heap.size w w' := by
  obtain ⟨i1, hi1, hy0, hy1, hy2⟩ := info_parts infoPn
  have hbl := h.lt
  have HRG := hideG h.allct
  have LX := hideG (bl13_length S.ct)
  have HIX := hideG (ix_mem S.ct)
  have HIT := hideG (fun (w1 : World) (k : Nat) (hk : k < 13) (hb : Below w.heap.size w w1) => (h.below hb).cit k hk)
  have HFO := hideG (fun (k : Nat) (hk : k < 13) => items_form (hL k hk))
  have HCI := hideG (fun (w1 : World) (k : Nat) (hk : k < 13) (hb : Below w.heap.size w w1) => sItemOf_calls (S.it k) (L k) (v : Int) w1 ((hL k hk).below hb))
  have HJ := hideG (fun (w1 : World) (x : Value) (hx : PtsAt w1 x (tellG S.ct L v 13)) => join_yes x _ w1 hx hp)
  obtain ⟨g1, g2, g3, g4⟩ := ptsB_good hp
  have HPT := hideG (fun (w1 : World) (x : Value) (hx : w1.ownsRow w.heap.size 139 2 x (tellG S.ct L v 13).length (flatV ((tellG S.ct L v 13).map ptV))) => ptsAt_owns hx (by omega) (fun p hpp => by
    have q1 := g1.1 p.1 (List.mem_map.2 ⟨p, hpp, rfl⟩)
    have q2 := g4 p hpp
    unfold Lag.small at q1
    unfold inI
    exact ⟨by omega, by omega⟩))
  clear h hL hp g1 g2 g3 g4
  generalize S.ct = p at *
  generalize S.it = it at *
  obtain ⟨CS, hCS⟩ : ∃ CS, CS = bl13 p := ⟨_, rfl⟩
  rw [← hCS] at HRG LX HIX
  clear hCS
  go_enter Tryz.func296, Tryz.ntmps296
  go_wp2_with (refine wpList_load_mid rfl 101 _ rfl b 19 rfl CS _ HRG.out Tryz.underlying101 rfl ?z ?_)
  case z => rw [size_mem, LX.out]
  go_wp2_with fail
  go_loopw [5, 14] (fun ro i wr => ∃ k : Nat, k ≤ 13 ∧ i = .int .i64 k ∧ wr.ownsRow w.heap.size 139 2 ro (tellG p L v k).length (flatV ((tellG p L v k).map ptV)) ∧ Below w.heap.size w wr) (fun _ i _ => 13 - (intOf i).toNat)
  case atStart => exact ⟨0, by omega, rfl, World.ownsRow_nil _ _ _ _, Below.refl _ _⟩
  case round =>
    obtain ⟨k, hk, rfl, hown, hbel⟩ := hrel
    have HO := hideG hown
    have HB := hideG hbel
    have hsz := hbel.size
    obtain ⟨a3, c3, hv3⟩ := owns_form hown
    subst hv3
    clear hown hbel
    have hl13 := tellG_len p L v k
    have HSU := hideG (tellG_succ p L v k)
    by_cases hlt : k < 13
    · have hlt' : (k : Int) < 13 := by omega
      have hix := HIX.out k hlt
      cases q : p k
      · rw [q] at hix
        have HS2 := hideG (show tellG p L v (k + 1) = tellG p L v k by rw [HSU.out, q]; simp)
        clear q
        go_wp2_with fail
        go_roundw
        case rel => exact ⟨k + 1, by omega, by go_num, by rw [HS2.out]; exact HO.out, HB.out⟩
        case measure => simp [intOf]; omega
      · rw [q] at hix
        have HS2 := hideG (show tellG p L v (k + 1) = tellG p L v k ++ [((k : Int), (Cli.itemOf (L k) v).2.2.1)] by rw [HSU.out, q]; simp)
        clear q
        have ci := HIT.out wr k hlt HB.out
        have CI := hideG (HCI.out wr k hlt HB.out)
        obtain ⟨fa, fn, fc, hf⟩ := HFO.out k hlt
        rw [hf] at ci CI
        clear hf
        unfold itmV at CI
        obtain ⟨y0, y1, y2, y3, hy⟩ : ∃ y0 y1 y2 y3, Cli.itemOf (L k) (v : Int) = (y0, y1, y2, y3) := ⟨_, _, _, _, rfl⟩
        rw [hy] at CI HS2
        clear hy
        go_wp2_with fail
        refine CI.out.mono ?_
        rintro e w1 ⟨rfl, hb1⟩
        have s1 := hb1.size
        have B1 := hideG (HB.out.trans (hb1.mono HB.out.size))
        have O1 := hideG (ownsRow_chg (S := fun _ => False) HO.out (Chg.of_below hb1) (fun _ _ h => h))
        clear hb1
        have hfl := field_B (.int .i64 y0) (.int .i64 y1) (.int .i64 y2) (.int .i64 y3) w1
        go_wp2_with (at_builtin; refine wpList_append_own _ rfl _ _ 137 rfl w.heap.size 139 i1 (.agg #[.int .i64 0, .int .i64 0]) 2 16 Tryz.underlying137 hi1 hy0 hy1 hy2 rfl (by decide) _ _ _ rfl (O1.out.alloc _) ⟨w1.heap.size, 0, none⟩ 1 1 [.int .i64 k, .int .i64 y2] rfl rfl ?c1 ?c2 ?c3 ?c4 ?c5 ?_)
        case c1 => exact cell_two_n _ _ _ _
        case c2 => intro u hu; simp at hu; rcases hu with rfl | rfl <;> rfl
        case c3 => unfold maxLen; omega
        case c4 => omega
        case c5 => simp; omega
        intro v' w4 hown' hgrow' _
        have hb4 := (B1.out.alloc (by omega) _).grown hgrow' (by simp; omega) (fun y hy => (O1.out.lt y hy).1)
        have B4 := hideG hb4
        have O4 := hideG (show w4.ownsRow w.heap.size 139 2 v' (tellG p L v (k + 1)).length (flatV ((tellG p L v (k + 1)).map ptV)) by
          rw [HS2.out, List.map_append, flatV_append, List.length_append]; exact hown')
        clear hown' hgrow' hb4
        go_wp2_with fail
        go_roundw
        case rel => exact ⟨k + 1, by omega, by go_num, O4.out, B4.out⟩
        case measure => simp [intOf]; omega
    · have ek : k = 13 := by omega
      subst ek
      have JJ := hideG (HJ.out wr _ (HPT.out wr _ HO.out))
      go_wp2_with fail
      refine JJ.out.mono ?_
      rintro e w1 ⟨rfl, hb1⟩
      have B1 := hideG (HB.out.trans (hb1.mono HB.out.size))
      clear hb1
      go_wp2_with fail
      go_ret
      exact ⟨rfl, B1.out⟩

def mwG (sn : Nat → Bool) (pb : Nat → Int) (v : Nat) (sec : Int) (n : Nat) : List (Int × Bool) := (Srv.lstN sn n).map fun u : Nat => (Num.powP (pb u) sec, decide (u < v))
theorem mwG_succ (sn : Nat → Bool) (pb : Nat → Int) (v : Nat) (sec : Int) (n : Nat) : mwG sn pb v sec (n + 1) = mwG sn pb v sec n ++ (if sn n = true then [(Num.powP (pb n) sec, decide (n < v))] else []) := by
  unfold mwG; rw [Srv.lstN_succ, List.map_append]; split <;> rfl
theorem mwG_len (sn : Nat → Bool) (pb : Nat → Int) (v : Nat) (sec : Int) (n : Nat) : (mwG sn pb v sec n).length ≤ n := by unfold mwG; rw [List.length_map]; exact Srv.lstN_le _ _
def withG (sn : Nat → Bool) (pb : Nat → Int) (v : Nat) (sec : Int) : List (Int × Bool) := if sn v = true then [(sec, true)] else mwG sn pb v sec 13

set_option maxHeartbeats 2000000 in
set_option maxRecDepth 100000 in
theorem masksWith_calls (b : Nat) (S : SS) (v : Nat) (sec : Int) (w : World) (h : SSAt w b S) (hv : v < 13) (hs : 0 ≤ sec) (hs' : sec < 2305843009213693951) (hpb : ∀ u, u < 13 → 0 ≤ S.pb u ∧ S.pb u < 2305843009213693951) :
    Calls Tryz.prog 297 #[.pointer (some ⟨b, 0, none⟩), .int .i64 (v : Int), .int .i64 sec] w fun e w' => ∃ va, e = .returned va ∧ w'.ownsRow w.heap.size 292 2 va (withG S.sn S.pb v sec).length (flatV ((withG S.sn S.pb v sec).map mkV)) ∧ Below w.heap.size w w' := by
  obtain ⟨i1, hi1, hy0, hy1, hy2⟩ := info_parts infoMs
  have hbl := h.lt
  have hv' : (v : Int) < 13 := by omega
  have cv := h.csn v hv
  have HRG := hideG h.allsn
  have LX := hideG (bl13_length S.sn)
  have HIX := hideG (ix_mem S.sn)
  have HPB := hideG (fun (w1 : World) (k : Nat) (hk : k < 13) (hb : Below w.heap.size w w1) => (h.below hb).cpb k hk)
  have HPW := hideG (fun (w1 : World) (k : Nat) (hk : k < 13) => power_calls (S.pb k) sec w1 (hpb k hk).1 (hpb k hk).2 (by omega))
  clear h hpb
  unfold withG
  generalize S.pb = pb at *
  cases q : S.sn v
  · rw [q] at cv
    rw [if_neg Bool.false_ne_true]
    clear q
    generalize S.sn = p at *
    obtain ⟨CS, hCS⟩ : ∃ CS, CS = bl13 p := ⟨_, rfl⟩
    rw [← hCS] at HRG LX HIX
    clear hCS
    go_enter Tryz.func297, Tryz.ntmps297
    go_wp2_with (refine wpList_load_mid rfl 101 _ rfl b 6 rfl CS _ HRG.out Tryz.underlying101 rfl ?z ?_)
    case z => rw [size_mem, LX.out]
    go_wp2_with fail
    go_loopw [7, 24] (fun ro i wr => ∃ k : Nat, k ≤ 13 ∧ i = .int .i64 k ∧ wr.ownsRow w.heap.size 292 2 ro (mwG p pb v sec k).length (flatV ((mwG p pb v sec k).map mkV)) ∧ Below w.heap.size w wr) (fun _ i _ => 13 - (intOf i).toNat)
    case atStart => exact ⟨0, by omega, rfl, World.ownsRow_nil _ _ _ _, Below.refl _ _⟩
    case round =>
      obtain ⟨k, hk, rfl, hown, hbel⟩ := hrel
      have HO := hideG hown
      have HB := hideG hbel
      have hsz := hbel.size
      obtain ⟨a3, c3, hv3⟩ := owns_form hown
      subst hv3
      clear hown hbel
      have hl13 := mwG_len p pb v sec k
      have HSU := hideG (mwG_succ p pb v sec k)
      by_cases hlt : k < 13
      · have hlt' : (k : Int) < 13 := by omega
        have hix := HIX.out k hlt
        cases q : p k
        · rw [q] at hix
          have HS2 := hideG (show mwG p pb v sec (k + 1) = mwG p pb v sec k by rw [HSU.out, q]; simp)
          clear q
          go_wp2_with fail
          go_roundw
          case rel => exact ⟨k + 1, by omega, by go_num, by rw [HS2.out]; exact HO.out, HB.out⟩
          case measure => simp [intOf]; omega
        · rw [q] at hix
          have HS2 := hideG (show mwG p pb v sec (k + 1) = mwG p pb v sec k ++ [(Num.powP (pb k) sec, decide (k < v))] by rw [HSU.out, q]; simp)
          clear q
          have cp := HPB.out wr k hlt HB.out
          have PW := hideG (HPW.out wr k hlt)
          obtain ⟨K, hK⟩ : ∃ K, K = Num.powP (pb k) sec := ⟨_, rfl⟩
          rw [← hK] at PW HS2
          clear hK
          go_wp2_with fail
          refine PW.out.mono ?_
          rintro e w1 ⟨rfl, rfl⟩
          go_wp2_with (at_builtin; refine wpList_append_own _ rfl _ _ 285 rfl w.heap.size 292 i1 (.agg #[.int .i64 0, .bool false]) 2 16 Tryz.underlying285 hi1 hy0 hy1 hy2 rfl (by decide) _ _ _ rfl (HO.out.alloc _) ⟨w1.heap.size, 0, none⟩ 1 1 [.int .i64 K, .bool (decide (k < v))] rfl rfl ?c1 ?c2 ?c3 ?c4 ?c5 ?_)
          case c1 => exact cell_two_n _ _ _ _
          case c2 => intro u hu; simp at hu; rcases hu with rfl | rfl <;> rfl
          case c3 => unfold maxLen; omega
          case c4 => omega
          case c5 => simp; omega
          intro v' w4 hown' hgrow' _
          have hb4 := (HB.out.alloc (by omega) _).grown hgrow' (by simp; omega) (fun y hy => (HO.out.lt y hy).1)
          have B4 := hideG hb4
          have O4 := hideG (show w4.ownsRow w.heap.size 292 2 v' (mwG p pb v sec (k + 1)).length (flatV ((mwG p pb v sec (k + 1)).map mkV)) by
            rw [HS2.out, List.map_append, flatV_append, List.length_append]; exact hown')
          clear hown' hgrow' hb4
          go_wp2_with fail
          go_roundw
          case rel => exact ⟨k + 1, by omega, by go_num, O4.out, B4.out⟩
          case measure => simp [intOf]; omega
      · have ek : k = 13 := by omega
        subst ek
        go_wp2_with fail
        go_ret
        exact ⟨_, rfl, HO.out, HB.out⟩
  · rw [q] at cv
    rw [if_pos rfl]
    clear q
    go_enter Tryz.func297, Tryz.ntmps297
    go_wp2_with fail
    go_ret
    refine ⟨_, rfl, ⟨rfl, .inr ⟨w.heap.size, 1, #[.int .i64 sec, .bool true], rfl, Nat.le_refl _, heap_alloc_new w _, Nat.le_refl _, by unfold maxLen; omega, rfl, rfl⟩⟩, (Below.refl _ _).alloc (Nat.le_refl _) _⟩

end Go.Proofs.YtchideljndagjabGreat
