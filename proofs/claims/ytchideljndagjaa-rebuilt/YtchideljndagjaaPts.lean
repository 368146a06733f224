/- Contracts of Join: the value at 0, or what is refused. -/
import Derived.Test.YtchideljndagjaaField
import Derived.Test.YtchideljndagjaaMemAll
import Derived.Test.YtchideljndagjaaLag
import Derived.WalkSpells
import Derived.Laws.Rows
namespace Go.Proofs.Ytchideljndagjaa
open Go.ChangeShapes Go.WideShapes Go.ChangeAt Go.RowKit
set_option linter.unusedVariables false

/-- Points in memory. -/
def PtsAt (w : World) (v : Value) (ps : List (Int × Int)) : Prop :=
  ∃ (a : Option Addr) (cap : Nat), v = .slice a ps.length cap ∧ ps.length ≤ cap ∧ cap ≤ maxLen ∧ (∀ p ∈ ps, inI p.1 ∧ inI p.2) ∧
    (ps = [] ∨ ∃ b off, a = some ⟨b, off, none⟩ ∧ b < w.heap.size ∧ ∀ i, i < ps.length → w.cell? ⟨b, off + i * 2, none⟩ = some (.int .i64 (ps.getD i (0, 0)).1) ∧ w.cell? ⟨b, off + i * 2 + 1, none⟩ = some (.int .i64 (ps.getD i (0, 0)).2))

theorem PtsAt.below {w w' : World} {v : Value} {ps : List (Int × Int)} (h : PtsAt w v ps) (hb : Below w.heap.size w w') : PtsAt w' v ps := by
  obtain ⟨a, cap, h1, h2, h3, h4, h5⟩ := h
  refine ⟨a, cap, h1, h2, h3, h4, ?_⟩
  rcases h5 with h5 | ⟨b, off, e1, e2, e3⟩
  · exact .inl h5
  · exact .inr ⟨b, off, e1, Nat.lt_of_lt_of_le e2 hb.size, fun i hi => by
      rw [hb.cell (p := ⟨b, off + i * 2, none⟩) e2, hb.cell (p := ⟨b, off + i * 2 + 1, none⟩) e2]; exact e3 i hi⟩

theorem pts_view {w : World} {v : Value} {ps : List (Int × Int)} (h : PtsAt w v ps) : ∃ (a : Option Addr) (cap : Nat), v = .slice a ps.length cap ∧ ps.length ≤ cap ∧ cap ≤ 9223372036854775807 ∧
    ∀ k, k < ps.length → ∃ b off, a = some ⟨b, off, none⟩ ∧ b < w.heap.size ∧ w.cell? ⟨b, off + k * 2, none⟩ = some (.int .i64 (ps.getD k (0, 0)).1) ∧ w.cell? ⟨b, off + k * 2 + 1, none⟩ = some (.int .i64 (ps.getD k (0, 0)).2) := by
  obtain ⟨a, cap, h1, h2, h3, h4, h5⟩ := h
  refine ⟨a, cap, h1, h2, by unfold maxLen at h3; omega, fun k hk => ?_⟩
  rcases h5 with h5 | ⟨b, off, e, hb, hc⟩
  · rw [h5] at hk; simp at hk
  · exact ⟨b, off, e, hb, hc k hk⟩

theorem pget (ps : List (Int × Int)) (k : Nat) (hk : k < ps.length) : ps.take (k + 1) = ps.take k ++ [ps.getD k (0, 0)] := by
  rw [List.take_succ_eq_append_getElem hk, List.getD_eq_getElem?_getD, List.getElem?_eq_getElem hk]; rfl

def okP (p : Int × Int) : Bool := Num.clB p.1 && Num.elB p.2
/-- May these be points? -/
def ptsB (ps : List (Int × Int)) : Bool := decide (1 ≤ ps.length ∧ ps.length ≤ 12) && (ps.all okP && decide (Lag.xs ps).Nodup)

theorem ptsB_good {ps : List (Int × Int)} (h : ptsB ps = true) : Lag.good ps ∧ 1 ≤ ps.length ∧ ps.length ≤ 12 ∧ ∀ p ∈ ps, 0 ≤ p.2 ∧ p.2 < 2305843009213693951 := by
  unfold ptsB at h
  simp only [Bool.and_eq_true, decide_eq_true_iff, List.all_eq_true] at h
  obtain ⟨⟨h1, h2⟩, h3, h4⟩ := h
  refine ⟨⟨fun k hk => ?_, h4⟩, h1, h2, fun p hp => ?_⟩
  · obtain ⟨p, hp, rfl⟩ := List.mem_map.1 hk
    have := h3 p hp
    unfold okP at this
    rw [Bool.and_eq_true, Num.clB_iff] at this
    exact this.1
  · have := h3 p hp
    unfold okP at this
    rw [Bool.and_eq_true, Num.elB_iff] at this
    exact this.2

theorem ptsB_bad1 (ps : List (Int × Int)) (k : Nat) (hk : k < ps.length) (h : okP (ps.getD k (0, 0)) = false) : ptsB ps = false := by
  have : ps.all okP = false := by
    rw [List.all_eq_false]
    refine ⟨ps[k], List.getElem_mem hk, ?_⟩
    rw [List.getD_eq_getElem?_getD, List.getElem?_eq_getElem hk] at h
    simp only [Option.getD_some] at h
    rw [h]; exact Bool.false_ne_true
  unfold ptsB; rw [this]; simp

theorem ptsB_bad2 (ps : List (Int × Int)) (k : Nat) (hk : k < ps.length) (h : (ps.getD k (0, 0)).1 ∈ Lag.xs (ps.take k)) : ptsB ps = false := by
  have : ¬ (Lag.xs ps).Nodup := by
    intro hn
    have e : ps = ps.take k ++ (ps.getD k (0, 0) :: ps.drop (k + 1)) := by
      rw [List.getD_eq_getElem?_getD, List.getElem?_eq_getElem hk, Option.getD_some, ← List.drop_eq_getElem_cons hk, List.take_append_drop]
    rw [e, Lag.xs_append] at hn
    exact (List.nodup_append.1 hn).2.2 _ h _ (by simp [Lag.xs]) rfl
  unfold ptsB; rw [decide_eq_false this]; simp

theorem ptsB_done (ps : List (Int × Int)) (h1 : 1 ≤ ps.length) (h2 : ps.length ≤ 12) (h3 : ps.all okP = true) (h4 : (Lag.xs ps).Nodup) : ptsB ps = true := by
  unfold ptsB; rw [decide_eq_true ⟨h1, h2⟩, h3, decide_eq_true h4]; rfl

/-- Which X have been seen. -/
def SeenIs (w : World) (g : Nat) (T : TypeId) (xs : List Int) : Prop :=
  ∃ sb : Array Value, w.heap[g]? = some (.cells sb T (0, 0)) ∧ sb.size = 13 ∧ ∀ x : Int, 0 ≤ x → x ≤ 12 → sb[x.toNat]? = some (.bool (decide (x ∈ xs)))

theorem SeenIs.cell {w : World} {g : Nat} {T : TypeId} {xs : List Int} (h : SeenIs w g T xs) (x : Int) (h0 : 0 ≤ x) (h1 : x ≤ 12) : w.cell? ⟨g, x.toNat, none⟩ = some (.bool (decide (x ∈ xs))) ∧ w.frozen? ⟨g, x.toNat, none⟩ = false := by
  obtain ⟨sb, e, _, hs⟩ := h
  refine ⟨?_, by simp [World.frozen?, e]⟩
  simp only [World.cell?, e]
  exact hs x h0 h1

theorem SeenIs.set {w : World} {g : Nat} {T : TypeId} {xs : List Int} (h : SeenIs w g T xs) (x : Int) (h0 : 0 ≤ x) (h1 : x ≤ 12) : SeenIs (w.setCell ⟨g, x.toNat, none⟩ (.bool true)) g T (xs ++ [x]) := by
  obtain ⟨sb, e, hz, hs⟩ := h
  refine ⟨sb.setIfInBounds x.toNat (.bool true), heap_setCell_same w g x.toNat sb T _ e, by simp [hz], fun y y0 y1 => ?_⟩
  rw [Array.getElem?_setIfInBounds]
  by_cases e2 : x.toNat = y.toNat
  · have : x = y := by omega
    subst this
    rw [if_pos rfl, if_pos (by omega)]; simp
  · rw [if_neg e2, hs y y0 y1]
    have : y ≠ x := by omega
    simp [this]

theorem SeenIs.alloc {w : World} {g : Nat} {T : TypeId} {xs : List Int} (h : SeenIs w g T xs) (hg : g < w.heap.size) (o : Obj) : SeenIs (w.alloc o) g T xs := by
  obtain ⟨sb, e, hz, hs⟩ := h
  exact ⟨sb, by rw [Below.heap_alloc _ _ _ hg]; exact e, hz, hs⟩

set_option maxHeartbeats 1000000 in
set_option maxRecDepth 100000 in
theorem arePoints_calls (v : Value) (ps : List (Int × Int)) (w : World) (h : PtsAt w v ps) :
    Calls Try.prog 69 #[v] w fun e w' => e = .returned (.bool (ptsB ps)) ∧ Below w.heap.size w w' := by
  obtain ⟨a, cap, rfl, l2, l3, hc⟩ := pts_view h
  have HC := hideG hc
  clear hc h
  by_cases t1 : (ps.length : Int) < 1
  · have H := hideG (show ptsB ps = false by unfold ptsB; rw [decide_eq_false (by omega)]; rfl)
    go_enter Try.func69, Try.ntmps69
    go_wp2_with fail
    go_ret
    exact ⟨congrArg (fun x => Ending.returned (.bool x)) H.out.symm, Below.refl _ _⟩
  · by_cases t2 : 12 < (ps.length : Int)
    · have H := hideG (show ptsB ps = false by unfold ptsB; rw [decide_eq_false (by omega)]; rfl)
      go_enter Try.func69, Try.ntmps69
      go_wp2_with fail
      go_ret
      exact ⟨congrArg (fun x => Ending.returned (.bool x)) H.out.symm, Below.refl _ _⟩
    · generalize hn : ps.length = n at *
      have HN := hideG hn
      clear hn
      go_enter Try.func69, Try.ntmps69
      go_wp2_with fail
      go_loopw [16] (fun i wr => ∃ k : Nat, k ≤ n ∧ i = .int .i64 k ∧ SeenIs wr w.heap.size 76 (Lag.xs (ps.take k)) ∧ (ps.take k).all okP = true ∧ (Lag.xs (ps.take k)).Nodup ∧ Below w.heap.size w wr ∧ w.heap.size < wr.heap.size) (fun i _ => n - (intOf i).toNat)
      case atStart =>
        refine ⟨0, by omega, rfl, ⟨_, heap_alloc_new w _, rfl, fun x h0 h1 => ?_⟩, rfl, List.nodup_nil, (Below.refl _ _).alloc (Nat.le_refl _) _, by simp⟩
        have hx : x.toNat ≤ 12 := by omega
        rw [show decide (x ∈ Lag.xs (ps.take 0)) = false from decide_eq_false (by simp [Lag.xs])]
        match x.toNat, hx with
        | 0, _ => rfl
        | 1, _ => rfl
        | 2, _ => rfl
        | 3, _ => rfl
        | 4, _ => rfl
        | 5, _ => rfl
        | 6, _ => rfl
        | 7, _ => rfl
        | 8, _ => rfl
        | 9, _ => rfl
        | 10, _ => rfl
        | 11, _ => rfl
        | 12, _ => rfl
        | n + 13, h => exact absurd h (by omega)
      case round =>
        obtain ⟨k, hk, rfl, hseen, hall, hnd, hbel, hsz⟩ := hrel
        have HS := hideG hseen
        have HA := hideG hall
        have HD := hideG hnd
        have HB := hideG hbel
        clear hall hnd
        by_cases hlt : k < n
        · obtain ⟨b, off, rfl, hb, c0, c1⟩ := HC.out k hlt
          rw [← hbel.cell (p := ⟨b, off + k * 2, none⟩) hb] at c0
          rw [← hbel.cell (p := ⟨b, off + k * 2 + 1, none⟩) hb] at c1
          obtain ⟨x, hx⟩ : ∃ x, x = (ps.getD k (0, 0)).1 := ⟨_, rfl⟩
          obtain ⟨y, hy⟩ : ∃ y, y = (ps.getD k (0, 0)).2 := ⟨_, rfl⟩
          rw [← hx] at c0
          rw [← hy] at c1
          have HP := hideG (show ps.getD k (0, 0) = (x, y) by rw [hx, hy])
          clear hx hy hbel
          cases q1 : Num.clB x
          · clear hseen
            have H := hideG (ptsB_bad1 ps k (by rw [HN.out]; exact hlt) (by rw [HP.out]; show (Num.clB x && Num.elB y) = false; rw [q1]; rfl))
            go_wp2_with fail
            refine (client_calls _ _).mono ?_
            rintro e w' ⟨rfl, rfl⟩
            go_wp2_with fail
            go_ret
            exact ⟨congrArg (fun x => Ending.returned (.bool x)) H.out.symm, HB.out.alloc (by omega) _⟩
          · cases q2 : Num.elB y
            · clear hseen
              have H := hideG (ptsB_bad1 ps k (by rw [HN.out]; exact hlt) (by rw [HP.out]; show (Num.clB x && Num.elB y) = false; rw [q1, q2]; rfl))
              go_wp2_with fail
              refine (client_calls _ _).mono ?_
              rintro e w' ⟨rfl, rfl⟩
              go_wp2_with fail
              refine (element_calls _ _).mono ?_
              rintro e w' ⟨rfl, rfl⟩
              go_wp2_with fail
              go_ret
              exact ⟨congrArg (fun x => Ending.returned (.bool x)) H.out.symm, HB.out.alloc (by omega) _⟩
            · obtain ⟨x1, x2⟩ := Num.clB_iff.1 q1
              obtain ⟨s1, s2⟩ := hseen.cell x (by omega) x2
              have hok : okP (ps.getD k (0, 0)) = true := by rw [HP.out]; show (Num.clB x && Num.elB y) = true; rw [q1, q2]; rfl
              have HK := hideG hok
              clear hseen hok
              cases q3 : decide (x ∈ Lag.xs (ps.take k))
              · rw [q3] at s1
                have HX := hideG (of_decide_eq_false q3)
                clear q3
                go_wp2_with fail
                refine (client_calls _ _).mono ?_
                rintro e w' ⟨rfl, rfl⟩
                go_wp2_with fail
                refine (element_calls _ _).mono ?_
                rintro e w' ⟨rfl, rfl⟩
                go_wp2_with fail
                go_roundw
                case rel =>
                  have e := pget ps k (by rw [HN.out]; exact hlt)
                  have ex : Lag.xs (ps.take (k + 1)) = Lag.xs (ps.take k) ++ [x] := by rw [e, Lag.xs_append, HP.out]; rfl
                  refine ⟨k + 1, by omega, by go_num, ?_, ?_, ?_, (HB.out.setCell (p := ⟨w.heap.size, x.toNat, none⟩) (Nat.le_refl _) _).alloc (by simp [World.setCell]; omega) _, by simp [World.setCell]; omega⟩
                  · rw [ex]; exact (HS.out.set x (by omega) x2).alloc (by simp [World.setCell]; omega) _
                  · rw [e, List.all_append, HA.out, Bool.true_and, List.all_cons, List.all_nil, Bool.and_true]; exact HK.out
                  · rw [ex, List.nodup_append]
                    refine ⟨HD.out, by simp, fun u hu z hz e => ?_⟩
                    simp at hz; subst hz; subst e; exact HX.out hu
                case measure => simp [intOf]; omega
              · rw [q3] at s1
                have H := hideG (ptsB_bad2 ps k (by rw [HN.out]; exact hlt) (by rw [HP.out]; exact of_decide_eq_true q3))
                clear q3
                go_wp2_with fail
                refine (client_calls _ _).mono ?_
                rintro e w' ⟨rfl, rfl⟩
                go_wp2_with fail
                refine (element_calls _ _).mono ?_
                rintro e w' ⟨rfl, rfl⟩
                go_wp2_with fail
                go_ret
                exact ⟨congrArg (fun x => Ending.returned (.bool x)) H.out.symm, HB.out.alloc (by omega) _⟩
        · have ek : k = n := by omega
          subst ek
          clear hseen hbel
          have et : ps.take k = ps := List.take_of_length_le (by rw [HN.out]; exact Nat.le_refl _)
          have H := hideG (ptsB_done ps (by rw [HN.out]; omega) (by rw [HN.out]; omega) (by have := HA.out; rw [et] at this; exact this) (by have := HD.out; rw [et] at this; exact this))
          clear et
          go_wp2_with fail
          go_ret
          exact ⟨congrArg (fun x => Ending.returned (.bool x)) H.out.symm, HB.out⟩

end Go.Proofs.Ytchideljndagjaa
