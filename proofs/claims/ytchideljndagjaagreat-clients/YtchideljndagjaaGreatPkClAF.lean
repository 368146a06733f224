/- Contracts of veilref's client: the Ids of a frame, an item of it. -/
import Derived.Test.YtchideljndagjaaGreatPkClAC
import Derived.Test.YtchideljndagjaaGreatPkClAE
import Derived.WalkSpells
import Derived.Test.YtchideljndagjaaGreatRows
import Derived.Test.YtchideljndagjaaGreatPkClAA
import Derived.WalkKit
import Derived.ProofKit
import Derived.OpenShut
namespace Go.Proofs.YtchideljndagjaaGreat
open Go.ChangeShapes Go.WideShapes Go.ChangeAt Go.RowKit
set_option linter.unusedVariables false

def rsetV (f : Nat → Bool) : Value := .agg (bl13 f).toArray
theorem size_b13 : (Tryz.prog.info? 127).map (·.size) = some 13 := by kernel_rfl
theorem size_item4 : (Tryz.prog.info? 142).map (·.size) = some 4 := by kernel_rfl

set_option maxHeartbeats 2000000 in
set_option maxRecDepth 100000 in
theorem rids_calls (k fr : Int) (v : Value) (l : List Frm.It) (w : World) (hl : ItemsAt w v l) (hr : Frm.riseB l = true) :
    Calls Tryz.prog 230 #[.agg #[.int .i64 k, .int .i64 fr, v]] w fun e w' => e = .returned (rsetV fun u : Nat => Cli.hasI l u) ∧ Below w.heap.size w w' := by
  obtain ⟨a, cap, rfl, l2, l3, _, hcl⟩ := items_view hl
  have HC := hideG hcl
  have HI := hideG (fun j (hj : j < l.length) => (Cli.rise_pair hr).2 (Frm.it l j) (by rw [Cli.it_get l j hj]; exact List.getElem_mem hj))
  have HUP := hideG (has_upd l)
  clear hl hr hcl
  obtain ⟨n, hn⟩ : ∃ n, n = l.length := ⟨_, rfl⟩
  rw [← hn] at l2 HC HI HUP ⊢
  have HTT := hideG (show l.take n = l by rw [hn, List.take_length])
  clear hn
  unfold rsetV
  go_enter Tryz.func230, Tryz.ntmps230
  go_wp2_with fail
  go_loopw [4] (fun i wr => ∃ j : Nat, j ≤ n ∧ i = .int .i64 j ∧ wr.cell? ⟨w.heap.size, 2, none⟩ = some (.slice a n cap) ∧ BoolsAt wr (w.heap.size + 2) 127 (fun v : Nat => Cli.hasI (l.take j) v) ∧ BoolsAt wr (w.heap.size + 1) 127 (fun _ => false) ∧ Below w.heap.size w wr) (fun i _ => n - (intOf i).toNat)
  case atStart =>
    refine ⟨0, Nat.zero_le _, rfl, ?_, ?_, ?_, (((Below.refl _ _).alloc (Nat.le_refl _) _).alloc (by simp) _).alloc (by simp; omega) _⟩
    · have k1 : Below (w.heap.size + 1) (w.alloc (.cells #[.int .i64 k, .int .i64 fr, .slice a n cap] 40)) (((w.alloc (.cells #[.int .i64 k, .int .i64 fr, .slice a n cap] 40)).alloc (.cells (bl13 fun _ => false).toArray 127)).alloc (.cells (bl13 fun _ => false).toArray 127)) := ((Below.refl _ _).alloc (by simp) _).alloc (by simp) _
      refine (k1.cell (p := ⟨w.heap.size, 2, none⟩) (by show w.heap.size < _; omega)).trans ?_
      simp
    · have e : (fun v : Nat => Cli.hasI (l.take 0) v) = fun _ => false := by funext v; simp [Cli.hasI]
      rw [e]
      have := heap_alloc2_new (w.alloc (.cells #[.int .i64 k, .int .i64 fr, .slice a n cap] 40)) (.cells (bl13 fun _ => false).toArray 127) (.cells (bl13 fun _ => false).toArray 127)
      simp only [World.size_alloc] at this
      exact this
    · have := heap_alloc2_old (w.alloc (.cells #[.int .i64 k, .int .i64 fr, .slice a n cap] 40)) (.cells (bl13 fun _ => false).toArray 127) (.cells (bl13 fun _ => false).toArray 127)
      simp only [World.size_alloc] at this
      exact this
  case round =>
    obtain ⟨j, hj, rfl, hc2, hbo, hze, hbel⟩ := hrel
    have HBO := hideG hbo
    have HZE := hideG hze
    have HB := hideG hbel
    have hsz := hbel.size
    have hs1 := hbo.lt
    clear hbo hbel hze
    by_cases hlt : j < n
    · obtain ⟨b', off, rfl, hb, hit⟩ := HC.out j hlt
      obtain ⟨d0, d1, d2, d3⟩ := hit.below hb HB.out
      obtain ⟨u, hu⟩ : ∃ u : Nat, (Frm.it l j).1 = (u : Int) := ⟨(Frm.it l j).1.toNat, by have := HI.out j hlt; omega⟩
      have hub := HI.out j hlt
      rw [hu] at hub d0
      have u13 : u < 13 := by omega
      have u13' : (u : Int) < 13 := by omega
      obtain ⟨ub1, ub2⟩ := hub
      have HU2 := hideG (HUP.out j hlt u hu)
      have z0 := HBO.out.cell u u13
      have zf := HBO.out.froz u
      have hne : (⟨w.heap.size + 2, u, none⟩ : Addr) ≠ ⟨w.heap.size, 2, none⟩ := by simp
      clear hit hu
      generalize (Frm.it l j).2.1 = xa at *
      generalize (Frm.it l j).2.2.1 = xb at *
      generalize (Frm.it l j).2.2.2 = xc at *
      have HC2 := hideG hc2
      go_wp2_with fail
      go_roundw
      case rel =>
        refine ⟨j + 1, by omega, by go_num, ?_, ?_, ?_, HB.out.setCell (p := ⟨w.heap.size + 2, u, none⟩) (by show w.heap.size ≤ w.heap.size + 2; omega) _⟩
        · rw [World.cell?_setCell_other _ _ _ _ hne]; exact HC2.out
        · rw [HU2.out]; exact HBO.out.set u u13 true
        · exact HZE.out.block (Below.heap_setCell _ _ _ _ (by simp))
      case measure => simp [intOf]; omega
    · have ej : j = n := by omega
      subst ej
      have HST := hideG (show BoolsAt wr (w.heap.size + 2) 127 (fun v : Nat => Cli.hasI l v) by have := HBO.out; rwa [HTT.out] at this)
      have RG := hideG HST.out.range
      have LX := hideG (bl13_length (fun v : Nat => Cli.hasI l v))
      have HON := hideG (all_oneCell_toArray (bl13_one (fun v : Nat => Cli.hasI l v)))
      have HTH := hideG (show wr.there (w.heap.size + 1) 0 (bl13 (fun v : Nat => Cli.hasI l v)).toArray.size from fun i hi => by
        rw [List.size_toArray, bl13_length] at hi
        exact ⟨by rw [Nat.zero_add, HZE.out.cell i hi]; rfl, by rw [Nat.zero_add]; exact HZE.out.froz i⟩)
      have HROW := hideG (show (wr.setCells (w.heap.size + 1) 0 (bl13 (fun v : Nat => Cli.hasI l v))).heap[w.heap.size + 1]? = some (.cells (bl13 (fun v : Nat => Cli.hasI l v)).toArray 127 (0, 0)) by
        have := heap_setCells (w.heap.size + 1) 127 (bl13 (fun v : Nat => Cli.hasI l v)) [] (bl13 fun _ => false) [] wr rfl (by rw [List.append_nil]; exact HZE.out)
        rw [List.append_nil] at this
        exact this)
      have BF := hideG (show Below w.heap.size w (wr.setCells (w.heap.size + 1) 0 (bl13 (fun v : Nat => Cli.hasI l v))) from below_setCells (by omega) _ _ _ HB.out)
      obtain ⟨CS, hCS⟩ : ∃ CS, CS = bl13 (fun v : Nat => Cli.hasI l v) := ⟨_, rfl⟩
      rw [← hCS] at RG LX HON HTH HROW BF
      have HCS := hideG hCS
      clear hCS
      have HSZ := hideG (show (Tryz.prog.info? 127).map (·.size) = some CS.toArray.size by rw [size_b13, List.size_toArray, LX.out])
      have HSL := hideG (show (Tryz.prog.info? 127).map (·.size) = some CS.length by rw [size_b13, LX.out])
      go_wp2_with (first | refine wpList_load_mid rfl 127 _ rfl (w.heap.size + 2) 0 rfl CS _ RG.out Tryz.underlying127 rfl HSL.out ?_ | refine wpList_store_mid rfl 127 _ _ rfl (w.heap.size + 1) 0 CS.toArray rfl rfl HTH.out HSZ.out HON.out ?_)
      refine bodyPost_ret (results_cell_row rfl _ _ (w.heap.size + 1) 127 CS.toArray (0, 0) _ rfl HROW.out Tryz.underlying127 rfl HSZ.out) rfl ?_
      exact ⟨by rw [HCS.out], BF.out⟩

set_option maxHeartbeats 2000000 in
set_option maxRecDepth 100000 in
theorem ritem_calls (k fr : Int) (v : Value) (l : List Frm.It) (u : Int) (w : World) (hl : ItemsAt w v l) :
    Calls Tryz.prog 228 #[.agg #[.int .i64 k, .int .i64 fr, v], .int .i64 u] w fun e w' => e = .returned (.agg #[.int .i64 (Cli.itemOf l u).1, .int .i64 (Cli.itemOf l u).2.1, .int .i64 (Cli.itemOf l u).2.2.1, .int .i64 (Cli.itemOf l u).2.2.2]) ∧ Below w.heap.size w w' := by
  obtain ⟨a, cap, rfl, l2, l3, _, hcl⟩ := items_view hl
  have HC := hideG hcl
  have HF := hideG (show ∀ j, (∀ i, i < j → (Frm.it l i).1 ≠ u) → j < l.length → (Frm.it l j).1 = u → Cli.itemOf l u = Frm.it l j from fun j hj hlt e => by
    unfold Cli.itemOf
    have hs : l = l.take j ++ (l[j] :: l.drop (j + 1)) := by rw [List.getElem_cons_drop, List.take_append_drop]
    have hnone : (l.take j).find? (fun x => decide (x.1 = u)) = none := by
      rw [List.find?_eq_none]
      intro x hx
      obtain ⟨i, hi, rfl⟩ := List.getElem_of_mem hx
      rw [List.length_take] at hi
      rw [List.getElem_take]
      have := hj i (by omega)
      rw [Cli.it_get l i (by omega)] at this
      simpa using this
    rw [Cli.it_get l j hlt] at e
    rw [Cli.it_get l j hlt]
    conv => lhs; rw [hs]
    rw [List.find?_append, hnone, List.find?_cons, decide_eq_true e]
    rfl)
  have HN := hideG (show (∀ i, i < l.length → (Frm.it l i).1 ≠ u) → Cli.itemOf l u = (0, 0, 0, 0) from fun h => Cli.itemOf_none (Cli.hasI_off.2 fun x hx => by
    obtain ⟨i, hi, rfl⟩ := List.getElem_of_mem hx
    have := h i hi
    rwa [Cli.it_get l i hi] at this))
  clear hl hcl
  generalize l.length = n at *
  obtain ⟨W0, hW0⟩ : ∃ W0, W0 = (w.alloc (.cells #[.int .i64 k, .int .i64 fr, .slice a n cap] 40)).alloc (.cells #[.int .i64 0, .int .i64 0, .int .i64 0, .int .i64 0] 142) := ⟨_, rfl⟩
  have B0 := hideG (show Below w.heap.size w W0 by rw [hW0]; exact ((Below.refl _ _).alloc (Nat.le_refl _) _).alloc (by simp) _)
  have x2 : W0.cell? ⟨w.heap.size, 2, none⟩ = some (.slice a n cap) := by rw [hW0]; simp
  have HROW0 := hideG (show W0.heap[w.heap.size + 1]? = some (.cells #[.int .i64 0, .int .i64 0, .int .i64 0, .int .i64 0] 142 (0, 0)) by rw [hW0]; exact heap_alloc2_new w _ _)
  have y : (W0.cell? ⟨w.heap.size + 1, 0, none⟩ = some (.int .i64 0) ∧ W0.cell? ⟨w.heap.size + 1, 1, none⟩ = some (.int .i64 0) ∧ W0.cell? ⟨w.heap.size + 1, 2, none⟩ = some (.int .i64 0) ∧ W0.cell? ⟨w.heap.size + 1, 3, none⟩ = some (.int .i64 0)) := by rw [hW0]; refine ⟨?_, ?_, ?_, ?_⟩ <;> simp
  have yf := fun i => frozen_of_row W0 (w.heap.size + 1) i _ _ HROW0.out
  obtain ⟨y0, y1, y2, y3⟩ := y
  have HW0 := hideG hW0
  clear hW0
  have HEND := hideG (fun (p q r s : Int) => (show (((((W0.setCell ⟨w.heap.size + 1, 0, none⟩ (.int .i64 p)).setCell ⟨w.heap.size + 1, 1, none⟩ (.int .i64 q)).setCell ⟨w.heap.size + 1, 2, none⟩ (.int .i64 r)).setCell ⟨w.heap.size + 1, 3, none⟩ (.int .i64 s)).heap[w.heap.size + 1]? = some (.cells #[.int .i64 p, .int .i64 q, .int .i64 r, .int .i64 s] 142 (0, 0))) ∧ Below w.heap.size w ((((W0.setCell ⟨w.heap.size + 1, 0, none⟩ (.int .i64 p)).setCell ⟨w.heap.size + 1, 1, none⟩ (.int .i64 q)).setCell ⟨w.heap.size + 1, 2, none⟩ (.int .i64 r)).setCell ⟨w.heap.size + 1, 3, none⟩ (.int .i64 s)) from
    ⟨heap_setCell_same _ _ 3 #[.int .i64 p, .int .i64 q, .int .i64 r, .int .i64 0] _ _ (heap_setCell_same _ _ 2 #[.int .i64 p, .int .i64 q, .int .i64 0, .int .i64 0] _ _ (heap_setCell_same _ _ 1 #[.int .i64 p, .int .i64 0, .int .i64 0, .int .i64 0] _ _ (heap_setCell_same _ _ 0 _ _ _ HROW0.out))),
     (((B0.out.setCell (p := ⟨w.heap.size + 1, 0, none⟩) (Nat.le_succ _) _).setCell (p := ⟨w.heap.size + 1, 1, none⟩) (Nat.le_succ _) _).setCell (p := ⟨w.heap.size + 1, 2, none⟩) (Nat.le_succ _) _).setCell (p := ⟨w.heap.size + 1, 3, none⟩) (Nat.le_succ _) _⟩))
  go_enter Tryz.func228, Tryz.ntmps228
  go_wp2_with fail
  rw [← HW0.out]
  go_loop [5] (fun i => ∃ j : Nat, j ≤ n ∧ i = .int .i64 j ∧ ∀ i', i' < j → (Frm.it l i').1 ≠ u) (fun i => n - (intOf i).toNat)
  case atStart => exact ⟨0, Nat.zero_le _, rfl, fun i h => by omega⟩
  case round =>
    obtain ⟨j, hj, rfl, hall⟩ := hrel
    have HA := hideG hall
    clear hall
    by_cases hlt : j < n
    · obtain ⟨b', off, rfl, hb, hit⟩ := HC.out j hlt
      obtain ⟨d0, d1, d2, d3⟩ := hit.below hb B0.out
      clear hit
      have HFJ := hideG (HF.out j HA.out hlt)
      obtain ⟨z0, z1, z2, z3, hz⟩ : ∃ z0 z1 z2 z3, Frm.it l j = (z0, z1, z2, z3) := ⟨_, _, _, _, rfl⟩
      rw [hz] at d0 d1 d2 d3 HFJ
      have HZ := hideG hz
      clear hz
      by_cases q : z0 = u
      · have q' : (z0 == u) = true := by simpa using q
        have HI := hideG (HFJ.out q)
        have HQ := hideG q
        clear q
        obtain ⟨E1, E2⟩ := HEND.out z0 z1 z2 z3
        obtain ⟨W2, hW2⟩ : ∃ W2, W2 = ((((W0.setCell ⟨w.heap.size + 1, 0, none⟩ (.int .i64 z0)).setCell ⟨w.heap.size + 1, 1, none⟩ (.int .i64 z1)).setCell ⟨w.heap.size + 1, 2, none⟩ (.int .i64 z2)).setCell ⟨w.heap.size + 1, 3, none⟩ (.int .i64 z3)) := ⟨_, rfl⟩
        rw [← hW2] at E1 E2
        have HE1 := hideG E1
        have HE2 := hideG E2
        have HW2 := hideG hW2
        clear E1 E2 hW2
        go_wp2_with fail
        rw [← HW2.out]
        refine bodyPost_ret (results_cell_row rfl _ _ (w.heap.size + 1) 142 #[.int .i64 z0, .int .i64 z1, .int .i64 z2, .int .i64 z3] (0, 0) _ rfl HE1.out Tryz.underlying142 rfl size_item4) rfl ?_
        exact ⟨by rw [HI.out], HE2.out⟩
      · have q' : (z0 == u) = false := by simpa using q
        have HQ := hideG q
        clear q
        go_wp2_with fail
        go_round
        case rel => exact ⟨j + 1, by omega, by go_num, fun i' h => by
          by_cases e : i' = j
          · subst e; rw [HZ.out]; exact HQ.out
          · exact HA.out i' (by omega)⟩
        case measure => simp [intOf]; omega
    · have ej : j = n := by omega
      subst ej
      have HI := hideG (HN.out HA.out)
      obtain ⟨E1, E2⟩ := HEND.out 0 0 0 0
      obtain ⟨W2, hW2⟩ : ∃ W2, W2 = ((((W0.setCell ⟨w.heap.size + 1, 0, none⟩ (.int .i64 0)).setCell ⟨w.heap.size + 1, 1, none⟩ (.int .i64 0)).setCell ⟨w.heap.size + 1, 2, none⟩ (.int .i64 0)).setCell ⟨w.heap.size + 1, 3, none⟩ (.int .i64 0)) := ⟨_, rfl⟩
      rw [← hW2] at E1 E2
      have HE1 := hideG E1
      have HE2 := hideG E2
      have HW2 := hideG hW2
      clear E1 E2 hW2
      go_wp2_with fail
      rw [← HW2.out]
      refine bodyPost_ret (results_cell_row rfl _ _ (w.heap.size + 1) 142 #[.int .i64 0, .int .i64 0, .int .i64 0, .int .i64 0] (0, 0) _ rfl HE1.out Tryz.underlying142 rfl size_item4) rfl ?_
      exact ⟨by rw [HI.out], HE2.out⟩

end Go.Proofs.YtchideljndagjaaGreat

namespace Go.Proofs.YtchideljndagjaaGreat
open Go.ChangeShapes Go.WideShapes Go.ChangeAt Go.RowKit

theorem hideH {p : Prop} (h : p) : Hid p := h

theorem rplus_calls (a b : Int) (w : World) (ha : 0 ≤ a) (ha' : a < 2305843009213693951) (hb : 0 ≤ b) (hb' : b < 2305843009213693951) :
    Calls Tryz.prog 136 #[.int .i64 a, .int .i64 b] w fun e w' => e = .returned (.int .i64 (Num.addP a b)) ∧ w' = w := by
  by_cases h : a + b < 2305843009213693951
  · have H : Hid (a + b = Num.addP a b) := by show _ = (a + b) % 2305843009213693951; omega
    go_enter Tryz.func136, Tryz.ntmps136
    go_wp2
    go_ret
    exact ⟨congrArg (fun x => Ending.returned (.int .i64 x)) H.out, rfl⟩
  · have H : Hid (a + b - 2305843009213693951 = Num.addP a b) := by show _ = (a + b) % 2305843009213693951; omega
    go_enter Tryz.func136, Tryz.ntmps136
    go_wp2
    go_ret
    exact ⟨congrArg (fun x => Ending.returned (.int .i64 x)) H.out, rfl⟩

theorem rless_calls (a b : Int) (w : World) (ha : 0 ≤ a) (ha' : a < 2305843009213693951) (hb : 0 ≤ b) (hb' : b < 2305843009213693951) :
    Calls Tryz.prog 142 #[.int .i64 a, .int .i64 b] w fun e w' => e = .returned (.int .i64 (Num.subP a b)) ∧ w' = w := by
  by_cases h : a < b
  · have H : Hid (a + 2305843009213693951 - b = Num.subP a b) := by show _ = (a - b + 2305843009213693951) % 2305843009213693951; omega
    go_enter Tryz.func142, Tryz.ntmps142
    go_wp2
    go_ret
    exact ⟨congrArg (fun x => Ending.returned (.int .i64 x)) H.out, rfl⟩
  · have H : Hid (a - b = Num.subP a b) := by show _ = (a - b + 2305843009213693951) % 2305843009213693951; omega
    go_enter Tryz.func142, Tryz.ntmps142
    go_wp2
    go_ret
    exact ⟨congrArg (fun x => Ending.returned (.int .i64 x)) H.out, rfl⟩

set_option maxHeartbeats 400000 in
theorem product_calls (a b : Int) (w : World) (ha : 0 ≤ a) (ha' : a < 2305843009213693951) (hb : 0 ≤ b) (hb' : b < 2305843009213693951) :
    Calls Tryz.prog 77 #[.int .i64 a, .int .i64 b] w fun e w' => e = .returned (.int .i64 (Num.mulP a b)) ∧ w' = w := by
  go_enter Tryz.func77, Tryz.ntmps77
  go_wp2
  go_loop [5, 6] (fun r i => ∃ ii rr : Int, -1 ≤ ii ∧ ii ≤ 60 ∧ i = .int .i64 ii ∧ r = .int .i64 rr ∧ rr = Num.mulP a (b / 2 ^ (ii + 1).toNat)) (fun _ i => (intOf i + 1).toNat)
  case atStart => exact ⟨60, 0, by omega, by omega, rfl, rfl, Num.bit_first a b 61 hb (by omega)⟩
  case round =>
    obtain ⟨ii, rr, hn, hn', rfl, rfl, hr⟩ := hrel
    have r1 : 0 ≤ rr := by rw [hr]; exact Num.mulP_lo _ _
    have r2 : rr < 2305843009213693951 := by rw [hr]; exact Num.mulP_hi _ _
    by_cases h : 0 ≤ ii
    · have HR : Hid (rr = Num.mulP a (b / 2 ^ (ii.toNat + 1))) := by rw [show ii.toNat + 1 = (ii + 1).toNat by omega]; exact hr
      clear hr
      have e1 : (ii - 1 + 1).toNat = ii.toNat := by omega
      have E1 : Hid ((ii - 1 + 1).toNat = ii.toNat) := e1
      clear e1
      go_wp2_with fail
      refine (rplus_calls _ _ _ r1 r2 r1 r2).mono ?_
      rintro e w' ⟨rfl, rfl⟩
      cases ht : ((b / 2 ^ ii.toNat).tmod 2 == 1)
      · go_wp2_with fail
        go_round
        case rel => exact ⟨ii - 1, _, by omega, by omega, rfl, rfl, by rw [E1.out]; exact Num.bit_even a b rr _ hb HR.out ht⟩
        case measure => simp [intOf]; omega
      · go_wp2_with fail
        refine (rplus_calls _ _ _ (Num.addP_lo _ _) (Num.addP_hi _ _) ha ha').mono ?_
        rintro e w' ⟨rfl, rfl⟩
        go_wp2_with fail
        go_round
        case rel => exact ⟨ii - 1, _, by omega, by omega, rfl, rfl, by rw [E1.out]; exact Num.bit_odd a b rr _ hb HR.out ht⟩
        case measure => simp [intOf]; omega
    · have HR : Hid (rr = Num.mulP a b) := by
        show rr = Num.mulP a b
        rw [hr, show (ii + 1).toNat = 0 by omega]; exact Num.bit_last a b
      clear hr
      go_wp2
      go_ret
      exact ⟨congrArg (fun x => Ending.returned (.int .i64 x)) HR.out, rfl⟩

theorem raised_calls (a : Int) (ha : 0 ≤ a) (ha' : a < 2305843009213693951) : ∀ (n : Nat) (k : Int) (w : World), k.toNat ≤ n → k ≤ 9223372036854775807 →
    Calls Tryz.prog 79 #[.int .i64 a, .int .i64 k] w fun e w' => e = .returned (.int .i64 (Num.powP a k)) ∧ w' = w := by
  intro n
  induction n with
  | zero =>
    intro k w hk hk'
    have hp : k ≤ 0 := by omega
    have H : Hid (1 = Num.powP a k) := by show 1 = Num.powP a k; exact (Num.pow_neg a k hp).symm
    go_enter Tryz.func79, Tryz.ntmps79
    go_wp2_with fail
    go_ret
    exact ⟨congrArg (fun x => Ending.returned (.int .i64 x)) H.out, rfl⟩
  | succ n ih =>
    intro k w hk hk'
    have IH : Hid _ := hideH ih
    clear ih
    by_cases hp : k ≤ 0
    · have H : Hid (1 = Num.powP a k) := by show 1 = Num.powP a k; exact (Num.pow_neg a k hp).symm
      go_enter Tryz.func79, Tryz.ntmps79
      go_wp2_with fail
      go_ret
      exact ⟨congrArg (fun x => Ending.returned (.int .i64 x)) H.out, rfl⟩
    · cases ho : (k % 2 == 1)
      · have H : Hid (Num.mulP (Num.powP a (k / 2)) (Num.powP a (k / 2)) = Num.powP a k) := Num.pow_even a k (by omega) ho
        go_enter Tryz.func79, Tryz.ntmps79
        go_wp2_with fail
        refine (IH.out _ _ (by omega) (by omega)).mono ?_
        rintro e w' ⟨rfl, rfl⟩
        go_wp2_with fail
        refine (product_calls _ _ _ (Num.powP_lo _ _) (Num.powP_hi _ _) (Num.powP_lo _ _) (Num.powP_hi _ _)).mono ?_
        rintro e w' ⟨rfl, rfl⟩
        go_wp2_with fail
        go_ret
        exact ⟨congrArg (fun x => Ending.returned (.int .i64 x)) H.out, rfl⟩
      · have H : Hid (Num.mulP (Num.mulP (Num.powP a (k / 2)) (Num.powP a (k / 2))) a = Num.powP a k) := Num.pow_odd a k (by omega) ho
        go_enter Tryz.func79, Tryz.ntmps79
        go_wp2_with fail
        refine (IH.out _ _ (by omega) (by omega)).mono ?_
        rintro e w' ⟨rfl, rfl⟩
        go_wp2_with fail
        refine (product_calls _ _ _ (Num.powP_lo _ _) (Num.powP_hi _ _) (Num.powP_lo _ _) (Num.powP_hi _ _)).mono ?_
        rintro e w' ⟨rfl, rfl⟩
        go_wp2_with fail
        refine (product_calls _ _ _ (Num.mulP_lo _ _) (Num.mulP_hi _ _) ha ha').mono ?_
        rintro e w' ⟨rfl, rfl⟩
        go_wp2_with fail
        go_ret
        exact ⟨congrArg (fun x => Ending.returned (.int .i64 x)) H.out, rfl⟩

theorem relement_calls (a : Int) (w : World) :
    Calls Tryz.prog 76 #[.int .i64 a] w fun e w' => e = .returned (.bool (Num.elB a)) ∧ w' = w := by
  by_cases h : 0 ≤ a
  · by_cases h' : a < 2305843009213693951
    · have H : Hid (Num.elB a = true) := Num.elB_yes h h'
      go_enter Tryz.func76, Tryz.ntmps76
      go_wp2
      go_ret
      exact ⟨congrArg (fun x => Ending.returned (.bool x)) H.out.symm, rfl⟩
    · have H : Hid (Num.elB a = false) := Num.elB_no (fun x => h' x.2)
      go_enter Tryz.func76, Tryz.ntmps76
      go_wp2
      go_ret
      exact ⟨congrArg (fun x => Ending.returned (.bool x)) H.out.symm, rfl⟩
  · have H : Hid (Num.elB a = false) := Num.elB_no (fun x => h x.1)
    go_enter Tryz.func76, Tryz.ntmps76
    go_wp2
    go_ret
    exact ⟨congrArg (fun x => Ending.returned (.bool x)) H.out.symm, rfl⟩

theorem rparty_calls (a : Int) (w : World) :
    Calls Tryz.prog 146 #[.int .i64 a] w fun e w' => e = .returned (.bool (Num.clB a)) ∧ w' = w := by
  by_cases h : 1 ≤ a
  · by_cases h' : a ≤ 12
    · have H : Hid (Num.clB a = true) := Num.clB_yes h h'
      go_enter Tryz.func146, Tryz.ntmps146
      go_wp2
      go_ret
      exact ⟨congrArg (fun x => Ending.returned (.bool x)) H.out.symm, rfl⟩
    · have H : Hid (Num.clB a = false) := Num.clB_no (fun x => h' x.2)
      go_enter Tryz.func146, Tryz.ntmps146
      go_wp2
      go_ret
      exact ⟨congrArg (fun x => Ending.returned (.bool x)) H.out.symm, rfl⟩
  · have H : Hid (Num.clB a = false) := Num.clB_no (fun x => h x.1)
    go_enter Tryz.func146, Tryz.ntmps146
    go_wp2
    go_ret
    exact ⟨congrArg (fun x => Ending.returned (.bool x)) H.out.symm, rfl⟩

end Go.Proofs.YtchideljndagjaaGreat

namespace Go.Proofs.YtchideljndagjaaGreat
open Go.ChangeShapes Go.WideShapes Go.ChangeAt Go.RowKit
set_option linter.unusedVariables false

/-- veilref's client: what lies in its block. -/
structure RS where
  c : Cli.Cl
  D : Int
  vi : Value
  vm : Value
  vs : Value
  hv : Value
  hi : Value
  ph : Int
  told : Value

def rcCells (s : RS) : List Value := [.int .i64 s.c.N, .int .i64 s.c.T, .int .i64 s.c.M, .int .i64 s.D, .int .i64 s.c.id, s.vi, .int .i64 s.c.ch, .int .i64 s.c.ms, .int .i64 s.c.sd, s.vm, s.vs, s.hv, s.hi, .int .i64 s.ph, s.told]
def RAt (w : World) (b : Nat) (s : RS) : Prop := w.heap[b]? = some (.cells (rcCells s).toArray 108 (0, 0))

theorem RAt.lt {w : World} {b : Nat} {s : RS} (h : RAt w b s) : b < w.heap.size := by
  by_cases hb : b < w.heap.size
  · exact hb
  · unfold RAt at h; rw [Array.getElem?_eq_none (by omega)] at h; cases h
theorem RAt.cell {w : World} {b : Nat} {s : RS} (h : RAt w b s) (i : Nat) : w.cell? ⟨b, i, none⟩ = (rcCells s)[i]? := by
  rw [cell_of_row w b i _ _ (0, 0) h]; simp
theorem RAt.froz {w : World} {b : Nat} {s : RS} (h : RAt w b s) (i : Nat) : w.frozen? ⟨b, i, none⟩ = false := frozen_of_row w b i _ _ h
theorem RAt.block {w w' : World} {b : Nat} {s : RS} (h : RAt w b s) (e : w'.heap[b]? = w.heap[b]?) : RAt w' b s := e.trans h
theorem RAt.below {w w' : World} {b : Nat} {s : RS} (h : RAt w b s) (hb : Below w.heap.size w w') : RAt w' b s := h.block (hb.block b h.lt)
theorem RAt.nums {w : World} {b : Nat} {s : RS} (h : RAt w b s) : w.cell? ⟨b, 0, none⟩ = some (.int .i64 s.c.N) ∧ w.cell? ⟨b, 1, none⟩ = some (.int .i64 s.c.T) ∧ w.cell? ⟨b, 2, none⟩ = some (.int .i64 s.c.M) ∧ w.cell? ⟨b, 4, none⟩ = some (.int .i64 s.c.id) ∧
    w.cell? ⟨b, 6, none⟩ = some (.int .i64 s.c.ch) ∧ w.cell? ⟨b, 7, none⟩ = some (.int .i64 s.c.ms) ∧ w.cell? ⟨b, 8, none⟩ = some (.int .i64 s.c.sd) :=
  ⟨h.cell 0, h.cell 1, h.cell 2, h.cell 4, h.cell 6, h.cell 7, h.cell 8⟩
theorem RAt.vals {w : World} {b : Nat} {s : RS} (h : RAt w b s) : w.cell? ⟨b, 5, none⟩ = some s.vi ∧ w.cell? ⟨b, 9, none⟩ = some s.vm ∧ w.cell? ⟨b, 10, none⟩ = some s.vs ∧ w.cell? ⟨b, 11, none⟩ = some s.hv ∧ w.cell? ⟨b, 13, none⟩ = some (.int .i64 s.ph) :=
  ⟨h.cell 5, h.cell 9, h.cell 10, h.cell 11, h.cell 13⟩

/-- Four cells, one after another, in a new block. -/
theorem item_store (W : World) (p q r s : Int) : ((((((W.alloc (.cells #[.int .i64 0, .int .i64 0, .int .i64 0, .int .i64 0] 142)).setCell ⟨W.heap.size, 0, none⟩ (.int .i64 p)).setCell ⟨W.heap.size, 1, none⟩ (.int .i64 q)).setCell ⟨W.heap.size, 2, none⟩ (.int .i64 r)).setCell ⟨W.heap.size, 3, none⟩ (.int .i64 s)).heap[W.heap.size]? = some (.cells #[.int .i64 p, .int .i64 q, .int .i64 r, .int .i64 s] 142 (0, 0))) ∧
    Below W.heap.size W (((((W.alloc (.cells #[.int .i64 0, .int .i64 0, .int .i64 0, .int .i64 0] 142)).setCell ⟨W.heap.size, 0, none⟩ (.int .i64 p)).setCell ⟨W.heap.size, 1, none⟩ (.int .i64 q)).setCell ⟨W.heap.size, 2, none⟩ (.int .i64 r)).setCell ⟨W.heap.size, 3, none⟩ (.int .i64 s)) := by
  refine ⟨heap_setCell_same _ _ 3 #[.int .i64 p, .int .i64 q, .int .i64 r, .int .i64 0] _ _ (heap_setCell_same _ _ 2 #[.int .i64 p, .int .i64 q, .int .i64 0, .int .i64 0] _ _ (heap_setCell_same _ _ 1 #[.int .i64 p, .int .i64 0, .int .i64 0, .int .i64 0] _ _ (heap_setCell_same _ _ 0 _ _ _ (heap_alloc_new _ _)))), ?_⟩
  exact ((((Below.refl _ _).alloc (Nat.le_refl _) _).setCell (p := ⟨W.heap.size, 0, none⟩) (Nat.le_refl _) _).setCell (p := ⟨W.heap.size, 1, none⟩) (Nat.le_refl _) _).setCell (p := ⟨W.heap.size, 2, none⟩) (Nat.le_refl _) _ |>.setCell (p := ⟨W.heap.size, 3, none⟩) (Nat.le_refl _) _

set_option maxHeartbeats 1000000 in
theorem rown_calls (b : Nat) (s : RS) (w : World) (h : RAt w b s) (h1 : 0 ≤ s.c.ch) (h2 : s.c.ch < 2305843009213693951) (h3 : 0 ≤ s.c.ms) (h4 : s.c.ms < 2305843009213693951) :
    Calls Tryz.prog 106 #[.pointer (some ⟨b, 0, none⟩)] w fun e w' => e = .returned (.agg #[.int .i64 s.c.id, .int .i64 (Cli.pubA s.c), .int .i64 (Cli.pubB s.c), .int .i64 0]) ∧ Below w.heap.size w w' := by
  have hbl := h.lt
  have HB0 := hideG ((Below.refl w.heap.size w).alloc (Nat.le_refl _) (.cells #[.int .i64 0, .int .i64 0, .int .i64 0, .int .i64 0] 142))
  obtain ⟨_, _, _, x4, x6, x7, _⟩ := (h.below HB0.out).nums
  have yf := fun i => frozen_of_row (w.alloc (.cells #[.int .i64 0, .int .i64 0, .int .i64 0, .int .i64 0] 142)) w.heap.size i _ _ (heap_alloc_new w _)
  have yc := fun i => cell_of_row (w.alloc (.cells #[.int .i64 0, .int .i64 0, .int .i64 0, .int .i64 0] 142)) w.heap.size i _ _ (0, 0) (heap_alloc_new w _)
  have y0 := yc 0
  have y1 := yc 1
  have y2 := yc 2
  have y3 := yc 3
  simp only [List.getElem?_toArray, List.getElem?_cons_zero, List.getElem?_cons_succ] at y0 y1 y2 y3
  have HP1 := hideG (raised_calls 37 (by omega) (by omega) s.c.ch.toNat s.c.ch)
  have HP2 := hideG (raised_calls 37 (by omega) (by omega) s.c.ms.toNat s.c.ms)
  have HE := hideG (item_store w s.c.id (Cli.pubA s.c) (Cli.pubB s.c) 0)
  have HPA := hideG (show Cli.pubA s.c = Num.powP 37 s.c.ch from rfl)
  have HPB := hideG (show Cli.pubB s.c = Num.powP 37 s.c.ms from rfl)
  rw [HPA.out, HPB.out] at HE
  obtain ⟨W0, hW0⟩ : ∃ W0, W0 = w.alloc (.cells #[.int .i64 0, .int .i64 0, .int .i64 0, .int .i64 0] 142) := ⟨_, rfl⟩
  rw [← hW0] at x4 x6 x7 yf y0 y1 y2 y3 HE
  have HW0 := hideG hW0
  have z0 : b < W0.heap.size := by rw [hW0]; simp; omega
  clear h yc hW0 HB0
  rw [HPA.out, HPB.out]
  generalize s.c.ch = ch at *
  generalize s.c.ms = ms at *
  generalize s.c.id = id at *
  clear HPA HPB
  generalize Num.powP 37 ch = pa at *
  generalize Num.powP 37 ms = pb at *
  go_enter Tryz.func106, Tryz.ntmps106
  go_upto_region 1 with fail
  rw [← HW0.out]
  go_wp2_with fail
  refine (HP1.out W0 (Nat.le_refl _) (by omega)).mono ?_
  rintro e w' ⟨rfl, hw'⟩
  rw [hw']
  clear hw'
  go_wp2_with fail
  refine (HP2.out W0 (Nat.le_refl _) (by omega)).mono ?_
  rintro e w' ⟨rfl, hw'⟩
  rw [hw']
  clear hw'
  obtain ⟨E1, E2⟩ := HE.out
  obtain ⟨W2, hW2⟩ : ∃ W2, W2 = ((((W0.setCell ⟨w.heap.size, 0, none⟩ (.int .i64 id)).setCell ⟨w.heap.size, 1, none⟩ (.int .i64 pa)).setCell ⟨w.heap.size, 2, none⟩ (.int .i64 pb)).setCell ⟨w.heap.size, 3, none⟩ (.int .i64 0)) := ⟨_, rfl⟩
  rw [← hW2] at E1 E2
  have HE1 := hideG E1
  have HE2 := hideG E2
  have HW2 := hideG hW2
  clear E1 E2 hW2 HE
  go_wp2_with fail
  rw [← HW2.out]
  refine bodyPost_ret (results_cell_row rfl _ _ w.heap.size 142 #[.int .i64 id, .int .i64 pa, .int .i64 pb, .int .i64 0] (0, 0) _ rfl HE1.out Tryz.underlying142 rfl size_item4) rfl ?_
  exact ⟨rfl, HE2.out⟩

theorem tmod_word (v : Int) : v.tmod 4294967296 = if 0 ≤ v then v % 4294967296 else -((-v) % 4294967296) := by
  by_cases h : 0 ≤ v
  · rw [if_pos h, Int.tmod_eq_emod_of_nonneg h]
  · rw [if_neg h, ← Int.tmod_eq_emod_of_nonneg (show 0 ≤ -v by omega), Int.neg_tmod, Int.neg_neg]

set_option maxHeartbeats 400000 in
theorem rmodulo_calls (v : Int) (w : World) (h1 : -4611686018427387904 ≤ v) (h2 : v ≤ 4611686018427387904) :
    Calls Tryz.prog 233 #[.int .i64 v] w fun e w' => e = .returned (.int .i64 (v % 4294967296)) ∧ w' = w := by
  have ht := tmod_word v
  by_cases q : v.tmod 4294967296 < 0
  · have HQ := hideG (show v.tmod 4294967296 + 4294967296 = v % 4294967296 by split at ht <;> omega)
    have b1 : -4294967296 < v.tmod 4294967296 := by split at ht <;> omega
    clear ht
    go_enter Tryz.func233, Tryz.ntmps233
    go_wp2_with fail
    go_ret
    exact ⟨by rw [← HQ.out]; go_num, rfl⟩
  · have HQ := hideG (show v.tmod 4294967296 = v % 4294967296 by split at ht <;> omega)
    clear ht
    go_enter Tryz.func233, Tryz.ntmps233
    go_wp2_with fail
    go_ret
    exact ⟨by rw [← HQ.out]; go_num, rfl⟩

def frH (h : List Cli.Fr) (j : Nat) : Cli.Fr := h.getD j (0, 0, [])
theorem frH_get (h : List Cli.Fr) (j : Nat) (hj : j < h.length) : frH h j = h[j] := by
  unfold frH; rw [List.getD_eq_getElem?_getD, List.getElem?_eq_getElem hj]; rfl

def FramesAt (w : World) (v : Value) (h : List Cli.Fr) : Prop :=
  ∃ (a : Option Addr) (cap : Nat), v = .slice a h.length cap ∧ h.length ≤ cap ∧ cap ≤ 9223372036854775807 ∧
    ∀ j, j < h.length → ∃ b off vj, a = some ⟨b, off, none⟩ ∧ b < w.heap.size ∧ w.cell? ⟨b, off + j * 3, none⟩ = some (.int .i64 (frH h j).1) ∧ w.cell? ⟨b, off + j * 3 + 1, none⟩ = some (.int .i64 (frH h j).2.1) ∧ w.cell? ⟨b, off + j * 3 + 2, none⟩ = some vj ∧ ItemsAt w vj (frH h j).2.2

theorem FramesAt.below {w w' : World} {v : Value} {h : List Cli.Fr} (hf : FramesAt w v h) (hb : Below w.heap.size w w') : FramesAt w' v h := by
  obtain ⟨a, cap, h1, h2, h3, h4⟩ := hf
  refine ⟨a, cap, h1, h2, h3, fun j hj => ?_⟩
  obtain ⟨b, off, vj, e1, e2, e3, e4, e5, e6⟩ := h4 j hj
  exact ⟨b, off, vj, e1, Nat.lt_of_lt_of_le e2 hb.size, (hb.cell (p := ⟨b, off + j * 3, none⟩) e2).trans e3, (hb.cell (p := ⟨b, off + j * 3 + 1, none⟩) e2).trans e4, (hb.cell (p := ⟨b, off + j * 3 + 2, none⟩) e2).trans e5, e6.below hb⟩

theorem after_drop (kd : Int) (h : List Cli.Fr) (k : Nat) (hk : k < h.length) : Cli.afterK kd (h.drop k) = if (frH h k).1 = kd then some (frH h k, h.drop (k + 1)) else Cli.afterK kd (h.drop (k + 1)) := by
  rw [List.drop_eq_getElem_cons hk, frH_get h k hk]; rfl

set_option maxHeartbeats 1000000 in
theorem rfirst_calls (b : Nat) (s : RS) (h : List Cli.Fr) (kd : Int) (fm : Nat) (w : World) (hr : RAt w b s) (hf : FramesAt w s.hv h) (hfm : fm ≤ h.length) :
    Calls Tryz.prog 170 #[.pointer (some ⟨b, 0, none⟩), .int .i64 kd, .int .i64 fm] w fun e w' =>
      ((e = .returned (.int .i64 (-1)) ∧ Cli.afterK kd (h.drop fm) = none) ∨ ∃ i : Nat, e = .returned (.int .i64 i) ∧ fm ≤ i ∧ i < h.length ∧ Cli.afterK kd (h.drop fm) = some (frH h i, h.drop (i + 1))) ∧ w' = w := by
  have hbl := hr.lt
  obtain ⟨a, cap, hv, c2, c3, hc⟩ := hf
  obtain ⟨_, _, _, x11, _⟩ := hr.vals
  rw [hv] at x11
  have HC := hideG hc
  have HD := hideG (fun k (hk : k < h.length) => after_drop kd h k hk)
  have HZ := hideG (show Cli.afterK kd (h.drop h.length) = none by rw [List.drop_length]; rfl)
  obtain ⟨n, hn⟩ : ∃ n, n = h.length := ⟨_, rfl⟩
  rw [← hn] at x11 c2 hfm HC HD HZ ⊢
  clear hc hn hr hv
  go_enter Tryz.func170, Tryz.ntmps170
  go_wp2_with fail
  go_loop [7] (fun i => ∃ k : Nat, k ≤ n ∧ fm ≤ k ∧ i = .int .i64 k ∧ Cli.afterK kd (h.drop fm) = Cli.afterK kd (h.drop k)) (fun i => n - (intOf i).toNat)
  case atStart => exact ⟨fm, hfm, Nat.le_refl _, rfl, rfl⟩
  case round =>
    obtain ⟨k, hk, hfk, rfl, hall⟩ := hrel
    have HA := hideG hall
    clear hall
    by_cases hlt : k < n
    · obtain ⟨b', off, vj, rfl, hb', d0, _, _, _⟩ := HC.out k hlt
      have HDK := hideG (HD.out k hlt)
      obtain ⟨z, hz⟩ : ∃ z, z = (frH h k).1 := ⟨_, rfl⟩
      rw [← hz] at d0 HDK
      clear hz
      by_cases q : z = kd
      · have q' : (z == kd) = true := by simpa using q
        have HI := hideG (show Cli.afterK kd (h.drop k) = some (frH h k, h.drop (k + 1)) by rw [HDK.out, if_pos q])
        clear q
        go_wp2_with fail
        go_ret
        exact ⟨.inr ⟨k, by go_num, hfk, hlt, HA.out.trans HI.out⟩, rfl⟩
      · have q' : (z == kd) = false := by simpa using q
        have HI := hideG (show Cli.afterK kd (h.drop k) = Cli.afterK kd (h.drop (k + 1)) by rw [HDK.out, if_neg q])
        clear q
        go_wp2_with fail
        go_round
        case rel => exact ⟨k + 1, by omega, by omega, by go_num, HA.out.trans HI.out⟩
        case measure => simp [intOf]; omega
    · have ek : k = n := by omega
      subst ek
      go_wp2_with fail
      go_ret
      exact ⟨.inl ⟨rfl, HA.out.trans HZ.out⟩, rfl⟩

end Go.Proofs.YtchideljndagjaaGreat

namespace Go.Proofs.YtchideljndagjaaGreat
open Go.ChangeShapes Go.WideShapes Go.ChangeAt Go.RowKit
set_option linter.unusedVariables false

set_option maxHeartbeats 1000000 in
theorem rchannel_calls (b : Nat) (s : RS) (k fr : Int) (v : Value) (l : List Frm.It) (u : Int) (w : World) (h : RAt w b s) (hl : ItemsAt w v l) (h1 : 0 ≤ s.c.ch) (h2 : s.c.ch < 2305843009213693951)
    (h3 : 0 ≤ (Cli.itemOf l u).2.1) (h4 : (Cli.itemOf l u).2.1 < 2305843009213693951) :
    Calls Tryz.prog 229 #[.pointer (some ⟨b, 0, none⟩), .agg #[.int .i64 k, .int .i64 fr, v], .int .i64 u] w fun e w' => e = .returned (.int .i64 (Cli.chKey s.c l u)) ∧ Below w.heap.size w w' := by
  have hbl := h.lt
  obtain ⟨W0, hW0⟩ : ∃ W0, W0 = w.alloc (.cells #[.int .i64 k, .int .i64 fr, v] 40) := ⟨_, rfl⟩
  have hb0 : Below w.heap.size w W0 := by rw [hW0]; exact (Below.refl _ _).alloc (Nat.le_refl _) _
  have z0 : w.heap.size < W0.heap.size := by rw [hW0]; simp
  have x : W0.cell? ⟨w.heap.size, 0, none⟩ = some (.int .i64 k) ∧ W0.cell? ⟨w.heap.size, 1, none⟩ = some (.int .i64 fr) ∧ W0.cell? ⟨w.heap.size, 2, none⟩ = some v := by rw [hW0]; refine ⟨?_, ?_, ?_⟩ <;> simp
  obtain ⟨x0, x1, x2⟩ := x
  have HI := hideG (ritem_calls k fr v l u W0 (hl.below hb0))
  have HR := hideG (h.below hb0)
  have HP := hideG (raised_calls (Cli.itemOf l u).2.1 h3 h4 s.c.ch.toNat s.c.ch)
  have HB0 := hideG hb0
  have HW0 := hideG hW0
  unfold Cli.chKey
  clear h hl hW0 hb0
  generalize Cli.itemOf l u = t at *
  obtain ⟨t0, t1, t2, t3⟩ := t
  simp only at h3 h4
  go_enter Tryz.func229, Tryz.ntmps229
  go_upto_region 1 with fail
  rw [← HW0.out]
  go_wp2_with fail
  refine HI.out.mono ?_
  rintro e w1 ⟨rfl, hb1⟩
  have s1 := hb1.size
  have E1 := heap_alloc_new w1 (.cells #[.int .i64 t0, .int .i64 t1, .int .i64 t2, .int .i64 t3] 142)
  have E2 := (Below.refl w1.heap.size w1).alloc (Nat.le_refl _) (.cells #[.int .i64 t0, .int .i64 t1, .int .i64 t2, .int .i64 t3] 142)
  have s2 : w1.heap.size < (w1.alloc (.cells #[.int .i64 t0, .int .i64 t1, .int .i64 t2, .int .i64 t3] 142)).heap.size := by simp
  obtain ⟨W2, hW2⟩ : ∃ W2, W2 = w1.alloc (.cells #[.int .i64 t0, .int .i64 t1, .int .i64 t2, .int .i64 t3] 142) := ⟨_, rfl⟩
  rw [← hW2] at E1 E2 s2
  have e1 := cell_of_row W2 w1.heap.size 1 _ _ (0, 0) E1
  simp only [List.getElem?_toArray, List.getElem?_cons_zero, List.getElem?_cons_succ] at e1
  have HR2 := hideG ((HR.out.below hb1).below E2)
  obtain ⟨_, _, _, _, x6, _, _⟩ := HR2.out.nums
  have HB2 := hideG (show Below w.heap.size w W2 from (HB0.out.trans (hb1.mono (by omega))).trans (E2.mono (by omega)))
  have HW2 := hideG hW2
  clear E1 E2 hW2 hb1
  go_upto_region 2 with fail
  rw [← HW2.out]
  go_quiet ((go_at_call 79; refine Calls.quiet_of_same (HP.out _ (Nat.le_refl _) (by omega))))
  go_wp2_with fail
  go_ret
  exact ⟨rfl, HB2.out.trans ((below_drewN W2 _).mono (by omega))⟩

set_option maxHeartbeats 1000000 in
theorem rmask_calls (b : Nat) (s : RS) (k fr : Int) (v : Value) (l : List Frm.It) (u : Int) (w : World) (h : RAt w b s) (hl : ItemsAt w v l) (h1 : 0 ≤ s.c.ms) (h2 : s.c.ms < 2305843009213693951)
    (h3 : 0 ≤ (Cli.itemOf l u).2.2.1) (h4 : (Cli.itemOf l u).2.2.1 < 2305843009213693951) :
    Calls Tryz.prog 232 #[.pointer (some ⟨b, 0, none⟩), .agg #[.int .i64 k, .int .i64 fr, v], .int .i64 u] w fun e w' => e = .returned (.int .i64 (Cli.mkKey s.c l u)) ∧ Below w.heap.size w w' := by
  have hbl := h.lt
  obtain ⟨W0, hW0⟩ : ∃ W0, W0 = w.alloc (.cells #[.int .i64 k, .int .i64 fr, v] 40) := ⟨_, rfl⟩
  have hb0 : Below w.heap.size w W0 := by rw [hW0]; exact (Below.refl _ _).alloc (Nat.le_refl _) _
  have z0 : w.heap.size < W0.heap.size := by rw [hW0]; simp
  have x : W0.cell? ⟨w.heap.size, 0, none⟩ = some (.int .i64 k) ∧ W0.cell? ⟨w.heap.size, 1, none⟩ = some (.int .i64 fr) ∧ W0.cell? ⟨w.heap.size, 2, none⟩ = some v := by rw [hW0]; refine ⟨?_, ?_, ?_⟩ <;> simp
  obtain ⟨x0, x1, x2⟩ := x
  have HI := hideG (ritem_calls k fr v l u W0 (hl.below hb0))
  have HR := hideG (h.below hb0)
  have HP := hideG (raised_calls (Cli.itemOf l u).2.2.1 h3 h4 s.c.ms.toNat s.c.ms)
  have HB0 := hideG hb0
  have HW0 := hideG hW0
  unfold Cli.mkKey
  clear h hl hW0 hb0
  generalize Cli.itemOf l u = t at *
  obtain ⟨t0, t1, t2, t3⟩ := t
  simp only at h3 h4
  go_enter Tryz.func232, Tryz.ntmps232
  go_upto_region 1 with fail
  rw [← HW0.out]
  go_wp2_with fail
  refine HI.out.mono ?_
  rintro e w1 ⟨rfl, hb1⟩
  have s1 := hb1.size
  have E1 := heap_alloc_new w1 (.cells #[.int .i64 t0, .int .i64 t1, .int .i64 t2, .int .i64 t3] 142)
  have E2 := (Below.refl w1.heap.size w1).alloc (Nat.le_refl _) (.cells #[.int .i64 t0, .int .i64 t1, .int .i64 t2, .int .i64 t3] 142)
  have s2 : w1.heap.size < (w1.alloc (.cells #[.int .i64 t0, .int .i64 t1, .int .i64 t2, .int .i64 t3] 142)).heap.size := by simp
  obtain ⟨W2, hW2⟩ : ∃ W2, W2 = w1.alloc (.cells #[.int .i64 t0, .int .i64 t1, .int .i64 t2, .int .i64 t3] 142) := ⟨_, rfl⟩
  rw [← hW2] at E1 E2 s2
  have e1 := cell_of_row W2 w1.heap.size 2 _ _ (0, 0) E1
  simp only [List.getElem?_toArray, List.getElem?_cons_zero, List.getElem?_cons_succ] at e1
  have HR2 := hideG ((HR.out.below hb1).below E2)
  obtain ⟨_, _, _, _, _, x6, _⟩ := HR2.out.nums
  have HB2 := hideG (show Below w.heap.size w W2 from (HB0.out.trans (hb1.mono (by omega))).trans (E2.mono (by omega)))
  have HW2 := hideG hW2
  clear E1 E2 hW2 hb1
  go_upto_region 2 with fail
  rw [← HW2.out]
  go_quiet ((go_at_call 79; refine Calls.quiet_of_same (HP.out _ (Nat.le_refl _) (by omega))))
  go_wp2_with fail
  go_ret
  exact ⟨rfl, HB2.out.trans ((below_drewN W2 _).mono (by omega))⟩

end Go.Proofs.YtchideljndagjaaGreat
