/- Contracts of package veilkeep: sets of clients. -/
import Derived.Test.YtchideljndagjaaCliMemAll
import Derived.Test.YtchideljndagjaaFrameG
import Derived.WalkSpells
namespace Go.Proofs.Ytchideljndagjaa
open Go.ChangeShapes Go.WideShapes Go.ChangeAt Go.RowKit
set_option linter.unusedVariables false

def setV (f : Nat → Bool) : Value := .agg (bl13 f).toArray
def cntN (f : Nat → Bool) : Nat → Nat
  | 0 => 0
  | n + 1 => cntN f n + (if f (n + 1) = true then 1 else 0)
theorem cntN_le (f : Nat → Bool) (n : Nat) : cntN f n ≤ n := by
  induction n with
  | zero => exact Nat.le_refl _
  | succ n ih => unfold cntN; split <;> omega

theorem size_set : (Try.prog.info? 77).map (·.size) = some 13 := by kernel_rfl

theorem bools_box (w : World) (T : TypeId) (f : Nat → Bool) : BoolsAt (w.alloc (.cells (bl13 f).toArray T)) w.heap.size T f := heap_alloc_new w _

set_option maxHeartbeats 1000000 in
theorem ksize_calls (f : Nat → Bool) (w : World) :
    Calls Try.prog 92 #[setV f] w fun e w' => e = .returned (.int .i64 (cntN f 12 : Int)) ∧ Below w.heap.size w w' := by
  unfold setV
  have HB := hideG (bools_box w 77 f)
  have BB := hideG (show Below w.heap.size w (w.alloc (.cells (bl13 f).toArray 77)) from (Below.refl _ _).alloc (Nat.le_refl _) _)
  obtain ⟨W, hW⟩ : ∃ W, W = w.alloc (.cells (bl13 f).toArray 77) := ⟨_, rfl⟩
  rw [← hW] at HB BB
  have HW := hideG hW
  clear hW
  obtain ⟨X, hX⟩ : ∃ X, X = (bl13 f).toArray := ⟨_, rfl⟩
  rw [← hX] at HW ⊢
  clear hX
  go_enter Try.func92, Try.ntmps92
  go_wp2_with fail
  rw [← HW.out]
  go_loop [3, 4] (fun n u => ∃ k : Nat, k ≤ 12 ∧ u = .int .i64 ((k : Int) + 1) ∧ n = .int .i64 (cntN f k : Int)) (fun _ u => 13 - (intOf u).toNat)
  case atStart => exact ⟨0, by omega, rfl, rfl⟩
  case round =>
    obtain ⟨k, hk, rfl, rfl⟩ := hrel
    have hle := cntN_le f k
    have HS := hideG (show cntN f (k + 1) = cntN f k + (if f (k + 1) = true then 1 else 0) from rfl)
    obtain ⟨m, hm⟩ : ∃ m, m = cntN f k := ⟨_, rfl⟩
    rw [← hm] at hle HS ⊢
    have HM := hideG hm
    clear hm
    by_cases hlt : k < 12
    · have c := HB.out.cell (k + 1) (by omega)
      have hk13 : ((k : Int) + 1) < 13 := by omega
      cases q : f (k + 1)
      · rw [q] at c HS
        have HS2 := hideG (show cntN f (k + 1) = m by rw [HS.out]; simp)
        clear q
        go_wp2_with fail
        go_round
        case rel => exact ⟨k + 1, by omega, by go_num, by rw [HS2.out]⟩
        case measure => simp [intOf]; omega
      · rw [q] at c HS
        have HS2 := hideG (show cntN f (k + 1) = m + 1 by rw [HS.out]; simp)
        clear q
        go_wp2_with fail
        go_round
        case rel => exact ⟨k + 1, by omega, by go_num, by rw [HS2.out]; go_num⟩
        case measure => simp [intOf]; omega
    · have ek : k = 12 := by omega
      subst ek
      go_wp2_with fail
      go_ret
      exact ⟨by rw [HM.out]; rfl, BB.out⟩

set_option maxHeartbeats 1000000 in
theorem kwithin_yes (f g : Nat → Bool) (w : World) (h : ∀ u, 1 ≤ u → u ≤ 12 → f u = true → g u = true) :
    Calls Try.prog 93 #[setV f, setV g] w fun e w' => e = .returned (.bool true) ∧ Below w.heap.size w w' := by
  unfold setV
  have H := hideG h
  clear h
  obtain ⟨W, hW⟩ : ∃ W, W = (w.alloc (.cells (bl13 f).toArray 77)).alloc (.cells (bl13 g).toArray 77) := ⟨_, rfl⟩
  have HA := hideG (show BoolsAt W w.heap.size 77 f by rw [hW]; exact heap_alloc2_old w _ _)
  have HB := hideG (show BoolsAt W (w.heap.size + 1) 77 g by rw [hW]; exact heap_alloc2_new w _ _)
  have BB := hideG (show Below w.heap.size w W by rw [hW]; exact ((Below.refl _ _).alloc (Nat.le_refl _) _).alloc (by simp) _)
  have HW := hideG hW
  clear hW
  obtain ⟨X, hX⟩ : ∃ X, X = (bl13 f).toArray := ⟨_, rfl⟩
  obtain ⟨Y, hY⟩ : ∃ Y, Y = (bl13 g).toArray := ⟨_, rfl⟩
  rw [← hX, ← hY] at HW ⊢
  clear hX hY
  go_enter Try.func93, Try.ntmps93
  go_wp2_with fail
  rw [← HW.out]
  go_loop [5] (fun u => ∃ k : Nat, k ≤ 12 ∧ u = .int .i64 ((k : Int) + 1)) (fun u => 13 - (intOf u).toNat)
  case atStart => exact ⟨0, by omega, rfl⟩
  case round =>
    obtain ⟨k, hk, rfl⟩ := hrel
    by_cases hlt : k < 12
    · have c := HA.out.cell (k + 1) (by omega)
      have d := HB.out.cell (k + 1) (by omega)
      have hk13 : ((k : Int) + 1) < 13 := by omega
      cases q : f (k + 1)
      · rw [q] at c
        clear q
        go_wp2_with fail
        go_round
        case rel => exact ⟨k + 1, by omega, by go_num⟩
        case measure => simp [intOf]; omega
      · rw [q] at c
        rw [H.out (k + 1) (by omega) (by omega) q] at d
        clear q
        go_wp2_with fail
        go_round
        case rel => exact ⟨k + 1, by omega, by go_num⟩
        case measure => simp [intOf]; omega
    · have ek : k = 12 := by omega
      subst ek
      go_wp2_with fail
      go_ret
      exact ⟨rfl, BB.out⟩

set_option maxHeartbeats 1000000 in
theorem kalike_yes (f g : Nat → Bool) (w : World) (h : ∀ u, 1 ≤ u → u ≤ 12 → f u = g u) :
    Calls Try.prog 91 #[setV f, setV g] w fun e w' => e = .returned (.bool true) ∧ Below w.heap.size w w' := by
  have H1 := hideG (fun (W : World) => kwithin_yes f g W (fun u a b e => by rw [← h u a b]; exact e))
  have H2 := hideG (fun (W : World) => kwithin_yes g f W (fun u a b e => by rw [h u a b]; exact e))
  clear h
  unfold setV at H1 H2 ⊢
  obtain ⟨W, hW⟩ : ∃ W, W = (w.alloc (.cells (bl13 f).toArray 77)).alloc (.cells (bl13 g).toArray 77) := ⟨_, rfl⟩
  have HA := hideG (fun (V : World) (hb : Below W.heap.size W V) => (show V.rangeAt w.heap.size 0 (bl13 f) from ((show BoolsAt W w.heap.size 77 f by rw [hW]; exact heap_alloc2_old w _ _).below hb (by rw [hW]; simp; omega)).range))
  have HB := hideG (fun (V : World) (hb : Below W.heap.size W V) => (show V.rangeAt (w.heap.size + 1) 0 (bl13 g) from ((show BoolsAt W (w.heap.size + 1) 77 g by rw [hW]; exact heap_alloc2_new w _ _).below hb (by rw [hW]; simp)).range))
  have BB := hideG (show Below w.heap.size w W by rw [hW]; exact ((Below.refl _ _).alloc (Nat.le_refl _) _).alloc (by simp) _)
  have z0 : w.heap.size ≤ W.heap.size := BB.out.size
  have HW := hideG hW
  clear hW
  have LX := hideG (bl13_length f)
  have LY := hideG (bl13_length g)
  obtain ⟨X, hX⟩ : ∃ X, X = bl13 f := ⟨_, rfl⟩
  obtain ⟨Y, hY⟩ : ∃ Y, Y = bl13 g := ⟨_, rfl⟩
  rw [← hX] at HA LX
  rw [← hY] at HB LY
  rw [← hX, ← hY] at HW H1 H2 ⊢
  clear hX hY
  have SX := hideG (show (Try.prog.info? 77).map (·.size) = some X.length by rw [size_set, LX.out])
  have SY := hideG (show (Try.prog.info? 77).map (·.size) = some Y.length by rw [size_set, LY.out])
  have RA := hideG (HA.out W (Below.refl _ _))
  have RB := hideG (HB.out W (Below.refl _ _))
  go_enter Try.func91, Try.ntmps91
  go_upto_region 1 with fail
  rw [← HW.out]
  go_wp2_with (first | refine wpList_load_mid rfl 77 _ rfl w.heap.size 0 rfl X _ RA.out Try.underlying77 rfl SX.out ?_ | refine wpList_load_mid rfl 77 _ rfl (w.heap.size + 1) 0 rfl Y _ RB.out Try.underlying77 rfl SY.out ?_)
  refine (H1.out W).mono ?_
  rintro e w1 ⟨rfl, hb1⟩
  have s1 := hb1.size
  have RA1 := hideG (HA.out w1 hb1)
  have RB1 := hideG (HB.out w1 hb1)
  have B1 := hideG (BB.out.trans (hb1.mono z0))
  clear hb1
  go_wp2_with (first | refine wpList_load_mid rfl 77 _ rfl w.heap.size 0 rfl X _ RA1.out Try.underlying77 rfl SX.out ?_ | refine wpList_load_mid rfl 77 _ rfl (w.heap.size + 1) 0 rfl Y _ RB1.out Try.underlying77 rfl SY.out ?_)
  refine (H2.out w1).mono ?_
  rintro e w2 ⟨rfl, hb2⟩
  have B2 := hideG (B1.out.trans (hb2.mono B1.out.size))
  clear hb2
  go_wp2_with fail
  go_ret
  exact ⟨rfl, B2.out⟩

set_option maxHeartbeats 2000000 in
set_option maxRecDepth 100000 in
theorem kids_calls (k fr : Int) (v : Value) (l : List Frm.It) (w : World) (hl : ItemsAt w v l) (hr : Frm.riseB l = true) :
    Calls Try.prog 90 #[.agg #[.int .i64 k, .int .i64 fr, v]] w fun e w' => e = .returned (setV fun u : Nat => Cli.hasI l u) ∧ Below w.heap.size w w' := by
  obtain ⟨a, cap, rfl, l2, l3, _, hcl⟩ := items_view hl
  have HC := hideG hcl
  have HI := hideG (fun j (hj : j < l.length) => (Cli.rise_pair hr).2 (Frm.it l j) (by rw [Cli.it_get l j hj]; exact List.getElem_mem hj))
  have HUP := hideG (has_upd l)
  clear hl hr hcl
  obtain ⟨n, hn⟩ : ∃ n, n = l.length := ⟨_, rfl⟩
  rw [← hn] at l2 HC HI HUP ⊢
  have HTT := hideG (show l.take n = l by rw [hn, List.take_length])
  clear hn
  unfold setV
  go_enter Try.func90, Try.ntmps90
  go_wp2_with fail
  go_loopw [4] (fun i wr => ∃ j : Nat, j ≤ n ∧ i = .int .i64 j ∧ wr.cell? ⟨w.heap.size, 2, none⟩ = some (.slice a n cap) ∧ BoolsAt wr (w.heap.size + 2) 77 (fun v : Nat => Cli.hasI (l.take j) v) ∧ BoolsAt wr (w.heap.size + 1) 77 (fun _ => false) ∧ Below w.heap.size w wr) (fun i _ => n - (intOf i).toNat)
  case atStart =>
    refine ⟨0, Nat.zero_le _, rfl, ?_, ?_, ?_, (((Below.refl _ _).alloc (Nat.le_refl _) _).alloc (by simp) _).alloc (by simp; omega) _⟩
    · have k1 : Below (w.heap.size + 1) (w.alloc (.cells #[.int .i64 k, .int .i64 fr, .slice a n cap] 52)) (((w.alloc (.cells #[.int .i64 k, .int .i64 fr, .slice a n cap] 52)).alloc (.cells (bl13 fun _ => false).toArray 77)).alloc (.cells (bl13 fun _ => false).toArray 77)) := ((Below.refl _ _).alloc (by simp) _).alloc (by simp) _
      refine (k1.cell (p := ⟨w.heap.size, 2, none⟩) (by show w.heap.size < _; omega)).trans ?_
      simp
    · have e : (fun v : Nat => Cli.hasI (l.take 0) v) = fun _ => false := by funext v; simp [Cli.hasI]
      rw [e]
      have := heap_alloc2_new (w.alloc (.cells #[.int .i64 k, .int .i64 fr, .slice a n cap] 52)) (.cells (bl13 fun _ => false).toArray 77) (.cells (bl13 fun _ => false).toArray 77)
      simp only [World.size_alloc] at this
      exact this
    · have := heap_alloc2_old (w.alloc (.cells #[.int .i64 k, .int .i64 fr, .slice a n cap] 52)) (.cells (bl13 fun _ => false).toArray 77) (.cells (bl13 fun _ => false).toArray 77)
      simp only [World.size_alloc] at this
      exact this
  case round =>
    obtain ⟨j, hj, rfl, hc2, hbo, hze, hbel⟩ := hrel
    have HBO := hideG hbo
    have HZE := hideG hze
    have HB := hideG hbel
    have hsz := hbel.size
    have hs1 := hbo.lt
    clear hbo hbel hze
    by_cases hlt : j < n
    · obtain ⟨b', off, rfl, hb, hit⟩ := HC.out j hlt
      obtain ⟨d0, d1, d2, d3⟩ := hit.below hb HB.out
      obtain ⟨u, hu⟩ : ∃ u : Nat, (Frm.it l j).1 = (u : Int) := ⟨(Frm.it l j).1.toNat, by have := HI.out j hlt; omega⟩
      have hub := HI.out j hlt
      rw [hu] at hub d0
      have u13 : u < 13 := by omega
      have u13' : (u : Int) < 13 := by omega
      obtain ⟨ub1, ub2⟩ := hub
      have HU2 := hideG (HUP.out j hlt u hu)
      have z0 := HBO.out.cell u u13
      have zf := HBO.out.froz u
      have hne : (⟨w.heap.size + 2, u, none⟩ : Addr) ≠ ⟨w.heap.size, 2, none⟩ := by simp
      clear hit hu
      generalize (Frm.it l j).2.1 = xa at *
      generalize (Frm.it l j).2.2.1 = xb at *
      generalize (Frm.it l j).2.2.2 = xc at *
      have HC2 := hideG hc2
      go_wp2_with fail
      go_roundw
      case rel =>
        refine ⟨j + 1, by omega, by go_num, ?_, ?_, ?_, HB.out.setCell (p := ⟨w.heap.size + 2, u, none⟩) (by show w.heap.size ≤ w.heap.size + 2; omega) _⟩
        · rw [World.cell?_setCell_other _ _ _ _ hne]; exact HC2.out
        · rw [HU2.out]; exact HBO.out.set u u13 true
        · exact HZE.out.block (Below.heap_setCell _ _ _ _ (by simp))
      case measure => simp [intOf]; omega
    · have ej : j = n := by omega
      subst ej
      have HST := hideG (show BoolsAt wr (w.heap.size + 2) 77 (fun v : Nat => Cli.hasI l v) by have := HBO.out; rwa [HTT.out] at this)
      have RG := hideG HST.out.range
      have LX := hideG (bl13_length (fun v : Nat => Cli.hasI l v))
      have HON := hideG (all_oneCell_toArray (bl13_one (fun v : Nat => Cli.hasI l v)))
      have HTH := hideG (show wr.there (w.heap.size + 1) 0 (bl13 (fun v : Nat => Cli.hasI l v)).toArray.size from fun i hi => by
        rw [List.size_toArray, bl13_length] at hi
        exact ⟨by rw [Nat.zero_add, HZE.out.cell i hi]; rfl, by rw [Nat.zero_add]; exact HZE.out.froz i⟩)
      have HROW := hideG (show (wr.setCells (w.heap.size + 1) 0 (bl13 (fun v : Nat => Cli.hasI l v))).heap[w.heap.size + 1]? = some (.cells (bl13 (fun v : Nat => Cli.hasI l v)).toArray 77 (0, 0)) by
        have := heap_setCells (w.heap.size + 1) 77 (bl13 (fun v : Nat => Cli.hasI l v)) [] (bl13 fun _ => false) [] wr rfl (by rw [List.append_nil]; exact HZE.out)
        rw [List.append_nil] at this
        exact this)
      have BF := hideG (show Below w.heap.size w (wr.setCells (w.heap.size + 1) 0 (bl13 (fun v : Nat => Cli.hasI l v))) from below_setCells (by omega) _ _ _ HB.out)
      obtain ⟨CS, hCS⟩ : ∃ CS, CS = bl13 (fun v : Nat => Cli.hasI l v) := ⟨_, rfl⟩
      rw [← hCS] at RG LX HON HTH HROW BF
      have HCS := hideG hCS
      clear hCS
      have HSZ := hideG (show (Try.prog.info? 77).map (·.size) = some CS.toArray.size by rw [size_set, List.size_toArray, LX.out])
      have HSL := hideG (show (Try.prog.info? 77).map (·.size) = some CS.length by rw [size_set, LX.out])
      go_wp2_with (first | refine wpList_load_mid rfl 77 _ rfl (w.heap.size + 2) 0 rfl CS _ RG.out Try.underlying77 rfl HSL.out ?_ | refine wpList_store_mid rfl 77 _ _ rfl (w.heap.size + 1) 0 CS.toArray rfl rfl HTH.out HSZ.out HON.out ?_)
      refine bodyPost_ret (results_cell_row rfl _ _ (w.heap.size + 1) 77 CS.toArray (0, 0) _ rfl HROW.out Try.underlying77 rfl HSZ.out) rfl ?_
      exact ⟨by rw [HCS.out], BF.out⟩

end Go.Proofs.Ytchideljndagjaa
