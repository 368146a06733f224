/- The contract of the points that are chosen, package veilkeep. -/
import Derived.Test.YtchideljndagjaaChoose2
import Derived.Test.YtchideljndagjaaFlat
import Derived.Test.YtchideljndagjaaSplit
namespace Go.Proofs.Ytchideljndagjaa
open Go.ChangeShapes Go.WideShapes Go.ChangeAt Go.RowKit
set_option linter.unusedVariables false

/-- The points of the first k who are asked. -/
def chTo (zs : List Int) (n f k : Nat) (bs : List Bool) : List (Int × Int) := (((rot n f).take k).filter fun u => bs.getD u false).map fun u : Nat => ((u : Int), zs.getD (u - 1) 0)

theorem chTo_step (zs : List Int) (n f k : Nat) (bs : List Bool) (hf : f < n) (hk : k < n) : chTo zs n f (k + 1) bs = chTo zs n f k bs ++ if bs.getD ((f + k) % n + 1) false then [((((f + k) % n + 1 : Nat) : Int), zs.getD ((f + k) % n) 0)] else [] := by
  unfold chTo
  have hl := rot_length n f
  rw [List.take_add_one, rot_get n f k hf hk]
  simp only [Option.toList_some, List.filter_append, List.map_append]
  congr 1
  by_cases e : bs.getD ((f + k) % n + 1) false = true
  · simp only [List.filter_cons, e, if_true, List.filter_nil, List.map_cons, List.map_nil, Nat.add_sub_cancel]
  · simp only [List.filter_cons, e, List.filter_nil]
    simp

set_option maxHeartbeats 1000000 in
set_option maxRecDepth 100000 in
theorem chosen_calls (vl : Value) (zs : List Int) (gi n : Nat) (bs : List Bool) (Bi : Nat) (turn : Int) (w : World) (hl : ListAt w vl zs) (hz : zs.length = n) (hn0 : 1 ≤ n) (hn : n ≤ 12) (hr : BRow w Bi gi (n + 1) bs)
    (ht : -9223372036854775808 ≤ turn) (ht' : turn ≤ 9223372036854775807) :
    Calls Try.prog 18 #[vl, .slice (some ⟨gi, 0, none⟩) (n + 1) (n + 1), .int .i64 turn] w fun e w' => ∃ v, e = .returned v ∧ w'.ownsRow w.heap.size 41 2 v (chTo zs n (Num.pickN turn n).toNat n bs).length (flat (chTo zs n (Num.pickN turn n).toNat n bs)) ∧ Below w.heap.size w w' := by
  obtain ⟨ip, hi, hz0, hz1, hz2⟩ := info_parts infoPt
  obtain ⟨a, cap, rfl, l2, l3, hc⟩ := list_view hl
  have hll := hl
  obtain ⟨a', cap', ea, _, _, _, hbk⟩ := hll
  have HC := hideG hc
  have HR := hideG hr
  have hgi := hr.lt
  have HZ := hideG hz
  have HBK : Hid (∀ b off, a = some ⟨b, off, none⟩ → 0 < zs.length → b < w.heap.size) := by
    intro b off e h0
    rcases hbk with hbk | ⟨b', off', e1, e2, _⟩
    · rw [hbk] at h0; simp at h0
    · simp at ea
      rw [← ea.1, e] at e1
      simp at e1
      rw [e1.1]; exact e2
  clear hc hr hl hbk ea
  rw [hz] at l2 ⊢
  have p1 := Num.pickN_lo turn (n : Int) (by omega)
  have p2 := Num.pickN_hi turn (n : Int) (by omega)
  go_enter Try.func18, Try.ntmps18
  go_wp2_with fail
  refine (pick_calls _ _ _ ht ht' (by omega) (by omega)).mono ?_
  rintro e w ⟨rfl, rfl⟩
  obtain ⟨fr, hfr⟩ := Int.eq_ofNat_of_zero_le p1
  rw [hfr] at p2 ⊢
  have HFR := hideG hfr
  clear p1 hfr
  go_wp2_with fail
  go_loopw [7, 10] (fun v i wr => ∃ k : Nat, k ≤ n ∧ i = .int .i64 k ∧ wr.ownsRow w.heap.size 41 2 v (chTo zs n fr k bs).length (flat (chTo zs n fr k bs)) ∧ Below w.heap.size w wr ∧ (chTo zs n fr k bs).length ≤ k) (fun _ i _ => n - (intOf i).toNat)
  case atStart => exact ⟨0, by omega, rfl, by rw [show chTo zs n fr 0 bs = [] by simp [chTo]]; exact World.ownsRow_nil _ _ _ _, Below.refl _ _, by rw [show chTo zs n fr 0 bs = [] by simp [chTo]]; exact Nat.le_refl _⟩
  case round =>
    obtain ⟨k, hk, rfl, hown, hbel, hcl⟩ := hrel
    have HO := hideG hown
    have HB := hideG hbel
    have hsz := hbel.size
    by_cases hlt : k < n
    · have hu : (fr + k) % n < n := Nat.mod_lt _ (by omega)
      obtain ⟨b, off, rfl, c0⟩ := HC.out ((fr + k) % n) (by rw [HZ.out]; exact hu)
      have hbw := HBK.out b off rfl (by rw [HZ.out]; omega)
      rw [← hbel.cell (p := ⟨b, off + (fr + k) % n, none⟩) hbw] at c0
      have cb := (HR.out.cell ((fr + k) % n + 1) (by omega)).1
      rw [← hbel.cell (p := ⟨gi, (fr + k) % n + 1, none⟩) hgi.2] at cb
      have CS := hideG (chTo_step zs n fr k bs (by omega) hlt)
      have em : ((fr : Int) + (k : Int)) % (n : Int) = (((fr + k) % n : Nat) : Int) := by rw [Int.natCast_emod, Int.natCast_add]
      generalize (fr + k) % n = u at *
      clear hown hbel
      have EM := hideG em
      cases hv : bs.getD (u + 1) false
      · rw [hv] at cb
        have H := hideG (show chTo zs n fr (k + 1) bs = chTo zs n fr k bs by rw [CS.out, hv]; simp)
        clear hv
        go_wp2_with fail
        go_roundw
        case rel => exact ⟨k + 1, by omega, by go_num, by rw [H.out]; exact HO.out, HB.out, by rw [H.out]; omega⟩
        case measure => simp [intOf]; omega
      · rw [hv] at cb
        obtain ⟨y, hy⟩ : ∃ y, y = zs.getD u 0 := ⟨_, rfl⟩
        rw [← hy] at c0
        have H := hideG (show chTo zs n fr (k + 1) bs = chTo zs n fr k bs ++ [(((u : Int) + 1), y)] by rw [CS.out, hv, hy]; simp)
        clear hv hy
        go_wp2_with (at_builtin; refine wpList_append_own _ rfl _ _ 36 rfl w.heap.size 41 ip (.agg #[.int .i64 0, .int .i64 0]) 2 16 Try.underlying36 hi hz0 hz1 hz2 rfl (by decide) _ _ _ rfl (HO.out.alloc _) ⟨wr.heap.size, 0, none⟩ 1 1 [.int .i64 ((u : Int) + 1), .int .i64 y] rfl rfl ?c1 ?c2 ?c3 ?c4 ?c5 ?_)
        case c1 => exact cell_pair_new _ _ _ _
        case c2 => intro x hx; simp at hx; rcases hx with rfl | rfl <;> rfl
        case c3 => unfold maxLen; omega
        case c4 => omega
        case c5 => simp; omega
        intro v' w2 hown' hgrow' _
        have hbk := fun x (h : Value.ownBlock _ = some x) => HO.out.lt x h
        have hb2 := (HB.out.alloc hsz _).grown hgrow' (by simp; omega) (fun x h => (hbk x h).1)
        have HB2 := hideG hb2
        have ho2 : w2.ownsRow w.heap.size 41 2 v' (chTo zs n fr (k + 1) bs).length (flat (chTo zs n fr (k + 1) bs)) := by
          rw [H.out, flat_append, List.length_append]; exact hown'
        have HO2 := hideG ho2
        have hc2 : (chTo zs n fr (k + 1) bs).length ≤ k + 1 := by rw [H.out, List.length_append]; simp; omega
        have HC2 := hideG hc2
        clear hown' hgrow' hbk hb2 ho2 hc2
        go_wp2_with fail
        go_roundw
        case rel => exact ⟨k + 1, by omega, by go_num, HO2.out, HB2.out, HC2.out⟩
        case measure => simp [intOf]; omega
    · have ek : k = n := by omega
      subst ek
      clear hown hbel
      go_wp2_with fail
      go_ret
      refine ⟨_, rfl, ?_, HB.out⟩
      rw [HFR.out, Int.toNat_natCast]
      exact HO.out

end Go.Proofs.Ytchideljndagjaa
