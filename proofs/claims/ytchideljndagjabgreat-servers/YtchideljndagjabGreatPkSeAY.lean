/- Contracts of the program's server: veil.NewServer, Take, Tick, Outcome. -/
import Derived.Test.YtchideljndagjabGreatPkSeAX
import Derived.Test.YtchideljndagjabGreatPkSeAN
import Derived.Test.YtchideljndagjabGreatPkSeAQ
import Derived.Test.YtchideljndagjabGreatPkSeAH
import Derived.Laws.ResultCell
namespace Go.Proofs.YtchideljndagjabGreat
open Go.ChangeShapes Go.WideShapes Go.ChangeAt Go.RowKit
set_option linter.unusedVariables false

theorem sfold_get (L : List Value) : ∀ (k : Nat) (A : Array Value) (i : Nat), k + L.length ≤ A.size → (List.foldl (fun (cs : Array Value) (x : Value × Nat) => cs.setIfInBounds x.2 x.1) A (L.zipIdx k))[i]? = if k ≤ i ∧ i < k + L.length then L[i - k]? else A[i]? := by
  induction L with
  | nil => intro k A i h; rw [if_neg (fun q => by have h1 := q.1; have h2 := q.2; simp at h2; omega)]; rfl
  | cons a L ih =>
    intro k A i h
    rw [List.length_cons] at h
    rw [List.zipIdx_cons, List.foldl_cons, ih (k + 1) _ i (by simp; omega), List.length_cons]
    by_cases e : i = k
    · subst e
      rw [if_neg (by omega), if_pos (by omega), Nat.sub_self]
      simp [Array.getElem?_setIfInBounds]
      omega
    · by_cases q : k + 1 ≤ i ∧ i < k + 1 + L.length
      · rw [if_pos q, if_pos (by omega), show i - k = (i - (k + 1)) + 1 by omega, List.getElem?_cons_succ]
      · rw [if_neg q, if_neg (by omega)]
        simp only [Array.getElem?_setIfInBounds]
        rw [if_neg (fun e' => e e'.symm)]
theorem sfold_all (L : List Value) (A : Array Value) (h : A.size = L.length) : List.foldl (fun (cs : Array Value) (x : Value × Nat) => cs.setIfInBounds x.2 x.1) A L.zipIdx = L.toArray := by
  apply Array.ext_getElem?
  intro i
  rw [sfold_get L 0 A i (by omega)]
  by_cases q : i < L.length
  · rw [if_pos (by omega)]; simp
  · rw [if_neg (by omega), Array.getElem?_eq_none (by omega), Array.getElem?_eq_none (by simp; omega)]

theorem SSBl.range {w : World} {b : Nat} {T : TypeId} {s : SS} (h : SSBl w b T s) : w.rangeAt b 0 (ssCells s) := RecAt.range h.at_
theorem szero_one : ∀ v ∈ ssCells zeroSS, v.oneCell' = true := ssCells_one _ (fun _ _ => rfl) rfl rfl rfl

set_option maxHeartbeats 2000000 in
set_option maxRecDepth 100000 in
theorem veilNewServer_no (N T M D : Int) (w : World) (h : Cli.cfgB N T M D = false) :
    Calls Tryz.prog 111 #[.agg #[.int .i64 N, .int .i64 T, .int .i64 M, .int .i64 D]] w fun e w' => e = .returned (.tuple #[.pointer none, .int .i64 5]) ∧ Below w.heap.size w w' := by
  have HN := hideG (fun (W : World) => sNew_no N T M D W h)
  obtain ⟨CS, hCS⟩ : ∃ CS, CS = ssCells zeroSS := ⟨_, rfl⟩
  rw [← hCS] at HN
  have L76 := hideG (show CS.length = 76 by rw [hCS]; rfl)
  have HONE := hideG (show CS.toArray.all (·.oneCell') = true by rw [hCS]; exact all_oneCell_toArray szero_one)
  clear hCS h
  have HSZ := hideG (show (Tryz.prog.info? 106).map (·.size) = some CS.toArray.size by rw [size_srv, List.size_toArray, L76.out])
  go_enter Tryz.func111, Tryz.ntmps111
  go_wp2_with fail
  refine (HN.out _).mono ?_
  rintro e w1 ⟨rfl, hb1⟩
  have s1 := hb1.size
  have B1 := hideG (((Below.refl w.heap.size w).alloc (Nat.le_refl _) _).trans (hb1.mono (by simp)))
  have z1 := B1.out.size
  clear hb1
  have hp3 : SSBl (w1.alloc (.cells Tryz.zeroCells106 106)) w1.heap.size 106 zeroSS := by unfold SSBl; rw [← zero_ss]; exact heap_alloc_new w1 _
  have HTH := hideG (show (w1.alloc (.cells Tryz.zeroCells106 106)).there w1.heap.size 0 CS.toArray.size by rw [show CS.toArray.size = 76 by rw [List.size_toArray]; exact L76.out]; exact hp3.at_.there 0 76 (by omega))
  have BF := hideG (show Below w.heap.size w ((w1.alloc (.cells Tryz.zeroCells106 106)).setCells w1.heap.size 0 CS) from below_setCells z1 _ _ _ (B1.out.alloc z1 _))
  clear hp3
  go_wp2_with (refine wpList_store_mid rfl 106 _ _ rfl w1.heap.size 0 CS.toArray rfl rfl HTH.out HSZ.out HONE.out ?_)
  go_ret2
  exact ⟨rfl, BF.out⟩

theorem srvAt_fresh {w : World} {b : Nat} {N T M D : Int} (h : SSAt w b (freshSS N T M D fun u : Nat => decide (1 ≤ u ∧ (u : Int) ≤ N))) : SrvAt w b ⟨N, T, M, D⟩ Srv.start (freshSS N T M D fun u : Nat => decide (1 ≤ u ∧ (u : Int) ≤ N)) where
  at_ := h
  st := rfl
  ro := rfl
  set := list_nil _
  sum := list_nil _
  apart := fun v _ => by show (Value.slice none 0 0).ownBlock ≠ some b; intro e; cases e
  apart2 := ⟨(by show (Value.slice none 0 0).ownBlock ≠ some b; intro e; cases e), (by show (Value.slice none 0 0).ownBlock ≠ some b; intro e; cases e), (by show (Value.slice none 0 0).ownBlock ≠ some b; intro e; cases e)⟩
  zero := fun _ => ⟨rfl, rfl, rfl⟩
  rdz := fun _ => rfl
  cfg := fun _ => ⟨rfl, rfl, rfl, rfl⟩
  now := fun _ => ⟨rfl, rfl⟩
  sn := fun _ v _ => rfl
  ct := fun _ v _ => rfl
  it := fun _ v _ => items_nil _
  pb := fun _ r => absurd r (by show ¬ 1 ≤ 0; omega)
  sh := fun _ r => absurd r (by show ¬ 2 ≤ 0; omega)
  ml := fun _ r => absurd r (by show ¬ (0 : Nat) = 3; omega)

set_option maxHeartbeats 2000000 in
set_option maxRecDepth 100000 in
theorem veilNewServer_ok (N T M D : Int) (w : World) (h : Cli.cfgB N T M D = true) :
    Calls Tryz.prog 111 #[.agg #[.int .i64 N, .int .i64 T, .int .i64 M, .int .i64 D]] w fun e w' => ∃ b, e = .returned (.tuple #[.pointer (some ⟨b, 0, none⟩), .int .i64 0]) ∧ ∃ S, SrvW w' b ⟨N, T, M, D⟩ Srv.start S ∧ Below w.heap.size w w' ∧ ∀ x, SFoot b S x → w.heap.size ≤ x := by
  have HN := hideG (fun (W : World) => sNew_ok N T M D W h)
  obtain ⟨S, hS⟩ : ∃ S, S = freshSS N T M D fun u : Nat => decide (1 ≤ u ∧ (u : Int) ≤ N) := ⟨_, rfl⟩
  rw [← hS] at HN
  have HAT := hideG (fun (W : World) (b : Nat) (hh : SSAt W b S) => (show SrvAt W b ⟨N, T, M, D⟩ Srv.start S by rw [hS] at hh ⊢; exact srvAt_fresh hh))
  have HFT := hideG (show ∀ b x, SFoot b S x → x = b from fun b x hx => by
    rw [hS] at hx
    rcases hx with hx | ⟨v, _, hx⟩ | hx | hx | hx
    · exact hx
    all_goals (exfalso; cases hx))
  obtain ⟨CS, hCS⟩ : ∃ CS, CS = ssCells S := ⟨_, rfl⟩
  rw [← hCS] at HN
  have L76 := hideG (show CS.length = 76 by rw [hCS]; rfl)
  have HONE := hideG (show CS.toArray.all (·.oneCell') = true by rw [hCS, hS]; exact all_oneCell_toArray (fresh_one N T M D _))
  have HCS := hideG hCS
  clear h hS
  have HSZ := hideG (show (Tryz.prog.info? 106).map (·.size) = some CS.toArray.size by rw [size_srv, List.size_toArray, L76.out])
  have HSL := hideG (show (Tryz.prog.info? 106).map (·.size) = some CS.length by rw [size_srv, L76.out])
  have hz : Tryz.zeroCells193.size = 76 := by kernel_rfl
  have HFO := hideG (sfold_all CS Tryz.zeroCells193 (by rw [hz, L76.out]))
  clear hz
  go_enter Tryz.func111, Tryz.ntmps111
  go_wp2_with fail
  refine (HN.out _).mono ?_
  rintro e w1 ⟨rfl, hb1⟩
  have s1 := hb1.size
  have B1 := hideG (((Below.refl w.heap.size w).alloc (Nat.le_refl _) _).trans (hb1.mono (by simp)))
  have z1 := B1.out.size
  clear hb1
  have hp3 : SSBl (w1.alloc (.cells Tryz.zeroCells106 106)) w1.heap.size 106 zeroSS := by unfold SSBl; rw [← zero_ss]; exact heap_alloc_new w1 _
  have HTH := hideG (show (w1.alloc (.cells Tryz.zeroCells106 106)).there w1.heap.size 0 CS.toArray.size by rw [show CS.toArray.size = 76 by rw [List.size_toArray]; exact L76.out]; exact hp3.at_.there 0 76 (by omega))
  have hb2 : Below w1.heap.size w1 ((w1.alloc (.cells Tryz.zeroCells106 106)).setCells w1.heap.size 0 CS) := below_setCells (Nat.le_refl _) _ _ _ ((Below.refl _ _).alloc (Nat.le_refl _) _)
  have RG := hideG (show ((w1.alloc (.cells Tryz.zeroCells106 106)).setCells w1.heap.size 0 CS).rangeAt w1.heap.size 0 CS by rw [hCS]; exact (hp3.setAll S).range)
  clear hp3 hCS
  obtain ⟨w2, hw2⟩ : ∃ w2, w2 = (w1.alloc (.cells Tryz.zeroCells106 106)).setCells w1.heap.size 0 CS := ⟨_, rfl⟩
  rw [← hw2] at RG hb2
  have s2 := hb2.size
  have HB2 := hideG hb2
  have HW2 := hideG hw2
  clear hw2 hb2
  go_upto_region 2 with (refine wpList_store_mid rfl 106 _ _ rfl w1.heap.size 0 CS.toArray rfl rfl HTH.out HSZ.out HONE.out ?_)
  rw [← HW2.out]
  have l76 := L76.out
  go_wp2_with (refine wpList_load_mid rfl 106 _ rfl w1.heap.size 0 rfl CS _ RG.out Tryz.underlying106 rfl HSL.out ?_)
  rw [HFO.out]
  go_ret2
  have hb3 : Below w2.heap.size w2 (w2.alloc (.cells CS.toArray 193)) := (Below.refl _ _).alloc (Nat.le_refl _) _
  have hps : SSBl (w2.alloc (.cells CS.toArray 193)) w2.heap.size 193 S := by unfold SSBl; rw [← HCS.out]; exact heap_alloc_new w2 _
  refine ⟨w2.heap.size, rfl, S, ⟨HAT.out _ _ hps.at_, fun x hx => ?_⟩, (B1.out.trans (HB2.out.mono z1)).trans (hb3.mono (by omega)), fun x hx => ?_⟩
  · rw [HFT.out _ x hx]; simp
  · rw [HFT.out _ x hx]; omega

set_option maxHeartbeats 1000000 in
theorem veilSTake_calls (b : Nat) (C : Srv.Cf) (s : Srv.Sv) (S : SS) (v : Value) (zs : List Int) (w : World) (hw : SrvW w b C s S) (hs : s.out.1 = 0 → Srv.SOk C s) (hv : BytesAt w v zs) :
    Calls Tryz.prog 113 #[.pointer (some ⟨b, 0, none⟩), v] w fun e w' => e = .returned (.bool (scntD C s zs)) ∧ ∃ S', STook w w' b C (sstepD C s zs) S S' := by
  have H := hideG (sTake_calls b C s S v zs w hw hs hv)
  obtain ⟨az, cz, rfl, -⟩ := bytes_view hv
  clear hw hs hv
  generalize zs.length = n at *
  go_enter Tryz.func113, Tryz.ntmps113
  go_wp2_with fail
  refine H.out.mono ?_
  rintro e w1 ⟨rfl, h1⟩
  have H1 := hideG h1
  clear h1
  go_wp2_with fail
  go_ret
  exact ⟨rfl, H1.out⟩

set_option maxHeartbeats 1000000 in
theorem veilSTick_calls (b : Nat) (C : Srv.Cf) (s : Srv.Sv) (S : SS) (w : World) (hc : Srv.GoodC C) (hw : SrvW w b C s S) (hs : s.out.1 = 0 → Srv.SOk C s) :
    Calls Tryz.prog 115 #[.pointer (some ⟨b, 0, none⟩)] w fun e w' => ∃ v, e = .returned v ∧ Ticked w w' b C s S v := by
  have H := hideG (sTick_calls b C s S w hc hw hs)
  clear hw hs
  go_enter Tryz.func115, Tryz.ntmps115
  go_wp2_with fail
  refine H.out.mono ?_
  rintro e w1 ⟨v, rfl, h1⟩
  obtain ⟨a, c, hv⟩ : ∃ a c, v = .slice a (tickK C s).length c := by obtain ⟨S', vs, _, hp, _⟩ := h1; exact owns_form hp.row
  have H1 := hideG h1
  rw [hv] at H1 ⊢
  clear h1 hv
  go_wp2_with fail
  go_ret
  exact ⟨_, rfl, H1.out⟩

set_option maxHeartbeats 1000000 in
set_option maxRecDepth 100000 in
theorem veilSOutcome_calls (b : Nat) (S : SS) (ls us : List Int) (w : World) (h : SSAt w b S) (hs : ListAt w S.set ls) (hu : ListAt w S.sum us) (l1 : ls.length ≤ 12) (l2 : us.length ≤ 12) :
    Calls Tryz.prog 57 #[.pointer (some ⟨b, 0, none⟩)] w fun e w' => ∃ va vb, e = .returned (.agg #[.int .i64 S.st, .int .i64 S.ro, va, vb]) ∧ Told w w' va vb ls us := by
  obtain ⟨W0, hW0⟩ : ∃ W0, W0 = w.alloc (.cells #[.int .i64 0, .int .i64 0, .slice none 0 0, .slice none 0 0] 35) := ⟨_, rfl⟩
  have b0 : Below w.heap.size w W0 := by rw [hW0]; exact (Below.refl _ _).alloc (Nat.le_refl _) _
  have R0 := hideG (show W0.heap[w.heap.size]? = some (.cells #[.int .i64 0, .int .i64 0, .slice none 0 0, .slice none 0 0] 35 (0, 0)) by rw [hW0]; exact heap_alloc_new w _)
  have z0 : w.heap.size < W0.heap.size := by rw [hW0]; simp
  have H := hideG (sOutcome_calls b S ls us W0 (h.below b0) (hs.below b0) (hu.below b0) l1 l2)
  have B0 := hideG b0
  have HW0 := hideG hW0
  clear h hs hu l1 l2 b0 hW0
  generalize S.st = st at *
  generalize S.ro = ro at *
  go_enter Tryz.func57, Tryz.ntmps57
  go_upto_region 1 with fail
  rw [← HW0.out]
  go_wp2_with fail
  refine H.out.mono ?_
  rintro e w1 ⟨va, vb, rfl, ht⟩
  obtain ⟨t1, t2, t3, t4⟩ := ht
  obtain ⟨a3, k3, hv3⟩ := owns_form t1
  obtain ⟨a4, k4, hv4⟩ := owns_form t2
  have R1 := hideG ((t4.block _ z0).trans R0.out)
  obtain ⟨⟨x0, x1, x2, x3⟩, xf⟩ := cells_four R1.out
  have R6 := hideG (row_four R1.out (.int .i64 st) (.int .i64 ro) va vb)
  have B1 := B0.out.trans (t4.mono B0.out.size)
  have c6 := chg_four w1 w.heap.size (.int .i64 st) (.int .i64 ro) va vb
  have FIN := hideG (show Told w ((((w1.setCell ⟨w.heap.size, 0, none⟩ (.int .i64 st)).setCell ⟨w.heap.size, 1, none⟩ (.int .i64 ro)).setCell ⟨w.heap.size, 2, none⟩ va).setCell ⟨w.heap.size, 3, none⟩ vb) va vb ls us from
    ⟨ownsRow_base (ownsRow_chg t1 c6 (fun x hx e => by have := (t1.lt x hx).1; omega)) (by omega),
     ownsRow_base (ownsRow_chg t2 c6 (fun x hx e => by have := (t2.lt x hx).1; omega)) (by omega), t3,
     (((B1.setCell (p := ⟨w.heap.size, 0, none⟩) (Nat.le_refl _) _).setCell (p := ⟨w.heap.size, 1, none⟩) (Nat.le_refl _) _).setCell (p := ⟨w.heap.size, 2, none⟩) (Nat.le_refl _) _).setCell (p := ⟨w.heap.size, 3, none⟩) (Nat.le_refl _) _⟩)
  clear t1 t2 t3 t4 B1 c6
  rw [hv3, hv4] at R6 FIN ⊢
  clear hv3 hv4
  go_wp2_with fail
  refine bodyPost_ret (results_cell_row rfl _ _ w.heap.size 35 #[.int .i64 st, .int .i64 ro, _, _] (0, 0) _ rfl R6.out Tryz.underlying35 rfl size_out4) rfl ?_
  exact ⟨_, _, rfl, FIN.out⟩

end Go.Proofs.YtchideljndagjabGreat

namespace Go.Proofs.YtchideljndagjabGreat
open Go.ChangeShapes Go.WideShapes Go.ChangeAt Go.RowKit
set_option linter.unusedVariables false

/-- A frame as it lies: Kind, From, the items. -/
abbrev RF := Int × Int × Value
def RF.z : RF := (0, 0, .slice none 0 0)
def pick3 (x : RF) : Nat → Value
  | 0 => .int .i64 x.1
  | 1 => .int .i64 x.2.1
  | _ => x.2.2
def cellF (H : Nat → RF) (t : Nat) : Value := pick3 (H (t / 3)) (t % 3)
theorem cellF_0 (H : Nat → RF) (i : Nat) : cellF H (i * 3) = .int .i64 (H i).1 := by unfold cellF; rw [show i * 3 / 3 = i by omega, show i * 3 % 3 = 0 by omega]; rfl
theorem cellF_1 (H : Nat → RF) (i : Nat) : cellF H (i * 3 + 1) = .int .i64 (H i).2.1 := by unfold cellF; rw [show (i * 3 + 1) / 3 = i by omega, show (i * 3 + 1) % 3 = 1 by omega]; rfl
theorem cellF_2 (H : Nat → RF) (i : Nat) : cellF H (i * 3 + 2) = (H i).2.2 := by unfold cellF; rw [show (i * 3 + 2) / 3 = i by omega, show (i * 3 + 2) % 3 = 2 by omega]; rfl
def roundL (R : Nat → RF) : List Value := (List.range 39).map (cellF R)
def tabL (H : Nat → RF) : List Value := (List.range 156).map (cellF H)
def rowR (H : Nat → RF) (r : Nat) : Nat → RF := fun u => H (r * 13 + u)
theorem row_round (H : Nat → RF) (r : Nat) : ((List.range 39).map fun j => cellF H (r * 39 + j)) = roundL (rowR H r) := by
  unfold roundL
  apply List.map_congr_left
  intro j _
  unfold cellF rowR
  rw [show (r * 39 + j) / 3 = r * 13 + j / 3 by omega, show (r * 39 + j) % 3 = j % 3 by omega]
def hasK (R : Nat → RF) : Nat → Bool := fun u => decide (1 ≤ u) && decide ((R u).1 ≠ 0)

theorem size_rnd : (Tryz.prog.info? 237).map (·.size) = some 39 := by kernel_rfl
theorem round_len (R : Nat → RF) : (roundL R).length = 39 := by unfold roundL; simp
theorem tab_len (H : Nat → RF) : (tabL H).length = 156 := by unfold tabL; simp
theorem round_new (w : World) (R : Nat → RF) (T : TypeId) : FRow (w.alloc (.cells (roundL R).toArray T)) w.heap.size T 39 (cellF R) := heap_alloc_new w _
theorem infoRi : (Tryz.prog.info? 3).map (fun i => (i.zero, i.size, i.bytes)) = some (some (.int .i64 0), 1, 8) := by kernel_rfl

set_option maxHeartbeats 2000000 in
set_option maxRecDepth 100000 in
theorem rset_calls (R : Nat → RF) (w : World) :
    Calls Tryz.prog 281 #[.agg (roundL R).toArray] w fun e w' => e = .returned (rsetV (hasK R)) ∧ Below w.heap.size w w' := by
  unfold rsetV
  obtain ⟨X, hX⟩ : ∃ X, X = roundL R := ⟨_, rfl⟩
  obtain ⟨W0, hW0⟩ : ∃ W0, W0 = ((w.alloc (.cells X.toArray 237)).alloc (.cells #[.bool false, .bool false, .bool false, .bool false, .bool false, .bool false, .bool false, .bool false, .bool false, .bool false, .bool false, .bool false, .bool false] 36)).alloc (.cells #[.bool false, .bool false, .bool false, .bool false, .bool false, .bool false, .bool false, .bool false, .bool false, .bool false, .bool false, .bool false, .bool false] 36) := ⟨_, rfl⟩
  have FA := hideG (show FRow W0 w.heap.size 237 39 (cellF R) by
    rw [hW0, hX]
    have k : Below (w.heap.size + 1) (w.alloc (.cells (roundL R).toArray 237)) (((w.alloc (.cells (roundL R).toArray 237)).alloc (.cells (bl13 fun _ => false).toArray 36)).alloc (.cells (bl13 fun _ => false).toArray 36)) := ((Below.refl _ _).alloc (by simp) _).alloc (by simp) _
    exact (round_new w R _).block (k.block _ (by omega)))
  have ZA := hideG (show BoolsAt W0 (w.heap.size + 1) 36 (fun _ => false) by
    rw [hW0]
    have := heap_alloc2_old (w.alloc (.cells X.toArray 237)) (.cells (bl13 fun _ => false).toArray 36) (.cells (bl13 fun _ => false).toArray 36)
    simp only [World.size_alloc] at this
    exact this)
  have ZB := hideG (show BoolsAt W0 (w.heap.size + 2) 36 (fun _ => false) by
    rw [hW0]
    have := heap_alloc2_new (w.alloc (.cells X.toArray 237)) (.cells (bl13 fun _ => false).toArray 36) (.cells (bl13 fun _ => false).toArray 36)
    simp only [World.size_alloc] at this
    exact this)
  have B0 := hideG (show Below w.heap.size w W0 by rw [hW0]; exact (((Below.refl _ _).alloc (Nat.le_refl _) _).alloc (by simp) _).alloc (by simp; omega) _)
  have HW0 := hideG hW0
  rw [← hX]
  clear hX hW0
  go_enter Tryz.func281, Tryz.ntmps281
  go_wp2_with fail
  rw [← HW0.out]
  go_loopw [4] (fun i wr => ∃ k : Nat, k ≤ 12 ∧ i = .int .i64 ((k : Int) + 1) ∧ BoolsAt wr (w.heap.size + 2) 36 (fun u => decide (u ≤ k) && hasK R u) ∧ BoolsAt wr (w.heap.size + 1) 36 (fun _ => false) ∧ FRow wr w.heap.size 237 39 (cellF R) ∧ Below w.heap.size w wr) (fun i _ => 13 - (intOf i).toNat)
  case atStart => exact ⟨0, by omega, rfl, ZB.out.ext (fun v _ => by unfold hasK; by_cases q : v ≤ 0 <;> simp [q] <;> omega), ZA.out, FA.out, B0.out⟩
  case round =>
    obtain ⟨k, hk, rfl, hbo, hze, hfr, hbel⟩ := hrel
    have HBO := hideG hbo
    have HZE := hideG hze
    have HFR := hideG hfr
    have HB := hideG hbel
    have hs1 := hbo.lt
    clear hbo hze hfr hbel
    by_cases hlt : k < 12
    · have hlt' : (k : Int) + 1 ≤ 12 := by omega
      have hk13 : (k : Int) + 1 < 13 := by omega
      have z0 := HBO.out.cell (k + 1) (by omega)
      have zf := HBO.out.froz (k + 1)
      have c0 := HFR.out.cell ((k + 1) * 3) (by omega)
      rw [cellF_0] at c0
      have HUP := hideG (fun (p : Bool) (hp : p = decide ((R (k + 1)).1 ≠ 0)) => (show BoolsAt (wr.setCell ⟨w.heap.size + 2, k + 1, none⟩ (.bool p)) (w.heap.size + 2) 36 (fun u => decide (u ≤ k + 1) && hasK R u) from
        (HBO.out.set (k + 1) (by omega) p).ext (fun v hv => by
          unfold updB
          by_cases e : v = k + 1
          · subst e; rw [if_pos rfl, hp, decide_eq_true (Nat.le_refl _), Bool.true_and]; unfold hasK; rw [decide_eq_true (show 1 ≤ k + 1 by omega), Bool.true_and]
          · rw [if_neg e]
            show (decide (v ≤ k) && hasK R v) = (decide (v ≤ k + 1) && hasK R v)
            by_cases c : v ≤ k
            · rw [decide_eq_true c, decide_eq_true (show v ≤ k + 1 by omega)]
            · rw [decide_eq_false c, decide_eq_false (show ¬ v ≤ k + 1 by omega)])))
      have HN := hideG (fun (p : Bool) => And.intro (HZE.out.block (w' := wr.setCell ⟨w.heap.size + 2, k + 1, none⟩ (.bool p)) (Below.heap_setCell _ _ _ _ (by simp))) (And.intro (HFR.out.block (w' := wr.setCell ⟨w.heap.size + 2, k + 1, none⟩ (.bool p)) (Below.heap_setCell _ _ _ _ (by simp))) (HB.out.setCell (p := ⟨w.heap.size + 2, k + 1, none⟩) (by show w.heap.size ≤ w.heap.size + 2; omega) (.bool p))))
      obtain ⟨x, hx⟩ : ∃ x, x = (R (k + 1)).1 := ⟨_, rfl⟩
      rw [← hx] at c0 HUP
      clear hx
      by_cases q : x = 0
      · have q' : (x != 0) = false := by simpa using q
        have HP := hideG (HUP.out false (by simp [q]))
        have HQ := hideG q
        clear q
        go_wp2_with fail
        go_roundw
        case rel => exact ⟨k + 1, by omega, by go_num, HP.out, (HN.out _).1, (HN.out _).2.1, (HN.out _).2.2⟩
        case measure => simp [intOf]; omega
      · have q' : (x != 0) = true := by simpa using q
        have HP := hideG (HUP.out true (by simp [q]))
        have HQ := hideG q
        clear q
        go_wp2_with fail
        go_roundw
        case rel => exact ⟨k + 1, by omega, by go_num, HP.out, (HN.out _).1, (HN.out _).2.1, (HN.out _).2.2⟩
        case measure => simp [intOf]; omega
    · have ek : k = 12 := by omega
      subst ek
      have HST := hideG (show BoolsAt wr (w.heap.size + 2) 36 (hasK R) from HBO.out.ext (fun v hv => by rw [decide_eq_true (show v ≤ 12 by omega)]; rfl))
      have RG := hideG HST.out.range
      have LX := hideG (bl13_length (hasK R))
      have HON := hideG (all_oneCell_toArray (bl13_one (hasK R)))
      have HTH := hideG (show wr.there (w.heap.size + 1) 0 (bl13 (hasK R)).toArray.size from fun i hi => by
        rw [List.size_toArray, bl13_length] at hi
        exact ⟨by rw [Nat.zero_add, HZE.out.cell i hi]; rfl, by rw [Nat.zero_add]; exact HZE.out.froz i⟩)
      have HROW := hideG (show (wr.setCells (w.heap.size + 1) 0 (bl13 (hasK R))).heap[w.heap.size + 1]? = some (.cells (bl13 (hasK R)).toArray 36 (0, 0)) by
        have := heap_setCells (w.heap.size + 1) 36 (bl13 (hasK R)) [] (bl13 fun _ => false) [] wr rfl (by rw [List.append_nil]; exact HZE.out)
        rw [List.append_nil] at this
        exact this)
      have BF := hideG (show Below w.heap.size w (wr.setCells (w.heap.size + 1) 0 (bl13 (hasK R))) from below_setCells (by omega) _ _ _ HB.out)
      obtain ⟨CS, hCS⟩ : ∃ CS, CS = bl13 (hasK R) := ⟨_, rfl⟩
      rw [← hCS] at RG LX HON HTH HROW BF
      have HCS := hideG hCS
      clear hCS
      have HSZ := hideG (show (Tryz.prog.info? 36).map (·.size) = some CS.toArray.size by rw [size_b13, List.size_toArray, LX.out])
      have HSL := hideG (show (Tryz.prog.info? 36).map (·.size) = some CS.length by rw [size_b13, LX.out])
      go_wp2_with (first | refine wpList_load_mid rfl 36 _ rfl (w.heap.size + 2) 0 rfl CS _ RG.out Tryz.underlying36 rfl HSL.out ?_ | refine wpList_store_mid rfl 36 _ _ rfl (w.heap.size + 1) 0 CS.toArray rfl rfl HTH.out HSZ.out HON.out ?_)
      refine bodyPost_ret (results_cell_row rfl _ _ (w.heap.size + 1) 36 CS.toArray (0, 0) _ rfl HROW.out Tryz.underlying36 rfl HSZ.out) rfl ?_
      exact ⟨by rw [HCS.out], BF.out⟩

set_option maxHeartbeats 2000000 in
set_option maxRecDepth 100000 in
theorem rlist_calls (R : Nat → RF) (w : World) :
    Calls Tryz.prog 241 #[.agg (roundL R).toArray] w fun e w' => ∃ v, e = .returned v ∧ w'.ownsRow w.heap.size 3 1 v (Srv.lst (hasK R)).length ((Srv.lst (hasK R)).map fun u : Nat => .int .i64 (u : Int)) ∧ Below w.heap.size w w' := by
  obtain ⟨i0, hi, hz0, hz1, hz2⟩ := info_parts infoRi
  have HF := hideG (round_new w R 237)
  have BB := hideG (show Below w.heap.size w (w.alloc (.cells (roundL R).toArray 237)) from (Below.refl _ _).alloc (Nat.le_refl _) _)
  obtain ⟨X, hX⟩ : ∃ X, X = roundL R := ⟨_, rfl⟩
  rw [← hX] at HF BB ⊢
  clear hX
  have H0 := hideG (show Srv.lstN (hasK R) 1 = [] by rw [Srv.lstN_succ]; unfold hasK; simp [Srv.lstN])
  go_enter Tryz.func241, Tryz.ntmps241
  go_wp2_with fail
  go_loopw [3, 4] (fun ro i wr => ∃ k : Nat, k ≤ 12 ∧ i = .int .i64 ((k : Int) + 1) ∧ wr.ownsRow w.heap.size 3 1 ro (Srv.lstN (hasK R) (k + 1)).length ((Srv.lstN (hasK R) (k + 1)).map fun u : Nat => .int .i64 (u : Int)) ∧ FRow wr w.heap.size 237 39 (cellF R) ∧ Below w.heap.size w wr ∧ (∀ x, ro.ownBlock = some x → x ≠ w.heap.size)) (fun _ i _ => 13 - (intOf i).toNat)
  case atStart => exact ⟨0, by omega, rfl, by rw [H0.out]; exact World.ownsRow_nil _ _ _ _, HF.out, BB.out, fun x hx => by cases hx⟩
  case round =>
    obtain ⟨k, hk, rfl, hown, hfr, hbel, hne⟩ := hrel
    have HO := hideG hown
    have HFR := hideG hfr
    have HB := hideG hbel
    have HNE := hideG hne
    have hsz := hbel.size
    have hfl := hfr.lt
    obtain ⟨a3, c3, hv3⟩ := owns_form hown
    subst hv3
    clear hown hbel hfr hne
    have hle := Srv.lstN_le (hasK R) (k + 1)
    have HS := hideG (Srv.lstN_succ (hasK R) (k + 1))
    by_cases hlt : k < 12
    · have hlt' : (k : Int) + 1 ≤ 12 := by omega
      have hk13 : (k : Int) + 1 < 13 := by omega
      have c0 := HFR.out.cell ((k + 1) * 3) (by omega)
      rw [cellF_0] at c0
      have HHK := hideG (show hasK R (k + 1) = decide ((R (k + 1)).1 ≠ 0) by unfold hasK; rw [decide_eq_true (show 1 ≤ k + 1 by omega), Bool.true_and])
      obtain ⟨x, hx⟩ : ∃ x, x = (R (k + 1)).1 := ⟨_, rfl⟩
      rw [← hx] at c0 HHK
      clear hx
      by_cases q : x = 0
      · have q' : (x != 0) = false := by simpa using q
        have HS2 := hideG (show Srv.lstN (hasK R) (k + 1 + 1) = Srv.lstN (hasK R) (k + 1) by rw [HS.out, HHK.out]; simp [q])
        have HQ := hideG q
        clear q
        go_wp2_with fail
        go_roundw
        case rel => exact ⟨k + 1, by omega, by go_num, by rw [HS2.out]; exact HO.out, HFR.out, HB.out, HNE.out⟩
        case measure => simp [intOf]; omega
      · have q' : (x != 0) = true := by simpa using q
        have HS2 := hideG (show Srv.lstN (hasK R) (k + 1 + 1) = Srv.lstN (hasK R) (k + 1) ++ [k + 1] by rw [HS.out, HHK.out]; simp [q])
        have HQ := hideG q
        clear q
        go_wp2_with (at_builtin; refine wpList_append_own _ rfl _ _ 33 rfl w.heap.size 3 i0 (.int .i64 0) 1 8 Tryz.underlying33 hi hz0 hz1 hz2 rfl (by decide) _ _ _ rfl (HO.out.alloc _) ⟨wr.heap.size, 0, none⟩ 1 1 [.int .i64 ((k : Int) + 1)] rfl rfl ?c1 ?c2 ?c3 ?c4 ?c5 ?_)
        case c1 => exact cell_one_new _ _ _
        case c2 => intro u hu; simp at hu; subst hu; rfl
        case c3 => unfold maxLen; omega
        case c4 => omega
        case c5 => simp; omega
        intro v' w2 hown' hgrow' _
        have hb2 := (HB.out.alloc hsz _).grown hgrow' (by simp; omega) (fun x h => (HO.out.lt x h).1)
        have hal : Below wr.heap.size wr (wr.alloc (.cells #[.int .i64 ((k : Int) + 1)] 3)) := (Below.refl _ _).alloc (Nat.le_refl _) _
        have F2 := hideG ((HFR.out.block (hal.block _ hfl)).block (hgrow'.block _ (by simp; omega) (fun e => HNE.out _ e.symm rfl)))
        have hT : (3 : TypeId) ≠ 237 := by decide
        have N2 := hideG (show ∀ x, v'.ownBlock = some x → x ≠ w.heap.size from fun x hx e => by
          subst e
          obtain ⟨_, hd⟩ := hown'
          rcases hd with ⟨rfl, _⟩ | ⟨g, cap, cur, rfl, _, h3, _⟩
          · cases hx
          · have e1 : g = w.heap.size := Option.some.inj hx
            subst e1
            have := F2.out
            unfold FRow at this
            rw [h3] at this
            injection (Option.some.inj this) with _ e2
            exact hT e2)
        have HB2 := hideG hb2
        have HO2 := hideG (show w2.ownsRow w.heap.size 3 1 v' (Srv.lstN (hasK R) (k + 1 + 1)).length ((Srv.lstN (hasK R) (k + 1 + 1)).map fun u : Nat => .int .i64 (u : Int)) by
          rw [HS2.out, List.length_append, List.map_append]; exact hown')
        clear hown' hgrow' hb2 hal
        go_wp2_with fail
        go_roundw
        case rel => exact ⟨k + 1, by omega, by go_num, HO2.out, F2.out, HB2.out, N2.out⟩
        case measure => simp [intOf]; omega
    · have ek : k = 12 := by omega
      subst ek
      go_wp2_with fail
      go_ret
      exact ⟨_, rfl, HO.out, HB.out⟩

theorem rwants_calls (rd : Nat) (hr : rd < 4) (w : World) :
    Calls Tryz.prog 239 #[.int .i64 (rd : Int)] w fun e w' => e = .returned (.int .i64 (2 * (rd : Int) + 1)) ∧ w' = w := by
  have hd : rd = 0 ∨ rd = 1 ∨ rd = 2 ∨ rd = 3 := by omega
  rcases hd with rfl | rfl | rfl | rfl
  · go_enter Tryz.func239, Tryz.ntmps239
    go_wp2_with fail
    go_ret
    exact ⟨rfl, rfl⟩
  · go_enter Tryz.func239, Tryz.ntmps239
    go_wp2_with fail
    go_ret
    exact ⟨rfl, rfl⟩
  · go_enter Tryz.func239, Tryz.ntmps239
    go_wp2_with fail
    go_ret
    exact ⟨rfl, rfl⟩
  · go_enter Tryz.func239, Tryz.ntmps239
    go_wp2_with fail
    go_ret
    exact ⟨rfl, rfl⟩

end Go.Proofs.YtchideljndagjabGreat

namespace Go.Proofs.YtchideljndagjabGreat
open Go.ChangeShapes Go.WideShapes Go.ChangeAt Go.RowKit
set_option linter.unusedVariables false

theorem same_no {f g : Nat → Bool} (k : Nat) (hk : k < 13) (h : f k ≠ g k) : Srv.sameS f g = false := by
  cases e : Srv.sameS f g
  · rfl
  · exact absurd (Srv.sameS_iff.1 e k hk) h
theorem same_yes {f g : Nat → Bool} (h : ∀ k, k < 13 → f k = g k) : Srv.sameS f g = true := Srv.sameS_iff.2 h

set_option maxHeartbeats 1000000 in
set_option maxRecDepth 100000 in
theorem ralike_calls (f g : Nat → Bool) (w : World) :
    Calls Tryz.prog 282 #[rsetV f, rsetV g] w fun e w' => e = .returned (.bool (Srv.sameS f g)) ∧ Below w.heap.size w w' := by
  unfold rsetV
  obtain ⟨W, hW⟩ : ∃ W, W = (w.alloc (.cells (bl13 f).toArray 36)).alloc (.cells (bl13 g).toArray 36) := ⟨_, rfl⟩
  have HA := hideG (show BoolsAt W w.heap.size 36 f by rw [hW]; exact heap_alloc2_old w _ _)
  have HBB := hideG (show BoolsAt W (w.heap.size + 1) 36 g by rw [hW]; exact heap_alloc2_new w _ _)
  have BB := hideG (show Below w.heap.size w W by rw [hW]; exact ((Below.refl _ _).alloc (Nat.le_refl _) _).alloc (by simp) _)
  have hsz : w.heap.size + 1 < W.heap.size := HBB.out.lt
  have HW := hideG hW
  clear hW
  obtain ⟨X, hX⟩ : ∃ X, X = (bl13 f).toArray := ⟨_, rfl⟩
  obtain ⟨Y, hY⟩ : ∃ Y, Y = (bl13 g).toArray := ⟨_, rfl⟩
  rw [← hX, ← hY] at HW ⊢
  clear hX hY
  have HNO := hideG (fun k hk h => same_no (f := f) (g := g) k hk h)
  have HYE := hideG (fun h => same_yes (f := f) (g := g) h)
  go_enter Tryz.func282, Tryz.ntmps282
  go_wp2_with fail
  rw [← HW.out]
  go_loopw [5] (fun i wr => ∃ k : Nat, k ≤ 13 ∧ i = .int .i64 (k : Int) ∧ (∀ j, j < k → f j = g j) ∧ Below W.heap.size W wr) (fun i _ => 13 - (intOf i).toNat)
  case atStart => exact ⟨0, by omega, rfl, fun j h => absurd h (by omega), Below.refl _ _⟩
  case round =>
    obtain ⟨k, hk, rfl, hall, hbel⟩ := hrel
    have HAL := hideG hall
    have HB := hideG hbel
    have HBW := hideG (BB.out.trans (hbel.mono BB.out.size))
    clear hall hbel
    by_cases hlt : k < 13
    · have hlt' : (k : Int) ≤ 12 := by omega
      have hk13 : (k : Int) < 13 := by omega
      have c := (HA.out.below HB.out (by omega)).cell k hlt
      have d := (HBB.out.below HB.out hsz).cell k hlt
      have HD := hideG (fun m => HB.out.trans ((below_drewN wr m).mono HB.out.size))
      have HDW := hideG (fun m => HBW.out.trans ((below_drewN wr m).mono HBW.out.size))
      have HNK := hideG (HNO.out k hlt)
      have NXT := hideG (fun (e : f k = g k) j (hj : j < k + 1) => (show f j = g j from if q : j = k then q ▸ e else HAL.out j (by omega)))
      cases q1 : f k <;> cases q2 : g k
      · rw [q1] at c
        rw [q2] at d
        have NX := hideG (NXT.out (by rw [q1, q2]))
        clear q1 q2
        go_wp2_with fail
        go_quiet (fail)
        go_wp2_with fail
        go_roundw
        case rel => exact ⟨k + 1, by omega, by go_num, NX.out, HD.out _⟩
        case measure => simp [intOf]; omega
      · rw [q1] at c
        rw [q2] at d
        have NX := hideG (HNK.out (by rw [q1, q2]; exact Bool.false_ne_true))
        clear q1 q2
        go_wp2_with fail
        go_quiet (fail)
        go_wp2_with fail
        go_ret
        exact ⟨ret_bool NX.out.symm, HDW.out _⟩
      · rw [q1] at c
        rw [q2] at d
        have NX := hideG (HNK.out (by rw [q1, q2]; exact fun e => Bool.false_ne_true e.symm))
        clear q1 q2
        go_wp2_with fail
        go_quiet (fail)
        go_wp2_with fail
        go_ret
        exact ⟨ret_bool NX.out.symm, HDW.out _⟩
      · rw [q1] at c
        rw [q2] at d
        have NX := hideG (NXT.out (by rw [q1, q2]))
        clear q1 q2
        go_wp2_with fail
        go_quiet (fail)
        go_wp2_with fail
        go_roundw
        case rel => exact ⟨k + 1, by omega, by go_num, NX.out, HD.out _⟩
        case measure => simp [intOf]; omega
    · have ek : k = 13 := by omega
      subst ek
      have YY := hideG (HYE.out HAL.out)
      go_wp2_with fail
      go_ret
      exact ⟨ret_bool YY.out.symm, HBW.out⟩

/-- Thirteen bools laid into a new block. -/
theorem bools_put (W : World) (f : Nat → Bool) : (W.alloc (.cells #[.bool false, .bool false, .bool false, .bool false, .bool false, .bool false, .bool false, .bool false, .bool false, .bool false, .bool false, .bool false, .bool false] 36)).there W.heap.size 0 (bl13 f).toArray.size ∧ BoolsAt ((W.alloc (.cells #[.bool false, .bool false, .bool false, .bool false, .bool false, .bool false, .bool false, .bool false, .bool false, .bool false, .bool false, .bool false, .bool false] 36)).setCells W.heap.size 0 (bl13 f)) W.heap.size 36 f ∧ Below W.heap.size W ((W.alloc (.cells #[.bool false, .bool false, .bool false, .bool false, .bool false, .bool false, .bool false, .bool false, .bool false, .bool false, .bool false, .bool false, .bool false] 36)).setCells W.heap.size 0 (bl13 f)) := by
  have BO : BoolsAt (W.alloc (.cells #[.bool false, .bool false, .bool false, .bool false, .bool false, .bool false, .bool false, .bool false, .bool false, .bool false, .bool false, .bool false, .bool false] 36)) W.heap.size 36 (fun _ => false) := heap_alloc_new W _
  refine ⟨fun i hi => ?_, ?_, below_setCells (Nat.le_refl _) _ _ _ ((Below.refl _ _).alloc (Nat.le_refl _) _)⟩
  · rw [List.size_toArray, bl13_length] at hi
    exact ⟨by rw [Nat.zero_add, BO.cell i hi]; rfl, by rw [Nat.zero_add]; exact BO.froz i⟩
  · have := heap_setCells W.heap.size 36 (bl13 f) [] (bl13 fun _ => false) [] (W.alloc (.cells #[.bool false, .bool false, .bool false, .bool false, .bool false, .bool false, .bool false, .bool false, .bool false, .bool false, .bool false, .bool false, .bool false] 36)) rfl (by rw [List.append_nil]; exact BO)
    rw [List.append_nil] at this
    exact this

def shapeR (M : Int) (r u : Nat) (l : List Frm.It) (p0 p1 p2 : Nat → Bool) : Bool :=
  if r = 1 then Srv.sameS (fun x : Nat => Cli.hasI l x) (updB p0 u false)
  else if r = 2 then decide ((l.length : Int) = M)
  else if r = 3 then (l.all fun x => decide (x.2.1 = 1) == p2 x.1.toNat) && Srv.sameS (fun x : Nat => Cli.hasI l x) p1
  else true
theorem shapeR_eq {C : Srv.Cf} {G : Srv.Tab} {r u : Nat} {l : List Frm.It} {p0 p1 p2 : Nat → Bool} (hr : Frm.riseB l = true) (h0 : 1 ≤ r → ∀ v, v < 13 → p0 v = Srv.mem (G 0) v) (h1 : 2 ≤ r → ∀ v, v < 13 → p1 v = Srv.mem (G 1) v) (h2 : 3 ≤ r → ∀ v, v < 13 → p2 v = Srv.mem (G 2) v) : shapeR C.M r u l p0 p1 p2 = Srv.shape C G r u l := by
  unfold shapeR Srv.shape
  by_cases r1 : r = 1
  · rw [if_pos r1, if_pos r1, Bool.eq_iff_iff, Srv.sameS_iff, Srv.sameS_iff]
    have e : ∀ v, v < 13 → updB p0 u false v = Srv.without (Srv.mem (G 0)) u v := fun v hv => by
      unfold updB Srv.without
      rw [h0 (by omega) v hv]
      by_cases c : v = u
      · rw [if_pos c, decide_eq_false (by simpa using c), Bool.and_false]
      · rw [if_neg c, decide_eq_true c, Bool.and_true]
    exact ⟨fun a v hv => (a v hv).trans (e v hv), fun a v hv => (a v hv).trans (e v hv).symm⟩
  · rw [if_neg r1, if_neg r1]
    by_cases r2 : r = 2
    · rw [if_pos r2, if_pos r2]
    · rw [if_neg r2, if_neg r2]
      by_cases r3 : r = 3
      · rw [if_pos r3, if_pos r3]
        congr 1
        · rw [Bool.eq_iff_iff, List.all_eq_true, List.all_eq_true]
          have e : ∀ x ∈ l, p2 x.1.toNat = Srv.mem (G 2) x.1.toNat := fun x hx => h2 (by omega) _ (Srv.has_cast hr x hx).1
          exact ⟨fun a x hx => by rw [← e x hx]; exact a x hx, fun a x hx => by rw [e x hx]; exact a x hx⟩
        · rw [Bool.eq_iff_iff, Srv.sameS_iff, Srv.sameS_iff]
          have e := h1 (by omega)
          exact ⟨fun a v hv => (a v hv).trans (e v hv), fun a v hv => (a v hv).trans (e v hv).symm⟩
      · rw [if_neg r3, if_neg r3]

/-- The boxes of shape's arguments. -/
def shW (w : World) (k fr : Int) (v : Value) (R0 R1 R2 : Nat → RF) : World := (((w.alloc (.cells #[.int .i64 k, .int .i64 fr, v] 65)).alloc (.cells (roundL R0).toArray 237)).alloc (.cells (roundL R1).toArray 237)).alloc (.cells (roundL R2).toArray 237)
theorem shW_facts (w : World) (k fr : Int) (v : Value) (R0 R1 R2 : Nat → RF) {W : World} (hb : Below (shW w k fr v R0 R1 R2).heap.size (shW w k fr v R0 R1 R2) W) :
    (W.cell? ⟨w.heap.size, 0, none⟩ = some (.int .i64 k) ∧ W.cell? ⟨w.heap.size, 1, none⟩ = some (.int .i64 fr) ∧ W.cell? ⟨w.heap.size, 2, none⟩ = some v) ∧ W.rangeAt (w.heap.size + 1) 0 (roundL R0) ∧ W.rangeAt (w.heap.size + 2) 0 (roundL R1) ∧ W.rangeAt (w.heap.size + 3) 0 (roundL R2) ∧ Below w.heap.size w W ∧ w.heap.size + 4 ≤ W.heap.size := by
  have hs : (shW w k fr v R0 R1 R2).heap.size = w.heap.size + 4 := by simp [shW]
  have rng : ∀ (b : Nat) (R : Nat → RF), FRow W b 237 39 (cellF R) → W.rangeAt b 0 (roundL R) := fun b R h => by
    have := h.range 0 39 (by omega)
    simp only [Nat.zero_add] at this
    exact this
  have k1 : Below (w.heap.size + 1) (w.alloc (.cells #[.int .i64 k, .int .i64 fr, v] 65)) (shW w k fr v R0 R1 R2) := (((Below.refl _ _).alloc (by simp) _).alloc (by simp) _).alloc (by simp) _
  have k2 : Below (w.heap.size + 2) ((w.alloc (.cells #[.int .i64 k, .int .i64 fr, v] 65)).alloc (.cells (roundL R0).toArray 237)) (shW w k fr v R0 R1 R2) := ((Below.refl _ _).alloc (by simp) _).alloc (by simp) _
  have k3 : Below (w.heap.size + 3) (((w.alloc (.cells #[.int .i64 k, .int .i64 fr, v] 65)).alloc (.cells (roundL R0).toArray 237)).alloc (.cells (roundL R1).toArray 237)) (shW w k fr v R0 R1 R2) := (Below.refl _ _).alloc (by simp) _
  have r0 : W.heap[w.heap.size]? = some (.cells #[.int .i64 k, .int .i64 fr, v] 65 (0, 0)) := (hb.block _ (by omega)).trans ((k1.block _ (by omega)).trans (heap_alloc_new w _))
  have f1 : FRow W (w.heap.size + 1) 237 39 (cellF R0) := (hb.block _ (by omega)).trans ((k2.block _ (by omega)).trans (by have := heap_alloc_new (w.alloc (.cells #[.int .i64 k, .int .i64 fr, v] 65)) (.cells (roundL R0).toArray 237); simp only [World.size_alloc] at this; exact this))
  have f2 : FRow W (w.heap.size + 2) 237 39 (cellF R1) := (hb.block _ (by omega)).trans ((k3.block _ (by omega)).trans (by have := heap_alloc_new ((w.alloc (.cells #[.int .i64 k, .int .i64 fr, v] 65)).alloc (.cells (roundL R0).toArray 237)) (.cells (roundL R1).toArray 237); simp only [World.size_alloc] at this; exact this))
  have f3 : FRow W (w.heap.size + 3) 237 39 (cellF R2) := (hb.block _ (by omega)).trans (by have := heap_alloc_new (((w.alloc (.cells #[.int .i64 k, .int .i64 fr, v] 65)).alloc (.cells (roundL R0).toArray 237)).alloc (.cells (roundL R1).toArray 237)) (.cells (roundL R2).toArray 237); simp only [World.size_alloc] at this; exact this)
  have b0 : Below w.heap.size w (shW w k fr v R0 R1 R2) := ((((Below.refl _ _).alloc (Nat.le_refl _) _).alloc (by simp) _).alloc (by simp; omega) _).alloc (by simp; omega) _
  refine ⟨⟨?_, ?_, ?_⟩, rng _ _ f1, rng _ _ f2, rng _ _ f3, b0.trans (hb.mono (by omega)), by have := hb.size; omega⟩
  · rw [cell_of_row W w.heap.size 0 _ _ (0, 0) r0]; rfl
  · rw [cell_of_row W w.heap.size 1 _ _ (0, 0) r0]; rfl
  · rw [cell_of_row W w.heap.size 2 _ _ (0, 0) r0]; rfl

end Go.Proofs.YtchideljndagjabGreat
