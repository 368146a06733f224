/- Contracts of the program's server: are the Ids of a frame just the members; are the shares of the kinds that are asked for. -/
import Derived.Test.YtchideljndagjabGreatPkQuAS
import Derived.Test.YtchideljndagjabGreatPkQuAB
import Derived.Test.YtchideljndagjabGreatPkQuAC
namespace Go.Proofs.YtchideljndagjabGreat
open Go.ChangeShapes Go.WideShapes Go.ChangeAt Go.RowKit
set_option linter.unusedVariables false

theorem all_first {l : List Frm.It} {p : Frm.It → Bool} : (∀ j, j < l.length → p (Frm.it l j) = true) → l.all p = true := fun h => List.all_eq_true.2 fun x hx => by
  obtain ⟨i, hi, rfl⟩ := List.getElem_of_mem hx
  rw [← Cli.it_get l i hi]; exact h i hi
theorem all_fails {l : List Frm.It} {p : Frm.It → Bool} (j : Nat) (hj : j < l.length) (h : p (Frm.it l j) = false) : l.all p = false := List.all_eq_false.2 ⟨Frm.it l j, by rw [Cli.it_get l j hj]; exact List.getElem_mem hj, by rw [h]; exact Bool.false_ne_true⟩

set_option maxHeartbeats 1000000 in
set_option maxRecDepth 100000 in
theorem haveIds_calls (v : Value) (l : List Frm.It) (f : Nat → Bool) (w : World) (hl : ItemsAt w v l) (hr : Frm.riseB l = true) :
    Calls Tryz.prog 290 #[v, memV f] w fun e w' => e = .returned (.bool (Srv.haveIds l f)) ∧ Below w.heap.size w w' := by
  obtain ⟨a, cap, rfl, l2, l3, _, hcl⟩ := items_view hl
  have HC := hideG hcl
  have HI := hideG (fun j (hj : j < l.length) => (Cli.rise_pair hr).2 (Frm.it l j) (by rw [Cli.it_get l j hj]; exact List.getElem_mem hj))
  have HSZ := hideG (sizeOf_calls f)
  have HY := hideG (fun h => all_first (l := l) (p := fun x => Num.clB x.1 && f x.1.toNat) h)
  have HNO := hideG (fun j hj h => all_fails (l := l) (p := fun x => Num.clB x.1 && f x.1.toNat) j hj h)
  clear hl hr hcl
  unfold memV at HSZ ⊢
  have LX := hideG (bl13_length f)
  have HB0 := hideG (bools_new w 101 f)
  have BB := hideG (show Below w.heap.size w (w.alloc (.cells (bl13 f).toArray 101)) from (Below.refl _ _).alloc (Nat.le_refl _) _)
  have HRG := hideG (fun (W : World) (h : BoolsAt W w.heap.size 101 f) => h.range)
  unfold Srv.haveIds
  obtain ⟨n, hn⟩ : ∃ n, n = l.length := ⟨_, rfl⟩
  rw [← hn] at l2 HC HI HY HNO ⊢
  obtain ⟨m, hm⟩ : ∃ m, m = (Srv.lst f).length := ⟨_, rfl⟩
  rw [← hm] at HSZ ⊢
  have hm13 : m ≤ 13 := by rw [hm]; exact Srv.lstN_le f 13
  clear hn hm
  obtain ⟨X, hX⟩ : ∃ X, X = bl13 f := ⟨_, rfl⟩
  rw [← hX] at HB0 BB HSZ HRG LX ⊢
  clear hX
  go_enter Tryz.func290, Tryz.ntmps290
  go_wp2_with fail
  go_loopw [9] (fun i wr => ∃ j : Nat, j ≤ n ∧ i = .int .i64 j ∧ (∀ k, k < j → (Num.clB (Frm.it l k).1 && f (Frm.it l k).1.toNat) = true) ∧ BoolsAt wr w.heap.size 101 f ∧ Below w.heap.size w wr) (fun i _ => n - (intOf i).toNat)
  case atStart => exact ⟨0, Nat.zero_le _, rfl, fun i h => absurd h (by omega), HB0.out, BB.out⟩
  case round =>
    obtain ⟨j, hj, rfl, hall, hbo, hbel⟩ := hrel
    have HA := hideG hall
    have HBO := hideG hbo
    have HB := hideG hbel
    have hsz := hbo.lt
    clear hall hbo hbel
    by_cases hlt : j < n
    · obtain ⟨b', off, rfl, hb, hit⟩ := HC.out j hlt
      obtain ⟨d0, d1, d2, d3⟩ := hit.below hb HB.out
      clear hit
      have hub := HI.out j hlt
      have HNJ := hideG (HNO.out j hlt)
      obtain ⟨u, hu⟩ : ∃ u : Nat, (Frm.it l j).1 = (u : Int) := ⟨(Frm.it l j).1.toNat, by omega⟩
      rw [hu] at hub d0
      obtain ⟨ub1, ub2⟩ := hub
      have u13 : u < 13 := by omega
      have u13' : (u : Int) < 13 := by omega
      have HCL := hideG (Num.clB_yes ub1 ub2)
      have HPJ := hideG (show (Num.clB (Frm.it l j).1 && f (Frm.it l j).1.toNat) = f u by rw [hu, Num.clB_yes ub1 ub2, Int.toNat_natCast]; rfl)
      clear hu
      generalize (Frm.it l j).2.1 = xa at *
      generalize (Frm.it l j).2.2.1 = xb at *
      generalize (Frm.it l j).2.2.2 = xc at *
      obtain ⟨W1, hW1⟩ : ∃ W1, W1 = wr.alloc (.cells #[.int .i64 (u : Int), .int .i64 xa, .int .i64 xb, .int .i64 xc] 147) := ⟨_, rfl⟩
      have x0 : W1.cell? ⟨wr.heap.size, 0, none⟩ = some (.int .i64 (u : Int)) := by rw [hW1]; simp
      have HBO1 := hideG (show BoolsAt W1 w.heap.size 101 f by rw [hW1]; exact HBO.out.below ((Below.refl wr.heap.size wr).alloc (Nat.le_refl _) _) hsz)
      have HB1 := hideG (show Below w.heap.size w W1 by rw [hW1]; exact HB.out.alloc (by omega) _)
      have HW1 := hideG hW1
      clear hW1
      go_upto_region 4 with fail
      rw [← HW1.out]
      have z0 := HBO1.out.cell u u13
      cases q : f u
      · rw [q] at z0 HPJ
        clear q
        go_wp2_with fail
        refine (client_calls _ _).mono ?_
        rintro e W2 ⟨rfl, rfl⟩
        rw [HCL.out]
        go_wp2_with fail
        go_ret
        exact ⟨ret_bool (by rw [HNJ.out HPJ.out]; rfl), HB1.out⟩
      · rw [q] at z0 HPJ
        clear q
        go_wp2_with fail
        refine (client_calls _ _).mono ?_
        rintro e W2 ⟨rfl, rfl⟩
        rw [HCL.out]
        go_wp2_with fail
        go_roundw
        case rel =>
          refine ⟨j + 1, by omega, by go_num, fun k hk => ?_, HBO1.out, HB1.out⟩
          by_cases e : k = j
          · subst e; exact HPJ.out
          · exact HA.out k (by omega)
        case measure => simp [intOf]; omega
    · have ej : j = n := by omega
      subst ej
      have HYY := hideG (HY.out HA.out)
      have RG := hideG (HRG.out wr HBO.out)
      go_wp2_with (refine wpList_load_mid rfl 101 _ rfl w.heap.size 0 rfl X _ RG.out Tryz.underlying101 rfl ?z ?_)
      case z => rw [size_mem, LX.out]
      go_wp2_with fail
      refine (HSZ.out wr).mono ?_
      rintro e W2 ⟨rfl, hb2⟩
      have B2 := hideG (HB.out.trans (hb2.mono HB.out.size))
      clear hb2
      go_wp2_with fail
      go_ret
      exact ⟨ret_bool (by
        rw [HYY.out, Bool.true_and]
        by_cases e : j = m
        · subst e; simp
        · rw [decide_eq_false e]; simp; omega), B2.out⟩

set_option maxHeartbeats 1000000 in
set_option maxRecDepth 100000 in
theorem tellOf_calls (v : Value) (l : List Frm.It) (f : Nat → Bool) (w : World) (hl : ItemsAt w v l) (hr : Frm.riseB l = true) :
    Calls Tryz.prog 291 #[v, memV f] w fun e w' => e = .returned (.bool (Srv.tellOf l f)) ∧ Below w.heap.size w w' := by
  obtain ⟨a, cap, rfl, l2, l3, _, hcl⟩ := items_view hl
  have HC := hideG hcl
  have HI := hideG (fun j (hj : j < l.length) => (Cli.rise_pair hr).2 (Frm.it l j) (by rw [Cli.it_get l j hj]; exact List.getElem_mem hj))
  have HY := hideG (fun h => all_first (l := l) (p := fun x => Num.clB x.1 && (f x.1.toNat == decide (x.2.1 = 1))) h)
  have HNO := hideG (fun j hj h => all_fails (l := l) (p := fun x => Num.clB x.1 && (f x.1.toNat == decide (x.2.1 = 1))) j hj h)
  clear hl hr hcl
  unfold memV
  have HB0 := hideG (bools_new w 101 f)
  have BB := hideG (show Below w.heap.size w (w.alloc (.cells (bl13 f).toArray 101)) from (Below.refl _ _).alloc (Nat.le_refl _) _)
  unfold Srv.tellOf
  obtain ⟨n, hn⟩ : ∃ n, n = l.length := ⟨_, rfl⟩
  rw [← hn] at l2 HC HI HY HNO ⊢
  clear hn
  obtain ⟨X, hX⟩ : ∃ X, X = bl13 f := ⟨_, rfl⟩
  rw [← hX] at HB0 BB ⊢
  clear hX
  go_enter Tryz.func291, Tryz.ntmps291
  go_wp2_with fail
  go_loopw [9] (fun i wr => ∃ j : Nat, j ≤ n ∧ i = .int .i64 j ∧ (∀ k, k < j → (Num.clB (Frm.it l k).1 && (f (Frm.it l k).1.toNat == decide ((Frm.it l k).2.1 = 1))) = true) ∧ BoolsAt wr w.heap.size 101 f ∧ Below w.heap.size w wr) (fun i _ => n - (intOf i).toNat)
  case atStart => exact ⟨0, Nat.zero_le _, rfl, fun i h => absurd h (by omega), HB0.out, BB.out⟩
  case round =>
    obtain ⟨j, hj, rfl, hall, hbo, hbel⟩ := hrel
    have HA := hideG hall
    have HBO := hideG hbo
    have HB := hideG hbel
    have hsz := hbo.lt
    clear hall hbo hbel
    by_cases hlt : j < n
    · obtain ⟨b', off, rfl, hb, hit⟩ := HC.out j hlt
      obtain ⟨d0, d1, d2, d3⟩ := hit.below hb HB.out
      clear hit
      have hub := HI.out j hlt
      have HNJ := hideG (HNO.out j hlt)
      obtain ⟨u, hu⟩ : ∃ u : Nat, (Frm.it l j).1 = (u : Int) := ⟨(Frm.it l j).1.toNat, by omega⟩
      rw [hu] at hub d0
      obtain ⟨ub1, ub2⟩ := hub
      have u13 : u < 13 := by omega
      have u13' : (u : Int) < 13 := by omega
      have HCL := hideG (Num.clB_yes ub1 ub2)
      have HPJ := hideG (show (Num.clB (Frm.it l j).1 && (f (Frm.it l j).1.toNat == decide ((Frm.it l j).2.1 = 1))) = (f u == decide ((Frm.it l j).2.1 = 1)) by rw [hu, Num.clB_yes ub1 ub2, Int.toNat_natCast]; rfl)
      clear hu
      obtain ⟨xa, hxa⟩ : ∃ xa, (Frm.it l j).2.1 = xa := ⟨_, rfl⟩
      rw [hxa] at d1
      have HXA := hideG hxa
      clear hxa
      generalize (Frm.it l j).2.2.1 = xb at *
      generalize (Frm.it l j).2.2.2 = xc at *
      obtain ⟨W1, hW1⟩ : ∃ W1, W1 = wr.alloc (.cells #[.int .i64 (u : Int), .int .i64 xa, .int .i64 xb, .int .i64 xc] 147) := ⟨_, rfl⟩
      have x0 : W1.cell? ⟨wr.heap.size, 0, none⟩ = some (.int .i64 (u : Int)) := by rw [hW1]; simp
      have x1 : W1.cell? ⟨wr.heap.size, 1, none⟩ = some (.int .i64 xa) := by rw [hW1]; simp
      have HBO1 := hideG (show BoolsAt W1 w.heap.size 101 f by rw [hW1]; exact HBO.out.below ((Below.refl wr.heap.size wr).alloc (Nat.le_refl _) _) hsz)
      have HB1 := hideG (show Below w.heap.size w W1 by rw [hW1]; exact HB.out.alloc (by omega) _)
      have sW : w.heap.size < W1.heap.size := HBO1.out.lt
      have SW := hideG sW
      clear sW
      have HW1 := hideG hW1
      clear hW1
      go_upto_region 4 with fail
      rw [← HW1.out]
      have z0 := HBO1.out.cell u u13
      have HQC := hideG (show ∀ W : World, Calls Tryz.prog 201 #[.int .i64 (u : Int)] W fun e w' => e = .returned (.bool true) ∧ w' = W from fun W => by rw [← HCL.out]; exact client_calls _ _)
      have HD := hideG (fun m => HB1.out.trans ((below_drewN W1 m).mono HB1.out.size))
      have HDB := hideG (fun m => HBO1.out.below (below_drewN W1 m) SW.out)
      by_cases c : xa = 1
      · have c' : (xa == 1) = true := by simpa using c
        have HPK := hideG (show (Num.clB (Frm.it l j).1 && (f (Frm.it l j).1.toNat == decide ((Frm.it l j).2.1 = 1))) = f u by rw [HPJ.out, HXA.out, decide_eq_true c]; cases f u <;> rfl)
        have HCC := hideG c
        clear c
        cases q : f u
        · rw [q] at z0 HPK
          clear q
          go_quiet ((go_at_call 201; exact Calls.quiet_of_same (HQC.out _)))
          go_wp2_with fail
          go_ret
          exact ⟨ret_bool (by rw [HNJ.out HPK.out]), HD.out _⟩
        · rw [q] at z0 HPK
          clear q
          go_quiet ((go_at_call 201; exact Calls.quiet_of_same (HQC.out _)))
          go_wp2_with fail
          go_roundw
          case rel =>
            refine ⟨j + 1, by omega, by go_num, fun k hk => ?_, HDB.out _, HD.out _⟩
            by_cases e : k = j
            · subst e; exact HPK.out
            · exact HA.out k (by omega)
          case measure => simp [intOf]; omega
      · have c' : (xa == 1) = false := by simpa using c
        have HPK := hideG (show (Num.clB (Frm.it l j).1 && (f (Frm.it l j).1.toNat == decide ((Frm.it l j).2.1 = 1))) = !f u by rw [HPJ.out, HXA.out, decide_eq_false c]; cases f u <;> rfl)
        have HCC := hideG c
        clear c
        cases q : f u
        · rw [q] at z0 HPK
          clear q
          go_quiet ((go_at_call 201; exact Calls.quiet_of_same (HQC.out _)))
          go_wp2_with fail
          go_roundw
          case rel =>
            refine ⟨j + 1, by omega, by go_num, fun k hk => ?_, HDB.out _, HD.out _⟩
            by_cases e : k = j
            · subst e; exact HPK.out
            · exact HA.out k (by omega)
          case measure => simp [intOf]; omega
        · rw [q] at z0 HPK
          clear q
          go_quiet ((go_at_call 201; exact Calls.quiet_of_same (HQC.out _)))
          go_wp2_with fail
          go_ret
          exact ⟨ret_bool (by rw [HNJ.out HPK.out]), HD.out _⟩
    · have ej : j = n := by omega
      subst ej
      have HYY := hideG (HY.out HA.out)
      go_wp2_with fail
      go_ret
      exact ⟨ret_bool (by rw [HYY.out]), HB.out⟩

end Go.Proofs.YtchideljndagjabGreat

namespace Go.Proofs.YtchideljndagjabGreat
open Go.ChangeShapes Go.WideShapes Go.ChangeAt Go.RowKit
set_option linter.unusedVariables false

theorem isPending_calls (b : Nat) (S : SS) (w : World) (h : SSAt w b S) :
    Calls Tryz.prog 194 #[.pointer (some ⟨b, 0, none⟩)] w fun e w' => e = .returned (.bool (decide (S.st = 0))) ∧ w' = w := by
  have c := h.st
  clear h
  generalize S.st = st at *
  by_cases q : st = 0
  · have HD := hideG (decide_eq_true q)
    subst q
    go_enter Tryz.func194, Tryz.ntmps194
    go_wp2_with fail
    go_ret
    exact ⟨ret_bool (by simp), rfl⟩
  · have HD := hideG (decide_eq_false q)
    have q' : (st == 0) = false := by simpa using q
    go_enter Tryz.func194, Tryz.ntmps194
    go_wp2_with fail
    go_ret
    exact ⟨ret_bool (by rw [HD.out]), rfl⟩

theorem wantedKind_calls (rd : Nat) (hr : rd < 4) (w : World) :
    Calls Tryz.prog 256 #[.int .i64 (rd : Int)] w fun e w' => e = .returned (.int .i64 (2 * (rd : Int) + 1)) ∧ w' = w := by
  have hd : rd = 0 ∨ rd = 1 ∨ rd = 2 ∨ rd = 3 := by omega
  rcases hd with rfl | rfl | rfl | rfl
  · go_enter Tryz.func256, Tryz.ntmps256
    go_wp2_with fail
    go_ret
    exact ⟨rfl, rfl⟩
  · go_enter Tryz.func256, Tryz.ntmps256
    go_wp2_with fail
    go_ret
    exact ⟨rfl, rfl⟩
  · go_enter Tryz.func256, Tryz.ntmps256
    go_wp2_with fail
    go_ret
    exact ⟨rfl, rfl⟩
  · go_enter Tryz.func256, Tryz.ntmps256
    go_wp2_with fail
    go_ret
    exact ⟨rfl, rfl⟩

def fitB (S : SS) (u : Nat) (l : List Frm.It) : Bool :=
  if S.rd = 1 then Srv.haveIds l (updB S.sn u false) else if S.rd = 2 then decide ((l.length : Int) = S.m) else if S.rd = 3 then Srv.haveIds l S.sh && Srv.tellOf l S.sn else true

theorem SSAt.allsn {w : World} {b : Nat} {S : SS} (h : SSAt w b S) : w.rangeAt b 6 (bl13 S.sn) := h.rsn.range
theorem SSAt.allct {w : World} {b : Nat} {S : SS} (h : SSAt w b S) : w.rangeAt b 19 (bl13 S.ct) := h.rct.range
theorem SSAt.allsh {w : World} {b : Nat} {S : SS} (h : SSAt w b S) : w.rangeAt b 58 (bl13 S.sh) := h.rsh.range

set_option maxHeartbeats 2000000 in
set_option maxRecDepth 100000 in
theorem itemsFit_calls (b : Nat) (S : SS) (k : Int) (u : Nat) (v : Value) (l : List Frm.It) (w : World) (h : SSAt w b S) (hl : ItemsAt w v l) (hr : Frm.riseB l = true) (hu : u < 13) (rd : Nat) (hrd : S.rd = (rd : Int)) (hr4 : rd < 4) :
    Calls Tryz.prog 257 #[.pointer (some ⟨b, 0, none⟩), .agg #[.int .i64 k, .int .i64 (u : Int), v]] w fun e w' => e = .returned (.bool (fitB S u l)) ∧ Below w.heap.size w w' := by
  obtain ⟨W, hW⟩ : ∃ W, W = w.alloc (.cells #[.int .i64 k, .int .i64 (u : Int), v] 65) := ⟨_, rfl⟩
  have B0 := hideG (show Below w.heap.size w W by rw [hW]; exact (Below.refl _ _).alloc (Nat.le_refl _) _)
  have x1 : W.cell? ⟨w.heap.size, 1, none⟩ = some (.int .i64 (u : Int)) := by rw [hW]; simp
  have x2 : W.cell? ⟨w.heap.size, 2, none⟩ = some v := by rw [hW]; simp
  have HS := hideG (h.below B0.out)
  have HL := hideG (hl.below B0.out)
  have hsz : w.heap.size < W.heap.size := by rw [hW]; simp
  have hlt := h.lt
  have c5 : W.cell? ⟨b, 5, none⟩ = some (.int .i64 (rd : Int)) := by rw [← hrd]; exact HS.out.rd
  have hu' : (u : Int) < 13 := by omega
  have HW := hideG hW
  clear hW h hl
  have hd : rd = 1 ∨ rd = 2 ∨ rd = 3 ∨ rd = 0 := by omega
  rcases hd with rfl | rfl | rfl | rfl
  · have HF := hideG (show fitB S u l = Srv.haveIds l (updB S.sn u false) by unfold fitB; rw [if_pos (by omega)])
    have RG := hideG HS.out.allsn
    have LX := hideG (bl13_length S.sn)
    have HON := hideG (all_oneCell_toArray (bl13_one S.sn))
    have HH := hideG (fun (W' : World) (hb : Below W.heap.size W W') => haveIds_calls v l (updB S.sn u false) W' (HL.out.below hb) hr)
    obtain ⟨W1, hW1⟩ : ∃ W1, W1 = W.alloc (.cells #[.bool false, .bool false, .bool false, .bool false, .bool false, .bool false, .bool false, .bool false, .bool false, .bool false, .bool false, .bool false, .bool false] 101) := ⟨_, rfl⟩
    have B1 := hideG (show Below W.heap.size W W1 by rw [hW1]; exact (Below.refl _ _).alloc (Nat.le_refl _) _)
    have BO1 := hideG (show BoolsAt W1 W.heap.size 101 (fun _ => false) by rw [hW1]; exact bools_new W _ (fun _ => false))
    have HTH := hideG (show W1.there W.heap.size 0 (bl13 S.sn).toArray.size from fun i hi => by
      rw [List.size_toArray, bl13_length] at hi
      exact ⟨by rw [Nat.zero_add, BO1.out.cell i hi]; rfl, by rw [Nat.zero_add]; exact BO1.out.froz i⟩)
    have BO2 := hideG (show BoolsAt (W1.setCells W.heap.size 0 (bl13 S.sn)) W.heap.size 101 S.sn by
      have := heap_setCells W.heap.size 101 (bl13 S.sn) [] (bl13 fun _ => false) [] W1 rfl (by rw [List.append_nil]; exact BO1.out)
      rw [List.append_nil] at this
      exact this)
    have B2 := hideG (show Below W.heap.size W (W1.setCells W.heap.size 0 (bl13 S.sn)) from below_setCells (Nat.le_refl _) _ _ _ B1.out)
    have HW1 := hideG hW1
    clear hW1
    have sn := S.sn
    obtain ⟨CS, hCS⟩ : ∃ CS, CS = bl13 S.sn := ⟨_, rfl⟩
    rw [← hCS] at RG LX HON HTH BO2 B2
    clear hCS
    have HSL := hideG (show (Tryz.prog.info? 101).map (·.size) = some CS.length by rw [size_mem, LX.out])
    have HSZ := hideG (show (Tryz.prog.info? 101).map (·.size) = some CS.toArray.size by rw [size_mem, List.size_toArray, LX.out])
    obtain ⟨W2, hW2⟩ : ∃ W2, W2 = W1.setCells W.heap.size 0 CS := ⟨_, rfl⟩
    rw [← hW2] at BO2 B2
    have HW2 := hideG hW2
    clear hW2
    have y1 : W2.cell? ⟨w.heap.size, 1, none⟩ = some (.int .i64 (u : Int)) := (B2.out.cell (p := ⟨w.heap.size, 1, none⟩) hsz).trans x1
    have y2 : W2.cell? ⟨w.heap.size, 2, none⟩ = some v := (B2.out.cell (p := ⟨w.heap.size, 2, none⟩) hsz).trans x2
    have z0 := BO2.out.cell u hu
    have zf := BO2.out.froz u
    have BO3 := hideG (BO2.out.set u hu false)
    have B3 := hideG (B2.out.setCell (p := ⟨W.heap.size, u, none⟩) (Nat.le_refl _) (.bool false))
    have RG3 := hideG BO3.out.range
    have L3 := hideG (bl13_length (updB S.sn u false))
    have y2' : (W2.setCell ⟨W.heap.size, u, none⟩ (.bool false)).cell? ⟨w.heap.size, 2, none⟩ = some v := (B3.out.cell (p := ⟨w.heap.size, 2, none⟩) hsz).trans x2
    unfold memV at HH
    obtain ⟨CU, hCU⟩ : ∃ CU, CU = bl13 (updB S.sn u false) := ⟨_, rfl⟩
    rw [← hCU] at RG3 L3 HH
    clear hCU
    have HSU := hideG (show (Tryz.prog.info? 101).map (·.size) = some CU.length by rw [size_mem, L3.out])
    go_enter Tryz.func257, Tryz.ntmps257
    go_upto_region 1 with fail
    rw [← HW.out]
    go_upto_region 4 with (first | refine wpList_load_mid rfl 101 _ rfl b 6 rfl CS _ RG.out Tryz.underlying101 rfl HSL.out ?_ | (rw [← HW1.out]; refine wpList_store_mid rfl 101 _ _ rfl W.heap.size 0 CS.toArray rfl rfl HTH.out HSZ.out HON.out ?_))
    rw [← HW2.out]
    obtain ⟨W3, hW3⟩ : ∃ W3, W3 = W2.setCell ⟨W.heap.size, u, none⟩ (.bool false) := ⟨_, rfl⟩
    rw [← hW3] at B3 RG3 y2'
    have HW3 := hideG hW3
    clear hW3
    go_upto_region 5 with fail
    rw [← HW3.out]
    go_wp2_with (refine wpList_load_mid rfl 101 _ rfl W.heap.size 0 rfl CU _ RG3.out Tryz.underlying101 rfl HSU.out ?_)
    refine (HH.out W3 B3.out).mono ?_
    rintro e W4 ⟨rfl, hb4⟩
    have B4 := hideG ((B0.out.trans (B3.out.mono B0.out.size)).trans (hb4.mono (by have := B0.out.size; have := B3.out.size; omega)))
    clear hb4
    go_wp2_with fail
    go_ret
    exact ⟨ret_bool HF.out.symm, B4.out⟩
  · have HF := hideG (show fitB S u l = decide ((l.length : Int) = S.m) by unfold fitB; rw [if_neg (by omega), if_pos (by omega)])
    have c2 := HS.out.m
    obtain ⟨a, cap, rfl, l2, l3, _, _⟩ := items_view HL.out
    generalize S.m = M at *
    generalize l.length = n at *
    have HD := hideG (fun m => B0.out.trans ((below_drewN W m).mono B0.out.size))
    by_cases q : (n : Int) = M
    · have q' : ((n : Int) == M) = true := by simpa using q
      have HF2 := hideG (show fitB S u l = true by rw [HF.out, decide_eq_true q])
      clear q
      go_enter Tryz.func257, Tryz.ntmps257
      go_upto_region 1 with fail
      rw [← HW.out]
      go_wp2_with fail
      go_quiet (fail)
      go_wp2_with fail
      go_ret
      exact ⟨ret_bool (by rw [HF2.out]), HD.out _⟩
    · have q' : ((n : Int) == M) = false := by simpa using q
      have HF2 := hideG (show fitB S u l = false by rw [HF.out, decide_eq_false q])
      clear q
      go_enter Tryz.func257, Tryz.ntmps257
      go_upto_region 1 with fail
      rw [← HW.out]
      go_wp2_with fail
      go_quiet (fail)
      go_wp2_with fail
      go_ret
      exact ⟨ret_bool (by rw [HF2.out]), HD.out _⟩
  · have HF := hideG (show fitB S u l = (Srv.haveIds l S.sh && Srv.tellOf l S.sn) by unfold fitB; rw [if_neg (by omega), if_neg (by omega), if_pos (by omega)])
    have H1 := hideG (fun (W' : World) (hb : Below W.heap.size W W') => haveIds_calls v l S.sh W' (HL.out.below hb) hr)
    have H2 := hideG (fun (W' : World) (hb : Below W.heap.size W W') => tellOf_calls v l S.sn W' (HL.out.below hb) hr)
    unfold memV at H1 H2
    have s0 := HS.out.csh 0 (by omega)
    have s1 := HS.out.csh 1 (by omega)
    have s2 := HS.out.csh 2 (by omega)
    have s3 := HS.out.csh 3 (by omega)
    have s4 := HS.out.csh 4 (by omega)
    have s5 := HS.out.csh 5 (by omega)
    have s6 := HS.out.csh 6 (by omega)
    have s7 := HS.out.csh 7 (by omega)
    have s8 := HS.out.csh 8 (by omega)
    have s9 := HS.out.csh 9 (by omega)
    have s10 := HS.out.csh 10 (by omega)
    have s11 := HS.out.csh 11 (by omega)
    have s12 := HS.out.csh 12 (by omega)
    have e0 := HS.out.csn 0 (by omega)
    have e1 := HS.out.csn 1 (by omega)
    have e2 := HS.out.csn 2 (by omega)
    have e3 := HS.out.csn 3 (by omega)
    have e4 := HS.out.csn 4 (by omega)
    have e5 := HS.out.csn 5 (by omega)
    have e6 := HS.out.csn 6 (by omega)
    have e7 := HS.out.csn 7 (by omega)
    have e8 := HS.out.csn 8 (by omega)
    have e9 := HS.out.csn 9 (by omega)
    have e10 := HS.out.csn 10 (by omega)
    have e11 := HS.out.csn 11 (by omega)
    have e12 := HS.out.csn 12 (by omega)
    have hbW : b < W.heap.size := by omega
    obtain ⟨p, hp⟩ : ∃ p, p = Srv.haveIds l S.sh := ⟨_, rfl⟩
    obtain ⟨p', hp'⟩ : ∃ p', p' = Srv.tellOf l S.sn := ⟨_, rfl⟩
    rw [← hp] at HF H1
    rw [← hp'] at HF H2
    clear hp hp'
    cases p
    · go_enter Tryz.func257, Tryz.ntmps257
      go_upto_region 1 with fail
      rw [← HW.out]
      go_upto_region 9 with fail
      refine wp_region_grow (by kernel_rfl) (by kernel_rfl) ?_
      intro I GG hI hG hGc hGn
      repeat (go_big_quiet_step (first | (go_at_call 290; exact call_grow hG hGn (H1.out _ (hG.out _))) | (go_at_call 291; exact call_grow hG hGn (H2.out _ (hG.out _)))))
      refine wpQuiet_nil ?_
      intro w5 hw'
      obtain ⟨i, hw''⟩ := hw'
      have hb5 := hG.out i
      rw [← hw''] at hb5
      have B5 := hideG (B0.out.trans (hb5.mono B0.out.size))
      clear hw'' hGc hGn hG i hI GG I e0 e1 e2 e3 e4 e5 e6 e7 e8 e9 e10 e11 e12 s0 s1 s2 s3 s4 s5 s6 s7 s8 s9 s10 s11 s12
      go_wp2_with fail
      go_ret
      exact ⟨ret_bool (by rw [HF.out]; rfl), B5.out⟩
    · go_enter Tryz.func257, Tryz.ntmps257
      go_upto_region 1 with fail
      rw [← HW.out]
      go_upto_region 9 with fail
      refine wp_region_grow (by kernel_rfl) (by kernel_rfl) ?_
      intro I GG hI hG hGc hGn
      repeat (go_big_quiet_step (first | (go_at_call 290; exact call_grow hG hGn (H1.out _ (hG.out _))) | (go_at_call 291; exact call_grow hG hGn (H2.out _ (hG.out _)))))
      refine wpQuiet_nil ?_
      intro w5 hw'
      obtain ⟨i, hw''⟩ := hw'
      have hb5 := hG.out i
      rw [← hw''] at hb5
      have B5 := hideG (B0.out.trans (hb5.mono B0.out.size))
      clear hw'' hGc hGn hG i hI GG I e0 e1 e2 e3 e4 e5 e6 e7 e8 e9 e10 e11 e12 s0 s1 s2 s3 s4 s5 s6 s7 s8 s9 s10 s11 s12
      go_wp2_with fail
      go_ret
      exact ⟨ret_bool (by rw [HF.out]; rfl), B5.out⟩
  · have HF := hideG (show fitB S u l = true by unfold fitB; rw [if_neg (by omega), if_neg (by omega), if_neg (by omega)])
    go_enter Tryz.func257, Tryz.ntmps257
    go_upto_region 1 with fail
    rw [← HW.out]
    go_wp2_with fail
    go_ret
    exact ⟨ret_bool (by rw [HF.out]), B0.out⟩

end Go.Proofs.YtchideljndagjabGreat

namespace Go.Proofs.YtchideljndagjabGreat
open Go.ChangeShapes Go.WideShapes Go.ChangeAt Go.RowKit
set_option linter.unusedVariables false

def cntB (S : SS) (rd : Nat) (k : Int) (u : Nat) (l : List Frm.It) : Bool := decide (S.st = 0) && (decide (k = 2 * (rd : Int) + 1) && (S.sn u && (!S.ct u && fitB S u l)))

set_option maxHeartbeats 2000000 in
set_option maxRecDepth 100000 in
theorem counts_calls (b : Nat) (S : SS) (k : Int) (u : Nat) (v : Value) (l : List Frm.It) (w : World) (h : SSAt w b S) (hl : ItemsAt w v l) (hok : Frm.okF k (u : Int) l = true) (rd : Nat) (hrd : S.rd = (rd : Int)) (hr4 : rd < 4) :
    Calls Tryz.prog 205 #[.pointer (some ⟨b, 0, none⟩), .agg #[.int .i64 k, .int .i64 (u : Int), v]] w fun e w' => e = .returned (.bool (cntB S rd k u l)) ∧ Below w.heap.size w w' := by
  have hr := (Frm.okF_parts hok).2.2.1
  have hu : u < 13 := by have := (Frm.okF_bounds hok).2.2.2.2.1; omega
  have hu' : (u : Int) < 13 := by omega
  have HCL := hideG (fun (e : k = 2 * (rd : Int) + 1) => (show Num.clB (u : Int) = true by
    have := (Frm.okF_parts hok).2.1
    unfold Frm.fromB at this
    rwa [if_pos (by omega)] at this))
  obtain ⟨W, hW⟩ : ∃ W, W = w.alloc (.cells #[.int .i64 k, .int .i64 (u : Int), v] 65) := ⟨_, rfl⟩
  have B0 := hideG (show Below w.heap.size w W by rw [hW]; exact (Below.refl _ _).alloc (Nat.le_refl _) _)
  have x0 : W.cell? ⟨w.heap.size, 0, none⟩ = some (.int .i64 k) := by rw [hW]; simp
  have x1 : W.cell? ⟨w.heap.size, 1, none⟩ = some (.int .i64 (u : Int)) := by rw [hW]; simp
  have x2 : W.cell? ⟨w.heap.size, 2, none⟩ = some v := by rw [hW]; simp
  have HS := hideG (h.below B0.out)
  have HL := hideG (hl.below B0.out)
  have hsz : w.heap.size < W.heap.size := by rw [hW]; simp
  have hlt := h.lt
  have c5 : W.cell? ⟨b, 5, none⟩ = some (.int .i64 (rd : Int)) := by rw [← hrd]; exact HS.out.rd
  have HW := hideG hW
  clear hW h hl hok
  have H1 := hideG (fun (m : Nat) => isPending_calls b S (W.drewN m) (HS.out.below (below_drewN W m)))
  have H2 := hideG (fun (m : Nat) => wantedKind_calls rd hr4 (W.drewN m))
  have H3 := hideG (fun (m : Nat) => client_calls (u : Int) (W.drewN m))
  have H4 := hideG (fun (W' : World) (hb : Below W.heap.size W W') => itemsFit_calls b S k u v l W' (HS.out.below hb) (HL.out.below hb) hr hu rd hrd hr4)
  have HD := hideG (fun m => B0.out.trans ((below_drewN W m).mono B0.out.size))
  unfold cntB
  by_cases q1 : S.st = 0
  rotate_left
  · rw [decide_eq_false q1] at H1 ⊢
    clear q1
    go_enter Tryz.func205, Tryz.ntmps205
    go_upto_region 1 with fail
    rw [← HW.out]
    go_quiet (first | (go_at_call 194; exact Calls.quiet_of_same (H1.out _)) | (go_at_call 256; exact Calls.quiet_of_same (H2.out _)) | (go_at_call 201; exact Calls.quiet_of_same (H3.out _)))
    go_wp2_with fail
    go_ret
    exact ⟨rfl, HD.out _⟩
  rw [decide_eq_true q1] at H1 ⊢
  clear q1
  rw [Bool.true_and]
  by_cases q2 : k = 2 * (rd : Int) + 1
  rotate_left
  · have q2' : (k != 2 * (rd : Int) + 1) = true := by simpa using q2
    rw [decide_eq_false q2]
    clear q2
    go_enter Tryz.func205, Tryz.ntmps205
    go_upto_region 1 with fail
    rw [← HW.out]
    go_quiet (first | (go_at_call 194; exact Calls.quiet_of_same (H1.out _)) | (go_at_call 256; exact Calls.quiet_of_same (H2.out _)) | (go_at_call 201; exact Calls.quiet_of_same (H3.out _)))
    go_wp2_with fail
    go_ret
    exact ⟨rfl, HD.out _⟩
  have HCC := hideG (HCL.out q2)
  rw [HCC.out] at H3
  have q2' : (k != 2 * (rd : Int) + 1) = false := by simpa using q2
  rw [decide_eq_true q2, Bool.true_and]
  have Q2 := hideG q2
  clear q2 HCL
  have n1 := HS.out.csn u hu
  have n2 := HS.out.cct u hu
  have HD2 := hideG (fun m m' => (HD.out m).trans ((below_drewN (W.drewN m) m').mono (HD.out m).size))
  cases q3 : S.sn u
  · rw [q3] at n1
    clear q3
    go_enter Tryz.func205, Tryz.ntmps205
    go_upto_region 1 with fail
    rw [← HW.out]
    go_quiet (first | (go_at_call 194; exact Calls.quiet_of_same (H1.out _)) | (go_at_call 256; exact Calls.quiet_of_same (H2.out _)) | (go_at_call 201; exact Calls.quiet_of_same (H3.out _)))
    go_wp2_with fail
    go_quiet (fail)
    go_wp2_with fail
    go_ret
    exact ⟨rfl, HD2.out _ _⟩
  rw [q3] at n1
  clear q3
  rw [Bool.true_and]
  cases q4 : S.ct u
  rotate_left
  · rw [q4] at n2
    clear q4
    go_enter Tryz.func205, Tryz.ntmps205
    go_upto_region 1 with fail
    rw [← HW.out]
    go_quiet (first | (go_at_call 194; exact Calls.quiet_of_same (H1.out _)) | (go_at_call 256; exact Calls.quiet_of_same (H2.out _)) | (go_at_call 201; exact Calls.quiet_of_same (H3.out _)))
    go_wp2_with fail
    go_quiet (fail)
    go_wp2_with fail
    go_ret
    exact ⟨rfl, HD2.out _ _⟩
  rw [q4] at n2
  clear q4
  go_enter Tryz.func205, Tryz.ntmps205
  go_upto_region 1 with fail
  rw [← HW.out]
  go_quiet (first | (go_at_call 194; exact Calls.quiet_of_same (H1.out _)) | (go_at_call 256; exact Calls.quiet_of_same (H2.out _)) | (go_at_call 201; exact Calls.quiet_of_same (H3.out _)))
  go_wp2_with fail
  go_quiet (fail)
  go_wp2_with fail
  refine (H4.out _ (below_drewN W _)).mono ?_
  rintro e W4 ⟨rfl, hb4⟩
  have B4 := hideG ((HD.out _).trans (hb4.mono (HD.out _).size))
  clear hb4
  go_wp2_with fail
  go_ret
  exact ⟨rfl, B4.out⟩

end Go.Proofs.YtchideljndagjabGreat

namespace Go.Proofs.YtchideljndagjabGreat
open Go.ChangeShapes Go.WideShapes Go.ChangeAt Go.RowKit
set_option linter.unusedVariables false

/-- The state behind bytes; are they counted? -/
def sstepD (C : Srv.Cf) (s : Srv.Sv) (zs : List Int) : Srv.Sv := match Frm.decF zs with
  | none => s
  | some f => Srv.takeS C s f
def scntD (C : Srv.Cf) (s : Srv.Sv) (zs : List Int) : Bool := match Frm.decF zs with
  | none => false
  | some f => Srv.counts C s f

/-- What a server's call leaves: the server, in its own cells; nothing else has turned; its lists are as they were, or new. -/
structure STook (w w' : World) (b : Nat) (C : Srv.Cf) (s' : Srv.Sv) (S S' : SS) : Prop where
  srv : SrvW w' b C s' S'
  chg : Chg (fun x => x = b) w w'
  foot : ∀ x, SFoot b S' x → SFoot b S x ∨ w.heap.size ≤ x
  rest : ∀ i, 76 ≤ i → w'.cell? ⟨b, i, none⟩ = w.cell? ⟨b, i, none⟩ ∧ w'.frozen? ⟨b, i, none⟩ = w.frozen? ⟨b, i, none⟩
theorem stook_same {w w' : World} {b : Nat} {C : Srv.Cf} {s : Srv.Sv} {S : SS} (h : SrvW w b C s S) (hb : Below w.heap.size w w') : STook w w' b C s S S :=
  ⟨h.below hb, Chg.of_below hb, fun _ hx => .inl hx, fun i _ => ⟨hb.cell (p := ⟨b, i, none⟩) h.srv.at_.lt, hb.frozen (p := ⟨b, i, none⟩) h.srv.at_.lt⟩⟩
theorem STook.after {w w1 w' : World} {b : Nat} {C : Srv.Cf} {s' : Srv.Sv} {S S' : SS} (h : STook w1 w' b C s' S S') (hb : Below w.heap.size w w1) (hl : b < w.heap.size) : STook w w' b C s' S S' :=
  ⟨h.srv, (Chg.of_below hb).also h.chg, fun x hx => (h.foot x hx).imp id (fun e => Nat.le_trans hb.size e), fun i hi => by
    obtain ⟨e1, e2⟩ := h.rest i hi
    exact ⟨e1.trans (hb.cell (p := ⟨b, i, none⟩) hl), e2.trans (hb.frozen (p := ⟨b, i, none⟩) hl)⟩⟩
theorem STook.then {w w1 w' : World} {b : Nat} {C : Srv.Cf} {s' : Srv.Sv} {S S' : SS} (h : STook w w1 b C s' S S') (hb : Below w1.heap.size w1 w') : STook w w' b C s' S S' :=
  ⟨h.srv.below hb, h.chg.grow hb, h.foot, fun i hi => by
    obtain ⟨e1, e2⟩ := h.rest i hi
    have hl := h.srv.srv.at_.lt
    exact ⟨(hb.cell (p := ⟨b, i, none⟩) hl).trans e1, (hb.frozen (p := ⟨b, i, none⟩) hl).trans e2⟩⟩

theorem fit_eq {w : World} {b : Nat} {C : Srv.Cf} {s : Srv.Sv} {S : SS} (h : SrvAt w b C s S) (hp : s.out.1 = 0) {u : Nat} {l : List Frm.It} (hr : Frm.riseB l = true) : fitB S u l = Srv.shape C s.G s.rd u l := by
  obtain ⟨_, e2⟩ := h.now hp
  unfold fitB Srv.shape
  rw [e2]
  by_cases r1 : s.rd = 1
  · rw [if_pos (by omega), if_pos r1, Srv.haveIds_same hr]
    rw [Bool.eq_iff_iff, Srv.sameS_iff, Srv.sameS_iff]
    have e : ∀ v, v < 13 → updB S.sn u false v = Srv.without (Srv.mem (s.G 0)) u v := fun v hv => by
      unfold updB Srv.without
      have e0 := h.sn hp v hv
      rw [r1, if_neg (by decide)] at e0
      by_cases c : v = u
      · rw [if_pos c, decide_eq_false (by simpa using c), Bool.and_false]
      · rw [if_neg c, decide_eq_true c, Bool.and_true, e0]
    exact ⟨fun a v hv => (a v hv).trans (e v hv), fun a v hv => (a v hv).trans (e v hv).symm⟩
  · rw [if_neg (by omega), if_neg r1]
    by_cases r2 : s.rd = 2
    · rw [if_pos (by omega), if_pos r2, (h.cfg hp).2.2.1]
    · rw [if_neg (by omega), if_neg r2]
      by_cases r3 : s.rd = 3
      · rw [if_pos (by omega), if_pos r3, Srv.haveIds_same hr, Srv.tellOf_same hr, Bool.and_comm]
        congr 1
        · rw [Bool.eq_iff_iff, List.all_eq_true, List.all_eq_true]
          have e : ∀ x ∈ l, S.sn x.1.toNat = Srv.mem (s.G 2) x.1.toNat := fun x hx => by
            have e0 := h.sn hp _ (Srv.has_cast hr x hx).1
            rwa [r3, if_neg (by decide)] at e0
          exact ⟨fun a x hx => by rw [← e x hx]; exact a x hx, fun a x hx => by rw [e x hx]; exact a x hx⟩
        · rw [Bool.eq_iff_iff, Srv.sameS_iff, Srv.sameS_iff]
          have e := h.sh hp (by omega)
          exact ⟨fun a v hv => (a v hv).trans (e v hv), fun a v hv => (a v hv).trans (e v hv).symm⟩
      · rw [if_neg (by omega), if_neg r3]

theorem cnt_eq {w : World} {b : Nat} {C : Srv.Cf} {s : Srv.Sv} {S : SS} (h : SrvAt w b C s S) (hs : s.out.1 = 0 → Srv.SOk C s) {k : Int} {u : Nat} {l : List Frm.It} (hok : Frm.okF k (u : Int) l = true) (rd : Nat) (hrd : S.rd = (rd : Int)) : cntB S rd k u l = Srv.counts C s (k, (u : Int), l) := by
  have hr := (Frm.okF_parts hok).2.2.1
  have hu : u < 13 := by have := (Frm.okF_bounds hok).2.2.2.2.1; omega
  unfold cntB Srv.counts Srv.pend
  rw [h.st]
  by_cases hp : s.out.1 = 0
  rotate_left
  · rw [decide_eq_false hp]; rfl
  rw [decide_eq_true hp, Bool.true_and, Bool.true_and]
  have hg := (hs hp).good
  have e : rd = s.rd := by have := (h.now hp).2; omega
  subst e
  unfold Srv.fits
  show _ = (decide (k = 2 * (s.rd : Int) + 1) && (decide ((u : Int) ≤ C.N) && (!Srv.mem (s.G s.rd) (u : Int).toNat && ((decide (s.rd = 0) || Srv.mem (s.G (s.rd - 1)) (u : Int).toNat) && Srv.shape C s.G s.rd (u : Int).toNat l))))
  rw [Int.toNat_natCast, fit_eq h hp hr, h.ct hp u hu, h.sn hp u hu]
  by_cases q2 : k = 2 * (s.rd : Int) + 1
  rotate_left
  · rw [decide_eq_false q2]; rfl
  rw [decide_eq_true q2, Bool.true_and, Bool.true_and]
  have hcl : 1 ≤ u := by
    have := (Frm.okF_parts hok).2.1
    unfold Frm.fromB at this
    rw [if_pos (by have := (hs hp).rd; omega), Num.clB_iff] at this
    omega
  by_cases r0 : s.rd = 0
  · rw [if_pos r0, decide_eq_true r0, Bool.true_or, Bool.true_and]
    congr 1
    exact decide_eq_decide.2 ⟨fun a => a.2, fun a => ⟨hcl, a⟩⟩
  · rw [if_neg r0, decide_eq_false r0, Bool.false_or]
    cases hm : Srv.mem (s.G (s.rd - 1)) u
    · rw [Bool.false_and, Bool.false_and, Bool.and_false, Bool.and_false]
    · rw [decide_eq_true (hg.mem hm).2.2.1]; rfl

/-- A frame more counts: the server behind it. -/
theorem srvAt_more {w w' : World} {b : Nat} {C : Srv.Cf} {s : Srv.Sv} {S : SS} (h : SrvAt w b C s S) (hp : s.out.1 = 0) {u : Nat} (hu : u < 13) {l : List Frm.It} {x : Value} (hw : SSAt w' b { S with ct := fun v => if v = u then true else S.ct v, it := updV S.it u x }) (hx : ItemsAt w' x l) (hxb : x.ownBlock ≠ some b) (hs : w.heap.size ≤ w'.heap.size) (hb : ∀ y, y ≠ b → SFoot b S y → w'.heap[y]? = w.heap[y]?) :
    SrvAt w' b C { s with G := Srv.updT s.G s.rd u l } { S with ct := fun v => if v = u then true else S.ct v, it := updV S.it u x } where
  at_ := hw
  st := h.st
  ro := h.ro
  set := h.set.keep hs fun y hy => hb y (fun e => h.apart2.2.1 (e ▸ hy)) (.inr (.inr (.inr (.inl hy))))
  sum := h.sum.keep hs fun y hy => hb y (fun e => h.apart2.2.2 (e ▸ hy)) (.inr (.inr (.inr (.inr hy))))
  apart := fun v hv => by
    show (updV S.it u x v).ownBlock ≠ some b
    unfold updV; split
    · exact hxb
    · exact h.apart v hv
  apart2 := h.apart2
  zero := h.zero
  rdz := h.rdz
  cfg := h.cfg
  now := h.now
  sn := fun p v hv => by
    show S.sn v = if s.rd = 0 then _ else Srv.mem (Srv.updT s.G s.rd u l (s.rd - 1)) v
    rw [h.sn p v hv]
    by_cases r : s.rd = 0
    · rw [if_pos r, if_pos r]
    · rw [if_neg r, if_neg r, Srv.updT_row s.G s.rd u l (by omega)]
  ct := fun p v hv => by
    show (if v = u then true else S.ct v) = Srv.mem (Srv.updT s.G s.rd u l s.rd) v
    by_cases e : v = u
    · subst e; rw [if_pos rfl]; unfold Srv.mem; rw [Srv.updT_same]; rfl
    · rw [if_neg e, h.ct p v hv]; unfold Srv.mem; rw [Srv.updT_other s.G s.rd u l s.rd e]
  it := fun p v hv => by
    show ItemsAt w' (updV S.it u x v) (Srv.its (Srv.updT s.G s.rd u l s.rd) v)
    by_cases e : v = u
    · subst e
      unfold updV; rw [if_pos rfl, Srv.its_some (Srv.updT_same s.G s.rd v l)]; exact hx
    · unfold updV; rw [if_neg e]
      have e2 : Srv.its (Srv.updT s.G s.rd u l s.rd) v = Srv.its (s.G s.rd) v := by unfold Srv.its; rw [Srv.updT_other s.G s.rd u l s.rd e]
      rw [e2]
      exact (h.it p v hv).keep hs fun y hy => hb y (fun e => h.apart v hv (e ▸ hy)) (.inr (.inl ⟨v, hv, hy⟩))
  pb := fun p r v hv => by
    show S.pb v = Srv.pub (Srv.updT s.G s.rd u l) v
    rw [h.pb p r v hv]; unfold Srv.pub
    rw [Srv.updT_row s.G s.rd u l (by have : 1 ≤ s.rd := r; omega)]
  sh := fun p r v hv => by
    show S.sh v = Srv.mem (Srv.updT s.G s.rd u l 1) v
    rw [h.sh p r v hv, Srv.updT_row s.G s.rd u l (by have : 2 ≤ s.rd := r; omega)]
  ml := fun p r => by
    have e : (fun i => Srv.msk (Srv.updT s.G s.rd u l) i % 4294967296) = fun i => Srv.msk s.G i % 4294967296 := by
      funext i; unfold Srv.msk Srv.mskN; rw [Srv.updT_row s.G s.rd u l (by have : s.rd = 3 := r; omega)]
    show ListAt w' S.ml ((List.range C.M.toNat).map fun i => Srv.msk (Srv.updT s.G s.rd u l) i % 4294967296)
    rw [e]
    exact (h.ml p r).keep hs fun y hy => hb y (fun e => h.apart2.1 (e ▸ hy)) (.inr (.inr (.inl hy)))

end Go.Proofs.YtchideljndagjabGreat
