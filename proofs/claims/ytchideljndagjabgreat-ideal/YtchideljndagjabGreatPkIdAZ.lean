/- Contracts of the program's server: Outcome. -/
import Derived.Test.YtchideljndagjabGreatPkIdAY
import Derived.Test.YtchideljndagjabGreatPkIdAU
import Derived.Test.YtchideljndagjabGreatPkIdAQ
import Derived.Test.YtchideljndagjabGreatPkIdAW
import Derived.Deep.AppendLies
namespace Go.Proofs.YtchideljndagjabGreat
open Go.ChangeShapes Go.WideShapes Go.ChangeAt Go.RowKit
set_option linter.unusedVariables false
theorem size_out4 : (Tryz.prog.info? 35).map (·.size) = some 4 := by kernel_rfl
theorem row_four {w : World} {b : Nat} {T : TypeId} {x0 x1 x2 x3 : Value} (h : w.heap[b]? = some (.cells #[x0, x1, x2, x3] T (0, 0))) (y0 y1 y2 y3 : Value) : ((((w.setCell ⟨b, 0, none⟩ y0).setCell ⟨b, 1, none⟩ y1).setCell ⟨b, 2, none⟩ y2).setCell ⟨b, 3, none⟩ y3).heap[b]? = some (.cells #[y0, y1, y2, y3] T (0, 0)) :=
  heap_setCell_same _ _ 3 #[y0, y1, y2, x3] _ _ (heap_setCell_same _ _ 2 #[y0, y1, x2, x3] _ _ (heap_setCell_same _ _ 1 #[y0, x1, x2, x3] _ _ (heap_setCell_same _ _ 0 _ _ _ h)))
theorem chg_four (w : World) (b : Nat) (y0 y1 y2 y3 : Value) : Chg (fun x => x = b) w ((((w.setCell ⟨b, 0, none⟩ y0).setCell ⟨b, 1, none⟩ y1).setCell ⟨b, 2, none⟩ y2).setCell ⟨b, 3, none⟩ y3) :=
  (((Chg.setCell w ⟨b, 0, none⟩ y0).also (Chg.setCell _ ⟨b, 1, none⟩ y1)).also (Chg.setCell _ ⟨b, 2, none⟩ y2)).also (Chg.setCell _ ⟨b, 3, none⟩ y3)
theorem cells_four {w : World} {b : Nat} {T : TypeId} {x0 x1 x2 x3 : Value} (h : w.heap[b]? = some (.cells #[x0, x1, x2, x3] T (0, 0))) : (w.cell? ⟨b, 0, none⟩ = some x0 ∧ w.cell? ⟨b, 1, none⟩ = some x1 ∧ w.cell? ⟨b, 2, none⟩ = some x2 ∧ w.cell? ⟨b, 3, none⟩ = some x3) ∧ ∀ i, w.frozen? ⟨b, i, none⟩ = false :=
  ⟨⟨by rw [cell_of_row w b 0 _ _ (0, 0) h]; rfl, by rw [cell_of_row w b 1 _ _ (0, 0) h]; rfl, by rw [cell_of_row w b 2 _ _ (0, 0) h]; rfl, by rw [cell_of_row w b 3 _ _ (0, 0) h]; rfl⟩, fun i => frozen_of_row w b i _ _ h⟩
def Told (w w' : World) (va vb : Value) (ls us : List Int) : Prop :=
  w'.ownsRow w.heap.size 3 1 va ls.length (ls.map (Value.int .i64)) ∧ w'.ownsRow w.heap.size 3 1 vb us.length (us.map (Value.int .i64)) ∧ (∀ x, va.ownBlock = some x → vb.ownBlock ≠ some x) ∧ Below w.heap.size w w'
set_option maxHeartbeats 2000000 in
set_option maxRecDepth 100000 in
theorem sOutcome_calls (b : Nat) (S : SS) (ls us : List Int) (w : World) (h : SSAt w b S) (hs : ListAt w S.set ls) (hu : ListAt w S.sum us) (l1 : ls.length ≤ 12) (l2 : us.length ≤ 12) :
    Calls Tryz.prog 70 #[.pointer (some ⟨b, 0, none⟩)] w fun e w' => ∃ va vb, e = .returned (.agg #[.int .i64 S.st, .int .i64 S.ro, va, vb]) ∧ Told w w' va vb ls us := by
  have hbl := h.lt
  have C1 := hideG (fun (W : World) (hb : Below w.heap.size w W) => copied_ints W S.set ls (hs.below hb) l1)
  have C2 := hideG (fun (W : World) (hb : Below w.heap.size w W) => copied_ints W S.sum us (hu.below hb) l2)
  obtain ⟨W0, hW0⟩ : ∃ W0, W0 = w.alloc (.cells #[.int .i64 0, .int .i64 0, .slice none 0 0, .slice none 0 0] 35) := ⟨_, rfl⟩
  have b0 : Below w.heap.size w W0 := by rw [hW0]; exact (Below.refl _ _).alloc (Nat.le_refl _) _
  have h0 := h.below b0
  have c72 := h0.st
  have c73 := h0.ro
  have c74 := h0.set
  have c75 := h0.sum
  obtain ⟨a1, k1, hv1, -⟩ := hs
  obtain ⟨a2, k2, hv2, -⟩ := hu
  rw [hv1] at C1 c74
  rw [hv2] at C2 c75
  clear h h0 hv1 hv2 l1 l2
  have R0 := hideG (show W0.heap[w.heap.size]? = some (.cells #[.int .i64 0, .int .i64 0, .slice none 0 0, .slice none 0 0] 35 (0, 0)) by rw [hW0]; exact heap_alloc_new w _)
  have z0 : W0.heap.size = w.heap.size + 1 := by rw [hW0]; simp
  have HW0 := hideG hW0
  generalize S.st = st at *
  generalize S.ro = ro at *
  obtain ⟨n1, hn1⟩ : ∃ n1, ls.length = n1 := ⟨_, rfl⟩
  obtain ⟨n2, hn2⟩ : ∃ n2, us.length = n2 := ⟨_, rfl⟩
  rw [hn1] at C1 c74
  rw [hn2] at C2 c75
  have NL1 := hideG hn1
  have NL2 := hideG hn2
  clear hn1 hn2
  obtain ⟨W1, hW1⟩ : ∃ W1, W1 = W0.alloc (.cells #[.int .i64 st, .int .i64 ro, .slice a1 n1 k1, .slice a2 n2 k2] 35) := ⟨_, rfl⟩
  have b1 : Below W0.heap.size W0 W1 := by rw [hW1]; exact (Below.refl _ _).alloc (Nat.le_refl _) _
  have R1 := hideG (show W1.heap[W0.heap.size]? = some (.cells #[.int .i64 st, .int .i64 ro, .slice a1 n1 k1, .slice a2 n2 k2] 35 (0, 0)) by rw [hW1]; exact heap_alloc_new W0 _)
  have z1 : W1.heap.size = w.heap.size + 2 := by rw [hW1]; simp; omega
  have R01 := hideG ((b1.block w.heap.size (by omega)).trans R0.out)
  have B1 := hideG (b0.trans (b1.mono b0.size))
  have HW1 := hideG hW1
  clear hW0 hW1 b0 b1
  have CC1 := hideG (C1.out W1 B1.out)
  obtain ⟨⟨y0, y1, y2, y3⟩, yf⟩ := cells_four R1.out
  obtain ⟨d, hd⟩ : ∃ d, d = W0.heap.size := ⟨_, rfl⟩
  have dz : d = w.heap.size + 1 := by omega
  have DZ := hideG dz
  rw [← hd] at y0 y1 y2 y3 yf R1
  have HD := hideG hd
  have BD := hideG (show b < w.heap.size from hbl)
  have Z1 := hideG z1
  clear z0 z1 hd dz
  go_enter Tryz.func70, Tryz.ntmps70
  go_upto_region 1 with fail
  rw [← HW0.out]
  go_upto_region 2 with fail
  rw [← HW1.out, ← HD.out]
  clear c72 c73 c74 c75
  go_wp2_with (at_builtin; refine wpList_append_copy _ rfl _ _ 33 rfl rfl _ rfl 3 1 _ _ CC1.out ?_)
  intro va w2 hva hb2
  obtain ⟨a3, k3, hv3⟩ := owns_form hva
  subst hv3
  have s2 := hb2.size
  have R2 := hideG ((hb2.block d (by have := DZ.out; have := Z1.out; omega)).trans R1.out)
  have R02 := hideG ((hb2.block w.heap.size (by have := Z1.out; omega)).trans R01.out)
  have B2 := hideG (B1.out.trans (hb2.mono B1.out.size))
  have O2 := hideG hva
  clear hva hb2 y0 y1 y2 y3 yf
  obtain ⟨⟨y0, y1, y2, y3⟩, yf⟩ := cells_four R2.out
  obtain ⟨W3, hW3⟩ : ∃ W3, W3 = w2.setCell ⟨d, 2, none⟩ (.slice a3 n1 k3) := ⟨_, rfl⟩
  have c3 : Chg (fun x => x = d) w2 W3 := by rw [hW3]; exact Chg.setCell w2 ⟨d, 2, none⟩ _
  have R3 := hideG (show W3.heap[d]? = some (.cells #[.int .i64 st, .int .i64 ro, .slice a3 n1 k3, .slice a2 n2 k2] 35 (0, 0)) by rw [hW3]; exact heap_setCell_same w2 d 2 _ _ _ R2.out)
  have R03 := hideG ((c3.block w.heap.size (by have := Z1.out; omega) (by have := DZ.out; omega)).trans R02.out)
  have B3 := hideG (show Below w.heap.size w W3 by rw [hW3]; exact B2.out.setCell (p := ⟨d, 2, none⟩) (by have := DZ.out; show w.heap.size ≤ d; omega) _)
  have O3 := hideG (ownsRow_chg O2.out c3 (fun x hx e => by have := (O2.out.lt x hx).1; have := DZ.out; have := Z1.out; omega))
  have s3 : W3.heap.size = w2.heap.size := by rw [hW3]; simp
  have S3 := hideG s3
  have HW3 := hideG hW3
  clear hW3 c3 s3
  go_upto_region 3 with fail
  rw [← HW3.out]
  clear y0 y1 y2 y3 yf
  obtain ⟨⟨y0, y1, y2, y3⟩, yf⟩ := cells_four R3.out
  have CC2 := hideG (C2.out W3 B3.out)
  go_wp2_with (at_builtin; refine wpList_append_copy _ rfl _ _ 33 rfl rfl _ rfl 3 1 _ _ CC2.out ?_)
  intro vb w4 hvb hb4
  obtain ⟨a4, k4, hv4⟩ := owns_form hvb
  subst hv4
  have s4 := hb4.size
  have dl : d < W3.heap.size := by have := DZ.out; have := Z1.out; have := S3.out; omega
  have R4 := hideG ((hb4.block d dl).trans R3.out)
  have R04 := hideG ((hb4.block w.heap.size (by have := DZ.out; omega)).trans R03.out)
  have B4 := hideG (B3.out.trans (hb4.mono B3.out.size))
  have O4 := hideG (ownsRow_chg (S := fun _ => False) O3.out (Chg.of_below hb4) (fun _ _ h => h))
  have P4 := hideG hvb
  clear hvb hb4 y0 y1 y2 y3 yf
  obtain ⟨⟨y0, y1, y2, y3⟩, yf⟩ := cells_four R4.out
  obtain ⟨W5, hW5⟩ : ∃ W5, W5 = w4.setCell ⟨d, 3, none⟩ (.slice a4 n2 k4) := ⟨_, rfl⟩
  have c5 : Chg (fun x => x = d) w4 W5 := by rw [hW5]; exact Chg.setCell w4 ⟨d, 3, none⟩ _
  have R5 := hideG (show W5.heap[d]? = some (.cells #[.int .i64 st, .int .i64 ro, .slice a3 n1 k3, .slice a4 n2 k4] 35 (0, 0)) by rw [hW5]; exact heap_setCell_same w4 d 3 _ _ _ R4.out)
  have R05 := hideG ((c5.block w.heap.size (by have := DZ.out; omega) (by have := DZ.out; omega)).trans R04.out)
  have B5 := hideG (show Below w.heap.size w W5 by rw [hW5]; exact B4.out.setCell (p := ⟨d, 3, none⟩) (by have := DZ.out; show w.heap.size ≤ d; omega) _)
  have O5 := hideG (ownsRow_chg O4.out c5 (fun x hx e => by have := (O4.out.lt x hx).1; have := DZ.out; have := Z1.out; omega))
  have P5 := hideG (ownsRow_chg P4.out c5 (fun x hx e => by have := (P4.out.lt x hx).1; omega))
  have HW5 := hideG hW5
  clear hW5 c5
  go_upto_region 4 with fail
  rw [← HW5.out]
  clear y0 y1 y2 y3 yf
  obtain ⟨⟨y0, y1, y2, y3⟩, yf⟩ := cells_four R5.out
  obtain ⟨⟨x0, x1, x2, x3⟩, xf⟩ := cells_four R05.out
  have c6 := chg_four W5 w.heap.size (.int .i64 st) (.int .i64 ro) (.slice a3 n1 k3) (.slice a4 n2 k4)
  have R6 := hideG (row_four R05.out (.int .i64 st) (.int .i64 ro) (.slice a3 n1 k3) (.slice a4 n2 k4))
  have hl1 : w.heap.size + 2 ≤ W3.heap.size := by have := Z1.out; have := S3.out; omega
  have FIN := hideG (show Told w ((((W5.setCell ⟨w.heap.size, 0, none⟩ (.int .i64 st)).setCell ⟨w.heap.size, 1, none⟩ (.int .i64 ro)).setCell ⟨w.heap.size, 2, none⟩ (.slice a3 n1 k3)).setCell ⟨w.heap.size, 3, none⟩ (.slice a4 n2 k4)) (.slice a3 n1 k3) (.slice a4 n2 k4) ls us from
    ⟨by rw [NL1.out]; exact ownsRow_base (ownsRow_chg O5.out c6 (fun x hx e => by have := (O5.out.lt x hx).1; have := Z1.out; omega)) (by have := Z1.out; omega),
     by rw [NL2.out]; exact ownsRow_base (ownsRow_chg P5.out c6 (fun x hx e => by have := (P5.out.lt x hx).1; omega)) (by omega),
     fun x hx hy => by
       have q1 := (O3.out.lt x hx).2
       have q2 := (P4.out.lt x hy).1
       omega,
     (((B5.out.setCell (p := ⟨w.heap.size, 0, none⟩) (Nat.le_refl _) _).setCell (p := ⟨w.heap.size, 1, none⟩) (Nat.le_refl _) _).setCell (p := ⟨w.heap.size, 2, none⟩) (Nat.le_refl _) _).setCell (p := ⟨w.heap.size, 3, none⟩) (Nat.le_refl _) _⟩)
  clear c6
  go_wp2_with fail
  refine bodyPost_ret (results_cell_row rfl _ _ w.heap.size 35 #[.int .i64 st, .int .i64 ro, .slice a3 n1 k3, .slice a4 n2 k4] (0, 0) _ rfl R6.out Tryz.underlying35 rfl size_out4) rfl ?_
  exact ⟨_, _, rfl, FIN.out⟩
end Go.Proofs.YtchideljndagjabGreat
namespace Go.Proofs.YtchideljndagjabGreat
open Go.ChangeShapes Go.WideShapes Go.ChangeAt Go.RowKit
set_option linter.unusedVariables false
set_option maxHeartbeats 4000000 in
set_option maxRecDepth 100000 in
theorem sTake_calls (b : Nat) (C : Srv.Cf) (s : Srv.Sv) (S : SS) (v : Value) (zs : List Int) (w : World) (hw : SrvW w b C s S) (hs : s.out.1 = 0 → Srv.SOk C s) (hv : BytesAt w v zs) :
    Calls Tryz.prog 140 #[.pointer (some ⟨b, 0, none⟩), v] w fun e w' => e = .returned (.bool (scntD C s zs)) ∧ ∃ S', STook w w' b C (sstepD C s zs) S S' := by
  have hbl := hw.srv.at_.lt
  have HD := hideG (decode_calls v zs w hv)
  obtain ⟨az, cz, rfl, -, -, hB, -⟩ := bytes_view hv
  have HW := hideG hw
  obtain ⟨rd, hrd, hr4⟩ : ∃ rd : Nat, S.rd = (rd : Int) ∧ rd < 4 := by
    by_cases hp : s.out.1 = 0
    · exact ⟨s.rd, (hw.srv.now hp).2, (hs hp).rd⟩
    · exact ⟨0, hw.srv.rdz hp, by omega⟩
  clear hv hw
  cases hd : Frm.decF zs with
  | none =>
    obtain ⟨x1, x2, x3, x4⟩ := d_none hd
    rw [x1, x2, x3, x4] at HD
    have y1 : scntD C s zs = false := by unfold scntD; rw [hd]
    have y2 : sstepD C s zs = s := by unfold sstepD; rw [hd]
    rw [y1, y2]
    clear x1 x2 x3 x4 y1 y2 hd hB
    go_enter Tryz.func140, Tryz.ntmps140
    go_wp2_with fail
    refine HD.out.mono ?_
    rintro e w1 ⟨va, rfl, hown, hb⟩
    obtain ⟨a', c', hv'⟩ := owns_form hown
    subst hv'
    have HB := hideG hb
    clear hown hb
    go_wp2_with fail
    go_ret
    exact ⟨rfl, S, stook_same HW.out (HB.out.alloc HB.out.size _)⟩
  | some f =>
    obtain ⟨k, fr, l⟩ := f
    obtain ⟨x1, x2, x3, x4⟩ := d_some hd
    rw [x1, x2, x3, x4] at HD
    obtain ⟨y1, y2, y3⟩ := Frm.enc_dec hB hd
    obtain ⟨u, hu⟩ : ∃ u : Nat, fr = (u : Int) := ⟨fr.toNat, by have := (Frm.okF_bounds y1).2.2.2.1; omega⟩
    subst hu
    have u13 : u < 13 := by have := (Frm.okF_bounds y1).2.2.2.2.1; omega
    have u13' : (u : Int) < 13 := by omega
    have HOK := hideG y1
    have HIN := hideG (okF_in y1)
    have e1 : scntD C s zs = cntB S rd k u l := by unfold scntD; rw [hd]; exact (cnt_eq HW.out.srv hs y1 rd hrd).symm
    have e2 : sstepD C s zs = if cntB S rd k u l = true then { s with G := Srv.updT s.G s.rd u l } else s := by
      unfold sstepD; rw [hd, cnt_eq HW.out.srv hs y1 rd hrd]
      show Srv.takeS C s (k, (u : Int), l) = _
      unfold Srv.takeS
      rfl
    have HP := hideG (fun (h : cntB S rd k u l = true) => (show s.out.1 = 0 by
      unfold cntB at h; rw [Bool.and_eq_true, decide_eq_true_iff, HW.out.srv.st] at h; exact h.1))
    rw [e1, e2]
    clear x1 x2 x3 x4 y1 y2 y3 hd hB e1 e2
    have HM := hideG (fun (w1 : World) (a' : Option Addr) (c' : Nat) (hb : Below w.heap.size w w1) (hown : w1.ownsRow w.heap.size 147 4 (.slice a' l.length c') l.length (flat4 l)) =>
      (show ∀ (o : Obj), Below w.heap.size w (w1.alloc o) ∧ SrvW (w1.alloc o) b C s S ∧ ItemsAt (w1.alloc o) (.slice a' l.length c') l ∧ (∀ x, (Value.slice a' l.length c').ownBlock = some x → w.heap.size ≤ x ∧ x < (w1.alloc o).heap.size ∧ x ≠ w1.heap.size) from fun o => by
        have hb2 := hb.alloc hb.size o
        refine ⟨hb2, HW.out.below hb2, (itemsAt_of_owns hown HIN.out).below ((Below.refl _ _).alloc (Nat.le_refl _) _), fun x hx => ?_⟩
        have := hown.lt x hx
        exact ⟨this.1, by simp; omega, by omega⟩))
    have HCC := hideG (fun (W : World) (x : Value) (hS : SSAt W b S) (hI : ItemsAt W x l) => counts_calls b S k u x l W hS hI HOK.out rd hrd hr4)
    obtain ⟨p, hp⟩ : ∃ p, p = cntB S rd k u l := ⟨_, rfl⟩
    rw [← hp] at HCC HP ⊢
    clear hp
    go_enter Tryz.func140, Tryz.ntmps140
    go_wp2_with fail
    refine HD.out.mono ?_
    rintro e w1 ⟨va, rfl, hown, hb⟩
    obtain ⟨a', c', hv'⟩ := owns_form hown
    subst hv'
    have s1 := hb.size
    have MM := hideG (HM.out w1 a' c' hb hown (.cells #[.int .i64 k, .int .i64 (u : Int), .slice a' l.length c'] 65))
    clear hown hb HM HD
    obtain ⟨W, hW⟩ : ∃ W, W = w1.alloc (.cells #[.int .i64 k, .int .i64 (u : Int), .slice a' l.length c'] 65) := ⟨_, rfl⟩
    have X0 := hideG (show W.cell? ⟨w1.heap.size, 0, none⟩ = some (.int .i64 k) by rw [hW]; simp)
    have X1 := hideG (show W.cell? ⟨w1.heap.size, 1, none⟩ = some (.int .i64 (u : Int)) by rw [hW]; simp)
    have X2 := hideG (show W.cell? ⟨w1.heap.size, 2, none⟩ = some (.slice a' l.length c') by rw [hW]; simp)
    have sz : w1.heap.size < W.heap.size := by rw [hW]; simp
    rw [← hW] at MM
    have HWW := hideG hW
    clear hW
    have CC := hideG (HCC.out W _ MM.out.2.1.srv.at_ MM.out.2.2.1)
    go_upto_region 2 with fail
    rw [← HWW.out]
    have x0 := X0.out
    have x1 := X1.out
    have x2 := X2.out
    go_wp2_with fail
    refine CC.out.mono ?_
    rintro e w2 ⟨rfl, hb2⟩
    have s2 := hb2.size
    have B2 := hideG hb2
    have T2 := hideG (MM.out.1.trans (hb2.mono MM.out.1.size))
    have S2 := hideG (MM.out.2.1.below hb2)
    have I2 := hideG (MM.out.2.2.1.below hb2)
    have F2 := hideG MM.out.2.2.2
    have y1 : w2.cell? ⟨w1.heap.size, 1, none⟩ = some (.int .i64 (u : Int)) := (hb2.cell (p := ⟨w1.heap.size, 1, none⟩) sz).trans X1.out
    have y2 : w2.cell? ⟨w1.heap.size, 2, none⟩ = some (.slice a' l.length c') := (hb2.cell (p := ⟨w1.heap.size, 2, none⟩) sz).trans X2.out
    clear hb2 x0 x1 x2 X0 X1 X2 MM CC
    cases p
    · go_wp2_with fail
      go_ret
      exact ⟨rfl, S, stook_same HW.out T2.out⟩
    · have c1 := S2.out.srv.at_.cct u u13
      have f1 := S2.out.srv.at_.froz (19 + u) (by omega)
      have c2 := S2.out.srv.at_.cit u u13
      have f2 := S2.out.srv.at_.froz (32 + u) (by omega)
      have hne : (⟨b, 19 + u, none⟩ : Addr) ≠ ⟨w1.heap.size, 1, none⟩ := by intro q; injection q with q1 q2 q3; omega
      have hne2 : (⟨b, 19 + u, none⟩ : Addr) ≠ ⟨w1.heap.size, 2, none⟩ := by intro q; injection q with q1 q2 q3; omega
      have hne3 : (⟨b, 19 + u, none⟩ : Addr) ≠ ⟨b, 32 + u, none⟩ := by intro q; injection q with q1 q2 q3; omega
      obtain ⟨W3, hW3⟩ : ∃ W3, W3 = (w2.setCell ⟨b, 19 + u, none⟩ (.bool true)).drew := ⟨_, rfl⟩
      have z1 : W3.cell? ⟨w1.heap.size, 1, none⟩ = some (.int .i64 (u : Int)) := by rw [hW3]; exact (World.cell?_setCell_other _ _ _ _ hne).trans y1
      have z2 : W3.cell? ⟨w1.heap.size, 2, none⟩ = some (.slice a' l.length c') := by rw [hW3]; exact (World.cell?_setCell_other _ _ _ _ hne2).trans y2
      have z3 : W3.cell? ⟨b, 32 + u, none⟩ = some (S.it u) := by rw [hW3]; exact (World.cell?_setCell_other _ _ _ _ hne3).trans c2
      have z4 : W3.frozen? ⟨b, 32 + u, none⟩ = false := by rw [hW3]; exact (World.frozen?_setCell ..).trans f2
      have T3 := hideG (show STook w (W3.setCell ⟨b, 32 + u, none⟩ (.slice a' l.length c')).drew b C { s with G := Srv.updT s.G s.rd u l } S { S with ct := fun v => if v = u then true else S.ct v, it := updV S.it u (.slice a' l.length c') } by
        have hc : Chg (fun x => x = b) w2 (W3.setCell ⟨b, 32 + u, none⟩ (.slice a' l.length c')).drew := by
          rw [hW3]
          exact (((Chg.setCell w2 ⟨b, 19 + u, none⟩ (.bool true)).also (Chg.drew _ _)).also (Chg.setCell _ ⟨b, 32 + u, none⟩ _)).also (Chg.drew _ _)
        have hsl : ∀ x, (Value.slice a' l.length c').ownBlock = some x → x ≠ b ∧ x < w2.heap.size ∧ w.heap.size ≤ x := fun x hx => by
          have := F2.out x hx
          exact ⟨by omega, by omega, this.1⟩
        have hat : SSAt (W3.setCell ⟨b, 32 + u, none⟩ (.slice a' l.length c')).drew b { S with ct := fun v => if v = u then true else S.ct v, it := updV S.it u (.slice a' l.length c') } := by
          rw [hW3]
          exact (((S2.out.srv.at_.setCt u u13 true).block (w' := (w2.setCell ⟨b, 19 + u, none⟩ (.bool true)).drew) rfl).setIt u u13 (.slice a' l.length c')).block rfl
        refine ⟨⟨srvAt_more S2.out.srv (HP.out rfl) u13 hat (I2.out.chg hc (fun x hx e => (hsl x hx).1 e)) (fun e => (hsl b e).1 rfl) hc.size (fun y hy hf => hc.block y (S2.out.low y hf) hy), fun x hx => ?_⟩, (Chg.of_below T2.out).also hc, fun x hx => ?_, fun i hi => ?_⟩
        · refine Nat.lt_of_lt_of_le ?_ hc.size
          rcases hx with hx | ⟨v, hv, hx⟩ | hx
          · exact S2.out.low x (.inl hx)
          · have hx' : (updV S.it u (.slice a' l.length c') v).ownBlock = some x := hx
            unfold updV at hx'
            split at hx'
            · exact (hsl x hx').2.1
            · exact S2.out.low x (.inr (.inl ⟨v, hv, hx'⟩))
          · exact S2.out.low x (.inr (.inr hx))
        · rcases hx with hx | ⟨v, hv, hx⟩ | hx
          · exact .inl (.inl hx)
          · have hx' : (updV S.it u (.slice a' l.length c') v).ownBlock = some x := hx
            unfold updV at hx'
            split at hx'
            · exact .inr (hsl x hx').2.2
            · exact .inl (.inr (.inl ⟨v, hv, hx'⟩))
          · exact .inl (.inr (.inr hx))
        · rw [hW3, ← T2.out.cell (p := ⟨b, i, none⟩) hbl, ← T2.out.frozen (p := ⟨b, i, none⟩) hbl]
          refine ⟨?_, ?_⟩
          · show ((w2.setCell ⟨b, 19 + u, none⟩ (.bool true)).drew.setCell ⟨b, 32 + u, none⟩ _).cell? ⟨b, i, none⟩ = _
            rw [World.cell?_setCell_other (h := by intro q; injection q with q1 q2 q3; omega)]
            exact World.cell?_setCell_other _ _ _ _ (by intro q; injection q with q1 q2 q3; omega)
          · show ((w2.setCell ⟨b, 19 + u, none⟩ (.bool true)).drew.setCell ⟨b, 32 + u, none⟩ _).frozen? ⟨b, i, none⟩ = _
            rw [World.frozen?_setCell]
            exact World.frozen?_setCell ..)
      have HW3 := hideG hW3
      clear hW3
      go_upto_region 4 with fail
      go_region
      rw [← HW3.out]
      go_upto_region 5 with fail
      go_region
      go_wp2_with fail
      go_ret
      exact ⟨rfl, _, T3.out⟩
end Go.Proofs.YtchideljndagjabGreat
namespace Go.Proofs.YtchideljndagjabGreat
open Go.ChangeShapes Go.WideShapes Go.ChangeAt Go.RowKit
set_option linter.unusedVariables false
theorem sfold_get (L : List Value) : ∀ (k : Nat) (A : Array Value) (i : Nat), k + L.length ≤ A.size → (List.foldl (fun (cs : Array Value) (x : Value × Nat) => cs.setIfInBounds x.2 x.1) A (L.zipIdx k))[i]? = if k ≤ i ∧ i < k + L.length then L[i - k]? else A[i]? := by
  induction L with
  | nil => intro k A i h; rw [if_neg (fun q => by have h1 := q.1; have h2 := q.2; simp at h2; omega)]; rfl
  | cons a L ih =>
    intro k A i h
    rw [List.length_cons] at h
    rw [List.zipIdx_cons, List.foldl_cons, ih (k + 1) _ i (by simp; omega), List.length_cons]
    by_cases e : i = k
    · subst e
      rw [if_neg (by omega), if_pos (by omega), Nat.sub_self]
      simp [Array.getElem?_setIfInBounds]
      omega
    · by_cases q : k + 1 ≤ i ∧ i < k + 1 + L.length
      · rw [if_pos q, if_pos (by omega), show i - k = (i - (k + 1)) + 1 by omega, List.getElem?_cons_succ]
      · rw [if_neg q, if_neg (by omega)]
        simp only [Array.getElem?_setIfInBounds]
        rw [if_neg (fun e' => e e'.symm)]
theorem sfold_all (L : List Value) (A : Array Value) (h : A.size = L.length) : List.foldl (fun (cs : Array Value) (x : Value × Nat) => cs.setIfInBounds x.2 x.1) A L.zipIdx = L.toArray := by
  apply Array.ext_getElem?
  intro i
  rw [sfold_get L 0 A i (by omega)]
  by_cases q : i < L.length
  · rw [if_pos (by omega)]; simp
  · rw [if_neg (by omega), Array.getElem?_eq_none (by omega), Array.getElem?_eq_none (by simp; omega)]
theorem SSBl.range {w : World} {b : Nat} {T : TypeId} {s : SS} (h : SSBl w b T s) : w.rangeAt b 0 (ssCells s) := RecAt.range h.at_
theorem szero_one : ∀ v ∈ ssCells zeroSS, v.oneCell' = true := ssCells_one _ (fun _ _ => rfl) rfl rfl rfl
theorem srvAt_fresh {w : World} {b : Nat} {N T M D : Int} (h : SSAt w b (freshSS N T M D fun u : Nat => decide (1 ≤ u ∧ (u : Int) ≤ N))) : SrvAt w b ⟨N, T, M, D⟩ Srv.start (freshSS N T M D fun u : Nat => decide (1 ≤ u ∧ (u : Int) ≤ N)) where
  at_ := h
  st := rfl
  ro := rfl
  set := list_nil _
  sum := list_nil _
  apart := fun v _ => by show (Value.slice none 0 0).ownBlock ≠ some b; intro e; cases e
  apart2 := ⟨(by show (Value.slice none 0 0).ownBlock ≠ some b; intro e; cases e), (by show (Value.slice none 0 0).ownBlock ≠ some b; intro e; cases e), (by show (Value.slice none 0 0).ownBlock ≠ some b; intro e; cases e)⟩
  zero := fun _ => ⟨rfl, rfl, rfl⟩
  rdz := fun _ => rfl
  cfg := fun _ => ⟨rfl, rfl, rfl, rfl⟩
  now := fun _ => ⟨rfl, rfl⟩
  sn := fun _ v _ => rfl
  ct := fun _ v _ => rfl
  it := fun _ v _ => items_nil _
  pb := fun _ r => absurd r (by show ¬ 1 ≤ 0; omega)
  sh := fun _ r => absurd r (by show ¬ 2 ≤ 0; omega)
  ml := fun _ r => absurd r (by show ¬ (0 : Nat) = 3; omega)
end Go.Proofs.YtchideljndagjabGreat
namespace Go.Proofs.YtchideljndagjabGreat
open Go.RowKit
set_option linter.unusedVariables false
theorem row_keep {w w' : World} {base : Nat} {e : TypeId} {size : Nat} {v : Value} {n : Nat} {xs : List Value} (h : w.ownsRow base e size v n xs) (hS : ∀ x, v.ownBlock = some x → w'.heap[x]? = w.heap[x]?) : w'.ownsRow base e size v n xs := by
  obtain ⟨h1, h2⟩ := h
  refine ⟨h1, ?_⟩
  rcases h2 with h2 | ⟨g, cap, cur, rfl, h3, h4, h5⟩
  · exact .inl h2
  · exact .inr ⟨g, cap, cur, rfl, h3, by rw [hS g rfl]; exact h4, h5⟩
structure FlAt (w : World) (v : Value) (vs : List Value) (ps : List Pk) : Prop where
  len : vs.length = ps.length
  row : w.ownsRow 0 49 3 v ps.length (packV ps vs)
  each : ∀ (i : Nat) (x : Value) (p : Pk), vs[i]? = some x → ps[i]? = some p → BytesAt w x p.2.2
  low : ∀ x ∈ vs, ∀ g, x.ownBlock = some g → g < w.heap.size
  apart : ∀ x ∈ vs, ∀ g, x.ownBlock = some g → v.ownBlock ≠ some g
section
variable {w w' : World} {v : Value} {vs : List Value} {ps : List Pk}
theorem BytesAt.keepS {v : Value} {zs : List Int} (h : BytesAt w v zs) (hs : w.heap.size ≤ w'.heap.size) (hb : ∀ x, v.ownBlock = some x → w'.heap[x]? = w.heap[x]?) : BytesAt w' v zs := by
  obtain ⟨a, cap, h1, h2, h3, h4, h5⟩ := h
  refine ⟨a, cap, h1, h2, h3, h4, ?_⟩
  rcases h5 with h5 | ⟨b, off, e1, e2, e3⟩
  · exact .inl h5
  · refine .inr ⟨b, off, e1, Nat.lt_of_lt_of_le e2 hs, fun i hi => ?_⟩
    rw [← e3 i hi]
    exact World.cell?_of_block (w := w) (hb b (by rw [h1, e1]; rfl))
theorem flAt_nil (w : World) : FlAt w (.slice none 0 0) [] [] := ⟨rfl, World.ownsRow_nil _ _ _ _, fun i x p h => (by simp at h), fun x hx => (by cases hx), fun x hx => (by cases hx)⟩
theorem FlAt.keep (h : FlAt w v vs ps) (hs : w.heap.size ≤ w'.heap.size) (h1 : ∀ x, v.ownBlock = some x → w'.heap[x]? = w.heap[x]?) (h2 : ∀ y ∈ vs, ∀ x, y.ownBlock = some x → w'.heap[x]? = w.heap[x]?) : FlAt w' v vs ps :=
  ⟨h.len, row_keep h.row h1, fun i x p hx hp => (h.each i x p hx hp).keepS hs (h2 x (List.mem_of_getElem? hx)), fun x hx g hg => Nat.lt_of_lt_of_le (h.low x hx g hg) hs, h.apart⟩
theorem FlAt.rowlt (h : FlAt w v vs ps) {x : Nat} (hx : v.ownBlock = some x) : x < w.heap.size := (h.row.lt x hx).2
theorem FlAt.view (h : FlAt w v vs ps) : ∃ a c, v = .slice a ps.length c ∧ ps.length ≤ c ∧ c ≤ 9223372036854775807 ∧ ∀ j p, ps[j]? = some p → ∃ g y, a = some ⟨g, 0, none⟩ ∧ g < w.heap.size ∧ vs[j]? = some y ∧ w.cell? ⟨g, j * 3, none⟩ = some (.int .i64 p.1) ∧ w.cell? ⟨g, j * 3 + 1, none⟩ = some (.int .i64 p.2.1) ∧ w.cell? ⟨g, j * 3 + 2, none⟩ = some y ∧ BytesAt w y p.2.2 := by
  have h0 := h.row
  rcases h.row.2 with ⟨e0, hn⟩ | ⟨g, cap, cur, e0, _, _, hnc, hcm, _⟩
  · refine ⟨none, 0, by rw [e0, hn], by omega, by omega, fun j p hp => ?_⟩
    have := (List.getElem?_eq_some_iff.1 hp).1
    omega
  · refine ⟨some ⟨g, 0, none⟩, cap, e0, hnc, by unfold maxLen at hcm; omega, fun j p hp => ?_⟩
    have hj := (List.getElem?_eq_some_iff.1 hp).1
    have hjv : j < vs.length := by rw [h.len]; exact hj
    have hy := List.getElem?_eq_getElem hjv
    obtain ⟨f1, f2, f3⟩ := packV_get ps vs j p _ hp hy
    rw [e0] at h0
    have hl : (packV ps vs).length = ps.length * 3 := packV_length ps vs h.len
    exact ⟨g, _, rfl, (h0.lt g rfl).2, hy, (h0.cellAt (j * 3) (by omega)).trans f1, (h0.cellAt (j * 3 + 1) (by omega)).trans f2, (h0.cellAt (j * 3 + 2) (by omega)).trans f3, h.each j _ p hy hp⟩
end
structure Sn where
  q : Srv.Sv
  cs : Nat → Cli.St
  gone : Nat → Bool
  fl : List Pk
def updA {α : Type} (f : Nat → α) (i : Nat) (x : α) : Nat → α := fun j => if j = i then x else f j
theorem updA_same {α : Type} (f : Nat → α) (i : Nat) (x : α) : updA f i x i = x := if_pos rfl
theorem updA_other {α : Type} (f : Nat → α) (i : Nat) (x : α) {j : Nat} (h : j ≠ i) : updA f i x j = f j := if_neg h
def ansP (i : Nat) : Option Cli.Fr → List Pk
  | none => []
  | some f => [((i : Int) + 1, 0, Frm.encF f.1 f.2.1 f.2.2)]
def rcv0 (C : Srv.Cf) (s : Sn) (zs : List Int) : Sn := { s with q := sstepD C s.q zs }
def rcvC (cl : Nat → Cli.Cl) (s : Sn) (i : Nat) (zs : List Int) : Sn :=
  if s.gone i = true then s else { s with cs := updA s.cs i (stepD (cl i) (s.cs i) zs), fl := s.fl ++ ansP i (ansD (cl i) (s.cs i) zs) }
def rcv (C : Srv.Cf) (cl : Nat → Cli.Cl) (n : Nat) (s : Sn) (d : Int) (zs : List Int) : Sn :=
  if 1 ≤ d ∧ d ≤ (n : Int) then rcvC cl s (d.toNat - 1) zs else rcv0 C s zs
def tickN (C : Srv.Cf) (s : Sn) : Sn := { s with q := Srv.tickS C s.q, fl := s.fl ++ tickK C s.q }
def crashN (s : Sn) (i : Nat) : Sn := { s with gone := updA s.gone i true }
def remC (st : Cli.St) : Nat := if st.1 = 1 then 3 else if st.1 = 2 then 2 else if st.1 = 3 then 1 else 0
def remA (cs : Nat → Cli.St) : Nat → Nat
  | 0 => 0
  | n + 1 => remA cs n + remC (cs n)
def remS (q : Srv.Sv) : Nat := if q.out.1 = 0 then (3 - q.rd) * 13 else 0
structure SnOk (C : Srv.Cf) (cl : Nat → Cli.Cl) (n : Nat) (s : Sn) : Prop where
  gc : Srv.GoodC C
  num : C.N = (n : Int)
  good : ∀ i, i < n → Cli.Good (cl i)
  id : ∀ i, i < n → (cl i).id = (i : Int) + 1
  sok : s.q.out.1 = 0 → Srv.SOk C s.q
  bd : s.q.out.2.2.1.length ≤ 12 ∧ s.q.out.2.2.2.length ≤ 12
  fl : s.fl.length + (remA s.cs n + remS s.q) ≤ 300
  flb : ∀ p ∈ s.fl, p.2.2.length ≤ 400
structure GoneAt (w : World) (b o : Nat) (l : List Frm.It) (S : PS) : Prop where
  at_ : Co.PSAt w b o S
  ph : S.ph = 0
  told : ItemsAt w S.told l
  nil : S.inp = .slice none 0 0 ∧ S.sm = .slice none 0 0 ∧ S.ss = .slice none 0 0
  apart : S.told.ownBlock ≠ some b
  low : ∀ x, CFoot b S x → x < w.heap.size
structure CAt (w : World) (b o : Nat) (c : Cli.Cl) (g : Bool) (s : Cli.St) (S : PS) : Prop where
  live : g = false → Co.CliW w b o c s S
  dead : g = true → GoneAt w b o (relL c s) S
section
variable {w w' : World} {b o : Nat} {c : Cli.Cl} {g : Bool} {s : Cli.St} {S : PS}
theorem CAt.at_ (h : CAt w b o c g s S) : Co.PSAt w b o S := by
  cases g
  · exact (h.live rfl).cli.at_
  · exact (h.dead rfl).at_
theorem CAt.low (h : CAt w b o c g s S) : ∀ x, CFoot b S x → x < w.heap.size := by
  cases g
  · exact (h.live rfl).low
  · exact (h.dead rfl).low
theorem CAt.told (h : CAt w b o c g s S) : ItemsAt w S.told (relL c s) := by
  cases g
  · exact Co.relL_items (h.live rfl).cli
  · exact (h.dead rfl).told
theorem CAt.keepAt (h : CAt w b o c g s S) (hs : w.heap.size ≤ w'.heap.size) (ha : Co.PSAt w' b o S) (hb : ∀ x, x ≠ b → CFoot b S x → w'.heap[x]? = w.heap[x]?) : CAt w' b o c g s S := by
  refine ⟨fun e => ?_, fun e => ?_⟩
  · have k := h.live e
    exact ⟨k.cli.keepAt hs ha hb, fun x hx => Nat.lt_of_lt_of_le (k.low x hx) hs⟩
  · have k := h.dead e
    exact ⟨ha, k.ph, k.told.keep hs (fun x hx => hb x (fun e => k.apart (e ▸ hx)) (.inr (.inr (.inr (.inr hx))))), k.nil, k.apart, fun x hx => Nat.lt_of_lt_of_le (k.low x hx) hs⟩
theorem CAt.keep (h : CAt w b o c g s S) (hs : w.heap.size ≤ w'.heap.size) (hb : ∀ x, CFoot b S x → w'.heap[x]? = w.heap[x]?) : CAt w' b o c g s S := h.keepAt hs (h.at_.block (hb b (.inl rfl))) (fun x _ hx => hb x hx)
end
structure SM where
  S : SS
  cb : Nat
  cc : Nat
  P : Nat → PS
  fv : Value
  vs : List Value
def SStat (b n : Nat) (m : SM) (x : Nat) : Prop := (SFoot b m.S x ∧ x ≠ b) ∨ (∃ i, i < n ∧ CFoot m.cb (m.P i) x ∧ x ≠ m.cb) ∨ ∃ y ∈ m.vs, y.ownBlock = some x
def SesOwn (b : Nat) (m : SM) (x : Nat) : Prop := x = b ∨ x = m.cb ∨ m.fv.ownBlock = some x
def SesFoot (b n : Nat) (m : SM) (x : Nat) : Prop := SesOwn b m x ∨ SStat b n m x
structure SesAt (w : World) (b n : Nat) (C : Srv.Cf) (cl : Nat → Cli.Cl) (s : Sn) (m : SM) : Prop where
  srv : SrvW w b C s.q m.S
  c76 : w.cell? ⟨b, 76, none⟩ = some (.slice (some ⟨m.cb, 0, none⟩) n m.cc)
  c77 : w.cell? ⟨b, 77, none⟩ = some m.fv
  f77 : w.frozen? ⟨b, 77, none⟩ = false
  ncc : n ≤ m.cc ∧ m.cc ≤ 9223372036854775807
  cli : ∀ i, i < n → CAt w m.cb (i * 78) (cl i) (s.gone i) (s.cs i) (m.P i)
  fl : FlAt w m.fv m.vs s.fl
  lcb : m.cb < w.heap.size
  own : m.cb ≠ b ∧ m.fv.ownBlock ≠ some b ∧ m.fv.ownBlock ≠ some m.cb
  ap : ∀ x, SStat b n m x → ¬ SesOwn b m x
section
variable {w w' : World} {b n : Nat} {C : Srv.Cf} {cl : Nat → Cli.Cl} {s : Sn} {m : SM}
theorem SesAt.low (h : SesAt w b n C cl s m) {x : Nat} (hx : SesFoot b n m x) : x < w.heap.size := by
  rcases hx with (hx | hx | hx) | ⟨hx, _⟩ | ⟨i, hi, hx, _⟩ | ⟨y, hy, hx⟩
  · exact h.srv.low x (.inl hx)
  · rw [hx]; exact h.lcb
  · exact h.fl.rowlt hx
  · exact h.srv.low x hx
  · exact (h.cli i hi).low x hx
  · exact h.fl.low y hy x hx
theorem SesAt.keep (h : SesAt w b n C cl s m) (hs : w.heap.size ≤ w'.heap.size) (hb : ∀ x, SesFoot b n m x → w'.heap[x]? = w.heap[x]?) : SesAt w' b n C cl s m := by
  have hbb := hb b (.inl (.inl rfl))
  have fb : ∀ x, SFoot b m.S x → SesFoot b n m x := fun x hx => by
    by_cases e : x = b
    · exact .inl (.inl e)
    · exact .inr (.inl ⟨hx, e⟩)
  have fc : ∀ i, i < n → ∀ x, CFoot m.cb (m.P i) x → SesFoot b n m x := fun i hi x hx => by
    by_cases e : x = m.cb
    · exact .inl (.inr (.inl e))
    · exact .inr (.inr (.inl ⟨i, hi, hx, e⟩))
  exact { h with
    srv := h.srv.keep hs (fun x hx => hb x (fb x hx))
    c76 := (World.cell?_of_block (w := w) (a := ⟨b, 76, none⟩) hbb).trans h.c76
    c77 := (World.cell?_of_block (w := w) (a := ⟨b, 77, none⟩) hbb).trans h.c77
    f77 := (frozen_block hbb 77).trans h.f77
    cli := fun i hi => (h.cli i hi).keep hs (fun x hx => hb x (fc i hi x hx))
    fl := h.fl.keep hs (fun x hx => hb x (.inl (.inr (.inr hx)))) (fun y hy x hx => hb x (.inr (.inr (.inr ⟨y, hy, hx⟩))))
    lcb := Nat.lt_of_lt_of_le h.lcb hs }
theorem SesAt.below (h : SesAt w b n C cl s m) (hb : Below w.heap.size w w') : SesAt w' b n C cl s m := h.keep hb.size (fun x hx => hb.block x (h.low hx))
theorem SesAt.blt (h : SesAt w b n C cl s m) : b < w.heap.size := h.low (.inl (.inl rfl))
end
structure SesTook (w w' : World) (b n : Nat) (C : Srv.Cf) (cl : Nat → Cli.Cl) (s' : Sn) (m m' : SM) : Prop where
  ses : SesAt w' b n C cl s' m'
  chg : Chg (SesOwn b m) w w'
  own : ∀ x, SesOwn b m' x → SesOwn b m x ∨ w.heap.size ≤ x
  foot : ∀ x, SesFoot b n m' x → SesFoot b n m x ∨ w.heap.size ≤ x
section
variable {w w1 w' : World} {b n : Nat} {C : Srv.Cf} {cl : Nat → Cli.Cl} {s s1 s' : Sn} {m m1 m' : SM}
theorem sesTook_same (h : SesAt w b n C cl s m) (hb : Below w.heap.size w w') : SesTook w w' b n C cl s m m := ⟨h.below hb, Chg.of_below hb, fun _ hx => .inl hx, fun _ hx => .inl hx⟩
theorem SesTook.trans (h : SesTook w w1 b n C cl s1 m m1) (k : SesTook w1 w' b n C cl s' m1 m') : SesTook w w' b n C cl s' m m' := by
  have z := h.chg.size
  refine ⟨k.ses, h.chg.trans k.chg (fun x e hx => (h.own x e).elim id (fun q => by omega)), fun x hx => ?_, fun x hx => ?_⟩
  · rcases k.own x hx with e | e
    · exact h.own x e
    · exact .inr (by omega)
  · rcases k.foot x hx with e | e
    · exact h.foot x e
    · exact .inr (by omega)
theorem SesTook.then (h : SesTook w w1 b n C cl s1 m m1) (hb : Below w1.heap.size w1 w') : SesTook w w' b n C cl s1 m m1 := ⟨h.ses.below hb, h.chg.grow hb, h.own, h.foot⟩
theorem SesTook.after (h : SesTook w1 w' b n C cl s' m m') (hb : Below w.heap.size w w1) : SesTook w w' b n C cl s' m m' :=
  ⟨h.ses, (Chg.of_below hb).also h.chg, fun x hx => (h.own x hx).imp id (fun e => Nat.le_trans hb.size e), fun x hx => (h.foot x hx).imp id (fun e => Nat.le_trans hb.size e)⟩
end
end Go.Proofs.YtchideljndagjabGreat
