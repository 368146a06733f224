/- Contract of Encode. -/
import Derived.Test.YtchideljndagjabGreatPkIdAE
import Derived.Test.YtchideljndagjabGreatPkIdAB
import Derived.Laws.AppendOwn
import Derived.Laws.OwnMore
import Derived.OwnWalk
import Derived.Deep.RegionWith
import Derived.Deep.CutRange
import Derived.WalkSpells
namespace Go.Proofs.YtchideljndagjabGreat
open Go.ChangeShapes Go.WideShapes Go.ChangeAt Go.RowKit
set_option linter.unusedVariables false
theorem infoU8 : (Tryz.prog.info? 5).map (fun i => (i.zero, i.size, i.bytes)) = some (some (.int .u8 0), 1, 1) := by kernel_rfl
def RowSt (B g : Nat) (w0 bx wr : World) (v : Value) (n : Nat) (bs : List Int) : Prop :=
  wr.ownsRow B 5 1 v n (bs.map (Value.int .u8)) ∧ v.ownBlock ≠ some g ∧ g < wr.heap.size ∧ wr.heap[g]? = w0.heap[g]? ∧ Below B bx wr
theorem RowSt.size {B g : Nat} {w0 bx wr : World} {v : Value} {n : Nat} {bs : List Int} (h : RowSt B g w0 bx wr v n bs) (hB : B ≤ bx.heap.size) : B ≤ wr.heap.size := by
  have := h.2.2.2.2.size; omega
theorem RowSt.below {B g : Nat} {w0 bx wr w' : World} {v : Value} {n : Nat} {bs : List Int} (h : RowSt B g w0 bx wr v n bs) (hB : B ≤ bx.heap.size) (hb : Below wr.heap.size wr w') : RowSt B g w0 bx w' v n bs := by
  have hs := h.size hB
  obtain ⟨h1, h2, h3, h4, h5⟩ := h
  exact ⟨ownsRow_chg (S := fun _ => False) h1 (Chg.of_below hb) (fun _ _ h => h), h2, Nat.lt_of_lt_of_le h3 hb.size, (hb.block g h3).trans h4, h5.trans (hb.mono hs)⟩
theorem RowSt.step {B g : Nat} {w0 bx wr w' : World} {v : Value} {n : Nat} {bs : List Int} {o : Obj} {g' cap' : Nat} {d : Int} (h : RowSt B g w0 bx wr v n bs) (hB : B ≤ bx.heap.size)
    (ho : w'.ownsRow B 5 1 (.slice (some ⟨g', 0, none⟩) (n + 1) cap') (n + 1) (bs.map (Value.int .u8) ++ [.int .u8 d])) (hg : (wr.alloc o).grownBy w' v.ownBlock) (hv : v.ownBlock = some g' ∨ wr.heap.size + 1 ≤ g') :
    RowSt B g w0 bx w' (.slice (some ⟨g', 0, none⟩) (n + 1) cap') (n + 1) (bs ++ [d]) := by
  have hs := h.size hB
  obtain ⟨h1, h2, h3, h4, h5⟩ := h
  have hz := hg.size
  have hz1 : (wr.alloc o).heap.size = wr.heap.size + 1 := by simp
  refine ⟨by rw [List.map_append]; exact ho, ?_, by omega, ?_, (h5.alloc hs o).grown hg (by omega) (fun x hx => (h1.lt x hx).1)⟩
  · intro e
    simp [Value.ownBlock] at e
    subst e
    rcases hv with hv | hv
    · exact h2 hv
    · omega
  · rw [hg.block g (by omega) (fun e => h2 e.symm), Below.heap_alloc _ _ _ h3]; exact h4
theorem cell_of_block {w w0 : World} {g : Nat} (h : w.heap[g]? = w0.heap[g]?) (o : Nat) : w.cell? ⟨g, o, none⟩ = w0.cell? ⟨g, o, none⟩ := by
  simp only [World.cell?, h]
theorem idx8_0 (a0 a1 a2 a3 a4 a5 a6 a7 : Value) (w : World) : (Instr.index 257 (.agg #[a0, a1, a2, a3, a4, a5, a6, a7]) (.int .i64 0)).run Tryz.prog w = .ok a0 w := by kernel_rfl
theorem idx8_1 (a0 a1 a2 a3 a4 a5 a6 a7 : Value) (w : World) : (Instr.index 257 (.agg #[a0, a1, a2, a3, a4, a5, a6, a7]) (.int .i64 1)).run Tryz.prog w = .ok a1 w := by kernel_rfl
theorem idx8_2 (a0 a1 a2 a3 a4 a5 a6 a7 : Value) (w : World) : (Instr.index 257 (.agg #[a0, a1, a2, a3, a4, a5, a6, a7]) (.int .i64 2)).run Tryz.prog w = .ok a2 w := by kernel_rfl
theorem idx8_3 (a0 a1 a2 a3 a4 a5 a6 a7 : Value) (w : World) : (Instr.index 257 (.agg #[a0, a1, a2, a3, a4, a5, a6, a7]) (.int .i64 3)).run Tryz.prog w = .ok a3 w := by kernel_rfl
theorem idx8_4 (a0 a1 a2 a3 a4 a5 a6 a7 : Value) (w : World) : (Instr.index 257 (.agg #[a0, a1, a2, a3, a4, a5, a6, a7]) (.int .i64 4)).run Tryz.prog w = .ok a4 w := by kernel_rfl
theorem idx8_5 (a0 a1 a2 a3 a4 a5 a6 a7 : Value) (w : World) : (Instr.index 257 (.agg #[a0, a1, a2, a3, a4, a5, a6, a7]) (.int .i64 5)).run Tryz.prog w = .ok a5 w := by kernel_rfl
theorem idx8_6 (a0 a1 a2 a3 a4 a5 a6 a7 : Value) (w : World) : (Instr.index 257 (.agg #[a0, a1, a2, a3, a4, a5, a6, a7]) (.int .i64 6)).run Tryz.prog w = .ok a6 w := by kernel_rfl
theorem idx8_7 (a0 a1 a2 a3 a4 a5 a6 a7 : Value) (w : World) : (Instr.index 257 (.agg #[a0, a1, a2, a3, a4, a5, a6, a7]) (.int .i64 7)).run Tryz.prog w = .ok a7 w := by kernel_rfl
theorem cell_three_new (w : World) (x y z : Value) (t : TypeId) : ∀ j u, ([x, y, z] : List Value)[j]? = some u → (w.alloc (.cells #[x, y, z] t)).cell? ((⟨w.heap.size, 0, none⟩ : Addr).add j) = some u := by
  intro j u hj
  match j, hj with
  | 0, hj => simp at hj; subst hj; simp [Addr.add]
  | 1, hj => simp at hj; subst hj; simp [Addr.add]
  | 2, hj => simp at hj; subst hj; simp [Addr.add]
theorem far_cell {w w' : World} {row : Option Nat} (h : w.grownBy w' row) (g o : Nat) (hlt : g < w.heap.size) (hne : row ≠ some g) : w'.cell? ⟨g, o, none⟩ = w.cell? ⟨g, o, none⟩ :=
  cell_of_block (h.block g hlt (fun e => hne e.symm)) o
def preB (k fr : Int) (l : List Frm.It) (i : Nat) : List Int := k :: fr :: (l.length : Int) :: ((l.take i).map (Frm.encI k)).flatten
theorem preB_all (k fr : Int) (l : List Frm.It) : preB k fr l l.length = Frm.encF k fr l := by unfold preB Frm.encF; rw [List.take_length]
theorem preB_succ (k fr : Int) (l : List Frm.It) (i : Nat) (hi : i < l.length) : preB k fr l (i + 1) = preB k fr l i ++ Frm.encI k (Frm.it l i) := by
  have e : l.take (i + 1) = l.take i ++ [Frm.it l i] := by
    rw [List.take_succ_eq_append_getElem hi]
    unfold Frm.it
    rw [List.getD_eq_getElem?_getD, List.getElem?_eq_getElem hi]; rfl
  unfold preB
  rw [e, List.map_append, List.flatten_append]
  simp
def midB (k : Int) (x : Frm.It) (m : Nat) : List Int := (((Frm.nums k x).take m).map Frm.bytesN).flatten
theorem midB_succ (k : Int) (x : Frm.It) (m : Nat) (hm : m < Frm.wid k) : midB k x (m + 1) = midB k x m ++ Frm.bytesN ((Frm.nums k x).getD m 0) := by
  have hl : m < (Frm.nums k x).length := by rw [Frm.nums_length]; exact hm
  unfold midB
  rw [List.take_succ_eq_append_getElem hl, List.map_append, List.flatten_append, List.getD_eq_getElem?_getD, List.getElem?_eq_getElem hl]
  simp
theorem midB_all (k : Int) (x : Frm.It) : x.1 :: midB k x (Frm.wid k) = Frm.encI k x := by
  unfold midB Frm.encI
  rw [List.take_of_length_le (by rw [Frm.nums_length]; exact Nat.le_refl _)]
theorem nums_bd {k : Int} {x : Frm.It} (h : Frm.okI k x = true) (m : Nat) : 0 ≤ (Frm.nums k x).getD m 0 ∧ (Frm.nums k x).getD m 0 < 9223372036854775808 := by
  obtain ⟨a1, a2, a3⟩ := Frm.okI_named h
  have hm : ∀ y ∈ Frm.nums k x, 0 ≤ y ∧ y < 9223372036854775808 := by
    intro y hy
    have : y ∈ [x.2.1, x.2.2.1, x.2.2.2] := List.mem_of_mem_take hy
    simp only [List.mem_cons, List.not_mem_nil, or_false] at this
    rcases this with rfl | rfl | rfl
    · exact ⟨a1.1, a1.2.1⟩
    · exact ⟨a2.1, a2.2.1⟩
    · exact ⟨a3.1, a3.2.1⟩
  by_cases hi : m < (Frm.nums k x).length
  · rw [List.getD_eq_getElem?_getD, List.getElem?_eq_getElem hi]; exact hm _ (List.getElem_mem hi)
  · rw [List.getD_eq_getElem?_getD, List.getElem?_eq_none (by omega)]; simp
set_option maxHeartbeats 1000000 in
set_option maxRecDepth 100000 in
theorem encode_yes (k fr : Int) (v : Value) (l : List Frm.It) (w : World) (h : ItemsAt w v l) (ho : Frm.okF k fr l = true) :
    Calls Tryz.prog 166 #[.agg #[.int .i64 k, .int .i64 fr, v]] w fun e w' => ∃ va, e = .returned (.tuple #[va, .int .i64 0]) ∧ w'.ownsRow w.heap.size 5 1 va (Frm.encF k fr l).length ((Frm.encF k fr l).map (Value.int .u8)) ∧ Below w.heap.size w w' := by
  obtain ⟨i0, hi, hz0, hz1, hz2⟩ := info_parts infoU8
  have HM := hideG (fun (w1 : World) (hb : Below w.heap.size w w1) => h.below hb)
  obtain ⟨o1, o2, o3, o4, o5, o6⟩ := Frm.okF_bounds ho
  have HO := hideG ho
  have HI := hideG o6
  obtain ⟨a, cap, rfl, l2, l3, _, hc⟩ := items_view h
  have HC := hideG hc
  clear h ho o6 hc
  obtain ⟨n, hn⟩ : ∃ n, n = l.length := ⟨_, rfl⟩
  rw [← hn] at l2 HM o1 HI HC ⊢
  have HN := hideG hn
  clear hn
  obtain ⟨bx, hbx⟩ : ∃ bx, bx = w.alloc (.cells #[.int .i64 k, .int .i64 fr, .slice a n cap] 65) := ⟨_, rfl⟩
  have sbx : bx.heap.size = w.heap.size + 1 := by rw [hbx]; simp
  have CB := hideG (show ∀ w1, Below bx.heap.size bx w1 → w1.cell? ⟨w.heap.size, 0, none⟩ = some (.int .i64 k) ∧ w1.cell? ⟨w.heap.size, 1, none⟩ = some (.int .i64 fr) ∧ w1.cell? ⟨w.heap.size, 2, none⟩ = some (.slice a n cap) from fun w1 hb => by
    have hlt : w.heap.size < bx.heap.size := by omega
    rw [hb.cell (p := ⟨w.heap.size, 0, none⟩) hlt, hb.cell (p := ⟨w.heap.size, 1, none⟩) hlt, hb.cell (p := ⟨w.heap.size, 2, none⟩) hlt, hbx]
    refine ⟨?_, ?_, ?_⟩ <;> simp [go_sem])
  have BX := hideG (show Below w.heap.size w bx by rw [hbx]; exact (Below.refl _ _).alloc (Nat.le_refl _) _)
  obtain ⟨e0, e1, e2⟩ := CB.out bx (Below.refl _ _)
  go_enter Tryz.func166, Tryz.ntmps166
  go_wp2_with fail
  rw [← hbx]
  clear hbx
  refine (isFrame_calls _ _ _ l _ (HM.out _ BX.out)).mono ?_
  rintro e w1 ⟨rfl, hb1⟩
  rw [HO.out]
  have B1 := hideG hb1
  have s1 := hb1.size
  obtain ⟨f0, f1, f2⟩ := CB.out w1 hb1
  clear hb1 e0 e1 e2
  have hs := Frm.wid_le k
  have hS : (Frm.size k : Int) = 1 + 8 * (Frm.wid k : Int) := by unfold Frm.size; omega
  obtain ⟨S, hSS⟩ : ∃ S, S = Frm.size k := ⟨_, rfl⟩
  rw [← hSS] at hS
  have HSS := hideG hSS
  have s25 : S ≤ 25 := by omega
  clear hs hS hSS
  obtain ⟨M, hM⟩ : ∃ M, M = n * S := ⟨_, rfl⟩
  have hM2 : M ≤ 300 := by rw [hM]; exact Nat.mul_le_mul o1 s25
  have ew : IntKind.i64.wrap ((n : Int) * (S : Int)) = (M : Int) := by rw [IntWalk.i64_left, hM, Int.natCast_mul, IntWalk.wrap64_in _ (by rw [← Int.natCast_mul, ← hM]; omega)]
  have ew2 : IntKind.i64.wrap (3 + (M : Int)) = 3 + (M : Int) := by rw [IntWalk.i64_left, IntWalk.wrap64_in _ (by omega)]
  have HMM := hideG hM
  obtain ⟨Z, hZ⟩ : ∃ Z, Z = madeCells (Value.int .u8 0).cells ((3 + M) * i0.size) := ⟨_, rfl⟩
  have hZs : Z.size = 3 + M := by rw [hZ, hz1]; simp [madeCells]
  have hmk : ∀ W : World, (Instr.makeSlice 47 (.int .i64 0) (.int .i64 (3 + (M : Int)))).run Tryz.prog W = .ok (.slice (some ⟨W.heap.size, 0, none⟩) 0 (3 + M)) (W.alloc (.cells Z 5)) := fun W => by
    have := run_make (P := Tryz.prog) (w := W) 47 5 i0 (.int .u8 0) Tryz.underlying47 hi hz0 .i64 .i64 0 (3 + (M : Int)) (by omega) (by omega) (by rw [hz2]; omega) (by omega)
    rw [show (3 + (M : Int)).toNat = 3 + M by omega] at this
    rw [hZ]; exact this
  clear hM hZ
  have W2 := hideG (show (w1.drew.alloc (.cells Z 5)).ownsRow (w.heap.size + 1) 5 1 (.slice (some ⟨w1.heap.size, 0, none⟩) 0 (3 + M)) 0 [] ∧ Below (w.heap.size + 1) bx (w1.drew.alloc (.cells Z 5)) from
    ⟨⟨rfl, .inr ⟨w1.heap.size, 3 + M, Z, rfl, by omega, heap_alloc_new w1.drew _, Nat.zero_le _, by unfold maxLen; omega, by omega, rfl⟩⟩, (by rw [← sbx]; exact (B1.out.drew).alloc (show bx.heap.size ≤ w1.drew.heap.size from s1) _)⟩)
  obtain ⟨B, hB⟩ : ∃ B, B = w.heap.size + 1 := ⟨_, rfl⟩
  rw [← hB] at W2
  rw [← hB] at sbx
  have HBx : B ≤ bx.heap.size := by omega
  have hwB : w.heap.size < B := by omega
  have hwB2 : B ≤ w.heap.size + 1 := by omega
  clear hB
  go_wp2_with fail
  go_cut [4] from 14 to 22 (fun s wc => wc.ownsRow B 5 1 s 0 [] ∧ Below B bx wc)
  case first =>
    go_region_with (go_at_call 72; refine (itemSize_calls _ _).mono ?_; rintro e w1 ⟨rfl, rfl⟩; rw [← HSS.out])
    all_goals (go_wp2_with fail; go_meet; exact W2.out)
  case rest =>
    clear W2 hmk hZs B1 f0 f1 f2 s1 ew ew2
    obtain ⟨hown, hbel⟩ := hcut
    have s2 := hbel.size
    obtain ⟨f0, f1, f2⟩ := CB.out wc (by rw [sbx]; exact hbel)
    have OW := hideG hown
    have B2 := hideG hbel
    clear hown hbel
    have al : ∀ (ob : Obj) (b o : Nat), b < wc.heap.size → (wc.alloc ob).cell? ⟨b, o, none⟩ = wc.cell? ⟨b, o, none⟩ := fun ob b o hb => ((Below.refl wc.heap.size wc).alloc (Nat.le_refl _) ob).cell (p := ⟨b, o, none⟩) hb
    go_wp2_with (at_builtin; refine wpList_append_own _ rfl _ _ 47 rfl B 5 i0 (.int .u8 0) 1 1 Tryz.underlying47 hi hz0 hz1 hz2 rfl (by decide) _ _ _ rfl (OW.out.alloc _) ⟨wc.heap.size, 0, none⟩ 3 3 [.int .u8 k, .int .u8 fr, .int .u8 (n : Int)] rfl rfl ?c1 ?c2 ?c3 ?c4 ?c5 ?_)
    case c1 => exact cell_three_new _ _ _ _ _
    case c2 => intro u hu; simp at hu; rcases hu with rfl | rfl | rfl <;> rfl
    case c3 => unfold maxLen; omega
    case c4 => omega
    case c5 => simp; omega
    intro v2 w2 hown2 hgrow2 _
    have hb2 := (B2.out.alloc (by omega) _).grown hgrow2 (by simp; omega) (fun x hx => (OW.out.lt x hx).1)
    have O2 := hideG (show w2.ownsRow B 5 1 v2 (0 + 3) ((preB k fr l 0).map (Value.int .u8)) by unfold preB; rw [← HN.out]; exact hown2)
    have B3 := hideG hb2
    obtain ⟨g0, g1, g2⟩ := CB.out w2 (by rw [sbx]; exact hb2)
    clear hown2 hgrow2 hb2 al f0 f1 f2
    go_wp2_with fail
    go_loopw [4, 39] (fun v i wr => ∃ j : Nat, j ≤ n ∧ i = .int .i64 j ∧ wr.ownsRow B 5 1 v (3 + j * S) ((preB k fr l j).map (Value.int .u8)) ∧ Below B bx wr) (fun _ i _ => n - (intOf i).toNat)
    case atStart => exact ⟨0, Nat.zero_le _, rfl, by rw [Nat.zero_mul]; exact O2.out, B3.out⟩
    case round =>
      clear g0 g1 g2 O2 B3 s2 OW B2
      obtain ⟨j, hj, rfl, hown, hbel⟩ := hrel
      have s2 := hbel.size
      obtain ⟨f0, f1, f2⟩ := CB.out wr (by rw [sbx]; exact hbel)
      have OW := hideG hown
      have B2 := hideG hbel
      by_cases hlt : j < n
      · obtain ⟨b, off, rfl, hb, hit⟩ := HC.out j hlt
        have hit := hit.below hb (BX.out.trans (hbel.mono (by omega)))
        obtain ⟨c0, c1, c2, c3⟩ := hit
        have hid := HI.out j hlt
        obtain ⟨x, hx⟩ : ∃ x, x = Frm.it l j := ⟨_, rfl⟩
        have HX := hideG hx
        have HOK := hideG (show Frm.okI k x = true by rw [hx]; exact (Frm.okF_parts HO.out).2.2.2.2 j (by rw [← HN.out]; exact hlt))
        rw [← hx] at c0 c1 c2 c3 hid
        have jS : j * S + S ≤ 300 := by
          have := Nat.mul_le_mul (show j + 1 ≤ 12 by omega) s25
          rw [Nat.add_mul] at this; omega
        clear hown hbel hx
        obtain ⟨J, hJ⟩ : ∃ J, J = 3 + j * S := ⟨_, rfl⟩
        rw [← hJ] at OW
        have HJ := hideG hJ
        have J1 : J ≤ 303 := by omega
        clear hJ jS
        obtain ⟨xi, xa, xb, xc⟩ := x
        simp only at c0 c1 c2 c3 hid
        go_wp2_with (at_builtin; refine wpList_append_one _ rfl _ _ 47 rfl B 5 i0 (.int .u8 0) 1 Tryz.underlying47 hi hz0 hz1 hz2 rfl _ _ _ rfl ((OW.out.alloc _).alloc _) ⟨wr.heap.size + 1, 0, none⟩ 1 (.int .u8 xi) rfl (by simp [go_sem]) rfl (by unfold maxLen; omega) (by omega) (by simp; omega) ?_)
        intro gA capA wA hoA hgA hvA
        have hbA := ((B2.out.alloc (by omega) _).alloc (by simp; omega) _).grown hgA (by simp; omega) (fun y hy => (OW.out.lt y hy).1)
        have zA := hgA.size
        simp at zA
        obtain ⟨g0, g1, g2⟩ := CB.out wA (by rw [sbx]; exact hbA)
        have hfar : ∀ o, wA.cell? ⟨wr.heap.size, o, none⟩ = ((wr.alloc (.cells #[.int .i64 xi, .int .i64 xa, .int .i64 xb, .int .i64 xc] 147)).alloc (.cells #[.int .u8 xi] 5)).cell? ⟨wr.heap.size, o, none⟩ := fun o =>
          far_cell hgA _ o (by simp; omega) (fun e => by have := OW.out.lt _ e; simp at this)
        have i0' := hfar 0
        have i1' := hfar 1
        have i2' := hfar 2
        have i3' := hfar 3
        simp [go_sem] at i0' i1' i2' i3'
        have OA := hideG hoA
        have BA := hideG hbA
        clear hoA hgA hvA hbA hfar f0 f1 f2
        go_wp2_with fail
        refine (namedNumbers_calls _ (xi, xa, xb, xc) _).mono ?_
        rintro e wN ⟨aN, rfl, hcN, hbN⟩
        have hN2 := hbN.size
        have OAN := hideG (ownsRow_chg (S := fun _ => False) OA.out (Chg.of_below hbN) (fun _ _ h => h))
        have BAN := hideG (BA.out.trans (hbN.mono (by omega)))
        have hvlt := hideG (fun y (hy : (Value.slice (some ⟨gA, 0, none⟩) (J + 1) capA).ownBlock = some y) => (OA.out.lt y hy).2)
        have hW := Frm.wid_le k
        have HCN := hideG hcN
        clear hcN hbN i0' i1' i2' i3' g0 g1 g2 c0 c1 c2 c3
        have HSW := hideG (show S = 1 + 8 * Frm.wid k by rw [HSS.out]; rfl)
        have HNB := hideG (fun m => nums_bd HOK.out m)
        have HMS := hideG (fun m hm => midB_succ k (xi, xa, xb, xc) m hm)
        have HM0 := hideG (show midB k (xi, xa, xb, xc) 0 = [] from rfl)
        have HMA := hideG (midB_all k (xi, xa, xb, xc))
        have HPS := hideG (preB_succ k fr l j (by rw [← HN.out]; exact hlt))
        rw [← HX.out] at HPS
        generalize midB k (xi, xa, xb, xc) = mB at *
        generalize Frm.encI k (xi, xa, xb, xc) = eI at *
        generalize Frm.nums k (xi, xa, xb, xc) = NL at *
        obtain ⟨W, hWW⟩ : ∃ W, W = Frm.wid k := ⟨_, rfl⟩
        rw [← hWW] at hW HCN HSW HMS HMA ⊢
        clear hWW
        by_cases hW0 : W = 0
        · subst hW0
          go_wp2_with fail
          refine wp_loop_rounds 1 ?_
          rw [rounds_succ]
          go_wp2_with fail
          go_roundw
          case rel =>
            refine ⟨j + 1, by omega, by go_num, ?_, BAN.out⟩
            have e1 : 3 + (j + 1) * S = J + 1 := by rw [HJ.out, HSW.out]; omega
            have e2 : preB k fr l (j + 1) = preB k fr l j ++ [xi] := by rw [HPS.out, ← HMA.out, HM0.out]
            rw [e1, e2, List.map_append]; exact OAN.out
          case measure => simp [intOf]; omega
        · obtain ⟨g, rfl, hg1, hg2, hcell⟩ := HCN.out (by omega)
          have HCL := hideG hcell
          clear hcell
          have R00 := hideG (show RowSt B g wN bx wN (.slice (some ⟨gA, 0, none⟩) (J + 1) capA) (J + 1 + 8 * 0) (preB k fr l j ++ [xi] ++ mB 0) by
            refine ⟨?_, fun e => ?_, hg2, rfl, BAN.out⟩
            · rw [HM0.out, List.append_nil, List.map_append]; exact OAN.out
            · have := hvlt.out g e; omega)
          clear OAN BAN hvlt OA BA
          go_wp2_with fail
          go_loopw [4, 54] (fun v i wq => ∃ m : Nat, m ≤ W ∧ i = .int .i64 m ∧ RowSt B g wN bx wq v (J + 1 + 8 * m) (preB k fr l j ++ [xi] ++ mB m)) (fun _ i _ => W - (intOf i).toNat)
          case atStart => exact ⟨0, Nat.zero_le _, rfl, R00.out⟩
          case round =>
            obtain ⟨m, hm, rfl, hR⟩ := hrel
            have RR := hideG hR
            by_cases hlm : m < W
            · have cm := HCL.out m hlm
              rw [← cell_of_block hR.2.2.2.1 m] at cm
              obtain ⟨z, hz⟩ : ∃ z, z = NL.getD m 0 := ⟨_, rfl⟩
              have hzb := HNB.out m
              rw [← hz] at cm hzb
              have HZ := hideG hz
              obtain ⟨bs, hbs⟩ : ∃ bs, bs = preB k fr l j ++ [xi] ++ mB m := ⟨_, rfl⟩
              rw [← hbs] at RR
              have HBS := hideG hbs
              obtain ⟨Q, hQ⟩ : ∃ Q, Q = J + 1 + 8 * m := ⟨_, rfl⟩
              rw [← hQ] at RR
              have HQ := hideG hQ
              have Q1 : Q ≤ 400 := by omega
              clear hR hz hbs hQ
              go_wp2_with fail
              refine (digits_calls _ _ hzb.1 hzb.2).mono ?_
              rintro e wD ⟨rfl, hbD⟩
              have R0 := hideG (RR.out.below HBx hbD)
              clear hbD cm
              go_wp2_with fail
              refine wp_loop_rounds 9 ?_
              have X0 := idx8_0
              have X1 := idx8_1
              have X2 := idx8_2
              have X3 := idx8_3
              have X4 := idx8_4
              have X5 := idx8_5
              have X6 := idx8_6
              have X7 := idx8_7
              rw [rounds_succ]
              go_wp2_with (at_builtin; refine wpList_append_one _ rfl _ _ 47 rfl B 5 i0 (.int .u8 0) 1 Tryz.underlying47 hi hz0 hz1 hz2 rfl _ _ _ rfl (R0.out.1.alloc _) ⟨wD.heap.size, 0, none⟩ 1 (.int .u8 (z % 256)) rfl (by simp [go_sem]) rfl (by unfold maxLen; omega) (by omega) (by have := R0.out.size HBx; simp; omega) ?_)
              intro gE0 capE0 wE0 hoE hgE hvE
              have R1 := hideG (R0.out.step HBx hoE hgE hvE)
              obtain ⟨b1, hb1⟩ : ∃ b, b = bs ++ [z % 256] := ⟨_, rfl⟩
              rw [← hb1] at R1
              have HB1 := hideG hb1
              clear hb1
              clear hoE hgE hvE
              go_wp2_with fail
              rw [rounds_succ]
              go_wp2_with (at_builtin; refine wpList_append_one _ rfl _ _ 47 rfl B 5 i0 (.int .u8 0) 1 Tryz.underlying47 hi hz0 hz1 hz2 rfl _ _ _ rfl (R1.out.1.alloc _) ⟨wE0.heap.size, 0, none⟩ 1 (.int .u8 (z / 256 % 256)) rfl (by simp [go_sem]) rfl (by unfold maxLen; omega) (by omega) (by have := R1.out.size HBx; simp; omega) ?_)
              intro gE1 capE1 wE1 hoE hgE hvE
              have R2 := hideG (R1.out.step HBx hoE hgE hvE)
              obtain ⟨b2, hb2⟩ : ∃ b, b = b1 ++ [z / 256 % 256] := ⟨_, rfl⟩
              rw [← hb2] at R2
              have HB2 := hideG hb2
              clear hb2
              clear hoE hgE hvE
              go_wp2_with fail
              rw [rounds_succ]
              go_wp2_with (at_builtin; refine wpList_append_one _ rfl _ _ 47 rfl B 5 i0 (.int .u8 0) 1 Tryz.underlying47 hi hz0 hz1 hz2 rfl _ _ _ rfl (R2.out.1.alloc _) ⟨wE1.heap.size, 0, none⟩ 1 (.int .u8 (z / 65536 % 256)) rfl (by simp [go_sem]) rfl (by unfold maxLen; omega) (by omega) (by have := R2.out.size HBx; simp; omega) ?_)
              intro gE2 capE2 wE2 hoE hgE hvE
              have R3 := hideG (R2.out.step HBx hoE hgE hvE)
              obtain ⟨b3, hb3⟩ : ∃ b, b = b2 ++ [z / 65536 % 256] := ⟨_, rfl⟩
              rw [← hb3] at R3
              have HB3 := hideG hb3
              clear hb3
              clear hoE hgE hvE
              go_wp2_with fail
              rw [rounds_succ]
              go_wp2_with (at_builtin; refine wpList_append_one _ rfl _ _ 47 rfl B 5 i0 (.int .u8 0) 1 Tryz.underlying47 hi hz0 hz1 hz2 rfl _ _ _ rfl (R3.out.1.alloc _) ⟨wE2.heap.size, 0, none⟩ 1 (.int .u8 (z / 16777216 % 256)) rfl (by simp [go_sem]) rfl (by unfold maxLen; omega) (by omega) (by have := R3.out.size HBx; simp; omega) ?_)
              intro gE3 capE3 wE3 hoE hgE hvE
              have R4 := hideG (R3.out.step HBx hoE hgE hvE)
              obtain ⟨b4, hb4⟩ : ∃ b, b = b3 ++ [z / 16777216 % 256] := ⟨_, rfl⟩
              rw [← hb4] at R4
              have HB4 := hideG hb4
              clear hb4
              clear hoE hgE hvE
              go_wp2_with fail
              rw [rounds_succ]
              go_wp2_with (at_builtin; refine wpList_append_one _ rfl _ _ 47 rfl B 5 i0 (.int .u8 0) 1 Tryz.underlying47 hi hz0 hz1 hz2 rfl _ _ _ rfl (R4.out.1.alloc _) ⟨wE3.heap.size, 0, none⟩ 1 (.int .u8 (z / 4294967296 % 256)) rfl (by simp [go_sem]) rfl (by unfold maxLen; omega) (by omega) (by have := R4.out.size HBx; simp; omega) ?_)
              intro gE4 capE4 wE4 hoE hgE hvE
              have R5 := hideG (R4.out.step HBx hoE hgE hvE)
              obtain ⟨b5, hb5⟩ : ∃ b, b = b4 ++ [z / 4294967296 % 256] := ⟨_, rfl⟩
              rw [← hb5] at R5
              have HB5 := hideG hb5
              clear hb5
              clear hoE hgE hvE
              go_wp2_with fail
              rw [rounds_succ]
              go_wp2_with (at_builtin; refine wpList_append_one _ rfl _ _ 47 rfl B 5 i0 (.int .u8 0) 1 Tryz.underlying47 hi hz0 hz1 hz2 rfl _ _ _ rfl (R5.out.1.alloc _) ⟨wE4.heap.size, 0, none⟩ 1 (.int .u8 (z / 1099511627776 % 256)) rfl (by simp [go_sem]) rfl (by unfold maxLen; omega) (by omega) (by have := R5.out.size HBx; simp; omega) ?_)
              intro gE5 capE5 wE5 hoE hgE hvE
              have R6 := hideG (R5.out.step HBx hoE hgE hvE)
              obtain ⟨b6, hb6⟩ : ∃ b, b = b5 ++ [z / 1099511627776 % 256] := ⟨_, rfl⟩
              rw [← hb6] at R6
              have HB6 := hideG hb6
              clear hb6
              clear hoE hgE hvE
              go_wp2_with fail
              rw [rounds_succ]
              go_wp2_with (at_builtin; refine wpList_append_one _ rfl _ _ 47 rfl B 5 i0 (.int .u8 0) 1 Tryz.underlying47 hi hz0 hz1 hz2 rfl _ _ _ rfl (R6.out.1.alloc _) ⟨wE5.heap.size, 0, none⟩ 1 (.int .u8 (z / 281474976710656 % 256)) rfl (by simp [go_sem]) rfl (by unfold maxLen; omega) (by omega) (by have := R6.out.size HBx; simp; omega) ?_)
              intro gE6 capE6 wE6 hoE hgE hvE
              have R7 := hideG (R6.out.step HBx hoE hgE hvE)
              obtain ⟨b7, hb7⟩ : ∃ b, b = b6 ++ [z / 281474976710656 % 256] := ⟨_, rfl⟩
              rw [← hb7] at R7
              have HB7 := hideG hb7
              clear hb7
              clear hoE hgE hvE
              go_wp2_with fail
              rw [rounds_succ]
              go_wp2_with (at_builtin; refine wpList_append_one _ rfl _ _ 47 rfl B 5 i0 (.int .u8 0) 1 Tryz.underlying47 hi hz0 hz1 hz2 rfl _ _ _ rfl (R7.out.1.alloc _) ⟨wE6.heap.size, 0, none⟩ 1 (.int .u8 (z / 72057594037927936 % 256)) rfl (by simp [go_sem]) rfl (by unfold maxLen; omega) (by omega) (by have := R7.out.size HBx; simp; omega) ?_)
              intro gE7 capE7 wE7 hoE hgE hvE
              have R8 := hideG (R7.out.step HBx hoE hgE hvE)
              obtain ⟨b8, hb8⟩ : ∃ b, b = b7 ++ [z / 72057594037927936 % 256] := ⟨_, rfl⟩
              rw [← hb8] at R8
              have HB8 := hideG hb8
              clear hb8
              clear hoE hgE hvE
              go_wp2_with fail
              rw [rounds_succ]
              go_wp2_with fail
              go_roundw
              case rel =>
                refine ⟨m + 1, by omega, by go_num, ?_⟩
                have e := R8.out
                have e1 : J + 1 + 8 * (m + 1) = Q + 1 + 1 + 1 + 1 + 1 + 1 + 1 + 1 := by rw [HQ.out]; omega
                have e2 : preB k fr l j ++ [xi] ++ mB (m + 1) = b8 := by
                  rw [HB8.out, HB7.out, HB6.out, HB5.out, HB4.out, HB3.out, HB2.out, HB1.out, HMS.out m hlm, HBS.out, ← HZ.out]
                  unfold Frm.bytesN
                  simp only [List.append_assoc, List.cons_append, List.nil_append]
                rw [e1, e2]; exact e
              case measure => simp [intOf]; omega
            · have em : m = W := by omega
              subst em
              clear hR
              go_wp2_with fail
              go_roundw
              case rel =>
                refine ⟨j + 1, by omega, by go_num, ?_, RR.out.2.2.2.2⟩
                have e1 : 3 + (j + 1) * S = J + 1 + 8 * m := by rw [HJ.out, Nat.add_mul, HSW.out]; omega
                have e2 : preB k fr l (j + 1) = preB k fr l j ++ [xi] ++ mB m := by rw [HPS.out, ← HMA.out]; simp
                rw [e1, e2]; exact RR.out.1
              case measure => simp [intOf]; omega
      · have ej : j = n := by omega
        subst ej
        clear hown hbel
        go_wp2_with fail
        go_ret2
        refine ⟨_, rfl, ?_, BX.out.trans (B2.out.mono (by omega))⟩
        have e1 : (Frm.encF k fr l).length = 3 + j * S := by rw [Frm.encF_length, ← HN.out, HSS.out]
        have e2 : preB k fr l j = Frm.encF k fr l := by rw [HN.out]; exact preB_all k fr l
        rw [e1, ← e2]
        exact ownsRow_base OW.out (by omega)
end Go.Proofs.YtchideljndagjabGreat
