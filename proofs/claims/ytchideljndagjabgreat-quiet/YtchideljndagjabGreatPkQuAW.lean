/- Lists of parcels in memory: a row of parcels of its own, the bytes of each in a row of its own. -/
import Derived.Test.YtchideljndagjabGreatPkQuAG
import Derived.Test.YtchideljndagjabGreatPkQuAC
import Derived.Test.YtchideljndagjabGreatPkQuAU
import Derived.RegionTactic
import Derived.BigRegion
namespace Go.Proofs.YtchideljndagjabGreat
open Go.RowKit
set_option linter.unusedVariables false

/-- From, To, the bytes. -/
abbrev Pk := Int × Int × List Int
def packV : List Pk → List Value → List Value
  | p :: ps, v :: vs => .int .i64 p.1 :: .int .i64 p.2.1 :: v :: packV ps vs
  | _, _ => []
theorem packV_snoc : ∀ (ps : List Pk) (vs : List Value) (p : Pk) (v : Value), vs.length = ps.length → packV (ps ++ [p]) (vs ++ [v]) = packV ps vs ++ [.int .i64 p.1, .int .i64 p.2.1, v]
  | [], [], p, v, _ => rfl
  | q :: ps, x :: vs, p, v, h => by
    show _ :: _ :: _ :: packV (ps ++ [p]) (vs ++ [v]) = _
    rw [packV_snoc ps vs p v (by simpa using h)]; rfl
  | [], x :: vs, p, v, h => by simp at h
  | q :: ps, [], p, v, h => by simp at h
theorem packV_length : ∀ (ps : List Pk) (vs : List Value), vs.length = ps.length → (packV ps vs).length = ps.length * 3
  | [], [], _ => rfl
  | q :: ps, x :: vs, h => by
    show (packV ps vs).length + 1 + 1 + 1 = (ps.length + 1) * 3
    rw [packV_length ps vs (by simpa using h)]; omega
  | [], x :: vs, h => by simp at h
  | q :: ps, [], h => by simp at h
theorem packV_get : ∀ (ps : List Pk) (vs : List Value) (i : Nat) (p : Pk) (v : Value), ps[i]? = some p → vs[i]? = some v → (packV ps vs)[i * 3]? = some (.int .i64 p.1) ∧ (packV ps vs)[i * 3 + 1]? = some (.int .i64 p.2.1) ∧ (packV ps vs)[i * 3 + 2]? = some v
  | [], vs, i, p, v, h, _ => by simp at h
  | q :: ps, [], i, p, v, _, h => by simp at h
  | q :: ps, x :: vs, 0, p, v, h, k => by
    simp at h k; subst h; subst k; exact ⟨rfl, rfl, rfl⟩
  | q :: ps, x :: vs, i + 1, p, v, h, k => by
    have := packV_get ps vs i p v (by simpa using h) (by simpa using k)
    have e : ∀ j, (packV (q :: ps) (x :: vs))[(i + 1) * 3 + j]? = (packV ps vs)[i * 3 + j]? := fun j => by
      show (_ :: _ :: _ :: packV ps vs)[(i + 1) * 3 + j]? = _
      rw [show (i + 1) * 3 + j = i * 3 + j + 1 + 1 + 1 by omega]; rfl
    exact ⟨(e 0).trans this.1, (e 1).trans this.2.1, (e 2).trans this.2.2⟩

def bytesV (zs : List Int) : List Value := zs.map (Value.int .u8)
/-- Parcels, all of their own. -/
structure Packs (w : World) (B : Nat) (v : Value) (vs : List Value) (ps : List Pk) : Prop where
  len : vs.length = ps.length
  row : w.ownsRow B 49 3 v ps.length (packV ps vs)
  each : ∀ (i : Nat) (x : Value) (p : Pk), vs[i]? = some x → ps[i]? = some p → w.ownsRow B 5 1 x p.2.2.length (bytesV p.2.2)
  pw : ∀ (i j : Nat) (x y : Value), i < j → vs[i]? = some x → vs[j]? = some y → ∀ g, x.ownBlock = some g → y.ownBlock ≠ some g
theorem packs_nil (w : World) (B : Nat) : Packs w B (.slice none 0 0) [] [] := ⟨rfl, World.ownsRow_nil _ _ _ _, fun i x p h => by simp at h, fun i j x y _ h => by simp at h⟩
/-- The blocks of parcels. -/
def PkFoot (v : Value) (vs : List Value) (x : Nat) : Prop := v.ownBlock = some x ∨ ∃ y ∈ vs, y.ownBlock = some x
theorem Packs.chg {S : Nat → Prop} {w w' : World} {B : Nat} {v : Value} {vs : List Value} {ps : List Pk} (h : Packs w B v vs ps) (hc : Chg S w w') (hS : ∀ x, PkFoot v vs x → ¬ S x) : Packs w' B v vs ps :=
  ⟨h.len, ownsRow_chg h.row hc (fun b hb => hS b (.inl hb)), fun i x p h1 h2 => ownsRow_chg (h.each i x p h1 h2) hc (fun b hb => hS b (.inr ⟨x, List.mem_of_getElem? h1, hb⟩)), h.pw⟩
theorem Packs.below {w w' : World} {B : Nat} {v : Value} {vs : List Value} {ps : List Pk} (h : Packs w B v vs ps) (hb : Below w.heap.size w w') : Packs w' B v vs ps := h.chg (S := fun _ => False) (Chg.of_below hb) (fun _ _ h => h)
theorem Packs.low {w : World} {B : Nat} {v : Value} {vs : List Value} {ps : List Pk} (h : Packs w B v vs ps) : ∀ x, PkFoot v vs x → B ≤ x ∧ x < w.heap.size := by
  intro x hx
  rcases hx with hx | ⟨y, hy, hx⟩
  · exact h.row.lt x hx
  · obtain ⟨i, hi, e⟩ := List.getElem_of_mem hy
    exact (h.each i y (ps[i]'(by rw [← h.len]; exact hi)) (by rw [List.getElem?_eq_getElem hi, e]) (List.getElem?_eq_getElem _)).lt x hx
theorem Packs.base {w : World} {B B' : Nat} {v : Value} {vs : List Value} {ps : List Pk} (h : Packs w B v vs ps) (hb : B' ≤ B) : Packs w B' v vs ps :=
  ⟨h.len, ownsRow_base h.row hb, fun i x p h1 h2 => ownsRow_base (h.each i x p h1 h2) hb, h.pw⟩
/-- Rows of other types lie in other blocks. -/
theorem owns_type {w : World} {B B' : Nat} {e e' : TypeId} {m m' : Nat} {v v' : Value} {n n' : Nat} {xs xs' : List Value} (h : w.ownsRow B e m v n xs) (h' : w.ownsRow B' e' m' v' n' xs') (hne : e ≠ e') : ∀ x, v.ownBlock = some x → v'.ownBlock ≠ some x := by
  intro x hx hx'
  obtain ⟨_, h⟩ := h
  obtain ⟨_, h'⟩ := h'
  rcases h with ⟨rfl, _⟩ | ⟨g, cap, cur, rfl, _, h3, _⟩
  · cases hx
  rcases h' with ⟨rfl, _⟩ | ⟨g', cap', cur', rfl, _, h3', _⟩
  · cases hx'
  have e1 : g = x := Option.some.inj hx
  have e2 : g' = x := Option.some.inj hx'
  subst e1
  subst e2
  rw [h3] at h3'
  have := Option.some.inj h3'
  injection this with a b
  exact hne b
/-- One parcel more: its bytes were made last, the row has grown. -/
theorem Packs.snoc {w w' : World} {B : Nat} {v v' : Value} {vs : List Value} {ps : List Pk} {p : Pk} {vb : Value} (h : Packs w B v vs ps) (hb : w.ownsRow B 5 1 vb p.2.2.length (bytesV p.2.2)) (hnew : ∀ x, vb.ownBlock = some x → ∀ y ∈ vs, y.ownBlock ≠ some x)
    (hrow : w'.ownsRow B 49 3 v' (ps.length + 1) (packV ps vs ++ [.int .i64 p.1, .int .i64 p.2.1, vb])) (hg : Chg (fun x => v.ownBlock = some x) w w') : Packs w' B v' (vs ++ [vb]) (ps ++ [p]) := by
  have hT : (49 : TypeId) ≠ 5 := by decide
  refine ⟨by simp [h.len], ?_, ?_, ?_⟩
  · rw [packV_snoc ps vs p vb h.len, List.length_append]; exact hrow
  · intro i x q h1 h2
    by_cases hi : i < vs.length
    · rw [List.getElem?_append_left hi] at h1
      rw [List.getElem?_append_left (by rw [← h.len]; exact hi)] at h2
      have ho := h.each i x q h1 h2
      exact ownsRow_chg ho hg (fun b hb1 hb2 => owns_type h.row ho hT b hb2 hb1)
    · have ei : i = vs.length := by
        have := (List.getElem?_eq_some_iff.1 h1).1
        simp at this; omega
      subst ei
      rw [List.getElem?_append_right (Nat.le_refl _), Nat.sub_self] at h1
      rw [h.len, List.getElem?_append_right (Nat.le_refl _), Nat.sub_self] at h2
      simp at h1 h2
      subst h1; subst h2
      exact ownsRow_chg hb hg (fun b hb1 hb2 => owns_type h.row hb hT b hb2 hb1)
  · intro i j x y hij h1 h2 g hx hy
    have hj := (List.getElem?_eq_some_iff.1 h2).1
    simp at hj
    have hi : i < vs.length := by omega
    rw [List.getElem?_append_left hi] at h1
    by_cases hjl : j < vs.length
    · rw [List.getElem?_append_left hjl] at h2
      exact h.pw i j x y hij h1 h2 g hx hy
    · have ej : j = vs.length := by omega
      subst ej
      rw [List.getElem?_append_right (Nat.le_refl _), Nat.sub_self] at h2
      simp at h2
      subst h2
      exact hnew g hy x (List.mem_of_getElem? h1) hx

end Go.Proofs.YtchideljndagjabGreat

namespace Go.Proofs.YtchideljndagjabGreat
open Go.ChangeShapes Go.WideShapes Go.ChangeAt Go.RowKit
set_option linter.unusedVariables false

theorem size_frame3 : (Tryz.prog.info? 65).map (·.size) = some 3 := by kernel_rfl
theorem infoPk : (Tryz.prog.info? 49).map (fun i => (i.zero, i.size, i.bytes)) = some (some (.agg #[.int .i64 0, .int .i64 0, .slice none 0 0]), 3, 40) := by kernel_rfl

def frG (p : Nat → Bool) (L : Nat → List Frm.It) (rd u : Nat) : List Frm.It := if rd = 0 then keyG p L 13 else if rd = 1 then boxG p L u 13 else askG p 13
def pksG (p : Nat → Bool) (L : Nat → List Frm.It) (rd n : Nat) : List Pk := (Srv.lstN p n).map fun u : Nat => ((0 : Int), (u : Int), Frm.encF (2 * (rd : Int) + 2) 0 (frG p L rd u))
theorem pksG_succ (p : Nat → Bool) (L : Nat → List Frm.It) (rd n : Nat) : pksG p L rd (n + 1) = pksG p L rd n ++ (if p n = true then [((0 : Int), (n : Int), Frm.encF (2 * (rd : Int) + 2) 0 (frG p L rd n))] else []) := by
  unfold pksG; rw [Srv.lstN_succ, List.map_append]; split <;> rfl
theorem pksG_len (p : Nat → Bool) (L : Nat → List Frm.It) (rd n : Nat) : (pksG p L rd n).length ≤ n := by unfold pksG; rw [List.length_map]; exact Srv.lstN_le _ _

theorem row_three {w : World} {b : Nat} {T : TypeId} {x0 x1 x2 : Value} (h : w.heap[b]? = some (.cells #[x0, x1, x2] T (0, 0))) (y0 y1 y2 : Value) : (((w.setCell ⟨b, 0, none⟩ y0).setCell ⟨b, 1, none⟩ y1).setCell ⟨b, 2, none⟩ y2).heap[b]? = some (.cells #[y0, y1, y2] T (0, 0)) :=
  heap_setCell_same _ _ 2 #[y0, y1, x2] _ _ (heap_setCell_same _ _ 1 #[y0, x1, x2] _ _ (heap_setCell_same _ _ 0 _ _ _ h))
theorem below_three {B : Nat} {w0 w : World} {b : Nat} (h : Below B w0 w) (hb : B ≤ b) (y0 y1 y2 : Value) : Below B w0 (((w.setCell ⟨b, 0, none⟩ y0).setCell ⟨b, 1, none⟩ y1).setCell ⟨b, 2, none⟩ y2) :=
  ((h.setCell (p := ⟨b, 0, none⟩) hb _).setCell (p := ⟨b, 1, none⟩) hb _).setCell (p := ⟨b, 2, none⟩) hb _
theorem chg_three (w : World) (b : Nat) (y0 y1 y2 : Value) : Chg (fun x => x = b) w (((w.setCell ⟨b, 0, none⟩ y0).setCell ⟨b, 1, none⟩ y1).setCell ⟨b, 2, none⟩ y2) :=
  ((Chg.setCell w ⟨b, 0, none⟩ y0).also (Chg.setCell _ ⟨b, 1, none⟩ y1)).also (Chg.setCell _ ⟨b, 2, none⟩ y2)

set_option maxHeartbeats 2000000 in
set_option maxRecDepth 100000 in
theorem frameFor_calls (b : Nat) (S : SS) (L : Nat → List Frm.It) (rd u : Nat) (w : World) (h : SSAt w b S) (hL : ∀ v, v < 13 → ItemsAt w (S.it v) (L v)) (hrd : S.rd = (rd : Int)) (hr : rd < 3) :
    Calls Tryz.prog 250 #[.pointer (some ⟨b, 0, none⟩), .int .i64 (u : Int)] w fun e w' => ∃ va, e = .returned (.agg #[.int .i64 (2 * (rd : Int) + 2), .int .i64 0, va]) ∧ w'.ownsRow w.heap.size 147 4 va (frG S.ct L rd u).length (flat4 (frG S.ct L rd u)) ∧ Below w.heap.size w w' := by
  obtain ⟨W, hW⟩ : ∃ W, W = w.alloc (.cells #[.int .i64 0, .int .i64 0, .slice none 0 0] 65) := ⟨_, rfl⟩
  have B0 := hideG (show Below w.heap.size w W by rw [hW]; exact (Below.refl _ _).alloc (Nat.le_refl _) _)
  have R0 := hideG (show W.heap[w.heap.size]? = some (.cells #[.int .i64 0, .int .i64 0, .slice none 0 0] 65 (0, 0)) by rw [hW]; exact heap_alloc_new w _)
  have hsz : w.heap.size < W.heap.size := by rw [hW]; simp
  have HS := hideG (h.below B0.out)
  have HL := hideG (fun v hv => (hL v hv).below B0.out)
  have c5 : W.cell? ⟨b, 5, none⟩ = some (.int .i64 (rd : Int)) := by rw [← hrd]; exact HS.out.rd
  have hlt := h.lt
  have HW := hideG hW
  have HE := hideG (fun (w1 : World) (hb : Below W.heap.size W w1) => (show w1.heap[w.heap.size]? = some (.cells #[.int .i64 0, .int .i64 0, .slice none 0 0] 65 (0, 0)) from (hb.block _ hsz).trans R0.out))
  clear hW h hL
  have hd : rd = 0 ∨ rd = 1 ∨ rd = 2 := by omega
  have HF := hideG (show frG S.ct L rd u = (if rd = 0 then keyG S.ct L 13 else if rd = 1 then boxG S.ct L u 13 else askG S.ct 13) from rfl)
  have fin : ∀ (w1 : World) (va : Value) (G : List Frm.It), w1.ownsRow W.heap.size 147 4 va G.length (flat4 G) → Below W.heap.size W w1 → ∀ (k : Value),
      ((((w1.setCell ⟨w.heap.size, 0, none⟩ k).setCell ⟨w.heap.size, 1, none⟩ (.int .i64 0)).setCell ⟨w.heap.size, 2, none⟩ va).heap[w.heap.size]? = some (.cells #[k, .int .i64 0, va] 65 (0, 0))) ∧
      (((w1.setCell ⟨w.heap.size, 0, none⟩ k).setCell ⟨w.heap.size, 1, none⟩ (.int .i64 0)).setCell ⟨w.heap.size, 2, none⟩ va).ownsRow w.heap.size 147 4 va G.length (flat4 G) ∧
      Below w.heap.size w (((w1.setCell ⟨w.heap.size, 0, none⟩ k).setCell ⟨w.heap.size, 1, none⟩ (.int .i64 0)).setCell ⟨w.heap.size, 2, none⟩ va) := by
    intro w1 va G ho hb k
    refine ⟨row_three (HE.out w1 hb) _ _ _, ?_, below_three (B0.out.trans (hb.mono B0.out.size)) (Nat.le_refl _) _ _ _⟩
    refine ownsRow_base (ownsRow_chg ho (chg_three _ _ _ _ _) (fun x hx e => ?_)) B0.out.size
    have := (ho.lt x hx).1
    omega
  have FIN := hideG fin
  have YC := hideG (fun (w1 : World) (hb : Below W.heap.size W w1) => (show (w1.cell? ⟨w.heap.size, 0, none⟩ = some (.int .i64 0) ∧ w1.cell? ⟨w.heap.size, 1, none⟩ = some (.int .i64 0) ∧ w1.cell? ⟨w.heap.size, 2, none⟩ = some (.slice none 0 0)) ∧ ∀ i, w1.frozen? ⟨w.heap.size, i, none⟩ = false from
    ⟨⟨by rw [cell_of_row w1 w.heap.size 0 _ _ (0, 0) (HE.out w1 hb)]; rfl, by rw [cell_of_row w1 w.heap.size 1 _ _ (0, 0) (HE.out w1 hb)]; rfl, by rw [cell_of_row w1 w.heap.size 2 _ _ (0, 0) (HE.out w1 hb)]; rfl⟩, fun i => frozen_of_row w1 w.heap.size i _ _ (HE.out w1 hb)⟩))
  clear fin
  rcases hd with rfl | rfl | rfl
  · have C := hideG (keys_calls b S L W HS.out HL.out)
    rw [HF.out]
    go_enter Tryz.func250, Tryz.ntmps250
    go_upto_region 1 with fail
    rw [← HW.out]
    go_wp2_with fail
    refine C.out.mono ?_
    rintro e w1 ⟨va, rfl, hown, hb1⟩
    obtain ⟨a3, c3, hv3⟩ := owns_form hown
    have F1 := hideG (FIN.out w1 va _ hown hb1 (.int .i64 2))
    obtain ⟨⟨y0, y1, y2⟩, yf⟩ := YC.out w1 hb1
    clear hb1 hown
    rw [hv3] at F1 ⊢
    clear hv3
    go_wp2_with fail
    refine bodyPost_ret (results_cell_row rfl _ _ w.heap.size 65 #[.int .i64 2, .int .i64 0, _] (0, 0) _ rfl F1.out.1 Tryz.underlying65 rfl size_frame3) rfl ?_
    exact ⟨_, rfl, F1.out.2.1, F1.out.2.2⟩
  · have C := hideG (boxFor_calls b S L u W HS.out HL.out)
    rw [HF.out]
    go_enter Tryz.func250, Tryz.ntmps250
    go_upto_region 1 with fail
    rw [← HW.out]
    go_wp2_with fail
    refine C.out.mono ?_
    rintro e w1 ⟨va, rfl, hown, hb1⟩
    obtain ⟨a3, c3, hv3⟩ := owns_form hown
    have F1 := hideG (FIN.out w1 va _ hown hb1 (.int .i64 4))
    obtain ⟨⟨y0, y1, y2⟩, yf⟩ := YC.out w1 hb1
    clear hb1 hown
    rw [hv3] at F1 ⊢
    clear hv3
    go_wp2_with fail
    refine bodyPost_ret (results_cell_row rfl _ _ w.heap.size 65 #[.int .i64 4, .int .i64 0, _] (0, 0) _ rfl F1.out.1 Tryz.underlying65 rfl size_frame3) rfl ?_
    exact ⟨_, rfl, F1.out.2.1, F1.out.2.2⟩
  · have C := hideG (ask_calls b S W HS.out)
    rw [HF.out]
    go_enter Tryz.func250, Tryz.ntmps250
    go_upto_region 1 with fail
    rw [← HW.out]
    go_wp2_with fail
    refine C.out.mono ?_
    rintro e w1 ⟨va, rfl, hown, hb1⟩
    obtain ⟨a3, c3, hv3⟩ := owns_form hown
    have F1 := hideG (FIN.out w1 va _ hown hb1 (.int .i64 6))
    obtain ⟨⟨y0, y1, y2⟩, yf⟩ := YC.out w1 hb1
    clear hb1 hown
    rw [hv3] at F1 ⊢
    clear hv3
    go_wp2_with fail
    refine bodyPost_ret (results_cell_row rfl _ _ w.heap.size 65 #[.int .i64 6, .int .i64 0, _] (0, 0) _ rfl F1.out.1 Tryz.underlying65 rfl size_frame3) rfl ?_
    exact ⟨_, rfl, F1.out.2.1, F1.out.2.2⟩

set_option maxHeartbeats 2000000 in
set_option maxRecDepth 100000 in
theorem parcels_calls (b : Nat) (S : SS) (L : Nat → List Frm.It) (rd : Nat) (w : World) (h : SSAt w b S) (hL : ∀ v, v < 13 → ItemsAt w (S.it v) (L v)) (hrd : S.rd = (rd : Int)) (hr : rd < 3) (hok : ∀ u, u < 13 → S.ct u = true → Frm.okF (2 * (rd : Int) + 2) 0 (frG S.ct L rd u) = true) :
    Calls Tryz.prog 198 #[.pointer (some ⟨b, 0, none⟩)] w fun e w' => ∃ v vs, e = .returned v ∧ Packs w' w.heap.size v vs (pksG S.ct L rd 13) ∧ Below w.heap.size w w' := by
  obtain ⟨i1, hi1, hy0, hy1, hy2⟩ := info_parts infoPk
  have hbl := h.lt
  have HRG := hideG h.allct
  have LX := hideG (bl13_length S.ct)
  have HIX := hideG (ix_mem S.ct)
  have HFF := hideG (fun (w1 : World) (u : Nat) (hb : Below w.heap.size w w1) => frameFor_calls b S L rd u w1 (h.below hb) (fun v hv => (hL v hv).below hb) hrd hr)
  have HOK := hideG hok
  clear h hL hok hrd
  generalize S.ct = p at *
  obtain ⟨CS, hCS⟩ : ∃ CS, CS = bl13 p := ⟨_, rfl⟩
  rw [← hCS] at HRG LX HIX
  clear hCS
  obtain ⟨kd, hkd⟩ : ∃ kd : Int, kd = 2 * (rd : Int) + 2 := ⟨_, rfl⟩
  rw [← hkd] at HFF HOK
  have HKD := hideG hkd
  clear hkd
  go_enter Tryz.func198, Tryz.ntmps198
  go_wp2_with (refine wpList_load_mid rfl 101 _ rfl b 19 rfl CS _ HRG.out Tryz.underlying101 rfl ?z ?_)
  case z => rw [size_mem, LX.out]
  go_wp2_with fail
  go_loopw [3, 13] (fun ro i wr => ∃ (k : Nat) (vs : List Value), k ≤ 13 ∧ i = .int .i64 k ∧ Packs wr w.heap.size ro vs (pksG p L rd k) ∧ Below w.heap.size w wr) (fun _ i _ => 13 - (intOf i).toNat)
  case atStart => exact ⟨0, [], by omega, rfl, packs_nil _ _, Below.refl _ _⟩
  case round =>
    obtain ⟨k, vs, hk, rfl, hpk, hbel⟩ := hrel
    have HO := hideG hpk
    have HB := hideG hbel
    have hsz := hbel.size
    obtain ⟨a3, c3, hv3⟩ := owns_form hpk.row
    subst hv3
    clear hpk hbel
    have hl13 := pksG_len p L rd k
    have HSU := hideG (pksG_succ p L rd k)
    by_cases hlt : k < 13
    · have hlt' : (k : Int) < 13 := by omega
      have hix := HIX.out k hlt
      cases q : p k
      · rw [q] at hix
        have HS2 := hideG (show pksG p L rd (k + 1) = pksG p L rd k by rw [HSU.out, q]; simp)
        clear q
        go_wp2_with fail
        go_roundw
        case rel => exact ⟨k + 1, vs, by omega, by go_num, by rw [HS2.out]; exact HO.out, HB.out⟩
        case measure => simp [intOf]; omega
      · rw [q] at hix
        have OK := hideG (HOK.out k hlt q)
        have HS2 := hideG (show pksG p L rd (k + 1) = pksG p L rd k ++ [((0 : Int), (k : Int), Frm.encF kd 0 (frG p L rd k))] by rw [HSU.out, q, HKD.out]; simp)
        clear q
        obtain ⟨G, hG⟩ : ∃ G, G = frG p L rd k := ⟨_, rfl⟩
        have FF := hideG (HFF.out wr k HB.out)
        rw [← hG] at OK HS2 FF
        clear hG
        go_wp2_with fail
        refine FF.out.mono ?_
        rintro e w1 ⟨va, rfl, hown, hb1⟩
        have s1 := hb1.size
        obtain ⟨a4, c4, hv4⟩ := owns_form hown
        subst hv4
        have I1 := hideG (itemsAt_of_owns hown (okF_in OK.out))
        have B1 := hideG (HB.out.trans (hb1.mono HB.out.size))
        have O1 := hideG (HO.out.below hb1)
        clear hb1 hown
        obtain ⟨W1, hW1⟩ : ∃ W1, W1 = w1.alloc (.cells #[.int .i64 kd, .int .i64 0, .slice a4 G.length c4] 65) := ⟨_, rfl⟩
        have sW : W1.heap.size = w1.heap.size + 1 := by rw [hW1]; simp
        have x0 : W1.cell? ⟨w1.heap.size, 0, none⟩ = some (.int .i64 kd) := by rw [hW1]; simp
        have x1 : W1.cell? ⟨w1.heap.size, 1, none⟩ = some (.int .i64 0) := by rw [hW1]; simp
        have x2 : W1.cell? ⟨w1.heap.size, 2, none⟩ = some (.slice a4 G.length c4) := by rw [hW1]; simp
        have bA : Below w1.heap.size w1 W1 := by rw [hW1]; exact (Below.refl _ _).alloc (Nat.le_refl _) _
        have B2 := hideG (B1.out.trans (bA.mono B1.out.size))
        have O2 := hideG (O1.out.below bA)
        have EN := hideG (encode_yes kd 0 _ G W1 (I1.out.below bA) OK.out)
        have sW' : w.heap.size ≤ W1.heap.size := B2.out.size
        have HW1 := hideG hW1
        clear hW1 bA sW
        go_upto_region 7 with fail
        rw [← HW1.out]
        go_wp2_with fail
        refine EN.out.mono ?_
        rintro e w2 ⟨vb, rfl, hob, hb2⟩
        have s2 := hb2.size
        obtain ⟨a5, c5, hv5⟩ := owns_form hob
        subst hv5
        have B3 := hideG (B2.out.trans (hb2.mono B2.out.size))
        have O3 := hideG (O2.out.below hb2)
        have HOB := hideG hob
        have NEW := hideG (fun x (hx : (Value.slice a5 (Frm.encF kd 0 G).length c5).ownBlock = some x) y (hy : y ∈ vs) (e : y.ownBlock = some x) => (show False by
          have q1 := (hob.lt x hx).1
          have q2 := (O2.out.low x (.inr ⟨y, hy, e⟩)).2
          omega))
        have BAS := hideG (ownsRow_base hob sW')
        have h10 : (Frm.encF kd 0 G).length ≤ 303 := by
          have q1 := (Frm.okF_parts OK.out).1
          have q2 := Frm.wid_le kd
          rw [Frm.encF_length]; unfold Frm.size
          have : G.length * (1 + 8 * Frm.wid kd) ≤ 12 * 25 := Nat.mul_le_mul q1 (by omega)
          omega
        clear hb2 hob x0 x1 x2
        generalize Frm.encF kd 0 G = bs at *
        go_wp2_with (at_builtin; refine wpList_append_own _ rfl _ _ 41 rfl w.heap.size 49 i1 (.agg #[.int .i64 0, .int .i64 0, .slice none 0 0]) 3 40 Tryz.underlying41 hi1 hy0 hy1 hy2 rfl (by decide) _ _ _ rfl (O3.out.row.alloc _) ⟨w2.heap.size, 0, none⟩ 1 1 [.int .i64 0, .int .i64 k, .slice a5 bs.length c5] rfl rfl ?c1 ?c2 ?c3 ?c4 ?c5 ?_)
        case c1 => exact cell_three_new _ _ _ _ _
        case c2 => intro u hu; simp at hu; rcases hu with rfl | rfl | rfl <;> rfl
        case c3 => unfold maxLen; omega
        case c4 => omega
        case c5 => simp; omega
        intro v' w4 hown' hgrow' _
        have hb4 := (B3.out.alloc (by omega) _).grown hgrow' (by simp; omega) (fun y hy => (O3.out.row.lt y hy).1)
        have B4 := hideG hb4
        have hal : Below w2.heap.size w2 (w2.alloc (.cells #[.int .i64 0, .int .i64 k, .slice a5 bs.length c5] 49)) := (Below.refl _ _).alloc (Nat.le_refl _) _
        have O4 := hideG (show Packs w4 w.heap.size v' (vs ++ [.slice a5 bs.length c5]) (pksG p L rd (k + 1)) by
          rw [HS2.out]
          exact (O3.out.below hal).snoc (p := ((0 : Int), (k : Int), bs)) (ownsRow_chg (S := fun _ => False) BAS.out (Chg.of_below hal) (fun _ _ h => h)) (fun x hx y hy e => NEW.out x hx y hy e) hown' (Chg.grown hgrow'))
        clear hown' hgrow' hb4 hal
        go_wp2_with fail
        go_roundw
        case rel => exact ⟨k + 1, _, by omega, by go_num, O4.out, B4.out⟩
        case measure => simp [intOf]; omega
    · have ek : k = 13 := by omega
      subst ek
      go_wp2_with fail
      go_ret
      exact ⟨_, vs, rfl, HO.out, HB.out⟩

end Go.Proofs.YtchideljndagjabGreat

namespace Go.Proofs.YtchideljndagjabGreat
open Go.ChangeShapes Go.WideShapes Go.ChangeAt Go.RowKit
set_option linter.unusedVariables false

/-- What is left of a server with the outcome. -/
def overS (st ro : Int) (set sum : Value) : SS := ⟨0, 0, 0, 0, 0, 0, fun _ => false, fun _ => false, fun _ => .slice none 0 0, fun _ => 0, fun _ => false, .slice none 0 0, st, ro, set, sum⟩
theorem size_srv : (Tryz.prog.info? 106).map (·.size) = some 76 := by kernel_rfl
theorem ssCells_one (s : SS) (h1 : ∀ v, v < 13 → (s.it v).oneCell' = true) (h2 : s.ml.oneCell' = true) (h3 : s.set.oneCell' = true) (h4 : s.sum.oneCell' = true) : ∀ v ∈ ssCells s, v.oneCell' = true := by
  intro v hv
  unfold ssCells ssHead ssTail at hv
  rcases List.mem_append.1 hv with hv | hv
  · simp only [List.mem_cons, List.not_mem_nil, or_false] at hv
    rcases hv with rfl | rfl | rfl | rfl | rfl | rfl <;> rfl
  rcases List.mem_append.1 hv with hv | hv
  · exact v13_all (P := fun v => v.oneCell' = true) (fun u hu => rfl) v hv
  rcases List.mem_append.1 hv with hv | hv
  · exact v13_all (P := fun v => v.oneCell' = true) (fun u hu => rfl) v hv
  rcases List.mem_append.1 hv with hv | hv
  · exact v13_all (P := fun v => v.oneCell' = true) h1 v hv
  rcases List.mem_append.1 hv with hv | hv
  · exact v13_all (P := fun v => v.oneCell' = true) (fun u hu => rfl) v hv
  rcases List.mem_append.1 hv with hv | hv
  · exact v13_all (P := fun v => v.oneCell' = true) (fun u hu => rfl) v hv
  · simp only [List.mem_cons, List.not_mem_nil, or_false] at hv
    rcases hv with rfl | rfl | rfl | rfl | rfl <;> first | rfl | assumption
theorem SSAt.there {w : World} {b : Nat} {s : SS} (h : SSAt w b s) (o n : Nat) (hn : o + n ≤ 76) : w.there b o n := by
  have := RecAt.there h o n (by rw [ssCells_length]; exact hn)
  rwa [Nat.zero_add] at this
theorem stcl (P : Program) (b o : Nat) (vs : List Value) (w : World) (ht : w.there b o vs.length) (h1 : ∀ v ∈ vs, v.oneCell' = true) : (storeCells ⟨b, o, none⟩ vs).run P w = .ok () (w.setCells b o vs) :=
  run_storeCells_cells b o vs 0 w (fun j hj => (ht j hj).1) (fun j hj => (ht j hj).2) h1

/-- Nothing turns but the server's own cells. -/
structure Turn (w w' : World) (b : Nat) : Prop where
  chg : Chg (fun x => x = b) w w'
  rest : ∀ i, 76 ≤ i → w'.cell? ⟨b, i, none⟩ = w.cell? ⟨b, i, none⟩ ∧ w'.frozen? ⟨b, i, none⟩ = w.frozen? ⟨b, i, none⟩
theorem Turn.refl (w : World) (b : Nat) : Turn w w b := ⟨Chg.refl _ _, fun _ _ => ⟨rfl, rfl⟩⟩
theorem Turn.trans {w w1 w2 : World} {b : Nat} (h : Turn w w1 b) (k : Turn w1 w2 b) : Turn w w2 b := ⟨h.chg.also k.chg, fun i hi => ⟨(k.rest i hi).1.trans (h.rest i hi).1, (k.rest i hi).2.trans (h.rest i hi).2⟩⟩
theorem Turn.grow {w w' : World} {b : Nat} (hb : Below w.heap.size w w') (hl : b < w.heap.size) : Turn w w' b := ⟨Chg.of_below hb, fun i _ => ⟨hb.cell (p := ⟨b, i, none⟩) hl, hb.frozen (p := ⟨b, i, none⟩) hl⟩⟩
theorem Turn.cells (w : World) (b o : Nat) (vs : List Value) (h : o + vs.length ≤ 76) : Turn w (w.setCells b o vs) b :=
  ⟨chg_setCells b vs o w, fun i hi => ⟨World.cell?_setCells_out b vs o w ⟨b, i, none⟩ (fun _ _ => .inr (by show o + vs.length ≤ i; omega)), World.frozen?_setCells b vs o w ⟨b, i, none⟩⟩⟩
theorem Turn.cell (w : World) (b j : Nat) (v : Value) (h : j < 76) : Turn w (w.setCell ⟨b, j, none⟩ v) b :=
  ⟨Chg.setCell w ⟨b, j, none⟩ v, fun i hi => ⟨World.cell?_setCell_other _ _ _ _ (by intro q; injection q with q1 q2 q3; omega), World.frozen?_setCell ..⟩⟩
theorem Turn.drew (w : World) (b : Nat) : Turn w w.drew b := ⟨Chg.drew _ _, fun _ _ => ⟨rfl, rfl⟩⟩

set_option maxHeartbeats 1000000 in
set_option maxRecDepth 100000 in
theorem stop_calls (b : Nat) (S : SS) (w : World) (h : SSAt w b S) :
    Calls Tryz.prog 196 #[.pointer (some ⟨b, 0, none⟩)] w fun e w' => e = .returned (.tuple #[]) ∧ w' = w.setCells b 0 (ssCells (overS 2 S.rd (.slice none 0 0) (.slice none 0 0))) := by
  have c5 := h.rd
  have hst := stcl Tryz.prog b 0 (ssCells (overS 2 S.rd (.slice none 0 0) (.slice none 0 0))) w (h.there 0 76 (by omega)) (ssCells_one _ (fun _ _ => rfl) rfl rfl rfl)
  have hst2 : (storeCells ⟨b, 0, none⟩ ((((Tryz.zeroCells106.toList.set 72 (Value.int IntKind.i64 2)).set 73 (Value.int IntKind.i64 S.rd)).set 74 (Value.slice none 0 0)).set 75 (Value.slice none 0 0)) 0).run Tryz.prog w = .ok () (w.setCells b 0 (ssCells (overS 2 S.rd (.slice none 0 0) (.slice none 0 0)))) := hst
  clear hst
  generalize ssCells (overS 2 S.rd (.slice none 0 0) (.slice none 0 0)) = cs at *
  generalize S.rd = rd at *
  go_enter Tryz.func196, Tryz.ntmps196
  go_wp2_with fail
  go_end0
  exact ⟨rfl, rfl⟩

def nextS (S : SS) (pb : Nat → Int) (sh : Nat → Bool) (ml : Value) : SS := { S with rd := S.rd + 1, sn := S.ct, ct := fun _ => false, it := fun _ => .slice none 0 0, pb := pb, sh := sh, ml := ml }

/-- The steps that every round's end shares. -/
theorem next_tail {w : World} {b : Nat} {S : SS} (h : SSAt w b S) (r : Int) (hr : S.rd = r) :
    (w.cell? ⟨b, 5, none⟩ = some (.int .i64 r) ∧ w.frozen? ⟨b, 5, none⟩ = false) ∧
    ((w.setCell ⟨b, 5, none⟩ (.int .i64 (r + 1))).rangeAt b 19 (bl13 S.ct) ∧ (w.setCell ⟨b, 5, none⟩ (.int .i64 (r + 1))).there b 6 (bl13 S.ct).toArray.size) ∧
    ((w.setCell ⟨b, 5, none⟩ (.int .i64 (r + 1))).setCells b 6 (bl13 S.ct)).there b 19 (bl13 fun _ => false).toArray.size ∧
    (((w.setCell ⟨b, 5, none⟩ (.int .i64 (r + 1))).setCells b 6 (bl13 S.ct)).setCells b 19 (bl13 fun _ => false)).there b 32 (v13 fun _ => .slice none 0 0).toArray.size ∧
    SSAt ((((w.setCell ⟨b, 5, none⟩ (.int .i64 (r + 1))).setCells b 6 (bl13 S.ct)).setCells b 19 (bl13 fun _ => false)).setCells b 32 (v13 fun _ => .slice none 0 0)) b (nextS S S.pb S.sh S.ml) ∧
    Turn w ((((w.setCell ⟨b, 5, none⟩ (.int .i64 (r + 1))).setCells b 6 (bl13 S.ct)).setCells b 19 (bl13 fun _ => false)).setCells b 32 (v13 fun _ => .slice none 0 0)) b := by
  subst hr
  have h2 := h.setRd (S.rd + 1)
  have h3 := h2.allSn S.ct
  have h4 := h3.allCt fun _ => false
  have h5 := h4.allIt fun _ => .slice none 0 0
  exact ⟨⟨h.rd, h.froz 5 (by omega)⟩, ⟨h2.allct, h2.there 6 13 (by omega)⟩, h3.there 19 13 (by omega), h4.there 32 13 (by omega), h5,
    (((Turn.cell w b 5 _ (by omega)).trans (Turn.cells _ b 6 (bl13 S.ct) (by rw [bl13_length]; omega))).trans (Turn.cells _ b 19 (bl13 fun _ => false) (by rw [bl13_length]; omega))).trans (Turn.cells _ b 32 (v13 fun _ => .slice none 0 0) (by rw [v13_length]; omega))⟩
theorem size_memF : (Tryz.prog.info? 101).map (·.size) = some (bl13 fun _ => false).toArray.size := size_mem
theorem size_listN : (Tryz.prog.info? 103).map (·.size) = some (v13 fun _ => .slice none 0 0).toArray.size := size_lists
theorem one_memF : (bl13 fun _ => false).toArray.all (·.oneCell') = true := all_oneCell_toArray (bl13_one fun _ => false)
theorem one_listN : (v13 fun _ => .slice none 0 0).toArray.all (·.oneCell') = true := all_oneCell_toArray (v13_all (P := fun v => v.oneCell' = true) (fun _ _ => rfl))

set_option maxHeartbeats 2000000 in
set_option maxRecDepth 100000 in
theorem beginNext_one (b : Nat) (S : SS) (w : World) (h : SSAt w b S) (hrd : S.rd = 1) :
    Calls Tryz.prog 199 #[.pointer (some ⟨b, 0, none⟩)] w fun e w' => e = .returned (.tuple #[]) ∧ SSAt w' b (nextS S S.pb S.ct S.ml) ∧ Turn w w' b := by
  have c5 := h.rd
  rw [hrd] at c5
  have hbl := h.lt
  have R0 := hideG h.allct
  have T0 := hideG (show w.there b 58 (bl13 S.ct).toArray.size from h.there 58 13 (by omega))
  obtain ⟨W1, hW1⟩ : ∃ W1, W1 = w.setCells b 58 (bl13 S.ct) := ⟨_, rfl⟩
  have H1 := hideG (show SSAt W1 b { S with sh := S.ct } by rw [hW1]; exact h.allSh S.ct)
  have H1r := hideG (show ({ S with sh := S.ct } : SS).rd = 1 from hrd)
  have HT1 := hideG (show Turn w W1 b by rw [hW1]; exact Turn.cells w b 58 (bl13 S.ct) (by rw [bl13_length]; omega))
  have HW1 := hideG hW1
  clear hW1
  obtain ⟨⟨d5, f5⟩, ⟨r2, t2⟩, t3, t4, h5, tn⟩ := next_tail H1.out 1 H1r.out
  have R2 := hideG r2
  have T2 := hideG t2
  have T3 := hideG t3
  have T4 := hideG t4
  have HE := hideG (show SSAt _ b (nextS S S.pb S.ct S.ml) ∧ Turn w _ b from ⟨h5, HT1.out.trans tn⟩)
  clear r2 t2 t3 t4 h5 tn
  obtain ⟨CT, hCT⟩ : ∃ CT, CT = bl13 S.ct := ⟨_, rfl⟩
  change Hid (World.rangeAt (W1.setCell ⟨b, 5, none⟩ (.int .i64 (1 + 1))) b 19 (bl13 S.ct)) at R2
  rw [show (bl13 ({ S with sh := S.ct } : SS).ct) = bl13 S.ct from rfl] at T2 T3 T4 HE
  rw [← hCT] at R0 T0 HW1 R2 T2 T3 T4 HE
  have LX := hideG (show CT.length = 13 by rw [hCT]; rfl)
  have HON := hideG (show CT.toArray.all (·.oneCell') = true by rw [hCT]; exact all_oneCell_toArray (bl13_one S.ct))
  clear hCT
  have HSL := hideG (show (Tryz.prog.info? 101).map (·.size) = some CT.length by rw [size_mem, LX.out])
  have HSZ := hideG (show (Tryz.prog.info? 101).map (·.size) = some CT.toArray.size by rw [size_mem, List.size_toArray, LX.out])
  go_enter Tryz.func199, Tryz.ntmps199
  go_upto_region 7 with (first | refine wpList_load_mid rfl 101 _ rfl b 19 rfl CT _ R0.out Tryz.underlying101 rfl HSL.out ?_ | refine wpList_store_mid rfl 101 _ _ rfl b 58 CT.toArray rfl rfl T0.out HSZ.out HON.out ?_)
  rw [← HW1.out]
  go_upto_region 8 with fail
  go_upto_region 9 with (first | refine wpList_load_mid rfl 101 _ rfl b 19 rfl CT _ R2.out Tryz.underlying101 rfl HSL.out ?_ | refine wpList_store_mid rfl 101 _ _ rfl b 6 CT.toArray rfl rfl T2.out HSZ.out HON.out ?_)
  go_upto_region 10 with (refine wpList_store_mid rfl 101 _ _ rfl b 19 (bl13 fun _ => false).toArray rfl rfl T3.out size_memF one_memF ?_)
  go_wp2_with (refine wpList_store_mid rfl 103 _ _ rfl b 32 (v13 fun _ => .slice none 0 0).toArray rfl rfl T4.out size_listN one_listN ?_)
  go_end0
  exact ⟨rfl, HE.out.1, HE.out.2⟩

set_option maxHeartbeats 2000000 in
set_option maxRecDepth 100000 in
theorem beginNext_zero (b : Nat) (S : SS) (L : Nat → List Frm.It) (w : World) (h : SSAt w b S) (hL : ∀ v, v < 13 → ItemsAt w (S.it v) (L v)) (hrd : S.rd = 0) :
    Calls Tryz.prog 199 #[.pointer (some ⟨b, 0, none⟩)] w fun e w' => e = .returned (.tuple #[]) ∧ SSAt w' b (nextS S (fun u : Nat => (Cli.itemOf (L u) u).2.2.1) S.sh S.ml) ∧ Turn w w' b := by
  have c5 := h.rd
  rw [hrd] at c5
  have hbl := h.lt
  have MP := hideG (maskPublics_calls b S L w h hL)
  have HS := hideG h
  clear h hL
  go_enter Tryz.func199, Tryz.ntmps199
  go_wp2_with fail
  refine MP.out.mono ?_
  rintro e w0 ⟨rfl, hb0⟩
  have h0 := HS.out.below hb0
  have T0 := hideG (show w0.there b 45 (v13 fun u : Nat => .int .i64 (Cli.itemOf (L u) u).2.2.1).toArray.size from h0.there 45 13 (by omega))
  obtain ⟨W1, hW1⟩ : ∃ W1, W1 = w0.setCells b 45 (v13 fun u : Nat => .int .i64 (Cli.itemOf (L u) u).2.2.1) := ⟨_, rfl⟩
  have H1 := hideG (show SSAt W1 b { S with pb := fun u : Nat => (Cli.itemOf (L u) u).2.2.1 } by rw [hW1]; exact h0.allPb _)
  have H1r := hideG (show ({ S with pb := fun u : Nat => (Cli.itemOf (L u) u).2.2.1 } : SS).rd = 0 from hrd)
  have HT1 := hideG (show Turn w W1 b by rw [hW1]; exact (Turn.grow hb0 hbl).trans (Turn.cells w0 b 45 _ (by rw [v13_length]; omega)))
  have HW1 := hideG hW1
  have HO1 := hideG (all_oneCell_toArray (itemsV_one (fun u : Nat => (Cli.itemOf (L u) u).2.2.1)))
  have HS1 := hideG (show (Tryz.prog.info? 104).map (·.size) = some (v13 fun u : Nat => .int .i64 (Cli.itemOf (L u) u).2.2.1).toArray.size by rw [size_nums, List.size_toArray, v13_length])
  clear hW1 hb0 h0
  obtain ⟨⟨d5, f5⟩, ⟨r2, t2⟩, t3, t4, h5, tn⟩ := next_tail H1.out 0 H1r.out
  have R2 := hideG r2
  have T2 := hideG t2
  have T3 := hideG t3
  have T4 := hideG t4
  have HE := hideG (show SSAt _ b (nextS S (fun u : Nat => (Cli.itemOf (L u) u).2.2.1) S.sh S.ml) ∧ Turn w _ b from ⟨h5, HT1.out.trans tn⟩)
  clear r2 t2 t3 t4 h5 tn
  obtain ⟨CT, hCT⟩ : ∃ CT, CT = bl13 S.ct := ⟨_, rfl⟩
  change Hid (World.rangeAt (W1.setCell ⟨b, 5, none⟩ (.int .i64 (0 + 1))) b 19 (bl13 S.ct)) at R2
  rw [show (bl13 ({ S with pb := fun u : Nat => (Cli.itemOf (L u) u).2.2.1 } : SS).ct) = bl13 S.ct from rfl] at T2 T3 T4 HE
  rw [← hCT] at R2 T2 T3 T4 HE
  have LX := hideG (show CT.length = 13 by rw [hCT]; rfl)
  have HON := hideG (show CT.toArray.all (·.oneCell') = true by rw [hCT]; exact all_oneCell_toArray (bl13_one S.ct))
  clear hCT
  have HSL := hideG (show (Tryz.prog.info? 101).map (·.size) = some CT.length by rw [size_mem, LX.out])
  have HSZ := hideG (show (Tryz.prog.info? 101).map (·.size) = some CT.toArray.size by rw [size_mem, List.size_toArray, LX.out])
  obtain ⟨PB, hPB⟩ : ∃ PB, PB = v13 fun u : Nat => .int .i64 (Cli.itemOf (L u) u).2.2.1 := ⟨_, rfl⟩
  rw [← hPB] at T0 HW1 HO1 HS1 ⊢
  clear hPB
  go_upto_region 7 with (refine wpList_store_mid rfl 104 _ _ rfl b 45 PB.toArray rfl rfl T0.out HS1.out HO1.out ?_)
  rw [← HW1.out]
  go_upto_region 8 with fail
  go_upto_region 9 with (first | refine wpList_load_mid rfl 101 _ rfl b 19 rfl CT _ R2.out Tryz.underlying101 rfl HSL.out ?_ | refine wpList_store_mid rfl 101 _ _ rfl b 6 CT.toArray rfl rfl T2.out HSZ.out HON.out ?_)
  go_upto_region 10 with (refine wpList_store_mid rfl 101 _ _ rfl b 19 (bl13 fun _ => false).toArray rfl rfl T3.out size_memF one_memF ?_)
  go_wp2_with (refine wpList_store_mid rfl 103 _ _ rfl b 32 (v13 fun _ => .slice none 0 0).toArray rfl rfl T4.out size_listN one_listN ?_)
  go_end0
  exact ⟨rfl, HE.out.1, HE.out.2⟩

set_option maxHeartbeats 2000000 in
set_option maxRecDepth 100000 in
theorem beginNext_two (b : Nat) (S : SS) (L : Nat → List Frm.It) (M : Nat) (w : World) (h : SSAt w b S) (hL : ∀ v, v < 13 → ItemsAt w (S.it v) (L v)) (hm : S.m = (M : Int)) (hM : M ≤ 12) (hw : ∀ (v : Nat) (x : Int), 0 ≤ (Cli.itemOf (L v) x).2.1 ∧ (Cli.itemOf (L v) x).2.1 < 4294967296) (hrd : S.rd = 2) :
    Calls Tryz.prog 199 #[.pointer (some ⟨b, 0, none⟩)] w fun e w' => e = .returned (.tuple #[]) ∧ ∃ va, w'.ownsRow w.heap.size 3 1 va M ((sumsG L M).map (Value.int .i64)) ∧ SSAt w' b (nextS S S.pb S.sh va) ∧ Turn w w' b := by
  have c5 := h.rd
  rw [hrd] at c5
  have hbl := h.lt
  have MP := hideG (maskedSum_calls b S L M w h hL hm hM hw)
  have HS := hideG h
  clear h hL hm hw
  go_enter Tryz.func199, Tryz.ntmps199
  go_wp2_with fail
  refine MP.out.mono ?_
  rintro e w0 ⟨va, rfl, hown, hb0⟩
  have h0 := HS.out.below hb0
  obtain ⟨a3, c3, hv3⟩ := owns_form hown
  subst hv3
  obtain ⟨W1, hW1⟩ : ∃ W1, W1 = w0.setCell ⟨b, 71, none⟩ (.slice a3 M c3) := ⟨_, rfl⟩
  have H1 := hideG (show SSAt W1 b { S with ml := .slice a3 M c3 } by rw [hW1]; exact h0.setMk _)
  have H1r := hideG (show ({ S with ml := .slice a3 M c3 } : SS).rd = 2 from hrd)
  have HT1 := hideG (show Turn w W1 b by rw [hW1]; exact (Turn.grow hb0 hbl).trans (Turn.cell w0 b 71 _ (by omega)))
  have HTT := hideG (show Turn w0 W1 b by rw [hW1]; exact Turn.cell w0 b 71 _ (by omega))
  have c71 := h0.ml
  have f71 := h0.froz 71 (by omega)
  have HW1 := hideG hW1
  have HOW := hideG hown
  have s0 := hb0.size
  clear hW1 hb0 h0 hown
  have TL := hideG (next_tail H1.out 2 H1r.out).2.2.2.2.2
  obtain ⟨⟨d5, f5⟩, ⟨r2, t2⟩, t3, t4, h5, tn⟩ := next_tail H1.out 2 H1r.out
  have R2 := hideG r2
  have T2 := hideG t2
  have T3 := hideG t3
  have T4 := hideG t4
  have HE := hideG (show SSAt _ b (nextS S S.pb S.sh (.slice a3 M c3)) ∧ Turn w _ b from ⟨h5, HT1.out.trans tn⟩)
  clear r2 t2 t3 t4 h5 tn
  obtain ⟨CT, hCT⟩ : ∃ CT, CT = bl13 S.ct := ⟨_, rfl⟩
  change Hid (World.rangeAt (W1.setCell ⟨b, 5, none⟩ (.int .i64 (2 + 1))) b 19 (bl13 S.ct)) at R2
  rw [show (bl13 ({ S with ml := .slice a3 M c3 } : SS).ct) = bl13 S.ct from rfl] at T2 T3 T4 HE
  rw [show (bl13 ({ S with ml := .slice a3 M c3 } : SS).ct) = bl13 S.ct from rfl] at TL
  rw [← hCT] at TL R2 T2 T3 T4 HE
  have LX := hideG (show CT.length = 13 by rw [hCT]; rfl)
  have HON := hideG (show CT.toArray.all (·.oneCell') = true by rw [hCT]; exact all_oneCell_toArray (bl13_one S.ct))
  clear hCT
  have HSL := hideG (show (Tryz.prog.info? 101).map (·.size) = some CT.length by rw [size_mem, LX.out])
  have HSZ := hideG (show (Tryz.prog.info? 101).map (·.size) = some CT.toArray.size by rw [size_mem, List.size_toArray, LX.out])
  go_upto_region 7 with fail
  rw [← HW1.out]
  go_upto_region 8 with fail
  go_upto_region 9 with (first | refine wpList_load_mid rfl 101 _ rfl b 19 rfl CT _ R2.out Tryz.underlying101 rfl HSL.out ?_ | refine wpList_store_mid rfl 101 _ _ rfl b 6 CT.toArray rfl rfl T2.out HSZ.out HON.out ?_)
  go_upto_region 10 with (refine wpList_store_mid rfl 101 _ _ rfl b 19 (bl13 fun _ => false).toArray rfl rfl T3.out size_memF one_memF ?_)
  go_wp2_with (refine wpList_store_mid rfl 103 _ _ rfl b 32 (v13 fun _ => .slice none 0 0).toArray rfl rfl T4.out size_listN one_listN ?_)
  go_end0
  refine ⟨rfl, _, ?_, HE.out.1, HE.out.2⟩
  exact ownsRow_chg HOW.out (HTT.out.trans TL.out).chg (fun x hx e => by have := (HOW.out.lt x hx).1; omega)

end Go.Proofs.YtchideljndagjabGreat
