/- Contract of the program's server: Take, by the walk. -/
import Derived.Test.YtchideljndagjabGreatPkQuAT
import Derived.Test.YtchideljndagjabGreatPkQuAY
import Derived.Test.YtchideljndagjabGreatPkQuAR
import Derived.Test.YtchideljndagjabGreatPkQuAW
import Derived.Deep.AppendLies
namespace Go.Proofs.YtchideljndagjabGreat
open Go.ChangeShapes Go.WideShapes Go.ChangeAt Go.RowKit
set_option linter.unusedVariables false

set_option maxHeartbeats 4000000 in
set_option maxRecDepth 100000 in
theorem sTake_calls (b : Nat) (C : Srv.Cf) (s : Srv.Sv) (S : SS) (v : Value) (zs : List Int) (w : World) (hw : SrvW w b C s S) (hs : s.out.1 = 0 → Srv.SOk C s) (hv : BytesAt w v zs) :
    Calls Tryz.prog 140 #[.pointer (some ⟨b, 0, none⟩), v] w fun e w' => e = .returned (.bool (scntD C s zs)) ∧ ∃ S', STook w w' b C (sstepD C s zs) S S' := by
  have hbl := hw.srv.at_.lt
  have HD := hideG (decode_calls v zs w hv)
  obtain ⟨az, cz, rfl, -, -, hB, -⟩ := bytes_view hv
  have HW := hideG hw
  obtain ⟨rd, hrd, hr4⟩ : ∃ rd : Nat, S.rd = (rd : Int) ∧ rd < 4 := by
    by_cases hp : s.out.1 = 0
    · exact ⟨s.rd, (hw.srv.now hp).2, (hs hp).rd⟩
    · exact ⟨0, hw.srv.rdz hp, by omega⟩
  clear hv hw
  cases hd : Frm.decF zs with
  | none =>
    obtain ⟨x1, x2, x3, x4⟩ := d_none hd
    rw [x1, x2, x3, x4] at HD
    have y1 : scntD C s zs = false := by unfold scntD; rw [hd]
    have y2 : sstepD C s zs = s := by unfold sstepD; rw [hd]
    rw [y1, y2]
    clear x1 x2 x3 x4 y1 y2 hd hB
    go_enter Tryz.func140, Tryz.ntmps140
    go_wp2_with fail
    refine HD.out.mono ?_
    rintro e w1 ⟨va, rfl, hown, hb⟩
    obtain ⟨a', c', hv'⟩ := owns_form hown
    subst hv'
    have HB := hideG hb
    clear hown hb
    go_wp2_with fail
    go_ret
    exact ⟨rfl, S, stook_same HW.out (HB.out.alloc HB.out.size _)⟩
  | some f =>
    obtain ⟨k, fr, l⟩ := f
    obtain ⟨x1, x2, x3, x4⟩ := d_some hd
    rw [x1, x2, x3, x4] at HD
    obtain ⟨y1, y2, y3⟩ := Frm.enc_dec hB hd
    obtain ⟨u, hu⟩ : ∃ u : Nat, fr = (u : Int) := ⟨fr.toNat, by have := (Frm.okF_bounds y1).2.2.2.1; omega⟩
    subst hu
    have u13 : u < 13 := by have := (Frm.okF_bounds y1).2.2.2.2.1; omega
    have u13' : (u : Int) < 13 := by omega
    have HOK := hideG y1
    have HIN := hideG (okF_in y1)
    have e1 : scntD C s zs = cntB S rd k u l := by unfold scntD; rw [hd]; exact (cnt_eq HW.out.srv hs y1 rd hrd).symm
    have e2 : sstepD C s zs = if cntB S rd k u l = true then { s with G := Srv.updT s.G s.rd u l } else s := by
      unfold sstepD; rw [hd, cnt_eq HW.out.srv hs y1 rd hrd]
      show Srv.takeS C s (k, (u : Int), l) = _
      unfold Srv.takeS
      rfl
    have HP := hideG (fun (h : cntB S rd k u l = true) => (show s.out.1 = 0 by
      unfold cntB at h; rw [Bool.and_eq_true, decide_eq_true_iff, HW.out.srv.st] at h; exact h.1))
    rw [e1, e2]
    clear x1 x2 x3 x4 y1 y2 y3 hd hB e1 e2
    have HM := hideG (fun (w1 : World) (a' : Option Addr) (c' : Nat) (hb : Below w.heap.size w w1) (hown : w1.ownsRow w.heap.size 147 4 (.slice a' l.length c') l.length (flat4 l)) =>
      (show ∀ (o : Obj), Below w.heap.size w (w1.alloc o) ∧ SrvW (w1.alloc o) b C s S ∧ ItemsAt (w1.alloc o) (.slice a' l.length c') l ∧ (∀ x, (Value.slice a' l.length c').ownBlock = some x → w.heap.size ≤ x ∧ x < (w1.alloc o).heap.size ∧ x ≠ w1.heap.size) from fun o => by
        have hb2 := hb.alloc hb.size o
        refine ⟨hb2, HW.out.below hb2, (itemsAt_of_owns hown HIN.out).below ((Below.refl _ _).alloc (Nat.le_refl _) _), fun x hx => ?_⟩
        have := hown.lt x hx
        exact ⟨this.1, by simp; omega, by omega⟩))
    have HCC := hideG (fun (W : World) (x : Value) (hS : SSAt W b S) (hI : ItemsAt W x l) => counts_calls b S k u x l W hS hI HOK.out rd hrd hr4)
    obtain ⟨p, hp⟩ : ∃ p, p = cntB S rd k u l := ⟨_, rfl⟩
    rw [← hp] at HCC HP ⊢
    clear hp
    go_enter Tryz.func140, Tryz.ntmps140
    go_wp2_with fail
    refine HD.out.mono ?_
    rintro e w1 ⟨va, rfl, hown, hb⟩
    obtain ⟨a', c', hv'⟩ := owns_form hown
    subst hv'
    have s1 := hb.size
    have MM := hideG (HM.out w1 a' c' hb hown (.cells #[.int .i64 k, .int .i64 (u : Int), .slice a' l.length c'] 65))
    clear hown hb HM HD
    obtain ⟨W, hW⟩ : ∃ W, W = w1.alloc (.cells #[.int .i64 k, .int .i64 (u : Int), .slice a' l.length c'] 65) := ⟨_, rfl⟩
    have X0 := hideG (show W.cell? ⟨w1.heap.size, 0, none⟩ = some (.int .i64 k) by rw [hW]; simp)
    have X1 := hideG (show W.cell? ⟨w1.heap.size, 1, none⟩ = some (.int .i64 (u : Int)) by rw [hW]; simp)
    have X2 := hideG (show W.cell? ⟨w1.heap.size, 2, none⟩ = some (.slice a' l.length c') by rw [hW]; simp)
    have sz : w1.heap.size < W.heap.size := by rw [hW]; simp
    rw [← hW] at MM
    have HWW := hideG hW
    clear hW
    have CC := hideG (HCC.out W _ MM.out.2.1.srv.at_ MM.out.2.2.1)
    go_upto_region 2 with fail
    rw [← HWW.out]
    have x0 := X0.out
    have x1 := X1.out
    have x2 := X2.out
    go_wp2_with fail
    refine CC.out.mono ?_
    rintro e w2 ⟨rfl, hb2⟩
    have s2 := hb2.size
    have B2 := hideG hb2
    have T2 := hideG (MM.out.1.trans (hb2.mono MM.out.1.size))
    have S2 := hideG (MM.out.2.1.below hb2)
    have I2 := hideG (MM.out.2.2.1.below hb2)
    have F2 := hideG MM.out.2.2.2
    have y1 : w2.cell? ⟨w1.heap.size, 1, none⟩ = some (.int .i64 (u : Int)) := (hb2.cell (p := ⟨w1.heap.size, 1, none⟩) sz).trans X1.out
    have y2 : w2.cell? ⟨w1.heap.size, 2, none⟩ = some (.slice a' l.length c') := (hb2.cell (p := ⟨w1.heap.size, 2, none⟩) sz).trans X2.out
    clear hb2 x0 x1 x2 X0 X1 X2 MM CC
    cases p
    · go_wp2_with fail
      go_ret
      exact ⟨rfl, S, stook_same HW.out T2.out⟩
    · have c1 := S2.out.srv.at_.cct u u13
      have f1 := S2.out.srv.at_.froz (19 + u) (by omega)
      have c2 := S2.out.srv.at_.cit u u13
      have f2 := S2.out.srv.at_.froz (32 + u) (by omega)
      have hne : (⟨b, 19 + u, none⟩ : Addr) ≠ ⟨w1.heap.size, 1, none⟩ := by intro q; injection q with q1 q2 q3; omega
      have hne2 : (⟨b, 19 + u, none⟩ : Addr) ≠ ⟨w1.heap.size, 2, none⟩ := by intro q; injection q with q1 q2 q3; omega
      have hne3 : (⟨b, 19 + u, none⟩ : Addr) ≠ ⟨b, 32 + u, none⟩ := by intro q; injection q with q1 q2 q3; omega
      obtain ⟨W3, hW3⟩ : ∃ W3, W3 = (w2.setCell ⟨b, 19 + u, none⟩ (.bool true)).drew := ⟨_, rfl⟩
      have z1 : W3.cell? ⟨w1.heap.size, 1, none⟩ = some (.int .i64 (u : Int)) := by rw [hW3]; exact (World.cell?_setCell_other _ _ _ _ hne).trans y1
      have z2 : W3.cell? ⟨w1.heap.size, 2, none⟩ = some (.slice a' l.length c') := by rw [hW3]; exact (World.cell?_setCell_other _ _ _ _ hne2).trans y2
      have z3 : W3.cell? ⟨b, 32 + u, none⟩ = some (S.it u) := by rw [hW3]; exact (World.cell?_setCell_other _ _ _ _ hne3).trans c2
      have z4 : W3.frozen? ⟨b, 32 + u, none⟩ = false := by rw [hW3]; exact (World.frozen?_setCell ..).trans f2
      have T3 := hideG (show STook w (W3.setCell ⟨b, 32 + u, none⟩ (.slice a' l.length c')).drew b C { s with G := Srv.updT s.G s.rd u l } S { S with ct := fun v => if v = u then true else S.ct v, it := updV S.it u (.slice a' l.length c') } by
        have hc : Chg (fun x => x = b) w2 (W3.setCell ⟨b, 32 + u, none⟩ (.slice a' l.length c')).drew := by
          rw [hW3]
          exact (((Chg.setCell w2 ⟨b, 19 + u, none⟩ (.bool true)).also (Chg.drew _ _)).also (Chg.setCell _ ⟨b, 32 + u, none⟩ _)).also (Chg.drew _ _)
        have hsl : ∀ x, (Value.slice a' l.length c').ownBlock = some x → x ≠ b ∧ x < w2.heap.size ∧ w.heap.size ≤ x := fun x hx => by
          have := F2.out x hx
          exact ⟨by omega, by omega, this.1⟩
        have hat : SSAt (W3.setCell ⟨b, 32 + u, none⟩ (.slice a' l.length c')).drew b { S with ct := fun v => if v = u then true else S.ct v, it := updV S.it u (.slice a' l.length c') } := by
          rw [hW3]
          exact (((S2.out.srv.at_.setCt u u13 true).block (w' := (w2.setCell ⟨b, 19 + u, none⟩ (.bool true)).drew) rfl).setIt u u13 (.slice a' l.length c')).block rfl
        refine ⟨⟨srvAt_more S2.out.srv (HP.out rfl) u13 hat (I2.out.chg hc (fun x hx e => (hsl x hx).1 e)) (fun e => (hsl b e).1 rfl) hc.size (fun y hy hf => hc.block y (S2.out.low y hf) hy), fun x hx => ?_⟩, (Chg.of_below T2.out).also hc, fun x hx => ?_, fun i hi => ?_⟩
        · refine Nat.lt_of_lt_of_le ?_ hc.size
          rcases hx with hx | ⟨v, hv, hx⟩ | hx
          · exact S2.out.low x (.inl hx)
          · have hx' : (updV S.it u (.slice a' l.length c') v).ownBlock = some x := hx
            unfold updV at hx'
            split at hx'
            · exact (hsl x hx').2.1
            · exact S2.out.low x (.inr (.inl ⟨v, hv, hx'⟩))
          · exact S2.out.low x (.inr (.inr hx))
        · rcases hx with hx | ⟨v, hv, hx⟩ | hx
          · exact .inl (.inl hx)
          · have hx' : (updV S.it u (.slice a' l.length c') v).ownBlock = some x := hx
            unfold updV at hx'
            split at hx'
            · exact .inr (hsl x hx').2.2
            · exact .inl (.inr (.inl ⟨v, hv, hx'⟩))
          · exact .inl (.inr (.inr hx))
        · rw [hW3, ← T2.out.cell (p := ⟨b, i, none⟩) hbl, ← T2.out.frozen (p := ⟨b, i, none⟩) hbl]
          refine ⟨?_, ?_⟩
          · show ((w2.setCell ⟨b, 19 + u, none⟩ (.bool true)).drew.setCell ⟨b, 32 + u, none⟩ _).cell? ⟨b, i, none⟩ = _
            rw [World.cell?_setCell_other (h := by intro q; injection q with q1 q2 q3; omega)]
            exact World.cell?_setCell_other _ _ _ _ (by intro q; injection q with q1 q2 q3; omega)
          · show ((w2.setCell ⟨b, 19 + u, none⟩ (.bool true)).drew.setCell ⟨b, 32 + u, none⟩ _).frozen? ⟨b, i, none⟩ = _
            rw [World.frozen?_setCell]
            exact World.frozen?_setCell ..)
      have HW3 := hideG hW3
      clear hW3
      go_upto_region 4 with fail
      go_region
      rw [← HW3.out]
      go_upto_region 5 with fail
      go_region
      go_wp2_with fail
      go_ret
      exact ⟨rfl, _, T3.out⟩

end Go.Proofs.YtchideljndagjabGreat

namespace Go.Proofs.YtchideljndagjabGreat
open Go.ChangeShapes Go.WideShapes Go.ChangeAt Go.RowKit
set_option linter.unusedVariables false

theorem sfold_get (L : List Value) : ∀ (k : Nat) (A : Array Value) (i : Nat), k + L.length ≤ A.size → (List.foldl (fun (cs : Array Value) (x : Value × Nat) => cs.setIfInBounds x.2 x.1) A (L.zipIdx k))[i]? = if k ≤ i ∧ i < k + L.length then L[i - k]? else A[i]? := by
  induction L with
  | nil => intro k A i h; rw [if_neg (fun q => by have h1 := q.1; have h2 := q.2; simp at h2; omega)]; rfl
  | cons a L ih =>
    intro k A i h
    rw [List.length_cons] at h
    rw [List.zipIdx_cons, List.foldl_cons, ih (k + 1) _ i (by simp; omega), List.length_cons]
    by_cases e : i = k
    · subst e
      rw [if_neg (by omega), if_pos (by omega), Nat.sub_self]
      simp [Array.getElem?_setIfInBounds]
      omega
    · by_cases q : k + 1 ≤ i ∧ i < k + 1 + L.length
      · rw [if_pos q, if_pos (by omega), show i - k = (i - (k + 1)) + 1 by omega, List.getElem?_cons_succ]
      · rw [if_neg q, if_neg (by omega)]
        simp only [Array.getElem?_setIfInBounds]
        rw [if_neg (fun e' => e e'.symm)]
theorem sfold_all (L : List Value) (A : Array Value) (h : A.size = L.length) : List.foldl (fun (cs : Array Value) (x : Value × Nat) => cs.setIfInBounds x.2 x.1) A L.zipIdx = L.toArray := by
  apply Array.ext_getElem?
  intro i
  rw [sfold_get L 0 A i (by omega)]
  by_cases q : i < L.length
  · rw [if_pos (by omega)]; simp
  · rw [if_neg (by omega), Array.getElem?_eq_none (by omega), Array.getElem?_eq_none (by simp; omega)]

theorem SSBl.range {w : World} {b : Nat} {T : TypeId} {s : SS} (h : SSBl w b T s) : w.rangeAt b 0 (ssCells s) := RecAt.range h.at_
theorem szero_one : ∀ v ∈ ssCells zeroSS, v.oneCell' = true := ssCells_one _ (fun _ _ => rfl) rfl rfl rfl

theorem srvAt_fresh {w : World} {b : Nat} {N T M D : Int} (h : SSAt w b (freshSS N T M D fun u : Nat => decide (1 ≤ u ∧ (u : Int) ≤ N))) : SrvAt w b ⟨N, T, M, D⟩ Srv.start (freshSS N T M D fun u : Nat => decide (1 ≤ u ∧ (u : Int) ≤ N)) where
  at_ := h
  st := rfl
  ro := rfl
  set := list_nil _
  sum := list_nil _
  apart := fun v _ => by show (Value.slice none 0 0).ownBlock ≠ some b; intro e; cases e
  apart2 := ⟨(by show (Value.slice none 0 0).ownBlock ≠ some b; intro e; cases e), (by show (Value.slice none 0 0).ownBlock ≠ some b; intro e; cases e), (by show (Value.slice none 0 0).ownBlock ≠ some b; intro e; cases e)⟩
  zero := fun _ => ⟨rfl, rfl, rfl⟩
  rdz := fun _ => rfl
  cfg := fun _ => ⟨rfl, rfl, rfl, rfl⟩
  now := fun _ => ⟨rfl, rfl⟩
  sn := fun _ v _ => rfl
  ct := fun _ v _ => rfl
  it := fun _ v _ => items_nil _
  pb := fun _ r => absurd r (by show ¬ 1 ≤ 0; omega)
  sh := fun _ r => absurd r (by show ¬ 2 ≤ 0; omega)
  ml := fun _ r => absurd r (by show ¬ (0 : Nat) = 3; omega)

end Go.Proofs.YtchideljndagjabGreat

namespace Go.Proofs.YtchideljndagjabGreat
open Go.RowKit
set_option linter.unusedVariables false

theorem row_keep {w w' : World} {base : Nat} {e : TypeId} {size : Nat} {v : Value} {n : Nat} {xs : List Value} (h : w.ownsRow base e size v n xs) (hS : ∀ x, v.ownBlock = some x → w'.heap[x]? = w.heap[x]?) : w'.ownsRow base e size v n xs := by
  obtain ⟨h1, h2⟩ := h
  refine ⟨h1, ?_⟩
  rcases h2 with h2 | ⟨g, cap, cur, rfl, h3, h4, h5⟩
  · exact .inl h2
  · exact .inr ⟨g, cap, cur, rfl, h3, by rw [hS g rfl]; exact h4, h5⟩
structure FlAt (w : World) (v : Value) (vs : List Value) (ps : List Pk) : Prop where
  len : vs.length = ps.length
  row : w.ownsRow 0 49 3 v ps.length (packV ps vs)
  each : ∀ (i : Nat) (x : Value) (p : Pk), vs[i]? = some x → ps[i]? = some p → BytesAt w x p.2.2
  low : ∀ x ∈ vs, ∀ g, x.ownBlock = some g → g < w.heap.size
  apart : ∀ x ∈ vs, ∀ g, x.ownBlock = some g → v.ownBlock ≠ some g
section
variable {w w' : World} {v : Value} {vs : List Value} {ps : List Pk}
theorem BytesAt.keepS {v : Value} {zs : List Int} (h : BytesAt w v zs) (hs : w.heap.size ≤ w'.heap.size) (hb : ∀ x, v.ownBlock = some x → w'.heap[x]? = w.heap[x]?) : BytesAt w' v zs := by
  obtain ⟨a, cap, h1, h2, h3, h4, h5⟩ := h
  refine ⟨a, cap, h1, h2, h3, h4, ?_⟩
  rcases h5 with h5 | ⟨b, off, e1, e2, e3⟩
  · exact .inl h5
  · refine .inr ⟨b, off, e1, Nat.lt_of_lt_of_le e2 hs, fun i hi => ?_⟩
    rw [← e3 i hi]
    exact World.cell?_of_block (w := w) (hb b (by rw [h1, e1]; rfl))
theorem flAt_nil (w : World) : FlAt w (.slice none 0 0) [] [] := ⟨rfl, World.ownsRow_nil _ _ _ _, fun i x p h => (by simp at h), fun x hx => (by cases hx), fun x hx => (by cases hx)⟩
theorem FlAt.keep (h : FlAt w v vs ps) (hs : w.heap.size ≤ w'.heap.size) (h1 : ∀ x, v.ownBlock = some x → w'.heap[x]? = w.heap[x]?) (h2 : ∀ y ∈ vs, ∀ x, y.ownBlock = some x → w'.heap[x]? = w.heap[x]?) : FlAt w' v vs ps :=
  ⟨h.len, row_keep h.row h1, fun i x p hx hp => (h.each i x p hx hp).keepS hs (h2 x (List.mem_of_getElem? hx)), fun x hx g hg => Nat.lt_of_lt_of_le (h.low x hx g hg) hs, h.apart⟩
theorem FlAt.rowlt (h : FlAt w v vs ps) {x : Nat} (hx : v.ownBlock = some x) : x < w.heap.size := (h.row.lt x hx).2
/-- The list as it lies: of each parcel its cells. -/
theorem FlAt.view (h : FlAt w v vs ps) : ∃ a c, v = .slice a ps.length c ∧ ps.length ≤ c ∧ c ≤ 9223372036854775807 ∧ ∀ j p, ps[j]? = some p → ∃ g y, a = some ⟨g, 0, none⟩ ∧ g < w.heap.size ∧ vs[j]? = some y ∧ w.cell? ⟨g, j * 3, none⟩ = some (.int .i64 p.1) ∧ w.cell? ⟨g, j * 3 + 1, none⟩ = some (.int .i64 p.2.1) ∧ w.cell? ⟨g, j * 3 + 2, none⟩ = some y ∧ BytesAt w y p.2.2 := by
  have h0 := h.row
  rcases h.row.2 with ⟨e0, hn⟩ | ⟨g, cap, cur, e0, _, _, hnc, hcm, _⟩
  · refine ⟨none, 0, by rw [e0, hn], by omega, by omega, fun j p hp => ?_⟩
    have := (List.getElem?_eq_some_iff.1 hp).1
    omega
  · refine ⟨some ⟨g, 0, none⟩, cap, e0, hnc, by unfold maxLen at hcm; omega, fun j p hp => ?_⟩
    have hj := (List.getElem?_eq_some_iff.1 hp).1
    have hjv : j < vs.length := by rw [h.len]; exact hj
    have hy := List.getElem?_eq_getElem hjv
    obtain ⟨f1, f2, f3⟩ := packV_get ps vs j p _ hp hy
    rw [e0] at h0
    have hl : (packV ps vs).length = ps.length * 3 := packV_length ps vs h.len
    exact ⟨g, _, rfl, (h0.lt g rfl).2, hy, (h0.cellAt (j * 3) (by omega)).trans f1, (h0.cellAt (j * 3 + 1) (by omega)).trans f2, (h0.cellAt (j * 3 + 2) (by omega)).trans f3, h.each j _ p hy hp⟩
end

structure Sn where
  q : Srv.Sv
  cs : Nat → Cli.St
  gone : Nat → Bool
  fl : List Pk
def updA {α : Type} (f : Nat → α) (i : Nat) (x : α) : Nat → α := fun j => if j = i then x else f j
theorem updA_same {α : Type} (f : Nat → α) (i : Nat) (x : α) : updA f i x i = x := if_pos rfl
theorem updA_other {α : Type} (f : Nat → α) (i : Nat) (x : α) {j : Nat} (h : j ≠ i) : updA f i x j = f j := if_neg h

/-- The parcel of an answer. -/
def ansP (i : Nat) : Option Cli.Fr → List Pk
  | none => []
  | some f => [((i : Int) + 1, 0, Frm.encF f.1 f.2.1 f.2.2)]
/-- Bytes come to the server; to client number i (from 0 on). -/
def rcv0 (C : Srv.Cf) (s : Sn) (zs : List Int) : Sn := { s with q := sstepD C s.q zs }
def rcvC (cl : Nat → Cli.Cl) (s : Sn) (i : Nat) (zs : List Int) : Sn :=
  if s.gone i = true then s else { s with cs := updA s.cs i (stepD (cl i) (s.cs i) zs), fl := s.fl ++ ansP i (ansD (cl i) (s.cs i) zs) }
/-- To whom it is for: 0, or a client's number. -/
def rcv (C : Srv.Cf) (cl : Nat → Cli.Cl) (n : Nat) (s : Sn) (d : Int) (zs : List Int) : Sn :=
  if 1 ≤ d ∧ d ≤ (n : Int) then rcvC cl s (d.toNat - 1) zs else rcv0 C s zs
def tickN (C : Srv.Cf) (s : Sn) : Sn := { s with q := Srv.tickS C s.q, fl := s.fl ++ tickK C s.q }
def crashN (s : Sn) (i : Nat) : Sn := { s with gone := updA s.gone i true }

/-- How many answers a client has still to give, and frames the server to send. -/
def remC (st : Cli.St) : Nat := if st.1 = 1 then 3 else if st.1 = 2 then 2 else if st.1 = 3 then 1 else 0
def remA (cs : Nat → Cli.St) : Nat → Nat
  | 0 => 0
  | n + 1 => remA cs n + remC (cs n)
def remS (q : Srv.Sv) : Nat := if q.out.1 = 0 then (3 - q.rd) * 13 else 0

structure SnOk (C : Srv.Cf) (cl : Nat → Cli.Cl) (n : Nat) (s : Sn) : Prop where
  gc : Srv.GoodC C
  num : C.N = (n : Int)
  good : ∀ i, i < n → Cli.Good (cl i)
  id : ∀ i, i < n → (cl i).id = (i : Int) + 1
  sok : s.q.out.1 = 0 → Srv.SOk C s.q
  bd : s.q.out.2.2.1.length ≤ 12 ∧ s.q.out.2.2.2.length ≤ 12
  fl : s.fl.length + (remA s.cs n + remS s.q) ≤ 300
  flb : ∀ p ∈ s.fl, p.2.2.length ≤ 400

/-- A client that was crashed. -/
structure GoneAt (w : World) (b o : Nat) (l : List Frm.It) (S : PS) : Prop where
  at_ : Co.PSAt w b o S
  ph : S.ph = 0
  told : ItemsAt w S.told l
  nil : S.inp = .slice none 0 0 ∧ S.sm = .slice none 0 0 ∧ S.ss = .slice none 0 0
  apart : S.told.ownBlock ≠ some b
  low : ∀ x, CFoot b S x → x < w.heap.size
structure CAt (w : World) (b o : Nat) (c : Cli.Cl) (g : Bool) (s : Cli.St) (S : PS) : Prop where
  live : g = false → Co.CliW w b o c s S
  dead : g = true → GoneAt w b o (relL c s) S
section
variable {w w' : World} {b o : Nat} {c : Cli.Cl} {g : Bool} {s : Cli.St} {S : PS}
theorem CAt.at_ (h : CAt w b o c g s S) : Co.PSAt w b o S := by
  cases g
  · exact (h.live rfl).cli.at_
  · exact (h.dead rfl).at_
theorem CAt.low (h : CAt w b o c g s S) : ∀ x, CFoot b S x → x < w.heap.size := by
  cases g
  · exact (h.live rfl).low
  · exact (h.dead rfl).low
theorem CAt.told (h : CAt w b o c g s S) : ItemsAt w S.told (relL c s) := by
  cases g
  · exact Co.relL_items (h.live rfl).cli
  · exact (h.dead rfl).told
theorem CAt.keepAt (h : CAt w b o c g s S) (hs : w.heap.size ≤ w'.heap.size) (ha : Co.PSAt w' b o S) (hb : ∀ x, x ≠ b → CFoot b S x → w'.heap[x]? = w.heap[x]?) : CAt w' b o c g s S := by
  refine ⟨fun e => ?_, fun e => ?_⟩
  · have k := h.live e
    exact ⟨k.cli.keepAt hs ha hb, fun x hx => Nat.lt_of_lt_of_le (k.low x hx) hs⟩
  · have k := h.dead e
    exact ⟨ha, k.ph, k.told.keep hs (fun x hx => hb x (fun e => k.apart (e ▸ hx)) (.inr (.inr (.inr (.inr hx))))), k.nil, k.apart, fun x hx => Nat.lt_of_lt_of_le (k.low x hx) hs⟩
theorem CAt.keep (h : CAt w b o c g s S) (hs : w.heap.size ≤ w'.heap.size) (hb : ∀ x, CFoot b S x → w'.heap[x]? = w.heap[x]?) : CAt w' b o c g s S := h.keepAt hs (h.at_.block (hb b (.inl rfl))) (fun x _ hx => hb x hx)
end

structure SM where
  S : SS
  cb : Nat
  cc : Nat
  P : Nat → PS
  fv : Value
  vs : List Value
/-- Blocks that are never written again. -/
def SStat (b n : Nat) (m : SM) (x : Nat) : Prop := (SFoot b m.S x ∧ x ≠ b) ∨ (∃ i, i < n ∧ CFoot m.cb (m.P i) x ∧ x ≠ m.cb) ∨ ∃ y ∈ m.vs, y.ownBlock = some x
def SesOwn (b : Nat) (m : SM) (x : Nat) : Prop := x = b ∨ x = m.cb ∨ m.fv.ownBlock = some x
def SesFoot (b n : Nat) (m : SM) (x : Nat) : Prop := SesOwn b m x ∨ SStat b n m x
structure SesAt (w : World) (b n : Nat) (C : Srv.Cf) (cl : Nat → Cli.Cl) (s : Sn) (m : SM) : Prop where
  srv : SrvW w b C s.q m.S
  c76 : w.cell? ⟨b, 76, none⟩ = some (.slice (some ⟨m.cb, 0, none⟩) n m.cc)
  c77 : w.cell? ⟨b, 77, none⟩ = some m.fv
  f77 : w.frozen? ⟨b, 77, none⟩ = false
  ncc : n ≤ m.cc ∧ m.cc ≤ 9223372036854775807
  cli : ∀ i, i < n → CAt w m.cb (i * 78) (cl i) (s.gone i) (s.cs i) (m.P i)
  fl : FlAt w m.fv m.vs s.fl
  lcb : m.cb < w.heap.size
  own : m.cb ≠ b ∧ m.fv.ownBlock ≠ some b ∧ m.fv.ownBlock ≠ some m.cb
  ap : ∀ x, SStat b n m x → ¬ SesOwn b m x
section
variable {w w' : World} {b n : Nat} {C : Srv.Cf} {cl : Nat → Cli.Cl} {s : Sn} {m : SM}
theorem SesAt.low (h : SesAt w b n C cl s m) {x : Nat} (hx : SesFoot b n m x) : x < w.heap.size := by
  rcases hx with (hx | hx | hx) | ⟨hx, _⟩ | ⟨i, hi, hx, _⟩ | ⟨y, hy, hx⟩
  · exact h.srv.low x (.inl hx)
  · rw [hx]; exact h.lcb
  · exact h.fl.rowlt hx
  · exact h.srv.low x hx
  · exact (h.cli i hi).low x hx
  · exact h.fl.low y hy x hx
theorem SesAt.keep (h : SesAt w b n C cl s m) (hs : w.heap.size ≤ w'.heap.size) (hb : ∀ x, SesFoot b n m x → w'.heap[x]? = w.heap[x]?) : SesAt w' b n C cl s m := by
  have hbb := hb b (.inl (.inl rfl))
  have fb : ∀ x, SFoot b m.S x → SesFoot b n m x := fun x hx => by
    by_cases e : x = b
    · exact .inl (.inl e)
    · exact .inr (.inl ⟨hx, e⟩)
  have fc : ∀ i, i < n → ∀ x, CFoot m.cb (m.P i) x → SesFoot b n m x := fun i hi x hx => by
    by_cases e : x = m.cb
    · exact .inl (.inr (.inl e))
    · exact .inr (.inr (.inl ⟨i, hi, hx, e⟩))
  exact { h with
    srv := h.srv.keep hs (fun x hx => hb x (fb x hx))
    c76 := (World.cell?_of_block (w := w) (a := ⟨b, 76, none⟩) hbb).trans h.c76
    c77 := (World.cell?_of_block (w := w) (a := ⟨b, 77, none⟩) hbb).trans h.c77
    f77 := (frozen_block hbb 77).trans h.f77
    cli := fun i hi => (h.cli i hi).keep hs (fun x hx => hb x (fc i hi x hx))
    fl := h.fl.keep hs (fun x hx => hb x (.inl (.inr (.inr hx)))) (fun y hy x hx => hb x (.inr (.inr (.inr ⟨y, hy, hx⟩))))
    lcb := Nat.lt_of_lt_of_le h.lcb hs }
theorem SesAt.below (h : SesAt w b n C cl s m) (hb : Below w.heap.size w w') : SesAt w' b n C cl s m := h.keep hb.size (fun x hx => hb.block x (h.low hx))
theorem SesAt.blt (h : SesAt w b n C cl s m) : b < w.heap.size := h.low (.inl (.inl rfl))
end

/-- What a call of a session's leaves. -/
structure SesTook (w w' : World) (b n : Nat) (C : Srv.Cf) (cl : Nat → Cli.Cl) (s' : Sn) (m m' : SM) : Prop where
  ses : SesAt w' b n C cl s' m'
  chg : Chg (SesOwn b m) w w'
  own : ∀ x, SesOwn b m' x → SesOwn b m x ∨ w.heap.size ≤ x
  foot : ∀ x, SesFoot b n m' x → SesFoot b n m x ∨ w.heap.size ≤ x
section
variable {w w1 w' : World} {b n : Nat} {C : Srv.Cf} {cl : Nat → Cli.Cl} {s s1 s' : Sn} {m m1 m' : SM}
theorem sesTook_same (h : SesAt w b n C cl s m) (hb : Below w.heap.size w w') : SesTook w w' b n C cl s m m := ⟨h.below hb, Chg.of_below hb, fun _ hx => .inl hx, fun _ hx => .inl hx⟩
/-- Which blocks are written: those that were its own, and new ones. -/
theorem SesTook.trans (h : SesTook w w1 b n C cl s1 m m1) (k : SesTook w1 w' b n C cl s' m1 m') : SesTook w w' b n C cl s' m m' := by
  have z := h.chg.size
  refine ⟨k.ses, h.chg.trans k.chg (fun x e hx => (h.own x e).elim id (fun q => by omega)), fun x hx => ?_, fun x hx => ?_⟩
  · rcases k.own x hx with e | e
    · exact h.own x e
    · exact .inr (by omega)
  · rcases k.foot x hx with e | e
    · exact h.foot x e
    · exact .inr (by omega)
theorem SesTook.then (h : SesTook w w1 b n C cl s1 m m1) (hb : Below w1.heap.size w1 w') : SesTook w w' b n C cl s1 m m1 := ⟨h.ses.below hb, h.chg.grow hb, h.own, h.foot⟩
theorem SesTook.after (h : SesTook w1 w' b n C cl s' m m') (hb : Below w.heap.size w w1) : SesTook w w' b n C cl s' m m' :=
  ⟨h.ses, (Chg.of_below hb).also h.chg, fun x hx => (h.own x hx).imp id (fun e => Nat.le_trans hb.size e), fun x hx => (h.foot x hx).imp id (fun e => Nat.le_trans hb.size e)⟩
end

end Go.Proofs.YtchideljndagjabGreat

namespace Go.Proofs.YtchideljndagjabGreat
open Go.RowKit
set_option linter.unusedVariables false

section
variable {w w' w1 : World} {b n : Nat} {C : Srv.Cf} {cl : Nat → Cli.Cl} {s : Sn} {m : SM}
theorem SesAt.sfoot (h : SesAt w b n C cl s m) {x : Nat} (hx : SFoot b m.S x) : SesFoot b n m x := by
  by_cases e : x = b
  · exact .inl (.inl e)
  · exact .inr (.inl ⟨hx, e⟩)
theorem SesAt.cfoot (h : SesAt w b n C cl s m) {i : Nat} (hi : i < n) {x : Nat} (hx : CFoot m.cb (m.P i) x) : SesFoot b n m x := by
  by_cases e : x = m.cb
  · exact .inl (.inr (.inl e))
  · exact .inr (.inr (.inl ⟨i, hi, hx, e⟩))

/-- The server has turned. -/
theorem SesAt.turnS (h : SesAt w b n C cl s m) {q' : Srv.Sv} {S' : SS} (t : STook w w' b C q' m.S S') : SesTook w w' b n C cl { s with q := q' } m { m with S := S' } := by
  have z := t.chg.size
  have far : ∀ x, SesFoot b n m x → x ≠ b → w'.heap[x]? = w.heap[x]? := fun x hx e => t.chg.block x (h.low hx) e
  have ncb : ∀ i, i < n → ∀ x, CFoot m.cb (m.P i) x → x ≠ b := fun i hi x hx e => by
    by_cases q : x = m.cb
    · exact h.own.1 (q.symm.trans e)
    · exact h.ap x (.inr (.inl ⟨i, hi, hx, q⟩)) (.inl e)
  have stat : ∀ x, SStat b n { m with S := S' } x → SStat b n m x ∨ w.heap.size ≤ x := fun x hx => by
    rcases hx with ⟨hx, e⟩ | hx | hx
    · rcases t.foot x hx with k | k
      · exact .inl (.inl ⟨k, e⟩)
      · exact .inr k
    · exact .inl (.inr (.inl hx))
    · exact .inl (.inr (.inr hx))
  refine ⟨⟨t.srv, (t.rest 76 (by omega)).1.trans h.c76, (t.rest 77 (by omega)).1.trans h.c77, (t.rest 77 (by omega)).2.trans h.f77, h.ncc, fun i hi => ?_, ?_, Nat.lt_of_lt_of_le h.lcb z, h.own, fun x hx ho => ?_⟩, t.chg.mono (fun x e _ => .inl e), fun x hx => .inl hx, fun x hx => ?_⟩
  · exact (h.cli i hi).keep z (fun x hx => far x (h.cfoot hi hx) (ncb i hi x hx))
  · exact h.fl.keep z (fun x hx => far x (.inl (.inr (.inr hx))) (fun e => h.own.2.1 (e ▸ hx))) (fun y hy x hx => far x (.inr (.inr (.inr ⟨y, hy, hx⟩))) (fun e => h.ap x (.inr (.inr ⟨y, hy, hx⟩)) (.inl e)))
  · rcases stat x hx with k | k
    · exact h.ap x k ho
    · have := h.low (.inl ho : SesFoot b n m x); omega
  · rcases hx with hx | hx
    · exact .inl (.inl hx)
    · exact (stat x hx).imp .inr id

/-- A client has turned. -/
theorem SesAt.turnC (h : SesAt w b n C cl s m) {i : Nat} (hi : i < n) {g' : Bool} {st' : Cli.St} {P' : PS} (hc : Co.ChgC m.cb (i * 78) w w') (hat : CAt w' m.cb (i * 78) (cl i) g' st' P') (hft : ∀ x, CFoot m.cb P' x → CFoot m.cb (m.P i) x ∨ w.heap.size ≤ x) :
    SesTook w w' b n C cl { s with cs := updA s.cs i st', gone := updA s.gone i g' } m { m with P := updA m.P i P' } := by
  have z := hc.size
  have far : ∀ x, SesFoot b n m x → x ≠ m.cb → w'.heap[x]? = w.heap[x]? := fun x hx e => hc.block x (h.low hx) e
  have ns : ∀ x, SFoot b m.S x → x ≠ m.cb := fun x hx e => by
    by_cases q : x = b
    · exact h.own.1 (e.symm.trans q)
    · exact h.ap x (.inl ⟨hx, q⟩) (.inr (.inl e))
  have stat : ∀ x, SStat b n { m with P := updA m.P i P' } x → SStat b n m x ∨ w.heap.size ≤ x := fun x hx => by
    rcases hx with hx | ⟨j, hj, hx, e⟩ | hx
    · exact .inl (.inl hx)
    · have hx' : CFoot m.cb (updA m.P i P' j) x := hx
      by_cases q : j = i
      · subst q
        rw [updA_same] at hx'
        rcases hft x hx' with k | k
        · exact .inl (.inr (.inl ⟨j, hj, k, e⟩))
        · exact .inr k
      · rw [updA_other _ _ _ q] at hx'
        exact .inl (.inr (.inl ⟨j, hj, hx', e⟩))
    · exact .inl (.inr (.inr hx))
  have hbb := far b (.inl (.inl rfl)) (fun e => h.own.1 e.symm)
  refine ⟨⟨h.srv.keep z (fun x hx => far x (h.sfoot hx) (ns x hx)), (World.cell?_of_block (w := w) (a := ⟨b, 76, none⟩) hbb).trans h.c76, (World.cell?_of_block (w := w) (a := ⟨b, 77, none⟩) hbb).trans h.c77, (frozen_block hbb 77).trans h.f77, h.ncc, fun j hj => ?_, ?_, Nat.lt_of_lt_of_le h.lcb z, h.own, fun x hx ho => ?_⟩, hc.chg.mono (fun x e _ => .inr (.inl e)), fun x hx => .inl hx, fun x hx => ?_⟩
  · show CAt w' m.cb (j * 78) (cl j) (updA s.gone i g' j) (updA s.cs i st' j) (updA m.P i P' j)
    by_cases q : j = i
    · subst q
      rw [updA_same, updA_same, updA_same]; exact hat
    · rw [updA_other _ _ _ q, updA_other _ _ _ q, updA_other _ _ _ q]
      refine (h.cli j hj).keepAt z (RecAt.keep (h.cli j hj).at_ (fun k hk => ?_) (fun k hk => ?_)) (fun x e hx => far x (h.cfoot hj hx) e)
      all_goals (rw [psCells_length] at hk)
      · exact (hc.rest (j * 78 + k) (by omega)).1
      · exact (hc.rest (j * 78 + k) (by omega)).2
  · exact h.fl.keep z (fun x hx => far x (.inl (.inr (.inr hx))) (fun e => h.own.2.2 (e ▸ hx))) (fun y hy x hx => far x (.inr (.inr (.inr ⟨y, hy, hx⟩))) (fun e => h.ap x (.inr (.inr ⟨y, hy, hx⟩)) (.inr (.inl e))))
  · rcases stat x hx with k | k
    · exact h.ap x k ho
    · have := h.low (.inl ho : SesFoot b n m x); omega
  · rcases hx with hx | hx
    · exact .inl (.inl hx)
    · exact (stat x hx).imp .inr id

/-- What is in flight has turned: a new list, laid into the session. -/
theorem SesAt.turnF (h : SesAt w b n C cl s m) {fv' : Value} {vs' : List Value} {ps' : List Pk} (hc : Chg (fun x => m.fv.ownBlock = some x) w w1) (hf : FlAt w1 fv' vs' ps') (hw' : w' = w1.setCell ⟨b, 77, none⟩ fv') (hv : ∀ x, fv'.ownBlock = some x → m.fv.ownBlock = some x ∨ w.heap.size ≤ x)
    (hvs : ∀ y ∈ vs', ∀ x, y.ownBlock = some x → x ≠ b ∧ x ≠ m.cb) :
    SesAt w' b n C cl { s with fl := ps' } { m with fv := fv', vs := vs' } ∧ Chg (SesOwn b m) w w' ∧ (∀ x, SesOwn b { m with fv := fv', vs := vs' } x → SesOwn b m x ∨ w.heap.size ≤ x) ∧
      ∀ x, SesFoot b n { m with fv := fv', vs := vs' } x → SesFoot b n m x ∨ w.heap.size ≤ x ∨ ∃ y ∈ vs', y.ownBlock = some x := by
  have z1 := hc.size
  have z' : w'.heap.size = w1.heap.size := by rw [hw']; simp [World.setCell]
  have c2 : Chg (fun x => x = b) w1 w' := by rw [hw']; exact Chg.setCell w1 ⟨b, 77, none⟩ fv'
  have hblt := h.blt
  have far1 : ∀ x, x < w.heap.size → m.fv.ownBlock ≠ some x → w1.heap[x]? = w.heap[x]? := fun x hx e => hc.block x hx e
  have far : ∀ x, x < w.heap.size → m.fv.ownBlock ≠ some x → x ≠ b → w'.heap[x]? = w.heap[x]? := fun x hx e e2 => by rw [c2.block x (by omega) e2]; exact far1 x hx e
  have hb1 : w1.heap[b]? = w.heap[b]? := far1 b hblt h.own.2.1
  have cell : ∀ k, k ≠ 77 → w'.cell? ⟨b, k, none⟩ = w.cell? ⟨b, k, none⟩ := fun k hk => by
    rw [hw', World.cell?_setCell_other _ _ _ _ (by intro q; injection q with q1 q2 q3; omega)]
    exact World.cell?_of_block (w := w) (a := ⟨b, k, none⟩) hb1
  have froz : ∀ k, w'.frozen? ⟨b, k, none⟩ = w.frozen? ⟨b, k, none⟩ := fun k => by
    rw [hw', World.frozen?_setCell]; exact frozen_block hb1 k
  have d77 : w1.cell? ⟨b, 77, none⟩ = some m.fv := (World.cell?_of_block (w := w) (a := ⟨b, 77, none⟩) hb1).trans h.c77
  have nst : ∀ x, SStat b n m x → x < w.heap.size ∧ m.fv.ownBlock ≠ some x ∧ x ≠ b ∧ x ≠ m.cb := fun x hx => ⟨h.low (.inr hx), fun e => h.ap x hx (.inr (.inr e)), fun e => h.ap x hx (.inl e), fun e => h.ap x hx (.inr (.inl e))⟩
  have fvb : ∀ x, fv'.ownBlock = some x → x ≠ b ∧ x ≠ m.cb := fun x hx => by
    rcases hv x hx with k | k
    · exact ⟨fun e => h.own.2.1 (e ▸ k), fun e => h.own.2.2 (e ▸ k)⟩
    · have := h.lcb; exact ⟨by omega, by omega⟩
  have hcb : w'.heap[m.cb]? = w.heap[m.cb]? := far m.cb h.lcb h.own.2.2 h.own.1
  refine ⟨⟨?_, (cell 76 (by omega)).trans h.c76, ?_, (froz 77).trans h.f77, h.ncc, fun i hi => ?_, ?_, by rw [z']; exact Nat.lt_of_lt_of_le h.lcb z1, ⟨h.own.1, fun e => (fvb b e).1 rfl, fun e => (fvb m.cb e).2 rfl⟩, fun x hx ho => ?_⟩, ?_, fun x hx => ?_, fun x hx => ?_⟩
  · have k := h.srv
    refine ⟨k.srv.keep (by omega) (RecAt.keep k.srv.at_ (fun j hj => cell _ ?_) (fun j _ => froz _)) (fun x e hx => ?_), fun x hx => by have := k.low x hx; omega⟩
    · have hl : (ssCells m.S).length = 76 := rfl
      have : j < 76 := by rw [← hl]; exact hj
      omega
    · obtain ⟨a1, a2, a3, a4⟩ := nst x (.inl ⟨hx, e⟩)
      exact far x a1 a2 a3
  · show w'.cell? ⟨b, 77, none⟩ = some fv'
    rw [hw']; exact World.cell?_setCell_same _ _ _ d77
  · refine (h.cli i hi).keep (by omega) (fun x hx => ?_)
    by_cases e : x = m.cb
    · rw [e]; exact hcb
    · obtain ⟨a1, a2, a3, a4⟩ := nst x (.inr (.inl ⟨i, hi, hx, e⟩))
      exact far x a1 a2 a3
  · refine hf.keep (by omega) (fun x hx => c2.block x ((hf.row.lt x hx).2) (fvb x hx).1) (fun y hy x hx => c2.block x (hf.low y hy x hx) (hvs y hy x hx).1)
  · have ho' : x = b ∨ x = m.cb ∨ fv'.ownBlock = some x := ho
    rcases hx with hx | hx | ⟨y, hy, hx⟩
    · obtain ⟨a1, a2, a3, a4⟩ := nst x (.inl hx)
      rcases ho' with e | e | e
      · exact a3 e
      · exact a4 e
      · rcases hv x e with k | k
        · exact a2 k
        · omega
    · obtain ⟨a1, a2, a3, a4⟩ := nst x (.inr (.inl hx))
      rcases ho' with e | e | e
      · exact a3 e
      · exact a4 e
      · rcases hv x e with k | k
        · exact a2 k
        · omega
    · rcases ho' with e | e | e
      · exact (hvs y hy x hx).1 e
      · exact (hvs y hy x hx).2 e
      · exact hf.apart y hy x hx e
  · exact (hc.mono (S' := SesOwn b m) (fun x e _ => .inr (.inr e))).trans c2 (fun x e _ => .inl e)
  · have hx' : x = b ∨ x = m.cb ∨ fv'.ownBlock = some x := hx
    rcases hx' with e | e | e
    · exact .inl (.inl e)
    · exact .inl (.inr (.inl e))
    · exact (hv x e).imp (fun k => .inr (.inr k)) id
  · rcases hx with hx | hx | hx | hx
    · have hx' : x = b ∨ x = m.cb ∨ fv'.ownBlock = some x := hx
      rcases hx' with e | e | e
      · exact .inl (.inl (.inl e))
      · exact .inl (.inl (.inr (.inl e)))
      · rcases hv x e with k | k
        · exact .inl (.inl (.inr (.inr k)))
        · exact .inr (.inl k)
    · exact .inl (.inr (.inl hx))
    · exact .inl (.inr (.inr (.inl hx)))
    · exact .inr (.inr hx)
end

theorem FlAt.snoc {w w' : World} {v v' : Value} {vs : List Value} {ps : List Pk} (h : FlAt w v vs ps) {p : Pk} {y : Value} (hy : BytesAt w y p.2.2) (hlow : ∀ g, y.ownBlock = some g → g < w.heap.size ∧ v.ownBlock ≠ some g)
    (hr : w'.ownsRow 0 49 3 v' (ps.length + 1) (packV ps vs ++ [.int .i64 p.1, .int .i64 p.2.1, y])) (hc : Chg (fun x => v.ownBlock = some x) w w') (hv : ∀ x, v'.ownBlock = some x → v.ownBlock = some x ∨ w.heap.size ≤ x) : FlAt w' v' (vs ++ [y]) (ps ++ [p]) := by
  have z := hc.size
  have ap : ∀ u ∈ vs ++ [y], ∀ g, u.ownBlock = some g → g < w.heap.size ∧ v.ownBlock ≠ some g := fun u hu g hg => by
    rcases List.mem_append.1 hu with hu | hu
    · exact ⟨h.low u hu g hg, h.apart u hu g hg⟩
    · rw [List.mem_singleton.1 hu] at hg; exact hlow g hg
  have each0 : ∀ (i : Nat) (x : Value) (q : Pk), (vs ++ [y])[i]? = some x → (ps ++ [p])[i]? = some q → BytesAt w x q.2.2 := fun i x q hx hq => by
    by_cases hi : i < ps.length
    · rw [List.getElem?_append_left (by rw [h.len]; exact hi)] at hx
      rw [List.getElem?_append_left hi] at hq
      exact h.each i x q hx hq
    · rw [List.getElem?_append_right (by rw [h.len]; omega), h.len] at hx
      rw [List.getElem?_append_right (by omega)] at hq
      have e : i - ps.length = 0 := by
        rcases Nat.eq_zero_or_pos (i - ps.length) with e | e
        · exact e
        · rw [List.getElem?_eq_none (by simp; omega)] at hq; cases hq
      rw [e] at hx hq
      simp at hx hq
      subst hx; subst hq
      exact hy
  refine ⟨by rw [List.length_append, List.length_append, h.len]; rfl, ?_, fun i x q hx hq => ?_, fun u hu g hg => Nat.lt_of_lt_of_le (ap u hu g hg).1 z, fun u hu g hg e => ?_⟩
  · rw [packV_snoc ps vs p y h.len, List.length_append]; exact hr
  · exact (each0 i x q hx hq).keepS z (fun g hg => hc.block g (ap x (List.mem_of_getElem? hx) g hg).1 (ap x (List.mem_of_getElem? hx) g hg).2)
  · have a := ap u hu g hg
    rcases hv g e with k | k
    · exact a.2 k
    · omega

end Go.Proofs.YtchideljndagjabGreat

namespace Go.Proofs.YtchideljndagjabGreat
open Go.ChangeShapes Go.WideShapes Go.ChangeAt Go.RowKit
set_option linter.unusedVariables false

theorem isClient_calls (b n : Nat) (C : Srv.Cf) (cl : Nat → Cli.Cl) (s : Sn) (m : SM) (u : Int) (w : World) (h : SesAt w b n C cl s m) :
    Calls Tryz.prog 75 #[.pointer (some ⟨b, 0, none⟩), .int .i64 u] w fun e w' => e = .returned (.bool (decide (1 ≤ u ∧ u ≤ (n : Int)))) ∧ w' = w := by
  have c76 := h.c76
  have hb := h.blt
  clear h
  obtain ⟨bb, hbb⟩ : ∃ bb, bb = decide (1 ≤ u ∧ u ≤ (n : Int)) := ⟨_, rfl⟩
  rw [← hbb]
  by_cases h1 : 1 ≤ u
  · by_cases h2 : u ≤ (n : Int)
    · have H := hideG (show bb = true from hbb.trans (decide_eq_true ⟨h1, h2⟩))
      clear hbb
      go_enter Tryz.func75, Tryz.ntmps75
      go_wp2_with fail
      go_ret
      exact ⟨by rw [H.out]; rfl, rfl⟩
    · have H := hideG (show bb = false from hbb.trans (decide_eq_false (fun q => h2 q.2)))
      clear hbb
      go_enter Tryz.func75, Tryz.ntmps75
      go_wp2_with fail
      go_ret
      exact ⟨by rw [H.out]; rfl, rfl⟩
  · have H := hideG (show bb = false from hbb.trans (decide_eq_false (fun q => h1 q.1)))
    clear hbb
    go_enter Tryz.func75, Tryz.ntmps75
    go_wp2_with fail
    go_ret
    exact ⟨by rw [H.out]; rfl, rfl⟩

theorem isInFlight_calls (b n : Nat) (C : Srv.Cf) (cl : Nat → Cli.Cl) (s : Sn) (m : SM) (u : Int) (w : World) (h : SesAt w b n C cl s m) :
    Calls Tryz.prog 130 #[.pointer (some ⟨b, 0, none⟩), .int .i64 u] w fun e w' => e = .returned (.bool (decide (0 ≤ u ∧ u < (s.fl.length : Int)))) ∧ w' = w := by
  have c77 := h.c77
  have hb := h.blt
  obtain ⟨a, c, hv, -⟩ := h.fl.view
  rw [hv] at c77
  clear h hv
  generalize s.fl.length = k at *
  obtain ⟨bb, hbb⟩ : ∃ bb, bb = decide (0 ≤ u ∧ u < (k : Int)) := ⟨_, rfl⟩
  rw [← hbb]
  by_cases h1 : 0 ≤ u
  · by_cases h2 : u < (k : Int)
    · have H := hideG (show bb = true from hbb.trans (decide_eq_true ⟨h1, h2⟩))
      clear hbb
      go_enter Tryz.func130, Tryz.ntmps130
      go_wp2_with fail
      go_ret
      exact ⟨by rw [H.out]; rfl, rfl⟩
    · have H := hideG (show bb = false from hbb.trans (decide_eq_false (fun q => h2 q.2)))
      clear hbb
      go_enter Tryz.func130, Tryz.ntmps130
      go_wp2_with fail
      go_ret
      exact ⟨by rw [H.out]; rfl, rfl⟩
  · have H := hideG (show bb = false from hbb.trans (decide_eq_false (fun q => h1 q.1)))
    clear hbb
    go_enter Tryz.func130, Tryz.ntmps130
    go_wp2_with fail
    go_ret
    exact ⟨by rw [H.out]; rfl, rfl⟩

/-- What a parcel more leaves: its bytes may lie anywhere outside. -/
structure SesSent (w w' : World) (b n : Nat) (C : Srv.Cf) (cl : Nat → Cli.Cl) (s' : Sn) (m m' : SM) (y : Value) : Prop where
  ses : SesAt w' b n C cl s' m'
  chg : Chg (SesOwn b m) w w'
  own : ∀ x, SesOwn b m' x → SesOwn b m x ∨ w.heap.size ≤ x
  foot : ∀ x, SesFoot b n m' x → SesFoot b n m x ∨ w.heap.size ≤ x ∨ y.ownBlock = some x

/-- The flight with a parcel more, behind the append and the store. -/
theorem SesAt.sent {w W w2 w3 : World} {b n g cap : Nat} {C : Srv.Cf} {cl : Nat → Cli.Cl} {s : Sn} {m : SM} (h : SesAt w b n C cl s m) {p : Pk} {y : Value} (hy : BytesAt w y p.2.2) (hlow : ∀ x, y.ownBlock = some x → x < w.heap.size ∧ ¬ SesOwn b m x) (hW : Below w.heap.size w W)
    (hr : w2.ownsRow 0 49 3 (.slice (some ⟨g, 0, none⟩) (s.fl.length + 1) cap) (s.fl.length + 1) (packV s.fl m.vs ++ [.int .i64 p.1, .int .i64 p.2.1, y])) (hgr : W.grownBy w2 m.fv.ownBlock) (hat : m.fv.ownBlock = some g ∨ g = W.heap.size) (hw3 : w3 = w2.setCell ⟨b, 77, none⟩ (.slice (some ⟨g, 0, none⟩) (s.fl.length + 1) cap)) :
    ∃ m', SesSent w w3 b n C cl { s with fl := s.fl ++ [p] } m m' y := by
  have zW := hW.size
  have hv : ∀ x, (Value.slice (some ⟨g, 0, none⟩) (s.fl.length + 1) cap).ownBlock = some x → m.fv.ownBlock = some x ∨ w.heap.size ≤ x := fun x hx => by
    have e : x = g := by simpa [Value.ownBlock] using hx.symm
    subst e
    rcases hat with k | k
    · exact .inl k
    · exact .inr (by omega)
  have hc : Chg (fun x => m.fv.ownBlock = some x) w w2 := (Chg.of_below hW).trans (Chg.grown hgr) (fun x e _ => e)
  have hf := h.fl.snoc (p := p) hy (fun x hx => ⟨(hlow x hx).1, fun e => (hlow x hx).2 (.inr (.inr e))⟩) hr hc hv
  have R := h.turnF hc hf hw3 hv (fun u hu x hx => ?_)
  · obtain ⟨r1, r2, r3, r4⟩ := R
    refine ⟨_, r1, r2, r3, fun x hx => ?_⟩
    rcases r4 x hx with k | k | ⟨u, hu, k⟩
    · exact .inl k
    · exact .inr (.inl k)
    · rcases List.mem_append.1 hu with hu | hu
      · exact .inl (.inr (.inr (.inr ⟨u, hu, k⟩)))
      · rw [List.mem_singleton.1 hu] at k; exact .inr (.inr k)
  · rcases List.mem_append.1 hu with hu | hu
    · exact ⟨fun e => h.ap x (.inr (.inr ⟨u, hu, hx⟩)) (.inl e), fun e => h.ap x (.inr (.inr ⟨u, hu, hx⟩)) (.inr (.inl e))⟩
    · rw [List.mem_singleton.1 hu] at hx
      exact ⟨fun e => (hlow x hx).2 (.inl e), fun e => (hlow x hx).2 (.inr (.inl e))⟩

set_option maxHeartbeats 1000000 in
set_option maxRecDepth 100000 in
theorem send_calls (b n : Nat) (C : Srv.Cf) (cl : Nat → Cli.Cl) (s : Sn) (m : SM) (fr : Int) (y : Value) (zs : List Int) (w : World) (h : SesAt w b n C cl s m) (hy : BytesAt w y zs) (hlow : ∀ x, y.ownBlock = some x → x < w.heap.size ∧ ¬ SesOwn b m x) (hlen : s.fl.length ≤ 2000) :
    Calls Tryz.prog 128 #[.pointer (some ⟨b, 0, none⟩), .int .i64 fr, y] w fun e w' => e = .returned (.tuple #[]) ∧ ∃ m', SesSent w w' b n C cl { s with fl := s.fl ++ [(fr, 0, zs)] } m m' y := by
  have c77 := h.c77
  have f77 := h.f77
  have hb := h.blt
  obtain ⟨a, c, hv, -⟩ := h.fl.view
  obtain ⟨ay, cy, hyv, -⟩ := bytes_view hy
  have ROW := hideG h.fl.row
  have NB := hideG h.own.2.1
  have HS := hideG (fun (W w2 w3 : World) (g cap : Nat) hW hr hgr hat hw3 => h.sent (p := (fr, 0, zs)) (W := W) (w2 := w2) (w3 := w3) (g := g) (cap := cap) hy hlow hW hr hgr hat hw3)
  obtain ⟨i1, hi1, hy0, hy1, hy2⟩ := info_parts infoPk
  rw [hv] at c77 ROW HS NB
  rw [hyv] at HS ⊢
  clear h hy hlow hv hyv
  obtain ⟨k, hk⟩ : ∃ k, k = s.fl.length := ⟨_, rfl⟩
  obtain ⟨nz, hnz⟩ : ∃ nz, nz = zs.length := ⟨_, rfl⟩
  rw [← hk] at c77 ROW HS hlen NB
  rw [← hnz] at HS ⊢
  clear hk hnz
  go_enter Tryz.func128, Tryz.ntmps128
  go_wp2_with (at_builtin; refine wpList_append_lies _ rfl _ _ 41 rfl 0 49 i1 (.agg #[.int .i64 0, .int .i64 0, .slice none 0 0]) 3 40 Tryz.underlying41 hi1 hy0 hy1 hy2 rfl (by decide) _ _ _ rfl (ROW.out.alloc _) ⟨w.heap.size, 0, none⟩ 1 1 [.int .i64 fr, .int .i64 0, .slice ay nz cy] rfl rfl ?c1 ?c2 (by decide) ?c3 ?c4 (Nat.zero_le _) _ rfl ?_)
  case c2 => exact ⟨rfl, rfl, rfl⟩
  case c3 => unfold maxLen; omega
  case c4 => omega
  intro g cap w2 hr hgr hat hgl
  have hal : Below w.heap.size w (w.alloc (.cells #[.int .i64 fr, .int .i64 0, .slice ay nz cy] 49)) := (Below.refl _ _).alloc (Nat.le_refl _) _
  have d77 : w2.cell? ⟨b, 77, none⟩ = some (.slice a k c) := by
    rw [hgr.cell_far ⟨b, 77, none⟩ (by show b < _; simp; omega) (fun e => NB.out e.symm), hal.cell (p := ⟨b, 77, none⟩) hb]; exact c77
  have e77 : w2.frozen? ⟨b, 77, none⟩ = false := by
    rw [hgr.frozen_far ⟨b, 77, none⟩ (by show b < _; simp; omega) (fun e => NB.out e.symm), hal.frozen (p := ⟨b, 77, none⟩) hb]; exact f77
  have hb2 : b < w2.heap.size := by have := hgr.size; simp at this; omega
  obtain ⟨w3, hw3⟩ : ∃ w3, w3 = w2.setCell ⟨b, 77, none⟩ (.slice (some ⟨g, 0, none⟩) (k + 1) cap) := ⟨_, rfl⟩
  have FIN := hideG (HS.out _ w2 w3 g cap hal hr hgr (by simpa using hat) hw3)
  have HW3 := hideG hw3
  clear hr hgr hat hgl hal hw3 c77 f77
  go_wp2_with fail
  rw [← HW3.out]
  go_end0
  exact ⟨rfl, FIN.out⟩

end Go.Proofs.YtchideljndagjabGreat
