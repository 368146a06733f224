/- Lists of parcels in memory: a row of parcels of its own, the bytes of each in a row of its own. -/
import Derived.Test.YtchideljndagjabGreatPkSeAF
import Derived.Test.YtchideljndagjabGreatPkSeAG
import Derived.WalkSpells
import Derived.Test.YtchideljndagjabGreatPkSeAC
import Derived.Test.YtchideljndagjabGreatPkSeAA
import Derived.Test.YtchideljndagjabGreatPkSeAB
import Derived.Deep.CutRange
import Derived.BigQuiet
namespace Go.Proofs.YtchideljndagjabGreat
open Go.RowKit
set_option linter.unusedVariables false

/-- From, To, the bytes. -/
abbrev Pk := Int × Int × List Int
def packV : List Pk → List Value → List Value
  | p :: ps, v :: vs => .int .i64 p.1 :: .int .i64 p.2.1 :: v :: packV ps vs
  | _, _ => []
theorem packV_snoc : ∀ (ps : List Pk) (vs : List Value) (p : Pk) (v : Value), vs.length = ps.length → packV (ps ++ [p]) (vs ++ [v]) = packV ps vs ++ [.int .i64 p.1, .int .i64 p.2.1, v]
  | [], [], p, v, _ => rfl
  | q :: ps, x :: vs, p, v, h => by
    show _ :: _ :: _ :: packV (ps ++ [p]) (vs ++ [v]) = _
    rw [packV_snoc ps vs p v (by simpa using h)]; rfl
  | [], x :: vs, p, v, h => by simp at h
  | q :: ps, [], p, v, h => by simp at h
theorem packV_get : ∀ (ps : List Pk) (vs : List Value) (i : Nat) (p : Pk) (v : Value), ps[i]? = some p → vs[i]? = some v → (packV ps vs)[i * 3]? = some (.int .i64 p.1) ∧ (packV ps vs)[i * 3 + 1]? = some (.int .i64 p.2.1) ∧ (packV ps vs)[i * 3 + 2]? = some v
  | [], vs, i, p, v, h, _ => by simp at h
  | q :: ps, [], i, p, v, _, h => by simp at h
  | q :: ps, x :: vs, 0, p, v, h, k => by
    simp at h k; subst h; subst k; exact ⟨rfl, rfl, rfl⟩
  | q :: ps, x :: vs, i + 1, p, v, h, k => by
    have := packV_get ps vs i p v (by simpa using h) (by simpa using k)
    have e : ∀ j, (packV (q :: ps) (x :: vs))[(i + 1) * 3 + j]? = (packV ps vs)[i * 3 + j]? := fun j => by
      show (_ :: _ :: _ :: packV ps vs)[(i + 1) * 3 + j]? = _
      rw [show (i + 1) * 3 + j = i * 3 + j + 1 + 1 + 1 by omega]; rfl
    exact ⟨(e 0).trans this.1, (e 1).trans this.2.1, (e 2).trans this.2.2⟩

def bytesV (zs : List Int) : List Value := zs.map (Value.int .u8)
/-- Parcels, all of their own. -/
structure Packs (w : World) (B : Nat) (v : Value) (vs : List Value) (ps : List Pk) : Prop where
  len : vs.length = ps.length
  row : w.ownsRow B 49 3 v ps.length (packV ps vs)
  each : ∀ (i : Nat) (x : Value) (p : Pk), vs[i]? = some x → ps[i]? = some p → w.ownsRow B 5 1 x p.2.2.length (bytesV p.2.2)
  pw : ∀ (i j : Nat) (x y : Value), i < j → vs[i]? = some x → vs[j]? = some y → ∀ g, x.ownBlock = some g → y.ownBlock ≠ some g
theorem packs_nil (w : World) (B : Nat) : Packs w B (.slice none 0 0) [] [] := ⟨rfl, World.ownsRow_nil _ _ _ _, fun i x p h => by simp at h, fun i j x y _ h => by simp at h⟩
/-- The blocks of parcels. -/
def PkFoot (v : Value) (vs : List Value) (x : Nat) : Prop := v.ownBlock = some x ∨ ∃ y ∈ vs, y.ownBlock = some x
theorem Packs.chg {S : Nat → Prop} {w w' : World} {B : Nat} {v : Value} {vs : List Value} {ps : List Pk} (h : Packs w B v vs ps) (hc : Chg S w w') (hS : ∀ x, PkFoot v vs x → ¬ S x) : Packs w' B v vs ps :=
  ⟨h.len, ownsRow_chg h.row hc (fun b hb => hS b (.inl hb)), fun i x p h1 h2 => ownsRow_chg (h.each i x p h1 h2) hc (fun b hb => hS b (.inr ⟨x, List.mem_of_getElem? h1, hb⟩)), h.pw⟩
theorem Packs.below {w w' : World} {B : Nat} {v : Value} {vs : List Value} {ps : List Pk} (h : Packs w B v vs ps) (hb : Below w.heap.size w w') : Packs w' B v vs ps := h.chg (S := fun _ => False) (Chg.of_below hb) (fun _ _ h => h)
theorem Packs.low {w : World} {B : Nat} {v : Value} {vs : List Value} {ps : List Pk} (h : Packs w B v vs ps) : ∀ x, PkFoot v vs x → B ≤ x ∧ x < w.heap.size := by
  intro x hx
  rcases hx with hx | ⟨y, hy, hx⟩
  · exact h.row.lt x hx
  · obtain ⟨i, hi, e⟩ := List.getElem_of_mem hy
    exact (h.each i y (ps[i]'(by rw [← h.len]; exact hi)) (by rw [List.getElem?_eq_getElem hi, e]) (List.getElem?_eq_getElem _)).lt x hx
theorem Packs.base {w : World} {B B' : Nat} {v : Value} {vs : List Value} {ps : List Pk} (h : Packs w B v vs ps) (hb : B' ≤ B) : Packs w B' v vs ps :=
  ⟨h.len, ownsRow_base h.row hb, fun i x p h1 h2 => ownsRow_base (h.each i x p h1 h2) hb, h.pw⟩
/-- Rows of other types lie in other blocks. -/
theorem owns_type {w : World} {B B' : Nat} {e e' : TypeId} {m m' : Nat} {v v' : Value} {n n' : Nat} {xs xs' : List Value} (h : w.ownsRow B e m v n xs) (h' : w.ownsRow B' e' m' v' n' xs') (hne : e ≠ e') : ∀ x, v.ownBlock = some x → v'.ownBlock ≠ some x := by
  intro x hx hx'
  obtain ⟨_, h⟩ := h
  obtain ⟨_, h'⟩ := h'
  rcases h with ⟨rfl, _⟩ | ⟨g, cap, cur, rfl, _, h3, _⟩
  · cases hx
  rcases h' with ⟨rfl, _⟩ | ⟨g', cap', cur', rfl, _, h3', _⟩
  · cases hx'
  have e1 : g = x := Option.some.inj hx
  have e2 : g' = x := Option.some.inj hx'
  subst e1
  subst e2
  rw [h3] at h3'
  have := Option.some.inj h3'
  injection this with a b
  exact hne b
/-- One parcel more: its bytes were made last, the row has grown. -/
theorem Packs.snoc {w w' : World} {B : Nat} {v v' : Value} {vs : List Value} {ps : List Pk} {p : Pk} {vb : Value} (h : Packs w B v vs ps) (hb : w.ownsRow B 5 1 vb p.2.2.length (bytesV p.2.2)) (hnew : ∀ x, vb.ownBlock = some x → ∀ y ∈ vs, y.ownBlock ≠ some x)
    (hrow : w'.ownsRow B 49 3 v' (ps.length + 1) (packV ps vs ++ [.int .i64 p.1, .int .i64 p.2.1, vb])) (hg : Chg (fun x => v.ownBlock = some x) w w') : Packs w' B v' (vs ++ [vb]) (ps ++ [p]) := by
  have hT : (49 : TypeId) ≠ 5 := by decide
  refine ⟨by simp [h.len], ?_, ?_, ?_⟩
  · rw [packV_snoc ps vs p vb h.len, List.length_append]; exact hrow
  · intro i x q h1 h2
    by_cases hi : i < vs.length
    · rw [List.getElem?_append_left hi] at h1
      rw [List.getElem?_append_left (by rw [← h.len]; exact hi)] at h2
      have ho := h.each i x q h1 h2
      exact ownsRow_chg ho hg (fun b hb1 hb2 => owns_type h.row ho hT b hb2 hb1)
    · have ei : i = vs.length := by
        have := (List.getElem?_eq_some_iff.1 h1).1
        simp at this; omega
      subst ei
      rw [List.getElem?_append_right (Nat.le_refl _), Nat.sub_self] at h1
      rw [h.len, List.getElem?_append_right (Nat.le_refl _), Nat.sub_self] at h2
      simp at h1 h2
      subst h1; subst h2
      exact ownsRow_chg hb hg (fun b hb1 hb2 => owns_type h.row hb hT b hb2 hb1)
  · intro i j x y hij h1 h2 g hx hy
    have hj := (List.getElem?_eq_some_iff.1 h2).1
    simp at hj
    have hi : i < vs.length := by omega
    rw [List.getElem?_append_left hi] at h1
    by_cases hjl : j < vs.length
    · rw [List.getElem?_append_left hjl] at h2
      exact h.pw i j x y hij h1 h2 g hx hy
    · have ej : j = vs.length := by omega
      subst ej
      rw [List.getElem?_append_right (Nat.le_refl _), Nat.sub_self] at h2
      simp at h2
      subst h2
      exact hnew g hy x (List.mem_of_getElem? h1) hx

end Go.Proofs.YtchideljndagjabGreat

namespace Go.Proofs.YtchideljndagjabGreat
open Go.ChangeShapes Go.WideShapes Go.ChangeAt Go.RowKit
set_option linter.unusedVariables false

def rsetV (f : Nat → Bool) : Value := .agg (bl13 f).toArray
theorem size_b13 : (Tryz.prog.info? 36).map (·.size) = some 13 := by kernel_rfl
theorem size_item4 : (Tryz.prog.info? 147).map (·.size) = some 4 := by kernel_rfl

set_option maxHeartbeats 2000000 in
set_option maxRecDepth 100000 in
theorem rids_calls (k fr : Int) (v : Value) (l : List Frm.It) (w : World) (hl : ItemsAt w v l) (hr : Frm.riseB l = true) :
    Calls Tryz.prog 276 #[.agg #[.int .i64 k, .int .i64 fr, v]] w fun e w' => e = .returned (rsetV fun u : Nat => Cli.hasI l u) ∧ Below w.heap.size w w' := by
  obtain ⟨a, cap, rfl, l2, l3, _, hcl⟩ := items_view hl
  have HC := hideG hcl
  have HI := hideG (fun j (hj : j < l.length) => (Cli.rise_pair hr).2 (Frm.it l j) (by rw [Cli.it_get l j hj]; exact List.getElem_mem hj))
  have HUP := hideG (has_upd l)
  clear hl hr hcl
  obtain ⟨n, hn⟩ : ∃ n, n = l.length := ⟨_, rfl⟩
  rw [← hn] at l2 HC HI HUP ⊢
  have HTT := hideG (show l.take n = l by rw [hn, List.take_length])
  clear hn
  unfold rsetV
  go_enter Tryz.func276, Tryz.ntmps276
  go_wp2_with fail
  go_loopw [4] (fun i wr => ∃ j : Nat, j ≤ n ∧ i = .int .i64 j ∧ wr.cell? ⟨w.heap.size, 2, none⟩ = some (.slice a n cap) ∧ BoolsAt wr (w.heap.size + 2) 36 (fun v : Nat => Cli.hasI (l.take j) v) ∧ BoolsAt wr (w.heap.size + 1) 36 (fun _ => false) ∧ Below w.heap.size w wr) (fun i _ => n - (intOf i).toNat)
  case atStart =>
    refine ⟨0, Nat.zero_le _, rfl, ?_, ?_, ?_, (((Below.refl _ _).alloc (Nat.le_refl _) _).alloc (by simp) _).alloc (by simp; omega) _⟩
    · have k1 : Below (w.heap.size + 1) (w.alloc (.cells #[.int .i64 k, .int .i64 fr, .slice a n cap] 65)) (((w.alloc (.cells #[.int .i64 k, .int .i64 fr, .slice a n cap] 65)).alloc (.cells (bl13 fun _ => false).toArray 36)).alloc (.cells (bl13 fun _ => false).toArray 36)) := ((Below.refl _ _).alloc (by simp) _).alloc (by simp) _
      refine (k1.cell (p := ⟨w.heap.size, 2, none⟩) (by show w.heap.size < _; omega)).trans ?_
      simp
    · have e : (fun v : Nat => Cli.hasI (l.take 0) v) = fun _ => false := by funext v; simp [Cli.hasI]
      rw [e]
      have := heap_alloc2_new (w.alloc (.cells #[.int .i64 k, .int .i64 fr, .slice a n cap] 65)) (.cells (bl13 fun _ => false).toArray 36) (.cells (bl13 fun _ => false).toArray 36)
      simp only [World.size_alloc] at this
      exact this
    · have := heap_alloc2_old (w.alloc (.cells #[.int .i64 k, .int .i64 fr, .slice a n cap] 65)) (.cells (bl13 fun _ => false).toArray 36) (.cells (bl13 fun _ => false).toArray 36)
      simp only [World.size_alloc] at this
      exact this
  case round =>
    obtain ⟨j, hj, rfl, hc2, hbo, hze, hbel⟩ := hrel
    have HBO := hideG hbo
    have HZE := hideG hze
    have HB := hideG hbel
    have hsz := hbel.size
    have hs1 := hbo.lt
    clear hbo hbel hze
    by_cases hlt : j < n
    · obtain ⟨b', off, rfl, hb, hit⟩ := HC.out j hlt
      obtain ⟨d0, d1, d2, d3⟩ := hit.below hb HB.out
      obtain ⟨u, hu⟩ : ∃ u : Nat, (Frm.it l j).1 = (u : Int) := ⟨(Frm.it l j).1.toNat, by have := HI.out j hlt; omega⟩
      have hub := HI.out j hlt
      rw [hu] at hub d0
      have u13 : u < 13 := by omega
      have u13' : (u : Int) < 13 := by omega
      obtain ⟨ub1, ub2⟩ := hub
      have HU2 := hideG (HUP.out j hlt u hu)
      have z0 := HBO.out.cell u u13
      have zf := HBO.out.froz u
      have hne : (⟨w.heap.size + 2, u, none⟩ : Addr) ≠ ⟨w.heap.size, 2, none⟩ := by simp
      clear hit hu
      generalize (Frm.it l j).2.1 = xa at *
      generalize (Frm.it l j).2.2.1 = xb at *
      generalize (Frm.it l j).2.2.2 = xc at *
      have HC2 := hideG hc2
      go_wp2_with fail
      go_roundw
      case rel =>
        refine ⟨j + 1, by omega, by go_num, ?_, ?_, ?_, HB.out.setCell (p := ⟨w.heap.size + 2, u, none⟩) (by show w.heap.size ≤ w.heap.size + 2; omega) _⟩
        · rw [World.cell?_setCell_other _ _ _ _ hne]; exact HC2.out
        · rw [HU2.out]; exact HBO.out.set u u13 true
        · exact HZE.out.block (Below.heap_setCell _ _ _ _ (by simp))
      case measure => simp [intOf]; omega
    · have ej : j = n := by omega
      subst ej
      have HST := hideG (show BoolsAt wr (w.heap.size + 2) 36 (fun v : Nat => Cli.hasI l v) by have := HBO.out; rwa [HTT.out] at this)
      have RG := hideG HST.out.range
      have LX := hideG (bl13_length (fun v : Nat => Cli.hasI l v))
      have HON := hideG (all_oneCell_toArray (bl13_one (fun v : Nat => Cli.hasI l v)))
      have HTH := hideG (show wr.there (w.heap.size + 1) 0 (bl13 (fun v : Nat => Cli.hasI l v)).toArray.size from fun i hi => by
        rw [List.size_toArray, bl13_length] at hi
        exact ⟨by rw [Nat.zero_add, HZE.out.cell i hi]; rfl, by rw [Nat.zero_add]; exact HZE.out.froz i⟩)
      have HROW := hideG (show (wr.setCells (w.heap.size + 1) 0 (bl13 (fun v : Nat => Cli.hasI l v))).heap[w.heap.size + 1]? = some (.cells (bl13 (fun v : Nat => Cli.hasI l v)).toArray 36 (0, 0)) by
        have := heap_setCells (w.heap.size + 1) 36 (bl13 (fun v : Nat => Cli.hasI l v)) [] (bl13 fun _ => false) [] wr rfl (by rw [List.append_nil]; exact HZE.out)
        rw [List.append_nil] at this
        exact this)
      have BF := hideG (show Below w.heap.size w (wr.setCells (w.heap.size + 1) 0 (bl13 (fun v : Nat => Cli.hasI l v))) from below_setCells (by omega) _ _ _ HB.out)
      obtain ⟨CS, hCS⟩ : ∃ CS, CS = bl13 (fun v : Nat => Cli.hasI l v) := ⟨_, rfl⟩
      rw [← hCS] at RG LX HON HTH HROW BF
      have HCS := hideG hCS
      clear hCS
      have HSZ := hideG (show (Tryz.prog.info? 36).map (·.size) = some CS.toArray.size by rw [size_b13, List.size_toArray, LX.out])
      have HSL := hideG (show (Tryz.prog.info? 36).map (·.size) = some CS.length by rw [size_b13, LX.out])
      go_wp2_with (first | refine wpList_load_mid rfl 36 _ rfl (w.heap.size + 2) 0 rfl CS _ RG.out Tryz.underlying36 rfl HSL.out ?_ | refine wpList_store_mid rfl 36 _ _ rfl (w.heap.size + 1) 0 CS.toArray rfl rfl HTH.out HSZ.out HON.out ?_)
      refine bodyPost_ret (results_cell_row rfl _ _ (w.heap.size + 1) 36 CS.toArray (0, 0) _ rfl HROW.out Tryz.underlying36 rfl HSZ.out) rfl ?_
      exact ⟨by rw [HCS.out], BF.out⟩

set_option maxHeartbeats 2000000 in
set_option maxRecDepth 100000 in
theorem ritem_calls (k fr : Int) (v : Value) (l : List Frm.It) (u : Int) (w : World) (hl : ItemsAt w v l) :
    Calls Tryz.prog 274 #[.agg #[.int .i64 k, .int .i64 fr, v], .int .i64 u] w fun e w' => e = .returned (.agg #[.int .i64 (Cli.itemOf l u).1, .int .i64 (Cli.itemOf l u).2.1, .int .i64 (Cli.itemOf l u).2.2.1, .int .i64 (Cli.itemOf l u).2.2.2]) ∧ Below w.heap.size w w' := by
  obtain ⟨a, cap, rfl, l2, l3, _, hcl⟩ := items_view hl
  have HC := hideG hcl
  have HF := hideG (show ∀ j, (∀ i, i < j → (Frm.it l i).1 ≠ u) → j < l.length → (Frm.it l j).1 = u → Cli.itemOf l u = Frm.it l j from fun j hj hlt e => by
    unfold Cli.itemOf
    have hs : l = l.take j ++ (l[j] :: l.drop (j + 1)) := by rw [List.getElem_cons_drop, List.take_append_drop]
    have hnone : (l.take j).find? (fun x => decide (x.1 = u)) = none := by
      rw [List.find?_eq_none]
      intro x hx
      obtain ⟨i, hi, rfl⟩ := List.getElem_of_mem hx
      rw [List.length_take] at hi
      rw [List.getElem_take]
      have := hj i (by omega)
      rw [Cli.it_get l i (by omega)] at this
      simpa using this
    rw [Cli.it_get l j hlt] at e
    rw [Cli.it_get l j hlt]
    conv => lhs; rw [hs]
    rw [List.find?_append, hnone, List.find?_cons, decide_eq_true e]
    rfl)
  have HN := hideG (show (∀ i, i < l.length → (Frm.it l i).1 ≠ u) → Cli.itemOf l u = (0, 0, 0, 0) from fun h => Cli.itemOf_none (Cli.hasI_off.2 fun x hx => by
    obtain ⟨i, hi, rfl⟩ := List.getElem_of_mem hx
    have := h i hi
    rwa [Cli.it_get l i hi] at this))
  clear hl hcl
  generalize l.length = n at *
  obtain ⟨W0, hW0⟩ : ∃ W0, W0 = (w.alloc (.cells #[.int .i64 k, .int .i64 fr, .slice a n cap] 65)).alloc (.cells #[.int .i64 0, .int .i64 0, .int .i64 0, .int .i64 0] 147) := ⟨_, rfl⟩
  have B0 := hideG (show Below w.heap.size w W0 by rw [hW0]; exact ((Below.refl _ _).alloc (Nat.le_refl _) _).alloc (by simp) _)
  have x2 : W0.cell? ⟨w.heap.size, 2, none⟩ = some (.slice a n cap) := by rw [hW0]; simp
  have HROW0 := hideG (show W0.heap[w.heap.size + 1]? = some (.cells #[.int .i64 0, .int .i64 0, .int .i64 0, .int .i64 0] 147 (0, 0)) by rw [hW0]; exact heap_alloc2_new w _ _)
  have y : (W0.cell? ⟨w.heap.size + 1, 0, none⟩ = some (.int .i64 0) ∧ W0.cell? ⟨w.heap.size + 1, 1, none⟩ = some (.int .i64 0) ∧ W0.cell? ⟨w.heap.size + 1, 2, none⟩ = some (.int .i64 0) ∧ W0.cell? ⟨w.heap.size + 1, 3, none⟩ = some (.int .i64 0)) := by rw [hW0]; refine ⟨?_, ?_, ?_, ?_⟩ <;> simp
  have yf := fun i => frozen_of_row W0 (w.heap.size + 1) i _ _ HROW0.out
  obtain ⟨y0, y1, y2, y3⟩ := y
  have HW0 := hideG hW0
  clear hW0
  have HEND := hideG (fun (p q r s : Int) => (show (((((W0.setCell ⟨w.heap.size + 1, 0, none⟩ (.int .i64 p)).setCell ⟨w.heap.size + 1, 1, none⟩ (.int .i64 q)).setCell ⟨w.heap.size + 1, 2, none⟩ (.int .i64 r)).setCell ⟨w.heap.size + 1, 3, none⟩ (.int .i64 s)).heap[w.heap.size + 1]? = some (.cells #[.int .i64 p, .int .i64 q, .int .i64 r, .int .i64 s] 147 (0, 0))) ∧ Below w.heap.size w ((((W0.setCell ⟨w.heap.size + 1, 0, none⟩ (.int .i64 p)).setCell ⟨w.heap.size + 1, 1, none⟩ (.int .i64 q)).setCell ⟨w.heap.size + 1, 2, none⟩ (.int .i64 r)).setCell ⟨w.heap.size + 1, 3, none⟩ (.int .i64 s)) from
    ⟨heap_setCell_same _ _ 3 #[.int .i64 p, .int .i64 q, .int .i64 r, .int .i64 0] _ _ (heap_setCell_same _ _ 2 #[.int .i64 p, .int .i64 q, .int .i64 0, .int .i64 0] _ _ (heap_setCell_same _ _ 1 #[.int .i64 p, .int .i64 0, .int .i64 0, .int .i64 0] _ _ (heap_setCell_same _ _ 0 _ _ _ HROW0.out))),
     (((B0.out.setCell (p := ⟨w.heap.size + 1, 0, none⟩) (Nat.le_succ _) _).setCell (p := ⟨w.heap.size + 1, 1, none⟩) (Nat.le_succ _) _).setCell (p := ⟨w.heap.size + 1, 2, none⟩) (Nat.le_succ _) _).setCell (p := ⟨w.heap.size + 1, 3, none⟩) (Nat.le_succ _) _⟩))
  go_enter Tryz.func274, Tryz.ntmps274
  go_wp2_with fail
  rw [← HW0.out]
  go_loop [5] (fun i => ∃ j : Nat, j ≤ n ∧ i = .int .i64 j ∧ ∀ i', i' < j → (Frm.it l i').1 ≠ u) (fun i => n - (intOf i).toNat)
  case atStart => exact ⟨0, Nat.zero_le _, rfl, fun i h => by omega⟩
  case round =>
    obtain ⟨j, hj, rfl, hall⟩ := hrel
    have HA := hideG hall
    clear hall
    by_cases hlt : j < n
    · obtain ⟨b', off, rfl, hb, hit⟩ := HC.out j hlt
      obtain ⟨d0, d1, d2, d3⟩ := hit.below hb B0.out
      clear hit
      have HFJ := hideG (HF.out j HA.out hlt)
      obtain ⟨z0, z1, z2, z3, hz⟩ : ∃ z0 z1 z2 z3, Frm.it l j = (z0, z1, z2, z3) := ⟨_, _, _, _, rfl⟩
      rw [hz] at d0 d1 d2 d3 HFJ
      have HZ := hideG hz
      clear hz
      by_cases q : z0 = u
      · have q' : (z0 == u) = true := by simpa using q
        have HI := hideG (HFJ.out q)
        have HQ := hideG q
        clear q
        obtain ⟨E1, E2⟩ := HEND.out z0 z1 z2 z3
        obtain ⟨W2, hW2⟩ : ∃ W2, W2 = ((((W0.setCell ⟨w.heap.size + 1, 0, none⟩ (.int .i64 z0)).setCell ⟨w.heap.size + 1, 1, none⟩ (.int .i64 z1)).setCell ⟨w.heap.size + 1, 2, none⟩ (.int .i64 z2)).setCell ⟨w.heap.size + 1, 3, none⟩ (.int .i64 z3)) := ⟨_, rfl⟩
        rw [← hW2] at E1 E2
        have HE1 := hideG E1
        have HE2 := hideG E2
        have HW2 := hideG hW2
        clear E1 E2 hW2
        go_wp2_with fail
        rw [← HW2.out]
        refine bodyPost_ret (results_cell_row rfl _ _ (w.heap.size + 1) 147 #[.int .i64 z0, .int .i64 z1, .int .i64 z2, .int .i64 z3] (0, 0) _ rfl HE1.out Tryz.underlying147 rfl size_item4) rfl ?_
        exact ⟨by rw [HI.out], HE2.out⟩
      · have q' : (z0 == u) = false := by simpa using q
        have HQ := hideG q
        clear q
        go_wp2_with fail
        go_round
        case rel => exact ⟨j + 1, by omega, by go_num, fun i' h => by
          by_cases e : i' = j
          · subst e; rw [HZ.out]; exact HQ.out
          · exact HA.out i' (by omega)⟩
        case measure => simp [intOf]; omega
    · have ej : j = n := by omega
      subst ej
      have HI := hideG (HN.out HA.out)
      obtain ⟨E1, E2⟩ := HEND.out 0 0 0 0
      obtain ⟨W2, hW2⟩ : ∃ W2, W2 = ((((W0.setCell ⟨w.heap.size + 1, 0, none⟩ (.int .i64 0)).setCell ⟨w.heap.size + 1, 1, none⟩ (.int .i64 0)).setCell ⟨w.heap.size + 1, 2, none⟩ (.int .i64 0)).setCell ⟨w.heap.size + 1, 3, none⟩ (.int .i64 0)) := ⟨_, rfl⟩
      rw [← hW2] at E1 E2
      have HE1 := hideG E1
      have HE2 := hideG E2
      have HW2 := hideG hW2
      clear E1 E2 hW2
      go_wp2_with fail
      rw [← HW2.out]
      refine bodyPost_ret (results_cell_row rfl _ _ (w.heap.size + 1) 147 #[.int .i64 0, .int .i64 0, .int .i64 0, .int .i64 0] (0, 0) _ rfl HE1.out Tryz.underlying147 rfl size_item4) rfl ?_
      exact ⟨by rw [HI.out], HE2.out⟩

end Go.Proofs.YtchideljndagjabGreat

namespace Go.Proofs.YtchideljndagjabGreat
open Go.ChangeShapes Go.WideShapes Go.ChangeAt Go.RowKit
set_option linter.unusedVariables false

/-- veilref's client: what lies in its block. -/
structure RS where
  c : Cli.Cl
  D : Int
  vi : Value
  vm : Value
  vs : Value
  hv : Value
  hi : Value
  ph : Int
  told : Value

def rcCells (s : RS) : List Value := [.int .i64 s.c.N, .int .i64 s.c.T, .int .i64 s.c.M, .int .i64 s.D, .int .i64 s.c.id, s.vi, .int .i64 s.c.ch, .int .i64 s.c.ms, .int .i64 s.c.sd, s.vm, s.vs, s.hv, s.hi, .int .i64 s.ph, s.told]
def RAt (w : World) (b : Nat) (s : RS) : Prop := w.heap[b]? = some (.cells (rcCells s).toArray 178 (0, 0))

theorem RAt.lt {w : World} {b : Nat} {s : RS} (h : RAt w b s) : b < w.heap.size := by
  by_cases hb : b < w.heap.size
  · exact hb
  · unfold RAt at h; rw [Array.getElem?_eq_none (by omega)] at h; cases h
theorem RAt.cell {w : World} {b : Nat} {s : RS} (h : RAt w b s) (i : Nat) : w.cell? ⟨b, i, none⟩ = (rcCells s)[i]? := by
  rw [cell_of_row w b i _ _ (0, 0) h]; simp
theorem RAt.froz {w : World} {b : Nat} {s : RS} (h : RAt w b s) (i : Nat) : w.frozen? ⟨b, i, none⟩ = false := frozen_of_row w b i _ _ h
theorem RAt.block {w w' : World} {b : Nat} {s : RS} (h : RAt w b s) (e : w'.heap[b]? = w.heap[b]?) : RAt w' b s := e.trans h
theorem RAt.below {w w' : World} {b : Nat} {s : RS} (h : RAt w b s) (hb : Below w.heap.size w w') : RAt w' b s := h.block (hb.block b h.lt)
theorem RAt.nums {w : World} {b : Nat} {s : RS} (h : RAt w b s) : w.cell? ⟨b, 0, none⟩ = some (.int .i64 s.c.N) ∧ w.cell? ⟨b, 1, none⟩ = some (.int .i64 s.c.T) ∧ w.cell? ⟨b, 2, none⟩ = some (.int .i64 s.c.M) ∧ w.cell? ⟨b, 4, none⟩ = some (.int .i64 s.c.id) ∧
    w.cell? ⟨b, 6, none⟩ = some (.int .i64 s.c.ch) ∧ w.cell? ⟨b, 7, none⟩ = some (.int .i64 s.c.ms) ∧ w.cell? ⟨b, 8, none⟩ = some (.int .i64 s.c.sd) :=
  ⟨h.cell 0, h.cell 1, h.cell 2, h.cell 4, h.cell 6, h.cell 7, h.cell 8⟩
theorem RAt.vals {w : World} {b : Nat} {s : RS} (h : RAt w b s) : w.cell? ⟨b, 5, none⟩ = some s.vi ∧ w.cell? ⟨b, 9, none⟩ = some s.vm ∧ w.cell? ⟨b, 10, none⟩ = some s.vs ∧ w.cell? ⟨b, 11, none⟩ = some s.hv ∧ w.cell? ⟨b, 13, none⟩ = some (.int .i64 s.ph) :=
  ⟨h.cell 5, h.cell 9, h.cell 10, h.cell 11, h.cell 13⟩

theorem tmod_word (v : Int) : v.tmod 4294967296 = if 0 ≤ v then v % 4294967296 else -((-v) % 4294967296) := by
  by_cases h : 0 ≤ v
  · rw [if_pos h, Int.tmod_eq_emod_of_nonneg h]
  · rw [if_neg h, ← Int.tmod_eq_emod_of_nonneg (show 0 ≤ -v by omega), Int.neg_tmod, Int.neg_neg]

set_option maxHeartbeats 400000 in
theorem rmodulo_calls (v : Int) (w : World) (h1 : -4611686018427387904 ≤ v) (h2 : v ≤ 4611686018427387904) :
    Calls Tryz.prog 279 #[.int .i64 v] w fun e w' => e = .returned (.int .i64 (v % 4294967296)) ∧ w' = w := by
  have ht := tmod_word v
  by_cases q : v.tmod 4294967296 < 0
  · have HQ := hideG (show v.tmod 4294967296 + 4294967296 = v % 4294967296 by split at ht <;> omega)
    have b1 : -4294967296 < v.tmod 4294967296 := by split at ht <;> omega
    clear ht
    go_enter Tryz.func279, Tryz.ntmps279
    go_wp2_with fail
    go_ret
    exact ⟨by rw [← HQ.out]; go_num, rfl⟩
  · have HQ := hideG (show v.tmod 4294967296 = v % 4294967296 by split at ht <;> omega)
    clear ht
    go_enter Tryz.func279, Tryz.ntmps279
    go_wp2_with fail
    go_ret
    exact ⟨by rw [← HQ.out]; go_num, rfl⟩

def frH (h : List Cli.Fr) (j : Nat) : Cli.Fr := h.getD j (0, 0, [])
def FramesAt (w : World) (v : Value) (h : List Cli.Fr) : Prop :=
  ∃ (a : Option Addr) (cap : Nat), v = .slice a h.length cap ∧ h.length ≤ cap ∧ cap ≤ 9223372036854775807 ∧
    ∀ j, j < h.length → ∃ b off vj, a = some ⟨b, off, none⟩ ∧ b < w.heap.size ∧ w.cell? ⟨b, off + j * 3, none⟩ = some (.int .i64 (frH h j).1) ∧ w.cell? ⟨b, off + j * 3 + 1, none⟩ = some (.int .i64 (frH h j).2.1) ∧ w.cell? ⟨b, off + j * 3 + 2, none⟩ = some vj ∧ ItemsAt w vj (frH h j).2.2

theorem FramesAt.below {w w' : World} {v : Value} {h : List Cli.Fr} (hf : FramesAt w v h) (hb : Below w.heap.size w w') : FramesAt w' v h := by
  obtain ⟨a, cap, h1, h2, h3, h4⟩ := hf
  refine ⟨a, cap, h1, h2, h3, fun j hj => ?_⟩
  obtain ⟨b, off, vj, e1, e2, e3, e4, e5, e6⟩ := h4 j hj
  exact ⟨b, off, vj, e1, Nat.lt_of_lt_of_le e2 hb.size, (hb.cell (p := ⟨b, off + j * 3, none⟩) e2).trans e3, (hb.cell (p := ⟨b, off + j * 3 + 1, none⟩) e2).trans e4, (hb.cell (p := ⟨b, off + j * 3 + 2, none⟩) e2).trans e5, e6.below hb⟩

end Go.Proofs.YtchideljndagjabGreat

namespace Go.Proofs.YtchideljndagjabGreat
open Go.ChangeShapes Go.WideShapes Go.ChangeAt Go.RowKit
set_option linter.unusedVariables false

end Go.Proofs.YtchideljndagjabGreat

namespace Go.Proofs.YtchideljndagjabGreat
open Go.ChangeShapes Go.WideShapes Go.ChangeAt Go.RowKit
set_option linter.unusedVariables false

theorem list_view {w : World} {v : Value} {zs : List Int} (h : ListAt w v zs) : ∃ (a : Option Addr) (cap : Nat), v = .slice a zs.length cap ∧ zs.length ≤ cap ∧ cap ≤ 9223372036854775807 ∧
    ∀ k, k < zs.length → ∃ b off, a = some ⟨b, off, none⟩ ∧ w.cell? ⟨b, off + k, none⟩ = some (.int .i64 (zs.getD k 0)) := by
  obtain ⟨a, cap, h1, h2, h3, h4, h5⟩ := h
  refine ⟨a, cap, h1, h2, by unfold maxLen at h3; omega, fun k hk => ?_⟩
  rcases h5 with h5 | ⟨b, off, e, _, hc⟩
  · rw [h5] at hk; simp at hk
  · exact ⟨b, off, e, hc k hk⟩

theorem infoSp : (Tryz.prog.info? 3).map (fun i => (i.zero, i.size, i.bytes)) = some (some (.int .i64 0), 1, 8) := by kernel_rfl

end Go.Proofs.YtchideljndagjabGreat

namespace Go.Proofs.YtchideljndagjabGreat
open Go.ChangeShapes Go.WideShapes Go.ChangeAt Go.RowKit
set_option linter.unusedVariables false

set_option maxHeartbeats 400000 in
theorem relements_list (v : Value) (zs : List Int) (w : World) (h : ListAt w v zs) :
    Calls Tryz.prog 211 #[v] w fun e w' => e = .returned (.bool (zs.all Num.elB)) ∧ w' = w := by
  obtain ⟨a, cap, rfl, h2, h3, hc⟩ := list_view h
  have HC := hideG hc
  clear hc h
  generalize hn : zs.length = n at *
  have HN := hideG hn
  clear hn
  go_enter Tryz.func211, Tryz.ntmps211
  go_wp2_with fail
  go_loop [3] (fun i => ∃ k : Nat, k ≤ n ∧ i = .int .i64 k ∧ (zs.take k).all Num.elB = true) (fun i => n - (intOf i).toNat)
  case atStart => exact ⟨0, Nat.zero_le _, rfl, rfl⟩
  case round =>
    obtain ⟨k, hk, rfl, hall⟩ := hrel
    have HA := hideG hall
    clear hall
    by_cases hlt : k < n
    · obtain ⟨b, off, rfl, c0⟩ := HC.out k hlt
      obtain ⟨z, hz⟩ : ∃ z, z = zs.getD k 0 := ⟨_, rfl⟩
      rw [← hz] at c0
      have HZ := hideG hz
      clear hz
      by_cases h1 : z < 0
      · go_wp2_with fail
        go_ret
        exact ⟨congrArg (fun x => Ending.returned (.bool x)) (Num.all_off zs k (by rw [HN.out]; exact hlt) (by rw [← HZ.out]; omega)).symm, rfl⟩
      · by_cases h2 : z < 2305843009213693951
        · go_wp2_with fail
          go_round
          case rel => exact ⟨k + 1, by omega, by go_num, Num.all_on zs k (by rw [HN.out]; exact hlt) HA.out (by rw [← HZ.out]; omega)⟩
          case measure => simp [intOf]; omega
        · go_wp2_with fail
          go_ret
          exact ⟨congrArg (fun x => Ending.returned (.bool x)) (Num.all_off zs k (by rw [HN.out]; exact hlt) (by rw [← HZ.out]; omega)).symm, rfl⟩
    · go_wp2_with fail
      go_ret
      exact ⟨congrArg (fun x => Ending.returned (.bool x)) (Num.all_end zs k (by rw [HN.out]; omega) HA.out).symm, rfl⟩

end Go.Proofs.YtchideljndagjabGreat

namespace Go.Proofs.YtchideljndagjabGreat
open Go.ChangeShapes Go.WideShapes Go.ChangeAt Go.RowKit
set_option linter.unusedVariables false

end Go.Proofs.YtchideljndagjabGreat

namespace Go.Proofs.YtchideljndagjabGreat
open Go.ChangeShapes Go.WideShapes Go.ChangeAt Go.RowKit
set_option linter.unusedVariables false

end Go.Proofs.YtchideljndagjabGreat

namespace Go.Proofs.YtchideljndagjabGreat
open Go.ChangeShapes Go.WideShapes Go.ChangeAt Go.RowKit
set_option linter.unusedVariables false

/-- Three cells in a block of their own. -/
def FrAt (w : World) (b : Nat) (k fr : Int) (v : Value) : Prop := w.cell? ⟨b, 0, none⟩ = some (.int .i64 k) ∧ w.cell? ⟨b, 1, none⟩ = some (.int .i64 fr) ∧ w.cell? ⟨b, 2, none⟩ = some v
theorem FrAt.below {w w' : World} {b B : Nat} {k fr : Int} {v : Value} (h : FrAt w b k fr v) (hb : Below B w w') (hB : b < B) : FrAt w' b k fr v :=
  ⟨(hb.cell (p := ⟨b, 0, none⟩) hB).trans h.1, (hb.cell (p := ⟨b, 1, none⟩) hB).trans h.2.1, (hb.cell (p := ⟨b, 2, none⟩) hB).trans h.2.2⟩

theorem FrAt.new (w : World) (k fr : Int) (v : Value) : FrAt (w.alloc (.cells #[.int .i64 k, .int .i64 fr, v] 65)) w.heap.size k fr v := by refine ⟨?_, ?_, ?_⟩ <;> simp
theorem FrAt.alloc {w : World} {b : Nat} {k fr : Int} {v : Value} (h : FrAt w b k fr v) (hb : b < w.heap.size) (ob : Obj) : FrAt (w.alloc ob) b k fr v := h.below ((Below.refl _ _).alloc (Nat.le_refl _) ob) hb
end Go.Proofs.YtchideljndagjabGreat

namespace Go.Proofs.YtchideljndagjabGreat
open Go.ChangeShapes Go.WideShapes Go.ChangeAt Go.RowKit
set_option linter.unusedVariables false

end Go.Proofs.YtchideljndagjabGreat

namespace Go.Proofs.YtchideljndagjabGreat
open Go.ChangeShapes Go.WideShapes Go.ChangeAt Go.RowKit
set_option linter.unusedVariables false

end Go.Proofs.YtchideljndagjabGreat

namespace Go.Proofs.YtchideljndagjabGreat
open Go.ChangeShapes Go.WideShapes Go.ChangeAt Go.RowKit
set_option linter.unusedVariables false

/-- The numbers of an item that stand in the bytes, in a list of the call's own. -/
theorem written_calls (k : Int) (x : Frm.It) (w : World) :
    Calls Tryz.prog 168 #[.int .i64 k, .agg #[.int .i64 x.1, .int .i64 x.2.1, .int .i64 x.2.2.1, .int .i64 x.2.2.2]] w fun e w' => ∃ a, e = .returned (.slice a (Frm.wid k) (Frm.wid k)) ∧
      (0 < Frm.wid k → ∃ g, a = some ⟨g, 0, none⟩ ∧ w.heap.size ≤ g ∧ g < w'.heap.size ∧ ∀ i, i < Frm.wid k → w'.cell? ⟨g, i, none⟩ = some (.int .i64 ((Frm.nums k x).getD i 0))) ∧ Below w.heap.size w w' := by
  by_cases k1 : k = 1
  · subst k1
    have HW := hideG (show Frm.wid 1 = 2 from rfl)
    have HN := hideG (show Frm.nums 1 x = [x.2.1, x.2.2.1] from rfl)
    go_enter Tryz.func168, Tryz.ntmps168
    go_wp2_with fail
    go_ret
    rw [HN.out, HW.out]
    refine ⟨_, rfl, fun _ => ⟨_, rfl, by simp, by simp, fun i hi => ?_⟩, ((Below.refl _ _).alloc (Nat.le_refl _) _).alloc (by simp) _⟩
    rcases (show i = 0 ∨ i = 1 by omega) with rfl | rfl <;> simp
  by_cases k2 : k = 2
  · subst k2
    have HW := hideG (show Frm.wid 2 = 2 from rfl)
    have HN := hideG (show Frm.nums 2 x = [x.2.1, x.2.2.1] from rfl)
    go_enter Tryz.func168, Tryz.ntmps168
    go_wp2_with fail
    go_ret
    rw [HN.out, HW.out]
    refine ⟨_, rfl, fun _ => ⟨_, rfl, by simp, by simp, fun i hi => ?_⟩, ((Below.refl _ _).alloc (Nat.le_refl _) _).alloc (by simp) _⟩
    rcases (show i = 0 ∨ i = 1 by omega) with rfl | rfl <;> simp
  by_cases k7 : k = 7
  · subst k7
    have HW := hideG (show Frm.wid 7 = 2 from rfl)
    have HN := hideG (show Frm.nums 7 x = [x.2.1, x.2.2.1] from rfl)
    go_enter Tryz.func168, Tryz.ntmps168
    go_wp2_with fail
    go_ret
    rw [HN.out, HW.out]
    refine ⟨_, rfl, fun _ => ⟨_, rfl, by simp, by simp, fun i hi => ?_⟩, ((Below.refl _ _).alloc (Nat.le_refl _) _).alloc (by simp) _⟩
    rcases (show i = 0 ∨ i = 1 by omega) with rfl | rfl <;> simp
  by_cases k3 : k = 3
  · subst k3
    have HW := hideG (show Frm.wid 3 = 3 from rfl)
    have HN := hideG (show Frm.nums 3 x = [x.2.1, x.2.2.1, x.2.2.2] from rfl)
    go_enter Tryz.func168, Tryz.ntmps168
    go_wp2_with fail
    go_ret
    rw [HN.out, HW.out]
    refine ⟨_, rfl, fun _ => ⟨_, rfl, by simp, by simp, fun i hi => ?_⟩, ((Below.refl _ _).alloc (Nat.le_refl _) _).alloc (by simp) _⟩
    rcases (show i = 0 ∨ i = 1 ∨ i = 2 by omega) with rfl | rfl | rfl <;> simp
  by_cases k4 : k = 4
  · subst k4
    have HW := hideG (show Frm.wid 4 = 3 from rfl)
    have HN := hideG (show Frm.nums 4 x = [x.2.1, x.2.2.1, x.2.2.2] from rfl)
    go_enter Tryz.func168, Tryz.ntmps168
    go_wp2_with fail
    go_ret
    rw [HN.out, HW.out]
    refine ⟨_, rfl, fun _ => ⟨_, rfl, by simp, by simp, fun i hi => ?_⟩, ((Below.refl _ _).alloc (Nat.le_refl _) _).alloc (by simp) _⟩
    rcases (show i = 0 ∨ i = 1 ∨ i = 2 by omega) with rfl | rfl | rfl <;> simp
  by_cases k5 : k = 5
  · subst k5
    have HW := hideG (show Frm.wid 5 = 1 from rfl)
    have HN := hideG (show Frm.nums 5 x = [x.2.1] from rfl)
    go_enter Tryz.func168, Tryz.ntmps168
    go_wp2_with fail
    go_ret
    rw [HN.out, HW.out]
    refine ⟨_, rfl, fun _ => ⟨_, rfl, by simp, by simp, fun i hi => ?_⟩, ((Below.refl _ _).alloc (Nat.le_refl _) _).alloc (by simp) _⟩
    obtain rfl : i = 0 := by omega
    simp
  have HW := hideG (show Frm.wid k = 0 by unfold Frm.wid; rw [if_neg (by omega), if_neg (by omega), if_neg (by omega)])
  go_enter Tryz.func168, Tryz.ntmps168
  go_wp2_with fail
  go_ret
  rw [HW.out]
  exact ⟨none, rfl, fun h => absurd h (by omega), (Below.refl _ _).alloc (Nat.le_refl _) _⟩

set_option maxHeartbeats 1000000 in
set_option maxRecDepth 100000 in
theorem rising_calls (v : Value) (l : List Frm.It) (w : World) (h : ItemsAt w v l) :
    Calls Tryz.prog 225 #[v] w fun e w' => e = .returned (.bool (decide (l.length ≤ 12) && Frm.riseB l)) ∧ Below w.heap.size w w' := by
  obtain ⟨a, cap, rfl, l2, l3, _, hc⟩ := items_view h
  have HC := hideG hc
  clear hc h
  have HN := hideG (show Frm.riseB l = Frm.allB l.length (Frm.riseAt l) from rfl)
  have HRA := hideG (fun k => (show Frm.riseAt l k = (Num.clB (Frm.it l k).1 && (decide (k = 0) || decide ((Frm.it l (k - 1)).1 < (Frm.it l k).1))) from rfl))
  generalize hn : l.length = n at *
  clear hn
  by_cases t : 12 < (n : Int)
  · have H := hideG (decide_eq_false (show ¬ n ≤ 12 by omega))
    go_enter Tryz.func225, Tryz.ntmps225
    go_wp2_with fail
    go_ret
    exact ⟨ret_bool (by rw [H.out]; rfl), Below.refl _ _⟩
  have HT := hideG (decide_eq_true (show n ≤ 12 by omega))
  go_enter Tryz.func225, Tryz.ntmps225
  go_wp2_with fail
  go_loopw [3] (fun i wr => ∃ k : Nat, k ≤ n ∧ i = .int .i64 k ∧ (∀ j, j < k → Frm.riseAt l j = true) ∧ Below w.heap.size w wr) (fun i _ => n - (intOf i).toNat)
  case atStart => exact ⟨0, Nat.zero_le _, rfl, fun j hj => absurd hj (by omega), Below.refl _ _⟩
  case round =>
    obtain ⟨k, hk, rfl, hall, hbel⟩ := hrel
    have HA := hideG hall
    have HB := hideG hbel
    have hsz := hbel.size
    clear hall hbel
    by_cases hlt : k < n
    · obtain ⟨b, off, rfl, hb, hit⟩ := HC.out k hlt
      obtain ⟨c0, c1, c2, c3⟩ := hit.below hb HB.out
      clear hit
      have HR := HRA.out k
      obtain ⟨x, hx⟩ : ∃ x, x = (Frm.it l k).1 := ⟨_, rfl⟩
      rw [← hx] at c0 HR
      clear hx c1 c2 c3
      have HRK := hideG HR
      clear HR
      cases q : Num.clB x
      · have H := hideG (show Frm.riseB l = false by rw [HN.out]; exact Frm.allB_no k hlt (by rw [HRK.out, q]; rfl))
        go_wp2_with fail
        refine (rparty_calls _ _).mono ?_
        rintro e w1 ⟨rfl, hw1⟩
        rw [hw1, q]
        clear hw1
        go_wp2_with fail
        go_quiet (fail)
        go_wp2_with fail
        go_ret
        exact ⟨ret_bool (by rw [H.out, Bool.and_false]), HB.out.trans ((below_drewN _ _).mono hsz)⟩
      · by_cases hk0 : k = 0
        · have HRT := hideG (show Frm.riseAt l k = true by rw [HRK.out, q, decide_eq_true hk0]; rfl)
          have hk1 : ¬ (0 : Int) < (k : Int) := by omega
          have hk2 : decide ((0 : Int) < (k : Int)) = false := decide_eq_false hk1
          have hk3 : decide (0 < k) = false := decide_eq_false (by omega)
          have HK0 := hideG hk0
          clear hk0
          go_wp2_with fail
          refine (rparty_calls _ _).mono ?_
          rintro e w1 ⟨rfl, hw1⟩
          rw [hw1, q]
          clear hw1
          go_wp2_with fail
          go_quiet (fail)
          go_wp2_with fail
          go_roundw
          case rel =>
            refine ⟨k + 1, by omega, by go_num, fun j hj => ?_, HB.out.trans ((below_drewN _ _).mono hsz)⟩
            by_cases e : j = k
            · subst e; exact HRT.out
            · exact HA.out j (by omega)
          case measure => simp [intOf]; omega
        · obtain ⟨b', off', ea, hb', hit'⟩ := HC.out (k - 1) (by omega)
          obtain ⟨d0, _, _, _⟩ := hit'.below hb' HB.out
          clear hit'
          simp only [Option.some.injEq, Addr.mk.injEq, and_true] at ea
          obtain ⟨rfl, rfl⟩ := ea
          obtain ⟨y, hy⟩ : ∃ y, y = (Frm.it l (k - 1)).1 := ⟨_, rfl⟩
          rw [← hy] at d0 HRK
          clear hy
          obtain ⟨j, hj⟩ : ∃ j, j = k - 1 := ⟨_, rfl⟩
          rw [← hj] at d0
          have hkj : (k : Int) - 1 = (j : Int) := by omega
          have hjn : (j : Int) < (n : Int) := by omega
          have hk1 : (0 : Int) < (k : Int) := by omega
          have hk2 : decide ((0 : Int) < (k : Int)) = true := decide_eq_true hk1
          have hk3 : decide (0 < k) = true := decide_eq_true (by omega)
          have hwr : IntKind.i64.wrap ((k : Int) - 1) = (j : Int) := by rw [hkj, IntWalk.i64_left, IntWalk.wrap64_in _ (by omega)]
          have HK0 := hideG hk0
          clear hj hk0
          by_cases hle : x ≤ y
          · have H := hideG (show Frm.riseB l = false by
              rw [HN.out]
              refine Frm.allB_no k hlt ?_
              rw [HRK.out, q, decide_eq_false HK0.out, decide_eq_false (show ¬ y < x by omega)]; rfl)
            have hle2 : decide (x ≤ y) = true := decide_eq_true hle
            go_wp2_with fail
            refine (rparty_calls _ _).mono ?_
            rintro e w1 ⟨rfl, hw1⟩
            rw [hw1, q]
            clear hw1
            go_wp2_with fail
            go_quiet (fail)
            go_wp2_with fail
            go_ret
            exact ⟨ret_bool (by rw [H.out, Bool.and_false]), HB.out.trans ((below_drewN _ _).mono hsz)⟩
          · have HRT := hideG (show Frm.riseAt l k = true by rw [HRK.out, q, decide_eq_true (show y < x by omega)]; simp)
            have hle2 : decide (x ≤ y) = false := decide_eq_false hle
            go_wp2_with fail
            refine (rparty_calls _ _).mono ?_
            rintro e w1 ⟨rfl, hw1⟩
            rw [hw1, q]
            clear hw1
            go_wp2_with fail
            go_quiet (fail)
            go_wp2_with fail
            go_roundw
            case rel =>
              refine ⟨k + 1, by omega, by go_num, fun j hj => ?_, HB.out.trans ((below_drewN _ _).mono hsz)⟩
              by_cases e : j = k
              · subst e; exact HRT.out
              · exact HA.out j (by omega)
            case measure => simp [intOf]; omega
    · have ek : k = n := by omega
      subst ek
      go_wp2_with fail
      go_ret
      exact ⟨ret_bool (by rw [HN.out, Frm.allB_yes HA.out, HT.out]; rfl), HB.out⟩

end Go.Proofs.YtchideljndagjabGreat
