/- Contracts of the program's client: NewClient, Hello, Released. -/
import Derived.Test.YtchideljndagjaaGreatPkClAO
import Derived.Test.YtchideljndagjaaGreatPkClAS
import Derived.Test.YtchideljndagjaaGreatPkClAA
import Derived.Test.YtchideljndagjaaGreatPkClAM
import Derived.Test.YtchideljndagjaaGreatPkClAE
namespace Go.Proofs.YtchideljndagjaaGreat
open Go.ChangeShapes Go.WideShapes Go.ChangeAt Go.RowKit
set_option linter.unusedVariables false

theorem fold_get (L : List Value) : ∀ (k : Nat) (A : Array Value) (i : Nat), k + L.length ≤ A.size → (List.foldl (fun (cs : Array Value) (x : Value × Nat) => cs.setIfInBounds x.2 x.1) A (L.zipIdx k))[i]? = if k ≤ i ∧ i < k + L.length then L[i - k]? else A[i]? := by
  induction L with
  | nil => intro k A i h; rw [if_neg (fun q => by have h1 := q.1; have h2 := q.2; simp at h2; omega)]; rfl
  | cons a L ih =>
    intro k A i h
    rw [List.length_cons] at h
    rw [List.zipIdx_cons, List.foldl_cons, ih (k + 1) _ i (by simp; omega), List.length_cons]
    by_cases e : i = k
    · subst e
      rw [if_neg (by omega), if_pos (by omega), Nat.sub_self]
      simp [Array.getElem?_setIfInBounds]
      omega
    · by_cases q : k + 1 ≤ i ∧ i < k + 1 + L.length
      · rw [if_pos q, if_pos (by omega), show i - k = (i - (k + 1)) + 1 by omega, List.getElem?_cons_succ]
      · rw [if_neg q, if_neg (by omega)]
        simp only [Array.getElem?_setIfInBounds]
        rw [if_neg (fun e' => e e'.symm)]
theorem fold_all (L : List Value) (A : Array Value) (h : A.size = L.length) : List.foldl (fun (cs : Array Value) (x : Value × Nat) => cs.setIfInBounds x.2 x.1) A L.zipIdx = L.toArray := by
  apply Array.ext_getElem?
  intro i
  rw [fold_get L 0 A i (by omega)]
  by_cases q : i < L.length
  · rw [if_pos (by omega)]; simp
  · rw [if_neg (by omega), Array.getElem?_eq_none (by omega), Array.getElem?_eq_none (by simp; omega)]

set_option maxHeartbeats 2000000 in
set_option maxRecDepth 100000 in
theorem veilNew_no (N T M D id : Int) (vi vm vs : Value) (inp sm ss : List Int) (ch mk sd : Int) (w : World) (hi : ListAt w vi inp) (hm : ListAt w vm sm) (hs : ListAt w vs ss) (hE : newE N T M D id inp ch mk sd sm ss ≠ 0) :
    Calls Tryz.prog 47 #[.agg #[.int .i64 N, .int .i64 T, .int .i64 M, .int .i64 D], .int .i64 id, .agg #[vi, .int .i64 ch, .int .i64 mk, .int .i64 sd, vm, vs]] w fun e w' =>
      e = .returned (.tuple #[.pointer none, .int .i64 (newE N T M D id inp ch mk sd sm ss)]) ∧ Below w.heap.size w w' := by
  have HN := hideG (fun (W : World) (hb : Below w.heap.size w W) => new_no N T M D id vi vm vs inp sm ss ch mk sd W (hi.below hb) (hm.below hb) (hs.below hb) hE)
  obtain ⟨a1, c1, rfl, -⟩ := hi
  obtain ⟨a2, c2, rfl, -⟩ := hm
  obtain ⟨a3, c3, rfl, -⟩ := hs
  have hEE : (newE N T M D id inp ch mk sd sm ss != 0) = true := by simpa using hE
  generalize inp.length = n1 at *
  generalize sm.length = n2 at *
  generalize ss.length = n3 at *
  generalize newE N T M D id inp ch mk sd sm ss = E at *
  obtain ⟨CS, hCS⟩ : ∃ CS, CS = psCells zeroPS := ⟨_, rfl⟩
  rw [← hCS] at HN
  have L78 := hideG (show CS.length = 78 by rw [hCS]; exact psCells_length _)
  have HONE := hideG (show CS.toArray.all (·.oneCell') = true by rw [hCS]; exact psCells_one _ rfl rfl rfl rfl)
  clear hCS hE
  have HSZ := hideG (show (Tryz.prog.info? 164).map (·.size) = some CS.toArray.size by rw [size98, List.size_toArray, L78.out])
  go_enter Tryz.func47, Tryz.ntmps47
  go_wp2_with fail
  refine (HN.out _ (((Below.refl _ _).alloc (Nat.le_refl _) _).alloc (by simp) _)).mono ?_
  rintro e w1 ⟨rfl, hb1⟩
  have s1 := hb1.size
  have B1 := hideG ((((Below.refl w.heap.size w).alloc (Nat.le_refl _) _).alloc (by simp) _).trans (hb1.mono (by simp; omega)))
  have z1 := B1.out.size
  clear hb1
  have hp3 : PSAt (w1.alloc (.cells Tryz.zeroCells164 164)) w1.heap.size 164 zeroPS := by unfold PSAt; rw [← zero_ps]; exact heap_alloc_new w1 _
  have HTH := hideG (show (w1.alloc (.cells Tryz.zeroCells164 164)).there w1.heap.size 0 CS.toArray.size by rw [show CS.toArray.size = 78 by rw [List.size_toArray]; exact L78.out]; exact hp3.there 0 78 (by omega))
  have BF := hideG (show Below w.heap.size w ((w1.alloc (.cells Tryz.zeroCells164 164)).setCells w1.heap.size 0 CS) from below_setCells z1 _ _ _ (B1.out.alloc z1 _))
  clear hp3
  go_wp2_with (refine wpList_store_mid rfl 164 _ _ rfl w1.heap.size 0 CS.toArray rfl rfl HTH.out HSZ.out HONE.out ?_)
  go_ret2
  exact ⟨rfl, BF.out⟩

set_option maxHeartbeats 2000000 in
set_option maxRecDepth 100000 in
theorem veilNew_ok (N T M D id : Int) (vi vm vs : Value) (inp sm ss : List Int) (ch mk sd : Int) (w : World) (hi : ListAt w vi inp) (hm : ListAt w vm sm) (hs : ListAt w vs ss) (hE : newE N T M D id inp ch mk sd sm ss = 0) :
    Calls Tryz.prog 47 #[.agg #[.int .i64 N, .int .i64 T, .int .i64 M, .int .i64 D], .int .i64 id, .agg #[vi, .int .i64 ch, .int .i64 mk, .int .i64 sd, vm, vs]] w fun e w' =>
      ∃ b, e = .returned (.tuple #[.pointer (some ⟨b, 0, none⟩), .int .i64 0]) ∧ ∃ S, CliW w' b ⟨N, T, M, id, inp, ch, mk, sd, sm, ss⟩ (1, [], [], []) S ∧ Below w.heap.size w w' ∧ ∀ x, CFoot b S x → w.heap.size ≤ x := by
  have HN := hideG (fun (W : World) (hb : Below w.heap.size w W) => new_ok N T M D id vi vm vs inp sm ss ch mk sd W (hi.below hb) (hm.below hb) (hs.below hb) hE)
  obtain ⟨a1, c1, rfl, -⟩ := hi
  obtain ⟨a2, c2, rfl, -⟩ := hm
  obtain ⟨a3, c3, rfl, -⟩ := hs
  generalize inp.length = n1 at *
  generalize sm.length = n2 at *
  generalize ss.length = n3 at *
  go_enter Tryz.func47, Tryz.ntmps47
  go_wp2_with fail
  refine (HN.out _ (((Below.refl _ _).alloc (Nat.le_refl _) _).alloc (by simp) _)).mono ?_
  rintro e w1 ⟨v1, v2, v3, rfl, o1, o2, o3, hb1⟩
  obtain ⟨S, hS⟩ : ∃ S, S = freshS id N T ch mk sd v1 v2 v3 := ⟨_, rfl⟩
  rw [← hS]
  obtain ⟨p1, r1, hv1⟩ := owns_form o1
  obtain ⟨p2, r2, hv2⟩ := owns_form o2
  obtain ⟨p3, r3, hv3⟩ := owns_form o3
  obtain ⟨CS, hCS⟩ : ∃ CS, CS = psCells S := ⟨_, rfl⟩
  rw [← hCS]
  have L78 := hideG (show CS.length = 78 by rw [hCS]; exact psCells_length _)
  have HONE := hideG (show CS.toArray.all (·.oneCell') = true by rw [hCS, hS, hv1, hv2, hv3]; exact psCells_one _ rfl rfl rfl rfl)
  have HSZ := hideG (show (Tryz.prog.info? 164).map (·.size) = some CS.toArray.size by rw [size98, List.size_toArray, L78.out])
  have hz102 : Tryz.zeroCells168.size = 78 := by kernel_rfl
  have HFO := hideG (fold_all CS Tryz.zeroCells168 (by rw [hz102, L78.out]))
  clear hz102
  have HSL := hideG (show (Tryz.prog.info? 164).map (·.size) = some CS.length by rw [size98, L78.out])
  have s1 := hb1.size
  have B1 := hideG ((((Below.refl w.heap.size w).alloc (Nat.le_refl _) _).alloc (by simp) _).trans (hb1.mono (by simp; omega)))
  have z1 := B1.out.size
  have O1 := hideG o1
  have O2 := hideG o2
  have O3 := hideG o3
  clear hb1 o1 o2 o3 hv1 hv2 hv3
  have hp3 : PSAt (w1.alloc (.cells Tryz.zeroCells164 164)) w1.heap.size 164 zeroPS := by unfold PSAt; rw [← zero_ps]; exact heap_alloc_new w1 _
  have HTH := hideG (show (w1.alloc (.cells Tryz.zeroCells164 164)).there w1.heap.size 0 CS.toArray.size by rw [show CS.toArray.size = 78 by rw [List.size_toArray]; exact L78.out]; exact hp3.there 0 78 (by omega))
  have hb2 : Below w1.heap.size w1 ((w1.alloc (.cells Tryz.zeroCells164 164)).setCells w1.heap.size 0 CS) := below_setCells (Nat.le_refl _) _ _ _ ((Below.refl _ _).alloc (Nat.le_refl _) _)
  have RG := hideG (show ((w1.alloc (.cells Tryz.zeroCells164 164)).setCells w1.heap.size 0 CS).rangeAt w1.heap.size 0 CS by rw [hCS]; exact (hp3.setAll S).range78)
  have HCS := hideG hCS
  have HS := hideG hS
  clear hp3 hCS hS
  obtain ⟨w2, hw2⟩ : ∃ w2, w2 = (w1.alloc (.cells Tryz.zeroCells164 164)).setCells w1.heap.size 0 CS := ⟨_, rfl⟩
  rw [← hw2] at RG hb2
  have s2 := hb2.size
  have HB2 := hideG hb2
  have HW2 := hideG hw2
  clear hw2 hb2
  go_upto_region 2 with (refine wpList_store_mid rfl 164 _ _ rfl w1.heap.size 0 CS.toArray rfl rfl HTH.out HSZ.out HONE.out ?_)
  rw [← HW2.out]
  have l78 := L78.out
  go_wp2_with (refine wpList_load_mid rfl 164 _ rfl w1.heap.size 0 rfl CS _ RG.out Tryz.underlying164 rfl HSL.out ?_)
  rw [HFO.out]
  go_ret2
  have hb3 : Below w2.heap.size w2 (w2.alloc (.cells CS.toArray 168)) := (Below.refl _ _).alloc (Nat.le_refl _) _
  have OF1 := ownsRow_chg (S := fun _ => False) (ownsRow_chg (S := fun _ => False) O1.out (Chg.of_below HB2.out) (fun _ _ h => h)) (Chg.of_below hb3) (fun _ _ h => h)
  have OF2 := ownsRow_chg (S := fun _ => False) (ownsRow_chg (S := fun _ => False) O2.out (Chg.of_below HB2.out) (fun _ _ h => h)) (Chg.of_below hb3) (fun _ _ h => h)
  have OF3 := ownsRow_chg (S := fun _ => False) (ownsRow_chg (S := fun _ => False) O3.out (Chg.of_below HB2.out) (fun _ _ h => h)) (Chg.of_below hb3) (fun _ _ h => h)
  have hps : PSAt (w2.alloc (.cells CS.toArray 168)) w2.heap.size 168 S := by unfold PSAt; rw [← HCS.out]; exact heap_alloc_new w2 _
  obtain ⟨g1, g2, g3⟩ := newE_ok hE
  have hg := Cli.good_of g1 g2 g3
  have elI : ∀ {zs : List Int}, zs.all Num.elB = true → ∀ z ∈ zs, inI z := fun h z hz => by have := Num.elB_iff.1 (List.all_eq_true.1 h z hz); unfold inI; omega
  have lA1 := listAt_of_owns OF1 (fun z hz => by have := hg.inp z hz; unfold inI; omega)
  have lA2 := listAt_of_owns OF2 (elI hg.sm)
  have lA3 := listAt_of_owns OF3 (elI hg.ss)
  have lt1 := OF1.lt
  have lt2 := OF2.lt
  have lt3 := OF3.lt
  have l1 := fun x (hx : v1.ownBlock = some x) => (O1.out.lt x hx)
  have l2 := fun x (hx : v2.ownBlock = some x) => (O2.out.lt x hx)
  have l3 := fun x (hx : v3.ownBlock = some x) => (O3.out.lt x hx)
  have hf : ∀ x, CFoot w2.heap.size S x → x = w2.heap.size ∨ (w.heap.size ≤ x ∧ x < w1.heap.size) := fun x hx => by
    rw [HS.out] at hx
    rcases hx with hx | hx | hx | hx | hx
    · exact .inl hx
    · have := l1 x hx; simp at this; exact .inr ⟨by omega, this.2⟩
    · have := l2 x hx; simp at this; exact .inr ⟨by omega, this.2⟩
    · have := l3 x hx; simp at this; exact .inr ⟨by omega, this.2⟩
    · change (Value.slice none 0 0).ownBlock = some x at hx; rw [nil_own] at hx; cases hx
  refine ⟨w2.heap.size, rfl, S, ⟨?_, fun x hx => ?_⟩, (B1.out.trans (HB2.out.mono z1)).trans (hb3.mono (by omega)), fun x hx => ?_⟩
  · exact { at_ := hps, ph := ⟨by show (0 : Int) ≤ 1; omega, by show (1 : Int) ≤ 4; omega⟩, eid := by rw [HS.out]; rfl, eph := by rw [HS.out]; rfl, ecp := by rw [HS.out]; rfl, emp := by rw [HS.out]; rfl,
            one := fun _ => by rw [HS.out]; exact ⟨rfl, rfl, rfl, lA2, lA3⟩, mid := fun _ _ => by rw [HS.out]; exact ⟨lA1, rfl⟩, et := fun _ _ => by rw [HS.out]; rfl,
            two := fun e => absurd e (by show ¬ (1 : Int) = 2; omega), three := fun e => absurd e (by show ¬ (1 : Int) = 3; omega), nil := fun _ => by rw [HS.out]; rfl, four := fun e => absurd e (by show ¬ (1 : Int) = 4; omega),
            apart := by
              rw [HS.out]
              refine ⟨fun e => ?_, fun e => ?_, fun e => ?_, fun e => ?_⟩
              · have := (l1 _ e).2; omega
              · have := (l2 _ e).2; omega
              · have := (l3 _ e).2; omega
              · change (Value.slice none 0 0).ownBlock = some _ at e; rw [nil_own] at e; cases e }
  · rcases hf x hx with h | h
    · rw [h]; simp
    · simp; omega
  · rcases hf x hx with h | h
    · omega
    · exact h.1

set_option maxHeartbeats 1000000 in
set_option maxRecDepth 100000 in
theorem hello_calls (b : Nat) (T : TypeId) (S : PS) (w : World) (h : PSAt w b T S) (ho : Frm.okF 1 S.id [(S.id, S.cp, S.mp, 0)] = true) :
    Calls Tryz.prog 165 #[.pointer (some ⟨b, 0, none⟩)] w fun e w' => ∃ va, e = .returned va ∧ w'.ownsRow w.heap.size 5 1 va (Frm.encF 1 S.id [(S.id, S.cp, S.mp, 0)]).length ((Frm.encF 1 S.id [(S.id, S.cp, S.mp, 0)]).map (Value.int .u8)) ∧ Below w.heap.size w w' := by
  have hbl := h.lt
  have c0 := h.c0
  have c2 := h.c2
  have c3 := h.c3
  have HIN := hideG (okF_in ho)
  have HW := hideG (fun (W : World) (v : Value) (hb : Below w.heap.size w W) (hl : ItemsAt W v [(S.id, S.cp, S.mp, 0)]) => written_calls_c b T S 1 v [(S.id, S.cp, S.mp, 0)] W (h.below hb) hl ho)
  clear h ho
  have al : ∀ (ob : Obj) (o : Nat), (w.alloc ob).cell? ⟨b, o, none⟩ = w.cell? ⟨b, o, none⟩ := fun ob o => ((Below.refl w.heap.size w).alloc (Nat.le_refl _) ob).cell (p := ⟨b, o, none⟩) hbl
  generalize S.id = x0 at *
  generalize S.cp = x1 at *
  generalize S.mp = x2 at *
  go_enter Tryz.func165, Tryz.ntmps165
  go_wp2_with fail
  go_region
  go_wp2_with fail
  obtain ⟨W, hW⟩ : ∃ W, W = ((w.alloc (.cells #[.int .i64 x0, .int .i64 x1, .int .i64 x2, .int .i64 0] 142)).alloc (.cells #[.int .i64 x0, .int .i64 x1, .int .i64 x2, .int .i64 0] 142)).drew := ⟨_, rfl⟩
  rw [← hW]
  have HB := hideG (show Below w.heap.size w W by rw [hW]; exact (((Below.refl _ _).alloc (Nat.le_refl _) _).alloc (by simp) _).drew)
  have HI := hideG (show ItemsAt W (.slice (some ⟨w.heap.size + 1, 0, none⟩) 1 1) [(x0, x1, x2, 0)] by
    refine ⟨_, _, rfl, by simp, by unfold maxLen; omega, HIN.out, .inr ⟨w.heap.size + 1, 0, rfl, by rw [hW]; simp, fun i hi => ?_⟩⟩
    obtain rfl : i = 0 := by simpa using hi
    rw [hW]
    refine ⟨?_, ?_, ?_, ?_⟩ <;> simp [Frm.it])
  clear hW
  refine (HW.out W _ HB.out HI.out).mono ?_
  rintro e w1 ⟨va, rfl, hown, hb1⟩
  have s1 := HB.out.size
  have O1 := hideG (ownsRow_base hown s1)
  have B1 := hideG (HB.out.trans (hb1.mono s1))
  obtain ⟨a3, c3', hv3⟩ := owns_form hown
  subst hv3
  clear hown hb1
  go_wp2_with fail
  go_ret
  exact ⟨_, rfl, O1.out, B1.out⟩

theorem veilHello_calls (b : Nat) (T : TypeId) (S : PS) (w : World) (h : PSAt w b T S) (ho : Frm.okF 1 S.id [(S.id, S.cp, S.mp, 0)] = true) :
    Calls Tryz.prog 108 #[.pointer (some ⟨b, 0, none⟩)] w fun e w' => ∃ va, e = .returned va ∧ w'.ownsRow w.heap.size 5 1 va (Frm.encF 1 S.id [(S.id, S.cp, S.mp, 0)]).length ((Frm.encF 1 S.id [(S.id, S.cp, S.mp, 0)]).map (Value.int .u8)) ∧ Below w.heap.size w w' := by
  have HC := hideG (hello_calls b T S w h ho)
  clear h ho
  go_enter Tryz.func108, Tryz.ntmps108
  go_wp2_with fail
  refine HC.out.mono ?_
  rintro e w1 ⟨va, rfl, hown, hb1⟩
  have O1 := hideG hown
  have B1 := hideG hb1
  obtain ⟨a3, c3', hv3⟩ := owns_form hown
  subst hv3
  clear hown hb1
  go_wp2_with fail
  go_ret
  exact ⟨_, rfl, O1.out, B1.out⟩

theorem released_calls (b : Nat) (T : TypeId) (S : PS) (l : List Frm.It) (w : World) (h : PSAt w b T S) (hl : ItemsAt w S.told l) (hlen : l.length ≤ 12) :
    Calls Tryz.prog 166 #[.pointer (some ⟨b, 0, none⟩)] w fun e w' => ∃ va, e = .returned va ∧ w'.ownsRow w.heap.size 142 4 va l.length (flat4 l) ∧ Below w.heap.size w w' := by
  have c77 := h.c77
  have HC := hideG (copied_items w S.told l hl hlen)
  obtain ⟨a, cap, hv, -⟩ := items_view hl
  rw [hv] at c77 HC
  clear h hl hv hlen
  generalize l.length = n at *
  generalize flat4 l = L at *
  go_enter Tryz.func166, Tryz.ntmps166
  go_wp2_with (at_builtin; refine wpList_append_copy _ rfl _ _ 38 rfl rfl (.slice a n cap) rfl 142 4 n L HC.out ?_)
  intro v' w' hown hb
  obtain ⟨a3, c3', hv3⟩ := owns_form hown
  subst hv3
  have O1 := hideG hown
  have B1 := hideG hb
  clear hown hb
  go_wp2_with fail
  go_ret
  exact ⟨_, rfl, O1.out, B1.out⟩

theorem veilReleased_calls (b : Nat) (T : TypeId) (S : PS) (l : List Frm.It) (w : World) (h : PSAt w b T S) (hl : ItemsAt w S.told l) (hlen : l.length ≤ 12) :
    Calls Tryz.prog 110 #[.pointer (some ⟨b, 0, none⟩)] w fun e w' => ∃ va, e = .returned va ∧ w'.ownsRow w.heap.size 142 4 va l.length (flat4 l) ∧ Below w.heap.size w w' := by
  have HC := hideG (released_calls b T S l w h hl hlen)
  clear h hl
  go_enter Tryz.func110, Tryz.ntmps110
  go_wp2_with fail
  refine HC.out.mono ?_
  rintro e w1 ⟨va, rfl, hown, hb1⟩
  have O1 := hideG hown
  have B1 := hideG hb1
  obtain ⟨a3, c3', hv3⟩ := owns_form hown
  subst hv3
  clear hown hb1
  go_wp2_with fail
  go_ret
  exact ⟨_, rfl, O1.out, B1.out⟩

theorem pow37 (n : Nat) : (37 : Int) ^ n % 2305843009213693951 ≠ 0 := by
  induction n with
  | zero => rw [Int.pow_zero]; decide
  | succ n ih =>
    rw [Int.pow_succ]
    intro h
    rcases Prm.mul_zero _ _ h with e | e
    · exact ih e
    · exact absurd e (by decide)
theorem pow37_key (k : Int) : Frm.keyB (Num.powP 37 k) = true := by
  rw [Frm.keyB_iff]
  have h1 := Num.powP_lo 37 k
  have h2 := Num.powP_hi 37 k
  have h3 : Num.powP 37 k ≠ 0 := pow37 k.toNat
  omega
def helloL (c : Cli.Cl) : List Frm.It := [(c.id, Cli.pubA c, Cli.pubB c, 0)]
theorem helloL_ok {c : Cli.Cl} (hc : Cli.Good c) : Frm.okF 1 c.id (helloL c) = true := by
  have gi := hc.i
  have gn := hc.n
  have e1 : Num.clB c.id = true := Num.clB_yes gi.1 (by omega)
  have e2 : Frm.keyB (Cli.pubA c) = true := pow37_key _
  have e3 : Frm.keyB (Cli.pubB c) = true := pow37_key _
  have a1 : decide ((helloL c).length ≤ 12) = true := rfl
  have a2 : Frm.fromB 1 c.id = true := e1
  have a3 : Frm.riseB (helloL c) = true := Frm.allB_yes fun i hi => by
    obtain rfl : i = 0 := by simpa [helloL] using hi
    show (Num.clB c.id && (decide (0 = 0) || _)) = true
    rw [e1]; rfl
  have a4 : Frm.idsB 1 c.id (helloL c) = true := by
    show (decide ((helloL c).length = 1) && !Frm.noneB (helloL c) c.id) = true
    have : Frm.noneB (helloL c) c.id = false := Frm.allB_no 0 (by simp [helloL]) (by show decide (c.id ≠ c.id) = false; simp)
    rw [this]; rfl
  have a5 : Frm.numsB 1 (helloL c) = true := Frm.allB_yes fun i hi => by
    obtain rfl : i = 0 := by simpa [helloL] using hi
    show (Frm.keyB (Cli.pubA c) && (Frm.keyB (Cli.pubB c) && Frm.zB 0)) = true
    rw [e2, e3]; rfl
  unfold Frm.okF
  rw [a1, a2, a3, a4, a5]; rfl
def relL (c : Cli.Cl) (s : Cli.St) : List Frm.It := if s.1 = 4 then Cli.tells c s.2.1 s.2.2.1 s.2.2.2 else []
theorem relL_items {w : World} {b : Nat} {c : Cli.Cl} {s : Cli.St} {S : PS} (h : CliAt w b c s S) : ItemsAt w S.told (relL c s) := by
  unfold relL
  by_cases e : s.1 = 4
  · rw [if_pos e]; exact h.four e
  · rw [if_neg e, h.nil e]; exact ⟨none, 0, rfl, by simp, Nat.zero_le _, (fun x hx => by cases hx), .inl rfl⟩
theorem relL_len {c : Cli.Cl} (hc : Cli.Good c) (s : Cli.St) : (relL c s).length ≤ 12 := by
  unfold relL
  split
  · exact (Frm.okF_parts (Cli.tells_ok hc _ _ _)).1
  · simp

theorem cliHello {w : World} {b : Nat} {c : Cli.Cl} {s : Cli.St} {S : PS} (hc : Cli.Good c) (h : CliW w b c s S) :
    Calls Tryz.prog 108 #[.pointer (some ⟨b, 0, none⟩)] w fun e w' => ∃ va, e = .returned va ∧ w'.ownsRow w.heap.size 5 1 va (Frm.encF 1 c.id (helloL c)).length ((Frm.encF 1 c.id (helloL c)).map (Value.int .u8)) ∧ Below w.heap.size w w' := by
  have e1 := h.cli.eid
  have e2 := h.cli.ecp
  have e3 := h.cli.emp
  have e : [(S.id, S.cp, S.mp, (0 : Int))] = helloL c := by rw [e1, e2, e3]; rfl
  have := veilHello_calls b _ S w h.cli.at_ (by rw [e, e1]; exact helloL_ok hc)
  rw [e, e1] at this
  exact this
theorem cliReleased {w : World} {b : Nat} {c : Cli.Cl} {s : Cli.St} {S : PS} (hc : Cli.Good c) (h : CliW w b c s S) :
    Calls Tryz.prog 110 #[.pointer (some ⟨b, 0, none⟩)] w fun e w' => ∃ va, e = .returned va ∧ w'.ownsRow w.heap.size 142 4 va (relL c s).length (flat4 (relL c s)) ∧ Below w.heap.size w w' :=
  veilReleased_calls b _ S _ w h.cli.at_ (relL_items h.cli) (relL_len hc s)
theorem cliPhase {w : World} {b : Nat} {c : Cli.Cl} {s : Cli.St} {S : PS} (h : CliW w b c s S) :
    Calls Tryz.prog 53 #[.pointer (some ⟨b, 0, none⟩)] w fun e w' => e = .returned (.int .i64 s.1) ∧ w' = w := by
  have := veilPhase_calls b _ S w h.cli.at_
  rw [h.cli.eph] at this
  exact this

end Go.Proofs.YtchideljndagjaaGreat

namespace Go.Proofs.YtchideljndagjaaGreat
open Go.RowKit
set_option linter.unusedVariables false

/-- The cells of frames, with the values of their items. -/
def flat3 : List Cli.Fr → List Value → List Value
  | f :: h, v :: vs => .int .i64 f.1 :: .int .i64 f.2.1 :: v :: flat3 h vs
  | _, _ => []
theorem flat3_app (h : List Cli.Fr) (vs : List Value) (hl : h.length = vs.length) (f : Cli.Fr) (v : Value) : flat3 (h ++ [f]) (vs ++ [v]) = flat3 h vs ++ [.int .i64 f.1, .int .i64 f.2.1, v] := by
  induction h generalizing vs with
  | nil => cases vs with
    | nil => rfl
    | cons _ _ => simp at hl
  | cons g h ih => cases vs with
    | nil => simp at hl
    | cons u vs =>
      show _ :: _ :: _ :: flat3 (h ++ [f]) (vs ++ [v]) = _ :: _ :: _ :: (flat3 h vs ++ _)
      rw [ih vs (by simpa using hl)]
theorem flat3_get (h : List Cli.Fr) (vs : List Value) (hl : h.length = vs.length) (j : Nat) (hj : j < h.length) :
    (flat3 h vs)[j * 3]? = some (.int .i64 (frH h j).1) ∧ (flat3 h vs)[j * 3 + 1]? = some (.int .i64 (frH h j).2.1) ∧ (flat3 h vs)[j * 3 + 2]? = vs[j]? := by
  induction h generalizing vs j with
  | nil => simp at hj
  | cons g h ih => cases vs with
    | nil => simp at hl
    | cons u vs => cases j with
      | zero => exact ⟨rfl, rfl, rfl⟩
      | succ j =>
        have h1 := ih vs (by simpa using hl) j (by simpa using hj)
        rw [show (j + 1) * 3 = j * 3 + 1 + 1 + 1 by omega]
        exact h1

structure HeardAt (w : World) (B : Nat) (v : Value) (hh : List Cli.Fr) (vs : List Value) : Prop where
  len : hh.length = vs.length
  own : w.ownsRow B 40 3 v hh.length (flat3 hh vs)
  its : ∀ j u, vs[j]? = some u → ItemsAt w u (frH hh j).2.2

theorem HeardAt.frames {w : World} {B : Nat} {v : Value} {hh : List Cli.Fr} {vs : List Value} (h : HeardAt w B v hh vs) : FramesAt w v hh := by
  have h0 := h.own
  rcases h.own.2 with ⟨rfl, hn⟩ | ⟨g, cap, cur, rfl, _, hb, hnc, hcm, _⟩
  · have hz : hh = [] := List.eq_nil_of_length_eq_zero hn
    subst hz
    exact ⟨none, 0, rfl, Nat.le_refl _, by decide, fun j hj => by simp at hj⟩
  · refine ⟨some ⟨g, 0, none⟩, cap, rfl, hnc, by unfold maxLen at hcm; omega, fun j hj => ?_⟩
    obtain ⟨f1, f2, f3⟩ := flat3_get hh vs h.len j hj
    have hjv : j < vs.length := by rw [← h.len]; exact hj
    rw [List.getElem?_eq_getElem hjv] at f3
    refine ⟨g, 0, vs[j], rfl, (h0.lt g rfl).2, ?_, ?_, ?_, h.its j _ (List.getElem?_eq_getElem hjv)⟩
    · rw [Nat.zero_add]; exact (h0.cellAt (j * 3) (by omega)).trans f1
    · rw [Nat.zero_add]; exact (h0.cellAt (j * 3 + 1) (by omega)).trans f2
    · rw [Nat.zero_add]; exact (h0.cellAt (j * 3 + 2) (by omega)).trans f3

theorem ownsRow_keep {w w' : World} {base : Nat} {e : TypeId} {size : Nat} {v : Value} {n : Nat} {xs : List Value} (h : w.ownsRow base e size v n xs) (hS : ∀ x, v.ownBlock = some x → w'.heap[x]? = w.heap[x]?) : w'.ownsRow base e size v n xs := by
  obtain ⟨h1, h2⟩ := h
  refine ⟨h1, ?_⟩
  rcases h2 with h2 | ⟨g, cap, cur, rfl, h3, h4, h5⟩
  · exact .inl h2
  · exact .inr ⟨g, cap, cur, rfl, h3, by rw [hS g rfl]; exact h4, h5⟩
theorem HeardAt.keep {w w' : World} {B : Nat} {v : Value} {hh : List Cli.Fr} {vs : List Value} (h : HeardAt w B v hh vs) (hs : w.heap.size ≤ w'.heap.size) (h1 : ∀ x, v.ownBlock = some x → w'.heap[x]? = w.heap[x]?)
    (h2 : ∀ u ∈ vs, ∀ x, u.ownBlock = some x → w'.heap[x]? = w.heap[x]?) : HeardAt w' B v hh vs :=
  ⟨h.len, ownsRow_keep h.own h1, fun j u hu => (h.its j u hu).keep hs (h2 u (List.mem_of_getElem? hu))⟩
theorem BytesAt.keep {w w' : World} {v : Value} {zs : List Int} (h : BytesAt w v zs) (hs : w.heap.size ≤ w'.heap.size) (hb : ∀ x, v.ownBlock = some x → w'.heap[x]? = w.heap[x]?) : BytesAt w' v zs := by
  obtain ⟨a, cap, h1, h2, h3, h4, h5⟩ := h
  refine ⟨a, cap, h1, h2, h3, h4, ?_⟩
  rcases h5 with h5 | ⟨b, off, e1, e2, e3⟩
  · exact .inl h5
  · refine .inr ⟨b, off, e1, Nat.lt_of_lt_of_le e2 hs, fun i hi => ?_⟩
    rw [← e3 i hi]
    exact World.cell?_of_block (w := w) (hb b (by rw [h1, e1]; rfl))

/-- A list with nothing in it may stand anywhere. -/
theorem ListAt.keep2 {w w' : World} {v : Value} {zs : List Int} (h : ListAt w v zs) (hs : w.heap.size ≤ w'.heap.size) (hb : ∀ x, (zs ≠ [] ∧ v.ownBlock = some x) → w'.heap[x]? = w.heap[x]?) : ListAt w' v zs := by
  by_cases e : zs = []
  · obtain ⟨a, cap, h1, h2, h3, h4, h5⟩ := h
    exact ⟨a, cap, h1, h2, h3, h4, .inl e⟩
  · exact h.keep hs (fun x hx => hb x ⟨e, hx⟩)

/-- Its blocks: its own, the row of what it heard, and those that are never written again. -/
def RStat (s : RS) (vs : List Value) (x : Nat) : Prop := s.hi.ownBlock = some x ∨ s.told.ownBlock = some x ∨ ∃ u ∈ vs, u.ownBlock = some x
def RFoot (b : Nat) (s : RS) (vs : List Value) (x : Nat) : Prop := (x = b ∨ s.hv.ownBlock = some x) ∨ RStat s vs x

structure RefW (w : World) (pw b : Nat) (s : RS) (hh : List Cli.Fr) (vs : List Value) : Prop where
  at_ : RAt w b s
  good : Cli.Good s.c
  vi : ListAt w s.vi s.c.inp
  vm : ListAt w s.vm s.c.sm
  vz : ListAt w s.vs s.c.ss
  low : ∀ x, ((s.c.inp ≠ [] ∧ s.vi.ownBlock = some x) ∨ (s.c.sm ≠ [] ∧ s.vm.ownBlock = some x) ∨ (s.c.ss ≠ [] ∧ s.vs.ownBlock = some x)) → x < pw
  hi : BytesAt w s.hi (Frm.encF 1 s.c.id (helloL s.c))
  heard : HeardAt w (pw + 1) s.hv hh vs
  told : ItemsAt w s.told (relL s.c (Cli.lk s.c hh))
  ph : s.ph = (Cli.lk s.c hh).1
  ok : ∀ f ∈ hh, Frm.okF f.1 f.2.1 f.2.2 = true
  foot : ∀ x, RFoot b s vs x → pw < x ∧ x < w.heap.size
  apart : ∀ x, RStat s vs x → x ≠ b ∧ s.hv.ownBlock ≠ some x
  apartb : s.hv.ownBlock ≠ some b

theorem RefW.keep {w w' : World} {pw b : Nat} {s : RS} {hh : List Cli.Fr} {vs : List Value} (h : RefW w pw b s hh vs) (hs : w.heap.size ≤ w'.heap.size) (hb : ∀ x, RFoot b s vs x → w'.heap[x]? = w.heap[x]?) (hp : ∀ x, x < pw → w'.heap[x]? = w.heap[x]?) : RefW w' pw b s hh vs where
  at_ := h.at_.block (hb b (.inl (.inl rfl)))
  good := h.good
  vi := h.vi.keep2 hs (fun x hx => hp x (h.low x (.inl hx)))
  vm := h.vm.keep2 hs (fun x hx => hp x (h.low x (.inr (.inl hx))))
  vz := h.vz.keep2 hs (fun x hx => hp x (h.low x (.inr (.inr hx))))
  low := h.low
  hi := h.hi.keep hs (fun x hx => hb x (.inr (.inl hx)))
  heard := h.heard.keep hs (fun x hx => hb x (.inl (.inr hx))) (fun u hu x hx => hb x (.inr (.inr (.inr ⟨u, hu, hx⟩))))
  told := h.told.keep hs (fun x hx => hb x (.inr (.inr (.inl hx))))
  ph := h.ph
  ok := h.ok
  foot := fun x hx => ⟨(h.foot x hx).1, Nat.lt_of_lt_of_le (h.foot x hx).2 hs⟩
  apart := h.apart
  apartb := h.apartb
theorem RefW.below {w w' : World} {pw b : Nat} {s : RS} {hh : List Cli.Fr} {vs : List Value} (h : RefW w pw b s hh vs) (hb : Below w.heap.size w w') : RefW w' pw b s hh vs :=
  h.keep hb.size (fun x hx => hb.block x (h.foot x hx).2) (fun x hx => hb.block x (by have := h.foot b (.inl (.inl rfl)); omega))

/-- One frame more was heard: in the block, and in the row. -/
def moreS (s : RS) (v : Value) (p : Int) (t : Value) : RS := { s with hv := v, ph := p, told := t }

theorem step_from {c : Cli.Cl} {s : Cli.St} {f : Cli.Fr} (h : (Cli.stepS c s f).1 ≠ s.1) : s.1 = 1 ∨ s.1 = 2 ∨ s.1 = 3 := by
  by_cases h1 : s.1 = 1
  · exact .inl h1
  by_cases h2 : s.1 = 2
  · exact .inr (.inl h2)
  by_cases h3 : s.1 = 3
  · exact .inr (.inr h3)
  exact absurd (by rw [Cli.stepS_rest c s f (fun e => h1 e.1) (fun e => h2 e.1) (fun e => h3 e.1)]) h

/-- What Take leaves behind. -/
structure RTook (w w' : World) (pw b : Nat) (s s' : RS) (hh hh' : List Cli.Fr) (vs vs' : List Value) : Prop where
  ref : RefW w' pw b s' hh' vs'
  cl : s'.c = s.c
  chg : Chg (fun x => x = b ∨ s.hv.ownBlock = some x) w w'
  foot : ∀ x, RFoot b s' vs' x → RFoot b s vs x ∨ w.heap.size ≤ x
  more : hh'.length ≤ hh.length + 1

end Go.Proofs.YtchideljndagjaaGreat

namespace Go.Proofs.YtchideljndagjaaGreat
open Go.ChangeShapes Go.WideShapes Go.ChangeAt Go.RowKit
set_option linter.unusedVariables false

/-- The first c bytes from m on, as a number. -/
def loN (b : List Int) (m : Nat) : Nat → Int
  | 0 => 0
  | c + 1 => loN b m c + 256 ^ c * Frm.bAt b (m + c)

theorem loN_num (b : List Int) (m : Nat) : loN b m 8 = Frm.numAt b m := by
  unfold Frm.numAt
  simp only [loN, Nat.add_zero]
  omega

theorem loN_bd {b : List Int} (hb : Frm.isB b) (m c : Nat) : 0 ≤ loN b m c ∧ loN b m c < 256 ^ c := by
  induction c with
  | zero => simp [loN]
  | succ c ih =>
    have h := Frm.isB_at hb (m + c)
    have hp : (0 : Int) < 256 ^ c := Int.pow_pos (by omega)
    unfold loN
    have e : (256 : Int) ^ (c + 1) = 256 ^ c * 256 := Int.pow_succ _ _
    rw [e]
    have h1 : (256 : Int) ^ c * Frm.bAt b (m + c) ≤ 256 ^ c * 255 := Int.mul_le_mul_of_nonneg_left h.2 (Int.le_of_lt hp)
    have h2 : 0 ≤ (256 : Int) ^ c * Frm.bAt b (m + c) := Int.mul_nonneg (Int.le_of_lt hp) h.1
    omega

theorem ofInt_nat (x : Int) (h : 0 ≤ x) (h' : x < 18446744073709551616) : (BitVec.ofInt 64 x).toNat = x.toNat := by
  rw [BitVec.toNat_ofInt]
  have : x % ((2 ^ 64 : Nat) : Int) = x := Int.emod_eq_of_lt h (by simpa using h')
  rw [this]

theorem ofInt_wrap (y : Int) (h : 0 ≤ y) (h' : y < 18446744073709551616) : (BitVec.ofInt 64 (wrap64 y)).toNat = y.toNat := by
  rw [BitVec.toNat_ofInt]
  have : wrap64 y % ((2 ^ 64 : Nat) : Int) = y := by
    show wrap64 y % 18446744073709551616 = y
    unfold wrap64; omega
  rw [this]

/-- An or of numbers whose bits lie apart is their sum. -/
theorem or_nat (i : Nat) (x z : Nat) (hx : x < 2 ^ i) : x ||| (z * 2 ^ i) = x + z * 2 ^ i := by
  have h := Nat.shiftLeft_add_eq_or_of_lt hx z
  rw [Nat.shiftLeft_eq] at h
  rw [Nat.or_comm, ← h, Nat.add_comm]

theorem or_sum (c : Nat) (hc : c ≤ 7) (x z : Int) (hx : 0 ≤ x) (hx' : x < 256 ^ c) (hz : 0 ≤ z) (hz' : z ≤ 255) :
    bits .or .i64 x (wrap64 (z * 2 ^ (8 * c))) = wrap64 (x + 256 ^ c * z) := by
  have e8 : (2 : Int) ^ (8 * c) = 256 ^ c := by rw [Int.pow_mul]; rfl
  have n8 : (2 : Nat) ^ (8 * c) = 256 ^ c := by rw [Nat.pow_mul]
  have hp : (0 : Int) < 256 ^ c := Int.pow_pos (by omega)
  have hcap : (256 : Int) ^ c ≤ 72057594037927936 := by
    rcases (show c = 0 ∨ c = 1 ∨ c = 2 ∨ c = 3 ∨ c = 4 ∨ c = 5 ∨ c = 6 ∨ c = 7 by omega) with rfl | rfl | rfl | rfl | rfl | rfl | rfl | rfl <;> decide
  have hm0 : 0 ≤ z * 256 ^ c := Int.mul_nonneg hz (Int.le_of_lt hp)
  have hm1 : z * 256 ^ c ≤ 255 * 72057594037927936 := Int.mul_le_mul hz' hcap (Int.le_of_lt hp) (by omega)
  unfold bits
  show IntKind.i64.wrap ((BitVec.ofInt 64 x ||| BitVec.ofInt 64 (wrap64 (z * 2 ^ (8 * c)))).toNat : Int) = _
  rw [BitVec.toNat_or, e8, ofInt_nat x hx (by omega), ofInt_wrap _ hm0 (by omega)]
  have key : x.toNat ||| (z * 256 ^ c).toNat = x.toNat + z.toNat * 2 ^ (8 * c) := by
    have e : (z * 256 ^ c).toNat = z.toNat * 2 ^ (8 * c) := by
      rw [n8, Int.toNat_mul hz (Int.le_of_lt hp), Int.toNat_pow_of_nonneg (by omega)]; rfl
    rw [e]
    refine or_nat _ _ _ ?_
    have : (x.toNat : Int) < ((2 ^ (8 * c) : Nat) : Int) := by
      rw [n8, Int.natCast_pow]; show _ < (256 : Int) ^ c; omega
    omega
  rw [key, IntWalk.i64_left]
  congr 1
  rw [Int.natCast_add, Int.natCast_mul, n8, Int.natCast_pow, Int.mul_comm ((256 : Int) ^ c)]
  show (x.toNat : Int) + (z.toNat : Int) * (256 : Int) ^ c = _
  rw [Int.toNat_of_nonneg hx, Int.toNat_of_nonneg hz]

def accN (b : List Int) (m i : Nat) : Int := if i = 8 then Frm.gN b m else loN b m i

theorem acc_next {b : List Int} (hb : Frm.isB b) (m c : Nat) (hc : c < 8) : wrap64 (loN b m c + 256 ^ c * Frm.bAt b (m + c)) = accN b m (c + 1) := by
  have e : loN b m c + 256 ^ c * Frm.bAt b (m + c) = loN b m (c + 1) := rfl
  rw [e]
  obtain ⟨h0, h1⟩ := loN_bd hb m (c + 1)
  unfold accN
  by_cases h7 : c = 7
  · subst h7
    rw [if_pos rfl]
    have e8 := loN_num b m
    rw [show loN b m (7 + 1) = Frm.numAt b m from e8] at h0 h1 ⊢
    have h1' : Frm.numAt b m < 18446744073709551616 := h1
    unfold Frm.gN wrap64
    split <;> omega
  · rw [if_neg (by omega)]
    have hcap : (256 : Int) ^ (c + 1) ≤ 72057594037927936 := by
      rcases (show c = 0 ∨ c = 1 ∨ c = 2 ∨ c = 3 ∨ c = 4 ∨ c = 5 ∨ c = 6 by omega) with rfl | rfl | rfl | rfl | rfl | rfl | rfl <;> decide
    exact IntWalk.wrap64_in _ (by omega)

theorem acc_skip {b : List Int} (hb : Frm.isB b) (m c : Nat) (hc : c < 8) (hz : Frm.bAt b (m + c) = 0) : loN b m c = accN b m (c + 1) := by
  rw [← acc_next hb m c hc, hz, Int.mul_zero, Int.add_zero]
  obtain ⟨h0, h1⟩ := loN_bd hb m c
  have hcap : (256 : Int) ^ c ≤ 72057594037927936 := by
    rcases (show c = 0 ∨ c = 1 ∨ c = 2 ∨ c = 3 ∨ c = 4 ∨ c = 5 ∨ c = 6 ∨ c = 7 by omega) with rfl | rfl | rfl | rfl | rfl | rfl | rfl | rfl <;> decide
  exact (IntWalk.wrap64_in _ (by omega)).symm

set_option maxHeartbeats 1000000 in
set_option maxRecDepth 100000 in
theorem rnumber_calls (v : Value) (zs : List Int) (x : Int) (n : Nat) (w : World) (h : BytesAt w v zs) (hx : x = (n : Int)) (hn : n ≤ 1000000) :
    Calls Tryz.prog 161 #[v, .int .i64 x] w fun e w' => e = .returned (.int .i64 (Frm.gN zs n)) ∧ w' = w := by
  subst hx
  obtain ⟨a, cap, rfl, l2, l3, hb, hc⟩ := bytes_view h
  have HB := hideG hb
  have HC := hideG hc
  clear hc h hb
  obtain ⟨L, hL⟩ : ∃ L, L = zs.length := ⟨_, rfl⟩
  rw [← hL] at l2 HC ⊢
  have HL := hideG hL
  clear hL
  go_enter Tryz.func161, Tryz.ntmps161
  go_wp2_with fail
  go_loop [5, 6] (fun u i => ∃ c : Nat, c ≤ 8 ∧ i = .int .i64 (c : Int) ∧ u = .int .i64 (accN zs n c)) (fun _ i => (8 - intOf i).toNat)
  case atStart => exact ⟨0, by omega, rfl, rfl⟩
  case round =>
    obtain ⟨c, hc8, rfl, rfl⟩ := hrel
    by_cases hlt : c < 8
    · have ev : accN zs n c = loN zs n c := by unfold accN; rw [if_neg (by omega)]
      rw [ev]
      clear ev
      obtain ⟨v0, v1⟩ := loN_bd HB.out n c
      have hlt' : (c : Int) < 8 := by omega
      by_cases hin : n + c < L
      · obtain ⟨b, off, rfl, hbl, c0⟩ := HC.out (n + c) hin
        have BJ := Frm.isB_at HB.out (n + c)
        have HNX := hideG (show bits .or .i64 (loN zs n c) (wrap64 (Frm.bAt zs (n + c) * 2 ^ (8 * c))) = accN zs n (c + 1) by
          rw [or_sum c (by omega) _ _ v0 v1 BJ.1 BJ.2]; exact acc_next HB.out n c hlt)
        obtain ⟨z, hz⟩ : ∃ z, z = Frm.bAt zs (n + c) := ⟨_, rfl⟩
        rw [← hz] at c0 BJ HNX
        clear hz
        have hin' : (n : Int) + (c : Int) < (L : Int) := by omega
        have etn : ((n : Int) + (c : Int)).toNat = n + c := by omega
        generalize loN zs n c = u at *
        clear v0 v1
        go_wp2_with fail
        go_round
        case rel => exact ⟨c + 1, by omega, by go_num, by rw [← HNX.out]⟩
        case measure => simp [intOf]; omega
      · have HNX := hideG (acc_skip HB.out n c hlt (by unfold Frm.bAt; rw [List.getD_eq_getElem?_getD, List.getElem?_eq_none (by rw [← HL.out]; omega)]; rfl))
        have hin' : ¬ (n : Int) + (c : Int) < (L : Int) := by omega
        generalize loN zs n c = u at *
        clear v0 v1
        go_wp2_with fail
        go_round
        case rel => exact ⟨c + 1, by omega, by go_num, by rw [← HNX.out]⟩
        case measure => simp [intOf]; omega
    · have ec : c = 8 := by omega
      subst ec
      have HE := hideG (show accN zs n 8 = Frm.gN zs n from rfl)
      go_wp2_with fail
      go_ret
      exact ⟨ret_i64 HE.out, rfl⟩

end Go.Proofs.YtchideljndagjaaGreat
