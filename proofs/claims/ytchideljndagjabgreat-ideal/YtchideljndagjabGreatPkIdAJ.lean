/- Contracts of the program's client: do Keys agree, does Ask. -/
import Derived.Test.YtchideljndagjabGreatPkIdAC
import Derived.Test.YtchideljndagjabGreatPkIdAE
import Derived.WalkSpells
import Derived.Test.YtchideljndagjabGreatPkIdAG
import Derived.Test.YtchideljndagjabGreatPkIdAF
import Derived.Deep.RegionHeld3
import Derived.Test.YtchideljndagjabGreatPkIdAH
namespace Go.Proofs.YtchideljndagjabGreat
open Go.ChangeShapes Go.WideShapes Go.ChangeAt Go.RowKit
set_option linter.unusedVariables false
def ownIt (id a b : Int) (x : Frm.It) : Bool := decide (x.1 = id) && (decide (x.2.1 = a) && decide (x.2.2.1 = b))
theorem own_any {l : List Frm.It} (h : Frm.riseB l = true) (id a b : Int) (hid : 1 ≤ id) :
    l.any (ownIt id a b) = (decide ((Cli.itemOf l id).1 = id) && (decide ((Cli.itemOf l id).2.1 = a) && decide ((Cli.itemOf l id).2.2.1 = b))) := by
  cases e : Cli.hasI l id with
  | false =>
    rw [Cli.itemOf_none e, decide_eq_false (show ¬ (0 : Int) = id by omega), Bool.false_and, List.any_eq_false]
    intro x hx
    unfold ownIt
    rw [decide_eq_false (Cli.hasI_off.1 e x hx)]
    exact Bool.false_ne_true
  | true =>
    obtain ⟨x, hx, hid'⟩ := Cli.hasI_iff.1 e
    obtain ⟨j, hj, rfl⟩ := List.getElem_of_mem hx
    have hit := Cli.it_get l j hj
    have hof := Cli.itemOf_it h hj
    rw [hit, hid'] at hof
    rw [hof]
    cases q : (decide ((l[j]).1 = id) && (decide ((l[j]).2.1 = a) && decide ((l[j]).2.2.1 = b))) with
    | true => exact List.any_eq_true.2 ⟨_, hx, q⟩
    | false =>
      rw [List.any_eq_false]
      intro y hy hown
      obtain ⟨i, hi, rfl⟩ := List.getElem_of_mem hy
      unfold ownIt at hown
      rw [Bool.and_eq_true, decide_eq_true_iff] at hown
      have : i = j := by
        rcases Nat.lt_trichotomy i j with r | r | r
        · have := Cli.pair_ne h hi hj r; rw [Cli.it_get l i hi, hit] at this; omega
        · exact r
        · have := Cli.pair_ne h hj hi r; rw [Cli.it_get l i hi, hit] at this; omega
      subst this
      rw [hid', decide_eq_true rfl, hown.2] at q
      cases q
theorem any_take_succ (l : List Frm.It) (k : Nat) (hk : k < l.length) (p : Frm.It → Bool) : (l.take (k + 1)).any p = ((l.take k).any p || p (Frm.it l k)) := by
  rw [List.take_succ_eq_append_getElem hk, List.any_append, Cli.it_get l k hk]; simp
theorem own_none {l : List Frm.It} (h : Frm.riseB l = true) {k : Nat} (hk : k < l.length) {id a b : Int} (e : (Frm.it l k).1 = id) : (l.take k).any (ownIt id a b) = false := by
  rw [List.any_eq_false]
  intro x hx
  obtain ⟨i, hi, rfl⟩ := List.getElem_of_mem hx
  rw [List.getElem_take]
  have hi' : i < k := by rw [List.length_take] at hi; omega
  have := Cli.pair_ne h (by omega) hk hi'
  rw [Cli.it_get l i (by omega), e] at this
  unfold ownIt
  rw [decide_eq_false (by omega)]
  exact Bool.false_ne_true
set_option maxHeartbeats 2000000 in
set_option maxRecDepth 100000 in
theorem keysAgree_calls (b : Nat) (T : TypeId) (S : PS) (v : Value) (l : List Frm.It) (w : World) (h : PSAt w b T S) (hl : ItemsAt w v l) (hr : Frm.riseB l = true) (hlen : l.length ≤ 12) (ht : 1 ≤ S.t ∧ S.t ≤ 12) :
    Calls Tryz.prog 258 #[.pointer (some ⟨b, 0, none⟩), v] w fun e w' =>
      e = .returned (.bool ((l.all fun x => decide (x.1 ≤ S.n)) && (decide (S.t ≤ (l.length : Int)) && l.any (ownIt S.id S.cp S.mp)))) ∧ Below w.heap.size w w' := by
  have hbl := h.lt
  have HP := hideG (fun (w1 : World) (hb : Below w.heap.size w w1) => (show w1.cell? ⟨b, 0, none⟩ = some (.int .i64 S.id) ∧ w1.cell? ⟨b, 2, none⟩ = some (.int .i64 S.cp) ∧ w1.cell? ⟨b, 3, none⟩ = some (.int .i64 S.mp) ∧ w1.cell? ⟨b, 4, none⟩ = some (.int .i64 S.n) from
    ⟨(h.below hb).c0, (h.below hb).c2, (h.below hb).c3, (h.below hb).c4⟩))
  have c5 := h.c5
  obtain ⟨a, cap, rfl, l2, l3, _, hc⟩ := items_view hl
  have HC := hideG hc
  have HR := hideG hr
  clear h hl hr hc
  generalize S.id = id at *
  generalize S.cp = cp at *
  generalize S.mp = mp at *
  generalize S.n = N at *
  generalize S.t = t at *
  obtain ⟨n, hn⟩ : ∃ n, n = l.length := ⟨_, rfl⟩
  rw [← hn] at l2 HC hlen ⊢
  have HN := hideG hn
  clear hn
  by_cases t0 : (n : Int) < t
  · have H := hideG (decide_eq_false (show ¬ t ≤ (n : Int) by omega))
    go_enter Tryz.func258, Tryz.ntmps258
    go_wp2_with fail
    go_ret
    exact ⟨ret_bool (by rw [H.out, Bool.false_and, Bool.and_false]), Below.refl _ _⟩
  have HT := hideG (decide_eq_true (show t ≤ (n : Int) by omega))
  go_enter Tryz.func258, Tryz.ntmps258
  go_wp2_with fail
  go_loopw [5, 17] (fun o i wr => ∃ k : Nat, k ≤ n ∧ i = .int .i64 k ∧ o = .bool ((l.take k).any (ownIt id cp mp)) ∧ (∀ j, j < k → (Frm.it l j).1 ≤ N) ∧ Below w.heap.size w wr) (fun _ i _ => n - (intOf i).toNat)
  case atStart => exact ⟨0, Nat.zero_le _, rfl, by simp, fun j hj => absurd hj (by omega), Below.refl _ _⟩
  case round =>
    obtain ⟨k, hk, rfl, rfl, hall, hbel⟩ := hrel
    have HA := hideG hall
    have HB := hideG hbel
    have hsz := hbel.size
    clear hall hbel
    by_cases hlt : k < n
    · obtain ⟨b', off, rfl, hb, hit⟩ := HC.out k hlt
      obtain ⟨d0, d1, d2, d3⟩ := hit.below hb HB.out
      obtain ⟨c0, c2, c3, c4⟩ := HP.out _ HB.out
      clear hit
      have al : ∀ (ob : Obj) (o : Nat), (wr.alloc ob).cell? ⟨b, o, none⟩ = wr.cell? ⟨b, o, none⟩ := fun ob o => ((Below.refl wr.heap.size wr).alloc (Nat.le_refl _) ob).cell (p := ⟨b, o, none⟩) (by show b < _; omega)
      have HS := hideG (any_take_succ l k (by rw [← HN.out]; exact hlt) (ownIt id cp mp))
      obtain ⟨x, hx⟩ : ∃ x, x = (Frm.it l k).1 := ⟨_, rfl⟩
      obtain ⟨xa, hxa⟩ : ∃ x, x = (Frm.it l k).2.1 := ⟨_, rfl⟩
      obtain ⟨xb, hxb⟩ : ∃ x, x = (Frm.it l k).2.2.1 := ⟨_, rfl⟩
      have HX := hideG hx
      have HW := hideG (show ownIt id cp mp (Frm.it l k) = (decide (x = id) && (decide (xa = cp) && decide (xb = mp))) by rw [hx, hxa, hxb]; rfl)
      have HO := hideG (fun (e : x = id) => own_none HR.out (show k < l.length by rw [← HN.out]; exact hlt) (a := cp) (b := mp) (show (Frm.it l k).1 = id by rw [← hx]; exact e))
      rw [← hx] at d0
      rw [← hxa] at d1
      rw [← hxb] at d2
      clear hx hxa hxb
      generalize (Frm.it l k).2.2.2 = xc at *
      obtain ⟨o, ho⟩ : ∃ o, o = (l.take k).any (ownIt id cp mp) := ⟨_, rfl⟩
      rw [← ho]
      have HOO := hideG ho
      clear ho
      by_cases q1 : N < x
      · have H := hideG (show (l.all fun x => decide (x.1 ≤ N)) = false from List.all_eq_false.2 ⟨Frm.it l k, by rw [Cli.it_get l k (by rw [← HN.out]; exact hlt)]; exact List.getElem_mem _, by rw [← HX.out, decide_eq_false (by omega)]; exact Bool.false_ne_true⟩)
        go_wp2_with fail
        go_quiet (fail)
        go_wp2_with fail
        go_ret
        exact ⟨ret_bool (by rw [H.out, Bool.false_and]), (HB.out.alloc (by omega) _).trans ((below_drewN _ _).mono (by simp; omega))⟩
      · by_cases q2 : x = id
        · have q2' : (x == id) = true := by simpa using q2
          have HO2 := hideG (HO.out q2)
          by_cases q3 : xa = cp
          · have q3' : (xa == cp) = true := by simpa using q3
            have HF := hideG (show (l.take (k + 1)).any (ownIt id cp mp) = (xb == mp) by rw [HS.out, HW.out, HO2.out, decide_eq_true q2, decide_eq_true q3]; by_cases q : xb = mp <;> simp [q])
            have HID := hideG q2
            have HID3 := hideG q3
            clear q2 q3
            go_wp2_with fail
            go_quiet (fail)
            go_wp2_with fail
            go_quiet (fail)
            go_wp2_with fail
            go_quiet (fail)
            go_wp2_with fail
            go_roundw
            case rel =>
              refine ⟨k + 1, by omega, by go_num, by rw [HF.out], fun j hj => ?_, (HB.out.alloc (by omega) _).trans ((below_drewN _ _).mono (by simp; omega))⟩
              by_cases e : j = k
              · subst e; rw [← HX.out]; omega
              · exact HA.out j (by omega)
            case measure => simp [intOf]; omega
          · have q3' : (xa == cp) = false := by simpa using q3
            have HF := hideG (show (l.take (k + 1)).any (ownIt id cp mp) = false by rw [HS.out, HW.out, HO2.out, decide_eq_true q2, decide_eq_false q3]; rfl)
            have HID := hideG q2
            have HID3 := hideG q3
            clear q2 q3
            go_wp2_with fail
            go_quiet (fail)
            go_wp2_with fail
            go_quiet (fail)
            go_wp2_with fail
            go_quiet (fail)
            go_wp2_with fail
            go_roundw
            case rel =>
              refine ⟨k + 1, by omega, by go_num, by rw [HF.out], fun j hj => ?_, (HB.out.alloc (by omega) _).trans ((below_drewN _ _).mono (by simp; omega))⟩
              by_cases e : j = k
              · subst e; rw [← HX.out]; omega
              · exact HA.out j (by omega)
            case measure => simp [intOf]; omega
        · have q2' : (x == id) = false := by simpa using q2
          have HF := hideG (show (l.take (k + 1)).any (ownIt id cp mp) = o by rw [HS.out, HW.out, decide_eq_false q2, Bool.false_and, Bool.or_false, HOO.out])
          have HID := hideG q2
          clear q2
          go_wp2_with fail
          go_quiet (fail)
          go_wp2_with fail
          go_quiet (fail)
          go_wp2_with fail
          go_roundw
          case rel =>
            refine ⟨k + 1, by omega, by go_num, by rw [HF.out], fun j hj => ?_, (HB.out.alloc (by omega) _).trans ((below_drewN _ _).mono (by simp; omega))⟩
            by_cases e : j = k
            · subst e; rw [← HX.out]; omega
            · exact HA.out j (by omega)
          case measure => simp [intOf]; omega
    · have ek : k = n := by omega
      subst ek
      have H1 := hideG (show (l.all fun x => decide (x.1 ≤ N)) = true from List.all_eq_true.2 fun x hx => by
        obtain ⟨i, hi, rfl⟩ := List.getElem_of_mem hx
        have := HA.out i (by rw [HN.out]; exact hi)
        rw [Cli.it_get l i hi] at this
        exact decide_eq_true this)
      have H2 := hideG (show (l.take k).any (ownIt id cp mp) = l.any (ownIt id cp mp) by rw [HN.out, List.take_length])
      go_wp2_with fail
      go_ret
      exact ⟨ret_bool (by rw [H1.out, HT.out, H2.out]; rfl), HB.out⟩
end Go.Proofs.YtchideljndagjabGreat
namespace Go.Proofs.YtchideljndagjabGreat
open Go.ChangeShapes Go.WideShapes Go.ChangeAt Go.RowKit
set_option linter.unusedVariables false
set_option maxHeartbeats 2000000 in
set_option maxRecDepth 100000 in
theorem askAgrees_calls (b : Nat) (T : TypeId) (S : PS) (v : Value) (l : List Frm.It) (w : World) (h : PSAt w b T S) (hl : ItemsAt w v l) (hr : Frm.riseB l = true) (hlen : l.length ≤ 12) (ht : 1 ≤ S.t ∧ S.t ≤ 12) :
    Calls Tryz.prog 263 #[.pointer (some ⟨b, 0, none⟩), v] w fun e w' =>
      e = .returned (.bool ((l.all fun x => (S.f x.1.toNat).mem) && (Cli.hasI l S.id && decide (S.t ≤ (l.length : Int))))) ∧ Below w.heap.size w w' := by
  have hbl := h.lt
  have HP := hideG (fun (w1 : World) (hb : Below w.heap.size w w1) (u : Nat) (hu : u < 13) => (show w1.cell? ⟨b, 0, none⟩ = some (.int .i64 S.id) ∧ w1.cell? ⟨b, 12 + u * 5, none⟩ = some (.bool (S.f u).mem) from
    ⟨(h.below hb).c0, ((h.below hb).peer u hu).1⟩))
  have c5 := h.c5
  obtain ⟨a, cap, rfl, l2, l3, _, hc⟩ := items_view hl
  have HC := hideG hc
  have HI := hideG (fun j (hj : j < l.length) => (Cli.rise_pair hr).2 (Frm.it l j) (by rw [Cli.it_get l j hj]; exact List.getElem_mem hj))
  clear h hl hr hc
  generalize S.id = id at *
  generalize S.f = f at *
  generalize S.t = t at *
  obtain ⟨n, hn⟩ : ∃ n, n = l.length := ⟨_, rfl⟩
  rw [← hn] at l2 HC hlen ⊢
  have HN := hideG hn
  clear hn
  by_cases t0 : (n : Int) < t
  · have H := hideG (decide_eq_false (show ¬ t ≤ (n : Int) by omega))
    go_enter Tryz.func263, Tryz.ntmps263
    go_wp2_with fail
    go_ret
    exact ⟨ret_bool (by rw [H.out, Bool.and_false, Bool.and_false]), Below.refl _ _⟩
  have HT := hideG (decide_eq_true (show t ≤ (n : Int) by omega))
  go_enter Tryz.func263, Tryz.ntmps263
  go_wp2_with fail
  go_loopw [5, 17] (fun o i wr => ∃ k : Nat, k ≤ n ∧ i = .int .i64 k ∧ o = .bool (Cli.hasI (l.take k) id) ∧ (∀ j, j < k → (f (Frm.it l j).1.toNat).mem = true) ∧ Below w.heap.size w wr) (fun _ i _ => n - (intOf i).toNat)
  case atStart => exact ⟨0, Nat.zero_le _, rfl, by simp [Cli.hasI], fun j hj => absurd hj (by omega), Below.refl _ _⟩
  case round =>
    obtain ⟨k, hk, rfl, rfl, hall, hbel⟩ := hrel
    have HA := hideG hall
    have HB := hideG hbel
    have hsz := hbel.size
    clear hall hbel
    by_cases hlt : k < n
    · obtain ⟨b', off, rfl, hb, hit⟩ := HC.out k hlt
      obtain ⟨d0, d1, d2, d3⟩ := hit.below hb HB.out
      obtain ⟨u, hu⟩ : ∃ u : Nat, (Frm.it l k).1 = (u : Int) := ⟨(Frm.it l k).1.toNat, by have := HI.out k (by rw [← HN.out]; exact hlt); omega⟩
      have hub := HI.out k (by rw [← HN.out]; exact hlt)
      rw [hu] at hub d0
      have u13 : u < 13 := by omega
      have u13' : (u : Int) < 13 := by omega
      obtain ⟨c0, cm⟩ := HP.out _ HB.out u u13
      clear hit
      have al : ∀ (ob : Obj) (o : Nat), (wr.alloc ob).cell? ⟨b, o, none⟩ = wr.cell? ⟨b, o, none⟩ := fun ob o => ((Below.refl wr.heap.size wr).alloc (Nat.le_refl _) ob).cell (p := ⟨b, o, none⟩) (by show b < _; omega)
      have HS := hideG (Cli.hasI_take_succ l k (by rw [← HN.out]; exact hlt) id)
      have HX := hideG hu
      have HM := hideG (show (f (Frm.it l k).1.toNat).mem = (f u).mem by rw [hu, Int.toNat_natCast])
      clear hu
      generalize (Frm.it l k).2.1 = xa at *
      generalize (Frm.it l k).2.2.1 = xb at *
      generalize (Frm.it l k).2.2.2 = xc at *
      obtain ⟨o, ho⟩ : ∃ o, o = Cli.hasI (l.take k) id := ⟨_, rfl⟩
      rw [← ho]
      have HOO := hideG ho
      clear ho
      cases q1 : (f u).mem
      · rw [q1] at cm
        have H := hideG (show (l.all fun x => (f x.1.toNat).mem) = false from List.all_eq_false.2 ⟨Frm.it l k, by rw [Cli.it_get l k (by rw [← HN.out]; exact hlt)]; exact List.getElem_mem _, by rw [HM.out, q1]; exact Bool.false_ne_true⟩)
        have Q1 := hideG q1
        clear q1
        go_wp2_with fail
        go_quiet (fail)
        go_wp2_with fail
        go_ret
        exact ⟨ret_bool (by rw [H.out, Bool.false_and]), (HB.out.alloc (by omega) _).trans ((below_drewN _ _).mono (by simp; omega))⟩
      · rw [q1] at cm
        have Q1 := hideG q1
        clear q1
        by_cases q2 : (u : Int) = id
        · have q2' : ((u : Int) == id) = true := by simpa using q2
          have HF := hideG (show Cli.hasI (l.take (k + 1)) id = true by rw [HS.out, HX.out, decide_eq_true q2, Bool.or_true])
          have HID := hideG q2
          clear q2
          go_wp2_with fail
          go_quiet (fail)
          go_wp2_with fail
          go_quiet (fail)
          go_wp2_with fail
          go_roundw
          case rel =>
            refine ⟨k + 1, by omega, by go_num, by rw [HF.out], fun j hj => ?_, (HB.out.alloc (by omega) _).trans ((below_drewN _ _).mono (by simp; omega))⟩
            by_cases e : j = k
            · subst e; rw [HM.out, Q1.out]
            · exact HA.out j (by omega)
          case measure => simp [intOf]; omega
        · have q2' : ((u : Int) == id) = false := by simpa using q2
          have HF := hideG (show Cli.hasI (l.take (k + 1)) id = o by rw [HS.out, HX.out, decide_eq_false q2, Bool.or_false, HOO.out])
          have HID := hideG q2
          clear q2
          go_wp2_with fail
          go_quiet (fail)
          go_wp2_with fail
          go_quiet (fail)
          go_wp2_with fail
          go_roundw
          case rel =>
            refine ⟨k + 1, by omega, by go_num, by rw [HF.out], fun j hj => ?_, (HB.out.alloc (by omega) _).trans ((below_drewN _ _).mono (by simp; omega))⟩
            by_cases e : j = k
            · subst e; rw [HM.out, Q1.out]
            · exact HA.out j (by omega)
          case measure => simp [intOf]; omega
    · have ek : k = n := by omega
      subst ek
      have H1 := hideG (show (l.all fun x => (f x.1.toNat).mem) = true from List.all_eq_true.2 fun x hx => by
        obtain ⟨i, hi, rfl⟩ := List.getElem_of_mem hx
        have := HA.out i (by rw [HN.out]; exact hi)
        rw [Cli.it_get l i hi] at this
        exact this)
      have H2 := hideG (show Cli.hasI (l.take k) id = Cli.hasI l id by rw [HN.out, List.take_length])
      go_wp2_with fail
      go_ret
      exact ⟨ret_bool (by rw [H1.out, HT.out, H2.out, Bool.and_true]; rfl), HB.out⟩
end Go.Proofs.YtchideljndagjabGreat
namespace Go.Proofs.YtchideljndagjabGreat
open Go.ChangeShapes Go.WideShapes Go.ChangeAt Go.RowKit
set_option linter.unusedVariables false
set_option maxHeartbeats 1000000 in
set_option maxRecDepth 100000 in
theorem maskShareFor_calls (b : Nat) (T : TypeId) (S : PS) (zs : List Int) (v : Int) (w : World) (h : PSAt w b T S) (hl : ListAt w S.sm zs) (hall : zs.all Num.elB = true) (h0 : 0 ≤ S.ms) (h1 : S.ms < 2305843009213693951) (v0 : 0 ≤ v) (v1 : v < 2305843009213693951) :
    Calls Tryz.prog 293 #[.pointer (some ⟨b, 0, none⟩), .int .i64 v] w fun e w' => e = .returned (.int .i64 (Pol.polyP S.ms zs v)) ∧ Below w.heap.size w w' := by
  have c8 := h.c8
  have c10 := h.c10
  have HL := hideG hl
  have HA := hideG hall
  have HC := hideG (fun (nq : Nat) => valueAt_calls S.ms S.sm zs v (w.drewN nq) (hl.below (below_drewN w nq)) hall h0 h1 v0 v1)
  clear h hl hall
  generalize S.ms = m at *
  generalize S.sm = u at *
  go_enter Tryz.func293, Tryz.ntmps293
  go_wp2_with fail
  go_quiet ((go_at_call 265; refine Calls.quiet_of_same (HC.out _)))
  go_wp2_with fail
  go_ret
  exact ⟨rfl, below_drewN _ _⟩
set_option maxHeartbeats 1000000 in
set_option maxRecDepth 100000 in
theorem seedShareFor_calls (b : Nat) (T : TypeId) (S : PS) (zs : List Int) (v : Int) (w : World) (h : PSAt w b T S) (hl : ListAt w S.ss zs) (hall : zs.all Num.elB = true) (h0 : 0 ≤ S.sd) (h1 : S.sd < 2305843009213693951) (v0 : 0 ≤ v) (v1 : v < 2305843009213693951) :
    Calls Tryz.prog 292 #[.pointer (some ⟨b, 0, none⟩), .int .i64 v] w fun e w' => e = .returned (.int .i64 (Pol.polyP S.sd zs v)) ∧ Below w.heap.size w w' := by
  have c8 := h.c9
  have c10 := h.c11
  have HL := hideG hl
  have HA := hideG hall
  have HC := hideG (fun (nq : Nat) => valueAt_calls S.sd S.ss zs v (w.drewN nq) (hl.below (below_drewN w nq)) hall h0 h1 v0 v1)
  clear h hl hall
  generalize S.sd = m at *
  generalize S.ss = u at *
  go_enter Tryz.func292, Tryz.ntmps292
  go_wp2_with fail
  go_quiet ((go_at_call 265; refine Calls.quiet_of_same (HC.out _)))
  go_wp2_with fail
  go_ret
  exact ⟨rfl, below_drewN _ _⟩
set_option maxHeartbeats 1000000 in
set_option maxRecDepth 100000 in
theorem written_calls_c (b : Nat) (T : TypeId) (S : PS) (k : Int) (v : Value) (l : List Frm.It) (w : World) (h : PSAt w b T S) (hl : ItemsAt w v l) (ho : Frm.okF k S.id l = true) :
    Calls Tryz.prog 193 #[.pointer (some ⟨b, 0, none⟩), .int .i64 k, v] w fun e w' => ∃ va, e = .returned va ∧ w'.ownsRow w.heap.size 5 1 va (Frm.encF k S.id l).length ((Frm.encF k S.id l).map (Value.int .u8)) ∧ Below w.heap.size w w' := by
  have c0 := h.c0
  have HC := hideG (encode_yes k S.id v l w hl ho)
  obtain ⟨a, cap, rfl, -⟩ := items_view hl
  clear h hl ho
  go_enter Tryz.func193, Tryz.ntmps193
  go_wp2_with fail
  refine HC.out.mono ?_
  rintro e w' ⟨va, rfl, ho, hb⟩
  have HO := hideG ho
  have HB := hideG hb
  clear ho hb
  go_wp2_with fail
  go_ret
  exact ⟨_, rfl, HO.out, HB.out⟩
end Go.Proofs.YtchideljndagjabGreat
namespace Go.Proofs.YtchideljndagjabGreat
open Go.ChangeShapes Go.WideShapes Go.ChangeAt Go.RowKit
set_option linter.unusedVariables false
theorem ix_circ0 (f : Nat → Cli.Pr) (w : World) : (Instr.index 203 (.agg (circ f).toArray) (.int .i64 ((0 : Nat) : Int))).run Tryz.prog w = .ok (.agg #[.bool (f 0).mem, .int .i64 (f 0).ck, .int .i64 (f 0).mq, .int .i64 (f 0).ms, .int .i64 (f 0).ss]) w := by kernel_rfl
theorem ix_circ1 (f : Nat → Cli.Pr) (w : World) : (Instr.index 203 (.agg (circ f).toArray) (.int .i64 ((1 : Nat) : Int))).run Tryz.prog w = .ok (.agg #[.bool (f 1).mem, .int .i64 (f 1).ck, .int .i64 (f 1).mq, .int .i64 (f 1).ms, .int .i64 (f 1).ss]) w := by kernel_rfl
theorem ix_circ2 (f : Nat → Cli.Pr) (w : World) : (Instr.index 203 (.agg (circ f).toArray) (.int .i64 ((2 : Nat) : Int))).run Tryz.prog w = .ok (.agg #[.bool (f 2).mem, .int .i64 (f 2).ck, .int .i64 (f 2).mq, .int .i64 (f 2).ms, .int .i64 (f 2).ss]) w := by kernel_rfl
theorem ix_circ3 (f : Nat → Cli.Pr) (w : World) : (Instr.index 203 (.agg (circ f).toArray) (.int .i64 ((3 : Nat) : Int))).run Tryz.prog w = .ok (.agg #[.bool (f 3).mem, .int .i64 (f 3).ck, .int .i64 (f 3).mq, .int .i64 (f 3).ms, .int .i64 (f 3).ss]) w := by kernel_rfl
theorem ix_circ4 (f : Nat → Cli.Pr) (w : World) : (Instr.index 203 (.agg (circ f).toArray) (.int .i64 ((4 : Nat) : Int))).run Tryz.prog w = .ok (.agg #[.bool (f 4).mem, .int .i64 (f 4).ck, .int .i64 (f 4).mq, .int .i64 (f 4).ms, .int .i64 (f 4).ss]) w := by kernel_rfl
theorem ix_circ5 (f : Nat → Cli.Pr) (w : World) : (Instr.index 203 (.agg (circ f).toArray) (.int .i64 ((5 : Nat) : Int))).run Tryz.prog w = .ok (.agg #[.bool (f 5).mem, .int .i64 (f 5).ck, .int .i64 (f 5).mq, .int .i64 (f 5).ms, .int .i64 (f 5).ss]) w := by kernel_rfl
theorem ix_circ6 (f : Nat → Cli.Pr) (w : World) : (Instr.index 203 (.agg (circ f).toArray) (.int .i64 ((6 : Nat) : Int))).run Tryz.prog w = .ok (.agg #[.bool (f 6).mem, .int .i64 (f 6).ck, .int .i64 (f 6).mq, .int .i64 (f 6).ms, .int .i64 (f 6).ss]) w := by kernel_rfl
theorem ix_circ7 (f : Nat → Cli.Pr) (w : World) : (Instr.index 203 (.agg (circ f).toArray) (.int .i64 ((7 : Nat) : Int))).run Tryz.prog w = .ok (.agg #[.bool (f 7).mem, .int .i64 (f 7).ck, .int .i64 (f 7).mq, .int .i64 (f 7).ms, .int .i64 (f 7).ss]) w := by kernel_rfl
theorem ix_circ8 (f : Nat → Cli.Pr) (w : World) : (Instr.index 203 (.agg (circ f).toArray) (.int .i64 ((8 : Nat) : Int))).run Tryz.prog w = .ok (.agg #[.bool (f 8).mem, .int .i64 (f 8).ck, .int .i64 (f 8).mq, .int .i64 (f 8).ms, .int .i64 (f 8).ss]) w := by kernel_rfl
theorem ix_circ9 (f : Nat → Cli.Pr) (w : World) : (Instr.index 203 (.agg (circ f).toArray) (.int .i64 ((9 : Nat) : Int))).run Tryz.prog w = .ok (.agg #[.bool (f 9).mem, .int .i64 (f 9).ck, .int .i64 (f 9).mq, .int .i64 (f 9).ms, .int .i64 (f 9).ss]) w := by kernel_rfl
theorem ix_circ10 (f : Nat → Cli.Pr) (w : World) : (Instr.index 203 (.agg (circ f).toArray) (.int .i64 ((10 : Nat) : Int))).run Tryz.prog w = .ok (.agg #[.bool (f 10).mem, .int .i64 (f 10).ck, .int .i64 (f 10).mq, .int .i64 (f 10).ms, .int .i64 (f 10).ss]) w := by kernel_rfl
theorem ix_circ11 (f : Nat → Cli.Pr) (w : World) : (Instr.index 203 (.agg (circ f).toArray) (.int .i64 ((11 : Nat) : Int))).run Tryz.prog w = .ok (.agg #[.bool (f 11).mem, .int .i64 (f 11).ck, .int .i64 (f 11).mq, .int .i64 (f 11).ms, .int .i64 (f 11).ss]) w := by kernel_rfl
theorem ix_circ12 (f : Nat → Cli.Pr) (w : World) : (Instr.index 203 (.agg (circ f).toArray) (.int .i64 ((12 : Nat) : Int))).run Tryz.prog w = .ok (.agg #[.bool (f 12).mem, .int .i64 (f 12).ck, .int .i64 (f 12).mq, .int .i64 (f 12).ms, .int .i64 (f 12).ss]) w := by kernel_rfl
theorem run_index_circ (f : Nat → Cli.Pr) (k : Nat) (hk : k < 13) (w : World) : (Instr.index 203 (.agg (circ f).toArray) (.int .i64 (k : Int))).run Tryz.prog w =
    .ok (.agg #[.bool (f k).mem, .int .i64 (f k).ck, .int .i64 (f k).mq, .int .i64 (f k).ms, .int .i64 (f k).ss]) w := by
  have hd : k = 0 ∨ k = 1 ∨ k = 2 ∨ k = 3 ∨ k = 4 ∨ k = 5 ∨ k = 6 ∨ k = 7 ∨ k = 8 ∨ k = 9 ∨ k = 10 ∨ k = 11 ∨ k = 12 := by omega
  rcases hd with rfl | rfl | rfl | rfl | rfl | rfl | rfl | rfl | rfl | rfl | rfl | rfl | rfl
  · exact ix_circ0 f w
  · exact ix_circ1 f w
  · exact ix_circ2 f w
  · exact ix_circ3 f w
  · exact ix_circ4 f w
  · exact ix_circ5 f w
  · exact ix_circ6 f w
  · exact ix_circ7 f w
  · exact ix_circ8 f w
  · exact ix_circ9 f w
  · exact ix_circ10 f w
  · exact ix_circ11 f w
  · exact ix_circ12 f w
theorem sealedN_len (c : Cli.Cl) (l : List Frm.It) (k : Nat) : (Cli.sealedN c l k).length ≤ k := by
  unfold Cli.sealedN
  rw [List.length_map]
  exact Nat.le_trans (List.length_filter_le _ _) (by simp)
set_option maxHeartbeats 2000000 in
set_option maxRecDepth 100000 in
theorem sealedShares_calls (b : Nat) (T : TypeId) (S : PS) (c : Cli.Cl) (l : List Frm.It) (w : World) (h : PSAt w b T S) (hr : Frm.riseB l = true)
    (hc : Cli.Good c) (eid : S.id = c.id) (ems : S.ms = c.ms) (esd : S.sd = c.sd) (hsm : ListAt w S.sm c.sm) (hss : ListAt w S.ss c.ss) (hf : ∀ v, v < 13 → S.f v = Cli.firstP c l v) :
    Calls Tryz.prog 260 #[.pointer (some ⟨b, 0, none⟩)] w fun e w' =>
      ∃ va, e = .returned va ∧ w'.ownsRow w.heap.size 147 4 va (Cli.sharing c l).length (flat4 (Cli.sharing c l)) ∧ Below w.heap.size w w' := by
  obtain ⟨i1, hi1, hy0, hy1, hy2⟩ := info_parts infoIt
  have hbl := h.lt
  obtain ⟨g3, g4⟩ := hc.ms
  obtain ⟨g5, g6⟩ := hc.sd
  have gi := hc.i
  have gn := hc.n
  have HRG := hideG h.range
  have HRL := hideG (circ_length S.f)
  have HIX := hideG (run_index_circ S.f)
  have HP := hideG (fun (w1 : World) (hb : Below w.heap.size w w1) => (show w1.cell? ⟨b, 0, none⟩ = some (.int .i64 c.id) by rw [← eid]; exact (h.below hb).c0))
  have HSM := hideG (fun (w1 : World) (v : Nat) (hv : v < 13) (hb : Below w.heap.size w w1) => maskShareFor_calls b T S c.sm v w1 (h.below hb) (hsm.below hb) hc.sm (by rw [ems]; exact g3) (by rw [ems]; exact g4) (by omega) (by omega))
  have HSS := hideG (fun (w1 : World) (v : Nat) (hv : v < 13) (hb : Below w.heap.size w w1) => seedShareFor_calls b T S c.ss v w1 (h.below hb) (hss.below hb) hc.ss (by rw [esd]; exact g5) (by rw [esd]; exact g6) (by omega) (by omega))
  rw [esd] at HSS
  rw [ems] at HSM
  have HF := hideG hf
  have HAL := hideG (Cli.sealed_all c hr)
  have h0f : ∀ j : Nat, j < 13 → Cli.hasI l j = true → 1 ≤ j := fun j hj e => by
    obtain ⟨x, hx, ex⟩ := Cli.hasI_iff.1 e
    have := (Cli.rise_pair hr).2 x hx
    omega
  have H0 := hideG h0f
  clear h hr hsm hss hf hc eid ems esd h0f
  generalize S.f = f at *
  obtain ⟨CS, hCS⟩ : ∃ CS, CS = circ f := ⟨_, rfl⟩
  rw [← hCS] at HRG HRL HIX
  clear hCS
  go_enter Tryz.func260, Tryz.ntmps260
  go_wp2_with (refine wpList_load_mid rfl 203 _ rfl b 12 rfl CS _ HRG.out Tryz.underlying203 rfl ?z ?_)
  case z => rw [size_circ, HRL.out]
  go_wp2_with fail
  go_loopw [3, 16] (fun u i wr => ∃ k : Nat, k ≤ 13 ∧ i = .int .i64 k ∧ wr.ownsRow w.heap.size 147 4 u (Cli.sealedN c l k).length (flat4 (Cli.sealedN c l k)) ∧ Below w.heap.size w wr) (fun _ i _ => 13 - (intOf i).toNat)
  case atStart => exact ⟨0, by omega, rfl, World.ownsRow_nil _ _ _ _, Below.refl _ _⟩
  case round =>
    obtain ⟨k, hk, rfl, hown, hbel⟩ := hrel
    have HO := hideG hown
    have HB := hideG hbel
    have hsz := hbel.size
    obtain ⟨a3, c3, hv3⟩ := owns_form hown
    subst hv3
    clear hown hbel
    by_cases hlt : k < 13
    · have hlt' : (k : Int) < 13 := by omega
      have hix := HIX.out k hlt
      have hmem : (f k).mem = Cli.hasI l k := by
        rw [HF.out k hlt]; unfold Cli.firstP
        cases e : Cli.hasI l k
        · rw [if_neg (by simp)]; rfl
        · rw [if_pos rfl]; unfold Cli.pr1; split <;> rfl
      have HSU := hideG (Cli.sealedN_succ c l k)
      cases q : Cli.hasI l k
      · rw [q] at hmem HSU
        rw [hmem] at hix
        clear hmem
        have HS2 := hideG (show Cli.sealedN c l (k + 1) = Cli.sealedN c l k by rw [HSU.out]; simp)
        clear q
        generalize (f k).ck = y1 at *
        generalize (f k).mq = y2 at *
        generalize (f k).ms = y3 at *
        generalize (f k).ss = y4 at *
        go_wp2_with fail
        go_roundw
        case rel => exact ⟨k + 1, by omega, by go_num, by rw [HS2.out]; exact HO.out.alloc _, HB.out.alloc (by omega) _⟩
        case measure => simp [intOf]; omega
      · rw [q] at hmem HSU
        rw [hmem] at hix
        clear hmem
        have c0 := HP.out _ HB.out
        have al : ∀ (ob : Obj) (o : Nat), (wr.alloc ob).cell? ⟨b, o, none⟩ = wr.cell? ⟨b, o, none⟩ := fun ob o => ((Below.refl wr.heap.size wr).alloc (Nat.le_refl _) ob).cell (p := ⟨b, o, none⟩) (by show b < _; omega)
        by_cases q2 : (k : Int) = c.id
        · have q2' : ((k : Int) == c.id) = true := by simpa using q2
          have HS2 := hideG (show Cli.sealedN c l (k + 1) = Cli.sealedN c l k by rw [HSU.out, decide_eq_false (by simpa using q2)]; simp)
          have HQ := hideG q2
          clear q q2
          generalize (f k).ck = y1 at *
          generalize (f k).mq = y2 at *
          generalize (f k).ms = y3 at *
          generalize (f k).ss = y4 at *
          go_wp2_with fail
          go_roundw
          case rel => exact ⟨k + 1, by omega, by go_num, by rw [HS2.out]; exact HO.out.alloc _, HB.out.alloc (by omega) _⟩
          case measure => simp [intOf]; omega
        · have q2' : ((k : Int) == c.id) = false := by simpa using q2
          have hk1 := H0.out k hlt q
          have hck : (f k).ck = Cli.chKey c l k := by
            rw [HF.out k hlt]; unfold Cli.firstP; rw [if_pos q]; unfold Cli.pr1; rw [if_neg q2]
          have k1 := Num.powP_lo (Cli.itemOf l (k : Int)).2.1 c.ch
          have k2 := Num.powP_hi (Cli.itemOf l (k : Int)).2.1 c.ch
          rw [hck] at hix
          have HS2 := hideG (show Cli.sealedN c l (k + 1) = Cli.sealedN c l k ++ [Cli.sealI c l k] by rw [HSU.out, decide_eq_true (by simpa using q2)]; simp)
          have HSI := hideG (show Cli.sealI c l (k : Int) = ((k : Int), Num.addP (Pol.polyP c.ms c.sm k) (Num.padN (Cli.chKey c l k) (64 * c.id + 4 * k)), Num.addP (Pol.polyP c.sd c.ss k) (Num.padN (Cli.chKey c l k) (64 * c.id + 4 * k + 1)),
            Num.tagN (Cli.chKey c l k) (64 * c.id + 4 * k) (Num.addP (Pol.polyP c.ms c.sm k) (Num.padN (Cli.chKey c l k) (64 * c.id + 4 * k))) (Num.addP (Pol.polyP c.sd c.ss k) (Num.padN (Cli.chKey c l k) (64 * c.id + 4 * k + 1)))) from rfl)
          have p1 : 0 ≤ Pol.polyP c.ms c.sm k ∧ Pol.polyP c.ms c.sm k < 2305843009213693951 := Num.elB_iff.1 (Cli.el_polyP _ _ _)
          have p2 : 0 ≤ Pol.polyP c.sd c.ss k ∧ Pol.polyP c.sd c.ss k < 2305843009213693951 := Num.elB_iff.1 (Cli.el_polyP _ _ _)
          obtain ⟨M, hM⟩ : ∃ M, M = Pol.polyP c.ms c.sm k := ⟨_, rfl⟩
          obtain ⟨E, hE⟩ : ∃ E, E = Pol.polyP c.sd c.ss k := ⟨_, rfl⟩
          have k3 : 0 ≤ Cli.chKey c l k := k1
          have k4 : Cli.chKey c l k < 2305843009213693951 := k2
          obtain ⟨K, hK⟩ : ∃ K, K = Cli.chKey c l k := ⟨_, rfl⟩
          rw [← hK] at hix HSI k3 k4
          rw [← hM] at p1 HSI
          rw [← hE] at p2 HSI
          have HM := hideG hM
          have HE := hideG hE
          have HQ := hideG q2
          obtain ⟨p1, p1'⟩ := p1
          obtain ⟨p2, p2'⟩ := p2
          clear q q2 hM hE hK hck k1 k2
          generalize (f k).mq = y2 at *
          generalize (f k).ms = y3 at *
          generalize (f k).ss = y4 at *
          obtain ⟨W1, hW1⟩ : ∃ W1, W1 = wr.alloc (.cells #[.bool true, .int .i64 K, .int .i64 y2, .int .i64 y3, .int .i64 y4] 201) := ⟨_, rfl⟩
          have sW : W1.heap.size = wr.heap.size + 1 := by rw [hW1]; simp
          have BW := hideG (show Below w.heap.size w W1 by rw [hW1]; exact HB.out.alloc (by omega) _)
          have OW := hideG (show W1.ownsRow w.heap.size 147 4 (.slice a3 (Cli.sealedN c l k).length c3) (Cli.sealedN c l k).length (flat4 (Cli.sealedN c l k)) by rw [hW1]; exact HO.out.alloc _)
          have z1 : W1.cell? ⟨wr.heap.size, 1, none⟩ = some (.int .i64 K) := by rw [hW1]; simp
          have Z1 := hideG z1
          clear z1
          have HW1 := hideG hW1
          go_wp2_with fail
          rw [← HW1.out]
          clear hW1 al c0
          refine (HSM.out W1 k hlt BW.out).mono ?_
          rintro e w1 ⟨rfl, hb1⟩
          rw [← HM.out]
          have s1 := hb1.size
          have B1 := hideG (BW.out.trans (hb1.mono BW.out.size))
          have O1 := hideG (ownsRow_chg (S := fun _ => False) OW.out (Chg.of_below hb1) (fun _ _ h => h))
          have Z2 := hideG ((hb1.cell (p := ⟨wr.heap.size, 1, none⟩) (by show wr.heap.size < W1.heap.size; omega)).trans Z1.out)
          clear hb1
          go_wp2_with fail
          refine (HSS.out w1 k hlt B1.out).mono ?_
          rintro e w2 ⟨rfl, hb2⟩
          rw [← HE.out]
          have s2 := hb2.size
          have B2 := hideG (B1.out.trans (hb2.mono B1.out.size))
          have O2 := hideG (ownsRow_chg (S := fun _ => False) O1.out (Chg.of_below hb2) (fun _ _ h => h))
          have z3 := (hb2.cell (p := ⟨wr.heap.size, 1, none⟩) (by show wr.heap.size < w1.heap.size; omega)).trans Z2.out
          have c0 := HP.out _ B2.out
          clear hb2
          go_wp2_with fail
          go_quiet ((go_at_call 218; refine Calls.quiet_of_same (seal_yes _ _ _ _ _ _ k3 k4 (by omega) (by omega) (by omega) (by omega) p1 p1' p2 p2')))
          obtain ⟨A1, hA1⟩ : ∃ A, A = Num.addP M (Num.padN K (64 * c.id + 4 * k)) := ⟨_, rfl⟩
          obtain ⟨A2, hA2⟩ : ∃ A, A = Num.addP E (Num.padN K (64 * c.id + 4 * k + 1)) := ⟨_, rfl⟩
          rw [← hA1, ← hA2] at HSI ⊢
          obtain ⟨A3, hA3⟩ : ∃ A, A = Num.tagN K (64 * c.id + 4 * k) A1 A2 := ⟨_, rfl⟩
          rw [← hA3] at HSI ⊢
          clear hA1 hA2 hA3
          have O3 := hideG (ownsRow_chg (S := fun _ => False) O2.out (Chg.of_below (below_drewN w2 nq)) (fun _ _ h => h))
          have B3 := hideG (B2.out.trans ((below_drewN w2 nq).mono B2.out.size))
          have hl13 := sealedN_len c l k
          go_wp2_with (at_builtin; refine wpList_append_own _ rfl _ _ 63 rfl w.heap.size 147 i1 (.agg #[.int .i64 0, .int .i64 0, .int .i64 0, .int .i64 0]) 4 32 Tryz.underlying63 hi1 hy0 hy1 hy2 rfl (by decide) _ _ _ rfl (O3.out.alloc _) ⟨(w2.drewN nq).heap.size, 0, none⟩ 1 1 [.int .i64 k, .int .i64 A1, .int .i64 A2, .int .i64 A3] rfl rfl ?c1 ?c2 ?c3 ?c4 ?c5 ?_)
          case c1 => exact cell_four_new _ _ _ _ _ _
          case c2 => intro u hu; simp at hu; rcases hu with rfl | rfl | rfl | rfl <;> rfl
          case c3 => unfold maxLen; omega
          case c4 => omega
          case c5 => simp; omega
          intro v' w4 hown' hgrow' _
          have hb4 := (B3.out.alloc (by simp; omega) _).grown hgrow' (by simp; omega) (fun y hy => (O3.out.lt y hy).1)
          have B4 := hideG hb4
          have O4 := hideG (show w4.ownsRow w.heap.size 147 4 v' (Cli.sealedN c l (k + 1)).length (flat4 (Cli.sealedN c l (k + 1))) by
            rw [HS2.out, flat4_append, HSI.out, List.length_append]; exact hown')
          clear hown' hgrow' hb4
          go_wp2_with fail
          go_roundw
          case rel => exact ⟨k + 1, by omega, by go_num, O4.out, B4.out⟩
          case measure => simp [intOf]; omega
    · have ek : k = 13 := by omega
      subst ek
      go_wp2_with fail
      go_ret
      exact ⟨_, rfl, by rw [← HAL.out]; exact HO.out, HB.out⟩
end Go.Proofs.YtchideljndagjabGreat
