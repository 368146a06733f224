/- Contracts of the program's client: do Keys agree, does Ask. -/
import Derived.Test.YtchideljndagjaaCliMemAll
import Derived.Test.YtchideljndagjaaFrameCE
import Derived.WalkSpells
namespace Go.Proofs.Ytchideljndagjaa
open Go.ChangeShapes Go.WideShapes Go.ChangeAt Go.RowKit
set_option linter.unusedVariables false

def ownIt (id a b : Int) (x : Frm.It) : Bool := decide (x.1 = id) && (decide (x.2.1 = a) && decide (x.2.2.1 = b))
theorem own_any {l : List Frm.It} (h : Frm.riseB l = true) (id a b : Int) (hid : 1 ≤ id) :
    l.any (ownIt id a b) = (decide ((Cli.itemOf l id).1 = id) && (decide ((Cli.itemOf l id).2.1 = a) && decide ((Cli.itemOf l id).2.2.1 = b))) := by
  cases e : Cli.hasI l id with
  | false =>
    rw [Cli.itemOf_none e, decide_eq_false (show ¬ (0 : Int) = id by omega), Bool.false_and, List.any_eq_false]
    intro x hx
    unfold ownIt
    rw [decide_eq_false (Cli.hasI_off.1 e x hx)]
    exact Bool.false_ne_true
  | true =>
    obtain ⟨x, hx, hid'⟩ := Cli.hasI_iff.1 e
    obtain ⟨j, hj, rfl⟩ := List.getElem_of_mem hx
    have hit := Cli.it_get l j hj
    have hof := Cli.itemOf_it h hj
    rw [hit, hid'] at hof
    rw [hof]
    cases q : (decide ((l[j]).1 = id) && (decide ((l[j]).2.1 = a) && decide ((l[j]).2.2.1 = b))) with
    | true => exact List.any_eq_true.2 ⟨_, hx, q⟩
    | false =>
      rw [List.any_eq_false]
      intro y hy hown
      obtain ⟨i, hi, rfl⟩ := List.getElem_of_mem hy
      unfold ownIt at hown
      rw [Bool.and_eq_true, decide_eq_true_iff] at hown
      have : i = j := by
        rcases Nat.lt_trichotomy i j with r | r | r
        · have := Cli.pair_ne h hi hj r; rw [Cli.it_get l i hi, hit] at this; omega
        · exact r
        · have := Cli.pair_ne h hj hi r; rw [Cli.it_get l i hi, hit] at this; omega
      subst this
      rw [hid', decide_eq_true rfl, hown.2] at q
      cases q
theorem any_take_succ (l : List Frm.It) (k : Nat) (hk : k < l.length) (p : Frm.It → Bool) : (l.take (k + 1)).any p = ((l.take k).any p || p (Frm.it l k)) := by
  rw [List.take_succ_eq_append_getElem hk, List.any_append, Cli.it_get l k hk]; simp
/-- Ahead of the item with the own Id there is none of it. -/
theorem own_none {l : List Frm.It} (h : Frm.riseB l = true) {k : Nat} (hk : k < l.length) {id a b : Int} (e : (Frm.it l k).1 = id) : (l.take k).any (ownIt id a b) = false := by
  rw [List.any_eq_false]
  intro x hx
  obtain ⟨i, hi, rfl⟩ := List.getElem_of_mem hx
  rw [List.getElem_take]
  have hi' : i < k := by rw [List.length_take] at hi; omega
  have := Cli.pair_ne h (by omega) hk hi'
  rw [Cli.it_get l i (by omega), e] at this
  unfold ownIt
  rw [decide_eq_false (by omega)]
  exact Bool.false_ne_true

set_option maxHeartbeats 2000000 in
set_option maxRecDepth 100000 in
theorem keysAgree_calls (b : Nat) (T : TypeId) (S : PS) (v : Value) (l : List Frm.It) (w : World) (h : PSAt w b T S) (hl : ItemsAt w v l) (hr : Frm.riseB l = true) (hlen : l.length ≤ 12) (ht : 1 ≤ S.t ∧ S.t ≤ 12) :
    Calls Try.prog 103 #[.pointer (some ⟨b, 0, none⟩), v] w fun e w' =>
      e = .returned (.bool ((l.all fun x => decide (x.1 ≤ S.n)) && (decide (S.t ≤ (l.length : Int)) && l.any (ownIt S.id S.cp S.mp)))) ∧ Below w.heap.size w w' := by
  have hbl := h.lt
  have HP := hideG (fun (w1 : World) (hb : Below w.heap.size w w1) => (show w1.cell? ⟨b, 0, none⟩ = some (.int .i64 S.id) ∧ w1.cell? ⟨b, 2, none⟩ = some (.int .i64 S.cp) ∧ w1.cell? ⟨b, 3, none⟩ = some (.int .i64 S.mp) ∧ w1.cell? ⟨b, 4, none⟩ = some (.int .i64 S.n) from
    ⟨(h.below hb).c0, (h.below hb).c2, (h.below hb).c3, (h.below hb).c4⟩))
  have c5 := h.c5
  obtain ⟨a, cap, rfl, l2, l3, _, hc⟩ := items_view hl
  have HC := hideG hc
  have HR := hideG hr
  clear h hl hr hc
  generalize S.id = id at *
  generalize S.cp = cp at *
  generalize S.mp = mp at *
  generalize S.n = N at *
  generalize S.t = t at *
  obtain ⟨n, hn⟩ : ∃ n, n = l.length := ⟨_, rfl⟩
  rw [← hn] at l2 HC hlen ⊢
  have HN := hideG hn
  clear hn
  by_cases t0 : (n : Int) < t
  · have H := hideG (decide_eq_false (show ¬ t ≤ (n : Int) by omega))
    go_enter Try.func103, Try.ntmps103
    go_wp2_with fail
    go_ret
    exact ⟨ret_bool (by rw [H.out, Bool.false_and, Bool.and_false]), Below.refl _ _⟩
  have HT := hideG (decide_eq_true (show t ≤ (n : Int) by omega))
  go_enter Try.func103, Try.ntmps103
  go_wp2_with fail
  go_loopw [5, 17] (fun o i wr => ∃ k : Nat, k ≤ n ∧ i = .int .i64 k ∧ o = .bool ((l.take k).any (ownIt id cp mp)) ∧ (∀ j, j < k → (Frm.it l j).1 ≤ N) ∧ Below w.heap.size w wr) (fun _ i _ => n - (intOf i).toNat)
  case atStart => exact ⟨0, Nat.zero_le _, rfl, by simp, fun j hj => absurd hj (by omega), Below.refl _ _⟩
  case round =>
    obtain ⟨k, hk, rfl, rfl, hall, hbel⟩ := hrel
    have HA := hideG hall
    have HB := hideG hbel
    have hsz := hbel.size
    clear hall hbel
    by_cases hlt : k < n
    · obtain ⟨b', off, rfl, hb, hit⟩ := HC.out k hlt
      obtain ⟨d0, d1, d2, d3⟩ := hit.below hb HB.out
      obtain ⟨c0, c2, c3, c4⟩ := HP.out _ HB.out
      clear hit
      have al : ∀ (ob : Obj) (o : Nat), (wr.alloc ob).cell? ⟨b, o, none⟩ = wr.cell? ⟨b, o, none⟩ := fun ob o => ((Below.refl wr.heap.size wr).alloc (Nat.le_refl _) ob).cell (p := ⟨b, o, none⟩) (by show b < _; omega)
      have HS := hideG (any_take_succ l k (by rw [← HN.out]; exact hlt) (ownIt id cp mp))
      obtain ⟨x, hx⟩ : ∃ x, x = (Frm.it l k).1 := ⟨_, rfl⟩
      obtain ⟨xa, hxa⟩ : ∃ x, x = (Frm.it l k).2.1 := ⟨_, rfl⟩
      obtain ⟨xb, hxb⟩ : ∃ x, x = (Frm.it l k).2.2.1 := ⟨_, rfl⟩
      have HX := hideG hx
      have HW := hideG (show ownIt id cp mp (Frm.it l k) = (decide (x = id) && (decide (xa = cp) && decide (xb = mp))) by rw [hx, hxa, hxb]; rfl)
      have HO := hideG (fun (e : x = id) => own_none HR.out (show k < l.length by rw [← HN.out]; exact hlt) (a := cp) (b := mp) (show (Frm.it l k).1 = id by rw [← hx]; exact e))
      rw [← hx] at d0
      rw [← hxa] at d1
      rw [← hxb] at d2
      clear hx hxa hxb
      generalize (Frm.it l k).2.2.2 = xc at *
      obtain ⟨o, ho⟩ : ∃ o, o = (l.take k).any (ownIt id cp mp) := ⟨_, rfl⟩
      rw [← ho]
      have HOO := hideG ho
      clear ho
      by_cases q1 : N < x
      · have H := hideG (show (l.all fun x => decide (x.1 ≤ N)) = false from List.all_eq_false.2 ⟨Frm.it l k, by rw [Cli.it_get l k (by rw [← HN.out]; exact hlt)]; exact List.getElem_mem _, by rw [← HX.out, decide_eq_false (by omega)]; exact Bool.false_ne_true⟩)
        go_wp2_with fail
        go_quiet (fail)
        go_wp2_with fail
        go_ret
        exact ⟨ret_bool (by rw [H.out, Bool.false_and]), (HB.out.alloc (by omega) _).trans ((below_drewN _ _).mono (by simp; omega))⟩
      · by_cases q2 : x = id
        · have q2' : (x == id) = true := by simpa using q2
          have HO2 := hideG (HO.out q2)
          by_cases q3 : xa = cp
          · have q3' : (xa == cp) = true := by simpa using q3
            have HF := hideG (show (l.take (k + 1)).any (ownIt id cp mp) = (xb == mp) by rw [HS.out, HW.out, HO2.out, decide_eq_true q2, decide_eq_true q3]; by_cases q : xb = mp <;> simp [q])
            have HID := hideG q2
            have HID3 := hideG q3
            clear q2 q3
            go_wp2_with fail
            go_quiet (fail)
            go_wp2_with fail
            go_quiet (fail)
            go_wp2_with fail
            go_quiet (fail)
            go_wp2_with fail
            go_roundw
            case rel =>
              refine ⟨k + 1, by omega, by go_num, by rw [HF.out], fun j hj => ?_, (HB.out.alloc (by omega) _).trans ((below_drewN _ _).mono (by simp; omega))⟩
              by_cases e : j = k
              · subst e; rw [← HX.out]; omega
              · exact HA.out j (by omega)
            case measure => simp [intOf]; omega
          · have q3' : (xa == cp) = false := by simpa using q3
            have HF := hideG (show (l.take (k + 1)).any (ownIt id cp mp) = false by rw [HS.out, HW.out, HO2.out, decide_eq_true q2, decide_eq_false q3]; rfl)
            have HID := hideG q2
            have HID3 := hideG q3
            clear q2 q3
            go_wp2_with fail
            go_quiet (fail)
            go_wp2_with fail
            go_quiet (fail)
            go_wp2_with fail
            go_quiet (fail)
            go_wp2_with fail
            go_roundw
            case rel =>
              refine ⟨k + 1, by omega, by go_num, by rw [HF.out], fun j hj => ?_, (HB.out.alloc (by omega) _).trans ((below_drewN _ _).mono (by simp; omega))⟩
              by_cases e : j = k
              · subst e; rw [← HX.out]; omega
              · exact HA.out j (by omega)
            case measure => simp [intOf]; omega
        · have q2' : (x == id) = false := by simpa using q2
          have HF := hideG (show (l.take (k + 1)).any (ownIt id cp mp) = o by rw [HS.out, HW.out, decide_eq_false q2, Bool.false_and, Bool.or_false, HOO.out])
          have HID := hideG q2
          clear q2
          go_wp2_with fail
          go_quiet (fail)
          go_wp2_with fail
          go_quiet (fail)
          go_wp2_with fail
          go_roundw
          case rel =>
            refine ⟨k + 1, by omega, by go_num, by rw [HF.out], fun j hj => ?_, (HB.out.alloc (by omega) _).trans ((below_drewN _ _).mono (by simp; omega))⟩
            by_cases e : j = k
            · subst e; rw [← HX.out]; omega
            · exact HA.out j (by omega)
          case measure => simp [intOf]; omega
    · have ek : k = n := by omega
      subst ek
      have H1 := hideG (show (l.all fun x => decide (x.1 ≤ N)) = true from List.all_eq_true.2 fun x hx => by
        obtain ⟨i, hi, rfl⟩ := List.getElem_of_mem hx
        have := HA.out i (by rw [HN.out]; exact hi)
        rw [Cli.it_get l i hi] at this
        exact decide_eq_true this)
      have H2 := hideG (show (l.take k).any (ownIt id cp mp) = l.any (ownIt id cp mp) by rw [HN.out, List.take_length])
      go_wp2_with fail
      go_ret
      exact ⟨ret_bool (by rw [H1.out, HT.out, H2.out]; rfl), HB.out⟩

end Go.Proofs.Ytchideljndagjaa

/- Contract of the program's client: does Ask agree. -/
namespace Go.Proofs.Ytchideljndagjaa
open Go.ChangeShapes Go.WideShapes Go.ChangeAt Go.RowKit
set_option linter.unusedVariables false

set_option maxHeartbeats 2000000 in
set_option maxRecDepth 100000 in
theorem askAgrees_calls (b : Nat) (T : TypeId) (S : PS) (v : Value) (l : List Frm.It) (w : World) (h : PSAt w b T S) (hl : ItemsAt w v l) (hr : Frm.riseB l = true) (hlen : l.length ≤ 12) (ht : 1 ≤ S.t ∧ S.t ≤ 12) :
    Calls Try.prog 109 #[.pointer (some ⟨b, 0, none⟩), v] w fun e w' =>
      e = .returned (.bool ((l.all fun x => (S.f x.1.toNat).mem) && (Cli.hasI l S.id && decide (S.t ≤ (l.length : Int))))) ∧ Below w.heap.size w w' := by
  have hbl := h.lt
  have HP := hideG (fun (w1 : World) (hb : Below w.heap.size w w1) (u : Nat) (hu : u < 13) => (show w1.cell? ⟨b, 0, none⟩ = some (.int .i64 S.id) ∧ w1.cell? ⟨b, 12 + u * 5, none⟩ = some (.bool (S.f u).mem) from
    ⟨(h.below hb).c0, ((h.below hb).peer u hu).1⟩))
  have c5 := h.c5
  obtain ⟨a, cap, rfl, l2, l3, _, hc⟩ := items_view hl
  have HC := hideG hc
  have HI := hideG (fun j (hj : j < l.length) => (Cli.rise_pair hr).2 (Frm.it l j) (by rw [Cli.it_get l j hj]; exact List.getElem_mem hj))
  clear h hl hr hc
  generalize S.id = id at *
  generalize S.f = f at *
  generalize S.t = t at *
  obtain ⟨n, hn⟩ : ∃ n, n = l.length := ⟨_, rfl⟩
  rw [← hn] at l2 HC hlen ⊢
  have HN := hideG hn
  clear hn
  by_cases t0 : (n : Int) < t
  · have H := hideG (decide_eq_false (show ¬ t ≤ (n : Int) by omega))
    go_enter Try.func109, Try.ntmps109
    go_wp2_with fail
    go_ret
    exact ⟨ret_bool (by rw [H.out, Bool.and_false, Bool.and_false]), Below.refl _ _⟩
  have HT := hideG (decide_eq_true (show t ≤ (n : Int) by omega))
  go_enter Try.func109, Try.ntmps109
  go_wp2_with fail
  go_loopw [5, 17] (fun o i wr => ∃ k : Nat, k ≤ n ∧ i = .int .i64 k ∧ o = .bool (Cli.hasI (l.take k) id) ∧ (∀ j, j < k → (f (Frm.it l j).1.toNat).mem = true) ∧ Below w.heap.size w wr) (fun _ i _ => n - (intOf i).toNat)
  case atStart => exact ⟨0, Nat.zero_le _, rfl, by simp [Cli.hasI], fun j hj => absurd hj (by omega), Below.refl _ _⟩
  case round =>
    obtain ⟨k, hk, rfl, rfl, hall, hbel⟩ := hrel
    have HA := hideG hall
    have HB := hideG hbel
    have hsz := hbel.size
    clear hall hbel
    by_cases hlt : k < n
    · obtain ⟨b', off, rfl, hb, hit⟩ := HC.out k hlt
      obtain ⟨d0, d1, d2, d3⟩ := hit.below hb HB.out
      obtain ⟨u, hu⟩ : ∃ u : Nat, (Frm.it l k).1 = (u : Int) := ⟨(Frm.it l k).1.toNat, by have := HI.out k (by rw [← HN.out]; exact hlt); omega⟩
      have hub := HI.out k (by rw [← HN.out]; exact hlt)
      rw [hu] at hub d0
      have u13 : u < 13 := by omega
      have u13' : (u : Int) < 13 := by omega
      obtain ⟨c0, cm⟩ := HP.out _ HB.out u u13
      clear hit
      have al : ∀ (ob : Obj) (o : Nat), (wr.alloc ob).cell? ⟨b, o, none⟩ = wr.cell? ⟨b, o, none⟩ := fun ob o => ((Below.refl wr.heap.size wr).alloc (Nat.le_refl _) ob).cell (p := ⟨b, o, none⟩) (by show b < _; omega)
      have HS := hideG (Cli.hasI_take_succ l k (by rw [← HN.out]; exact hlt) id)
      have HX := hideG hu
      have HM := hideG (show (f (Frm.it l k).1.toNat).mem = (f u).mem by rw [hu, Int.toNat_natCast])
      clear hu
      generalize (Frm.it l k).2.1 = xa at *
      generalize (Frm.it l k).2.2.1 = xb at *
      generalize (Frm.it l k).2.2.2 = xc at *
      obtain ⟨o, ho⟩ : ∃ o, o = Cli.hasI (l.take k) id := ⟨_, rfl⟩
      rw [← ho]
      have HOO := hideG ho
      clear ho
      cases q1 : (f u).mem
      · rw [q1] at cm
        have H := hideG (show (l.all fun x => (f x.1.toNat).mem) = false from List.all_eq_false.2 ⟨Frm.it l k, by rw [Cli.it_get l k (by rw [← HN.out]; exact hlt)]; exact List.getElem_mem _, by rw [HM.out, q1]; exact Bool.false_ne_true⟩)
        have Q1 := hideG q1
        clear q1
        go_wp2_with fail
        go_quiet (fail)
        go_wp2_with fail
        go_ret
        exact ⟨ret_bool (by rw [H.out, Bool.false_and]), (HB.out.alloc (by omega) _).trans ((below_drewN _ _).mono (by simp; omega))⟩
      · rw [q1] at cm
        have Q1 := hideG q1
        clear q1
        by_cases q2 : (u : Int) = id
        · have q2' : ((u : Int) == id) = true := by simpa using q2
          have HF := hideG (show Cli.hasI (l.take (k + 1)) id = true by rw [HS.out, HX.out, decide_eq_true q2, Bool.or_true])
          have HID := hideG q2
          clear q2
          go_wp2_with fail
          go_quiet (fail)
          go_wp2_with fail
          go_quiet (fail)
          go_wp2_with fail
          go_roundw
          case rel =>
            refine ⟨k + 1, by omega, by go_num, by rw [HF.out], fun j hj => ?_, (HB.out.alloc (by omega) _).trans ((below_drewN _ _).mono (by simp; omega))⟩
            by_cases e : j = k
            · subst e; rw [HM.out, Q1.out]
            · exact HA.out j (by omega)
          case measure => simp [intOf]; omega
        · have q2' : ((u : Int) == id) = false := by simpa using q2
          have HF := hideG (show Cli.hasI (l.take (k + 1)) id = o by rw [HS.out, HX.out, decide_eq_false q2, Bool.or_false, HOO.out])
          have HID := hideG q2
          clear q2
          go_wp2_with fail
          go_quiet (fail)
          go_wp2_with fail
          go_quiet (fail)
          go_wp2_with fail
          go_roundw
          case rel =>
            refine ⟨k + 1, by omega, by go_num, by rw [HF.out], fun j hj => ?_, (HB.out.alloc (by omega) _).trans ((below_drewN _ _).mono (by simp; omega))⟩
            by_cases e : j = k
            · subst e; rw [HM.out, Q1.out]
            · exact HA.out j (by omega)
          case measure => simp [intOf]; omega
    · have ek : k = n := by omega
      subst ek
      have H1 := hideG (show (l.all fun x => (f x.1.toNat).mem) = true from List.all_eq_true.2 fun x hx => by
        obtain ⟨i, hi, rfl⟩ := List.getElem_of_mem hx
        have := HA.out i (by rw [HN.out]; exact hi)
        rw [Cli.it_get l i hi] at this
        exact this)
      have H2 := hideG (show Cli.hasI (l.take k) id = Cli.hasI l id by rw [HN.out, List.take_length])
      go_wp2_with fail
      go_ret
      exact ⟨ret_bool (by rw [H1.out, HT.out, H2.out, Bool.and_true]; rfl), HB.out⟩

end Go.Proofs.Ytchideljndagjaa
