/- Contract of package veilkeep: one step on a session. -/
import Derived.Test.YtchideljndagjabGreatPkQuBG
import Derived.Test.YtchideljndagjabGreatPkQuBJ
import Derived.Deep.DeepCutAuto
import Derived.Test.YtchideljndagjabGreatPkQuAG
import Derived.Test.YtchideljndagjabGreatPkQuAC
import Derived.BigQuiet
namespace Go.Proofs.YtchideljndagjabGreat
open Go.ChangeShapes Go.WideShapes Go.ChangeAt Go.RowKit
set_option linter.unusedVariables false

/-- What a step hands out: nothing, or the parcel that was delivered, in new memory. -/
def ParAt (w : World) (B : Nat) (v : Value) : Option Pk → Prop
  | none => v = .slice none 0 0
  | some p => ∃ g o c y, v = .slice (some ⟨g, o, none⟩) 1 c ∧ 1 ≤ c ∧ c ≤ 9223372036854775807 ∧ B ≤ g ∧ g < w.heap.size ∧ w.cell? ⟨g, o, none⟩ = some (.int .i64 p.1) ∧ w.cell? ⟨g, o + 1, none⟩ = some (.int .i64 p.2.1) ∧ w.cell? ⟨g, o + 2, none⟩ = some y ∧ BytesAt w y p.2.2 ∧ ∀ x, y.ownBlock = some x → B ≤ x ∧ x < w.heap.size
structure Acted (w w' : World) (b n : Nat) (C : Srv.Cf) (cl : Nat → Cli.Cl) (s' : Sn) (m : SM) (v : Value) (op : Option Pk) : Prop where
  took : ∃ m', SesTook w w' b n C cl s' m m' ∧ ∀ g o k c, v = .slice (some ⟨g, o, none⟩) k c → ¬ SesOwn b m' g
  par : ∃ B, w.heap.size ≤ B ∧ ParAt w' B v op
/-- A parcel of a list of its own, while the session goes on. -/
theorem par_keep {w1 w2 : World} {b n : Nat} {C : Srv.Cf} {cl : Nat → Cli.Cl} {s' : Sn} {m m' : SM} {B : Nat} {v : Value} {vs : List Value} {ps : List Pk} (hp : Packs w1 B v vs ps) (hB : ∀ p ∈ ps, Frm.isB p.2.2) (ht : SesTook w1 w2 b n C cl s' m m') (hm : ∀ x, SesOwn b m x → x < B)
    {j : Nat} {p : Pk} (hj : ps[j]? = some p) : ∃ g c y, v = .slice (some ⟨g, 0, none⟩) ps.length c ∧ ps.length ≤ c ∧ c ≤ 9223372036854775807 ∧ B ≤ g ∧ g < w2.heap.size ∧ w2.cell? ⟨g, j * 3, none⟩ = some (.int .i64 p.1) ∧ w2.cell? ⟨g, j * 3 + 1, none⟩ = some (.int .i64 p.2.1) ∧ w2.cell? ⟨g, j * 3 + 2, none⟩ = some y ∧ BytesAt w2 y p.2.2 ∧ (∀ x, y.ownBlock = some x → B ≤ x ∧ x < w2.heap.size) ∧ ¬ SesOwn b m' g := by
  have z := ht.chg.size
  obtain ⟨a, c, e1, e2, e3, e4⟩ := hp.viewK
  obtain ⟨g, y, f1, f2, f3, f4, f5, f6, f7⟩ := e4 j p hj
  have hg := hp.low g (.inl (by rw [e1, f1]; rfl))
  have hbl : ∀ x, B ≤ x → x < w1.heap.size → w2.heap[x]? = w1.heap[x]? := fun x h1 h2 => ht.chg.block x h2 (fun e => by have := hm x e; omega)
  have hgb := hbl g hg.1 hg.2
  refine ⟨g, c, y, by rw [e1, f1], e2, e3, hg.1, by omega, (World.cell?_of_block (w := w1) (a := ⟨g, j * 3, none⟩) hgb).trans f4, (World.cell?_of_block (w := w1) (a := ⟨g, j * 3 + 1, none⟩) hgb).trans f5, (World.cell?_of_block (w := w1) (a := ⟨g, j * 3 + 2, none⟩) hgb).trans f6, (bytesAt_of_owns f7 (hB p (List.mem_of_getElem? hj))).keepS z (fun x hx => hbl x (f7.lt x hx).1 (f7.lt x hx).2), fun x hx => ⟨(f7.lt x hx).1, Nat.lt_of_lt_of_le (f7.lt x hx).2 z⟩, fun e => ?_⟩
  rcases ht.own g e with q | q
  · have := hm g q; omega
  · omega

/-- The boxes of the arguments. -/
def actW (w : World) (N T M D k x y : Int) (st : ByteArray) : World := (w.alloc (.cells #[.int .i64 N, .int .i64 T, .int .i64 M, .int .i64 D] 26)).alloc (.cells #[.int .i64 k, .int .i64 x, .int .i64 y, .string st] 45)
theorem actW_below (w : World) (N T M D k x y : Int) (st : ByteArray) : Below w.heap.size w (actW w N T M D k x y st) := ((Below.refl _ _).alloc (Nat.le_refl _) _).alloc (by simp) _
theorem actW_size (w : World) (N T M D k x y : Int) (st : ByteArray) : (actW w N T M D k x y st).heap.size = w.heap.size + 2 := by simp [actW]
theorem actW_rows {w W : World} {N T M D k x y : Int} {st : ByteArray} (hb : Below (actW w N T M D k x y st).heap.size (actW w N T M D k x y st) W) : (W.cell? ⟨w.heap.size, 0, none⟩ = some (.int .i64 N)) ∧ W.cell? ⟨w.heap.size + 1, 0, none⟩ = some (.int .i64 k) ∧ W.cell? ⟨w.heap.size + 1, 1, none⟩ = some (.int .i64 x) ∧ W.cell? ⟨w.heap.size + 1, 2, none⟩ = some (.int .i64 y) ∧ W.cell? ⟨w.heap.size + 1, 3, none⟩ = some (.string st) := by
  have z := actW_size w N T M D k x y st
  have k1 : ∀ o, W.cell? ⟨w.heap.size, o, none⟩ = (actW w N T M D k x y st).cell? ⟨w.heap.size, o, none⟩ := fun o => hb.cell (p := ⟨w.heap.size, o, none⟩) (by show w.heap.size < _; omega)
  have k2 : ∀ o, W.cell? ⟨w.heap.size + 1, o, none⟩ = (actW w N T M D k x y st).cell? ⟨w.heap.size + 1, o, none⟩ := fun o => hb.cell (p := ⟨w.heap.size + 1, o, none⟩) (by show w.heap.size + 1 < _; omega)
  simp only [k1, k2]
  unfold actW
  refine ⟨?_, ?_, ?_, ?_, ?_⟩ <;> simp

section
variable {w : World} {b n : Nat} {C : Srv.Cf} {cl : Nat → Cli.Cl} {s : Sn} {m : SM}
theorem flight_at (h : SesAt w b n C cl s m) (ok : SnOk C cl n s) {W : World} (hb : Below w.heap.size w W) : Calls Tryz.prog 30 #[.pointer (some ⟨b, 0, none⟩)] W fun e w' => ∃ v vs, e = .returned v ∧ Packs w' W.heap.size v vs s.fl ∧ Below W.heap.size W w' :=
  vFlight (h.below hb) (by have := ok.fl; omega) ok.flb
set_option maxHeartbeats 2000000 in
set_option maxRecDepth 100000 in
/-- Deliver. -/
theorem act_deliver (h : SesAt w b n C cl s m) (ok : SnOk C cl n s) (hB : FlB s) (N T M D x y : Int) (hx : inI x) (st : ByteArray) (fg : Bool) (h0 : 0 < s.fl.length) :
    Calls Tryz.prog 12 #[.pointer (some ⟨b, 0, none⟩), .agg #[.int .i64 N, .int .i64 T, .int .i64 M, .int .i64 D], .agg #[.int .i64 1, .int .i64 x, .int .i64 y, .string st], .bool fg] w fun e w' => ∃ v, e = .returned (.tuple #[v, .bool true]) ∧ Acted w w' b n C cl (deliverN C cl n s (Num.pickN x s.fl.length)) m v (s.fl[(Num.pickN x s.fl.length).toNat]?) := by
  have HFL := hideG (fun (W : World) (hb : Below w.heap.size w W) => flight_at h ok hb)
  obtain ⟨a1, a2, a3⟩ := pick_in (c := x) h0
  obtain ⟨i, hi⟩ : ∃ i : Nat, (i : Int) = Num.pickN x s.fl.length := ⟨(Num.pickN x s.fl.length).toNat, by omega⟩
  have hil : i < s.fl.length := by omega
  have HDE := hideG (fun (W : World) (hb : Below w.heap.size w W) => vDeliver (h.below hb) ok (i : Int))
  have e0 : deliverE s (i : Int) = 0 := by unfold deliverE; rw [if_pos ⟨by omega, by omega⟩]
  rw [e0] at HDE
  have HPK := hideG (fun (W : World) => pick_calls x s.fl.length W hx.1 hx.2 (by omega) (by have := ok.fl; omega))
  rw [← hi] at HPK ⊢
  rw [show ((i : Int)).toNat = i by omega, List.getElem?_eq_getElem hil]
  have HG := hideG (List.getElem?_eq_getElem hil)
  have HLO := hideG (fun x (hx : SesOwn b m x) => h.low (.inl hx : SesFoot b n m x))
  have HFB := hideG hB
  have hlen : s.fl.length ≤ 300 := by have := ok.fl; omega
  obtain ⟨p, hp⟩ : ∃ p, p = s.fl[i] := ⟨_, rfl⟩
  rw [← hp] at HG ⊢
  have B0 := hideG (actW_below w N T M D 1 x y st)
  have z0 := actW_size w N T M D 1 x y st
  have HR := hideG (fun (W : World) hb => actW_rows (w := w) (W := W) (N := N) (T := T) (M := M) (D := D) (k := 1) (x := x) (y := y) (st := st) hb)
  obtain ⟨W0, hW0⟩ : ∃ W0, W0 = actW w N T M D 1 x y st := ⟨_, rfl⟩
  rw [← hW0] at B0 z0 HR
  unfold actW at hW0
  have HW0 := hideG hW0
  clear h ok hB hW0 a1 a2 a3 hi e0 hp h0
  obtain ⟨L, hL⟩ : ∃ L, L = s.fl.length := ⟨_, rfl⟩
  have HLL := hideG hL
  rw [← hL] at hil hlen HPK
  go_enter Tryz.func12, Tryz.ntmps12
  go_upto_region 1 with fail
  rw [← HW0.out]
  go_wp2_with fail
  refine (HFL.out W0 B0.out).mono ?_
  rintro e w1 ⟨v, vs, rfl, hpk, hb1⟩
  obtain ⟨q0, q1, q2, q3, q4⟩ := HR.out w1 hb1
  have z1 := hb1.size
  have B1 := hideG (B0.out.trans (hb1.mono (by omega)))
  have HDW := hideG (HDE.out w1 B1.out)
  have HPR := hideG hpk
  obtain ⟨av, cv, hv, hlc, hcm, -⟩ := hpk.viewK
  rw [← hL] at hv hlc
  have HV := hideG hv
  rw [hv]
  clear hpk hb1 hL hv
  have l0 : (0 : Int) < (L : Int) := by omega
  have hiL : (i : Int) < (L : Int) := by omega
  go_wp2_with fail
  refine (HPK.out w1).mono ?_
  rintro e w' ⟨rfl, rfl⟩
  go_wp2_with fail
  refine HDW.out.mono ?_
  rintro e w2 ⟨rfl, m', ht⟩
  have PK := hideG (par_keep HPR.out HFB.out ht (fun x hx => Nat.lt_of_lt_of_le (HLO.out x hx) (by omega)) HG.out)
  have HT := hideG (ht.after B1.out)
  clear ht
  obtain ⟨g, c, yv, f1, f2, f3, f4, f5, f6, f7, f8, f9, f10, f11⟩ := PK.out
  rw [HV.out, ← HLL.out] at f1
  obtain ⟨rfl, rfl⟩ : av = some ⟨g, 0, none⟩ ∧ cv = c := by injection f1 with q1 q2 q3; exact ⟨q1, q3⟩
  have HP2 := hideG (And.intro f4 (And.intro f5 (And.intro f6 (And.intro f7 (And.intro f8 (And.intro f9 (And.intro f10 f11)))))))
  clear f1 f4 f5 f6 f7 f8 f9 f10 f11 q0 q1 q2 q3 q4
  go_wp2_with fail
  go_ret2
  obtain ⟨f4, f5, f6, f7, f8, f9, f10, f11⟩ := HP2.out
  refine ⟨_, rfl, ⟨m', HT.out, fun g' o' k' c' e => ?_⟩, W0.heap.size, by omega, ?_⟩
  · injection e with e1 e2 e3
    injection e1 with e1
    injection e1 with e4 e5 e6
    rw [← e4]; exact f11
  · refine ⟨g, i * 3, cv - i, yv, ?_, by omega, by omega, f4, f5, f6, f7, f8, f9, f10⟩
    congr 1
    all_goals (first | rfl | omega | (congr 2; omega))

set_option maxHeartbeats 2000000 in
set_option maxRecDepth 100000 in
/-- Drop. -/
theorem act_drop (h : SesAt w b n C cl s m) (ok : SnOk C cl n s) (N T M D x y : Int) (st : ByteArray) (fg : Bool) (hx : inI x) (h0 : 0 < s.fl.length) :
    Calls Tryz.prog 12 #[.pointer (some ⟨b, 0, none⟩), .agg #[.int .i64 N, .int .i64 T, .int .i64 M, .int .i64 D], .agg #[.int .i64 2, .int .i64 x, .int .i64 y, .string st], .bool fg] w fun e w' => e = .returned (.tuple #[.slice none 0 0, .bool true]) ∧ ∃ m', SesTook w w' b n C cl (dropN s (Num.pickN x s.fl.length)) m m' := by
  have HFL := hideG (fun (W : World) (hb : Below w.heap.size w W) => flight_at h ok hb)
  obtain ⟨a1, a2, a3⟩ := pick_in (c := x) h0
  have HDE := hideG (fun (W : World) (hb : Below w.heap.size w W) => vDrop (h.below hb) ok (Num.pickN x s.fl.length))
  have e0 : deliverE s (Num.pickN x s.fl.length) = 0 := by unfold deliverE; rw [if_pos ⟨a1, a2⟩]
  rw [e0] at HDE
  have HPK := hideG (fun (W : World) => pick_calls x s.fl.length W hx.1 hx.2 (by omega) (by have := ok.fl; omega))
  have hlen : s.fl.length ≤ 300 := by have := ok.fl; omega
  obtain ⟨i, hi⟩ : ∃ i, i = Num.pickN x s.fl.length := ⟨_, rfl⟩
  rw [← hi] at HPK HDE ⊢
  have B0 := hideG (actW_below w N T M D 2 x y st)
  have z0 := actW_size w N T M D 2 x y st
  have HR := hideG (fun (W : World) hb => actW_rows (w := w) (W := W) (N := N) (T := T) (M := M) (D := D) (k := 2) (x := x) (y := y) (st := st) hb)
  obtain ⟨W0, hW0⟩ : ∃ W0, W0 = actW w N T M D 2 x y st := ⟨_, rfl⟩
  rw [← hW0] at B0 z0 HR
  unfold actW at hW0
  have HW0 := hideG hW0
  clear hW0
  clear h ok a1 a2 a3 hi e0
  obtain ⟨L, hL⟩ : ∃ L, L = s.fl.length := ⟨_, rfl⟩
  rw [← hL] at h0 hlen HPK
  go_enter Tryz.func12, Tryz.ntmps12
  go_upto_region 1 with fail
  rw [← HW0.out]
  go_wp2_with fail
  refine (HFL.out W0 B0.out).mono ?_
  rintro e w1 ⟨v, vs, rfl, hpk, hb1⟩
  obtain ⟨q0, q1, q2, q3, q4⟩ := HR.out w1 hb1
  have z1 := hb1.size
  have B1 := hideG (B0.out.trans (hb1.mono (by omega)))
  obtain ⟨av, cv, hv, -⟩ := hpk.viewK
  rw [← hL] at hv
  rw [hv]
  clear hpk hv hL
  have HDW := hideG (HDE.out w1 B1.out)
  clear hb1
  have l0 : (0 : Int) < (L : Int) := by omega
  go_wp2_with fail
  refine (HPK.out w1).mono ?_
  rintro e w' ⟨rfl, rfl⟩
  go_wp2_with fail
  refine HDW.out.mono ?_
  rintro e w2 ⟨rfl, m', ht⟩
  have HT := hideG (ht.after B1.out)
  clear ht q0 q1 q2 q3 q4
  go_wp2_with fail
  go_ret2
  exact ⟨rfl, m', HT.out⟩

set_option maxHeartbeats 2000000 in
set_option maxRecDepth 100000 in
/-- Double. -/
theorem act_double (h : SesAt w b n C cl s m) (ok : SnOk C cl n s) (N T M D x y : Int) (st : ByteArray) (fg : Bool) (hx : inI x) (h0 : 0 < s.fl.length) :
    Calls Tryz.prog 12 #[.pointer (some ⟨b, 0, none⟩), .agg #[.int .i64 N, .int .i64 T, .int .i64 M, .int .i64 D], .agg #[.int .i64 3, .int .i64 x, .int .i64 y, .string st], .bool fg] w fun e w' => e = .returned (.tuple #[.slice none 0 0, .bool true]) ∧ ∃ m', SesTook w w' b n C cl (doubleN s (Num.pickN x s.fl.length)) m m' := by
  have HFL := hideG (fun (W : World) (hb : Below w.heap.size w W) => flight_at h ok hb)
  obtain ⟨a1, a2, a3⟩ := pick_in (c := x) h0
  have HDE := hideG (fun (W : World) (hb : Below w.heap.size w W) => vDouble (h.below hb) (Num.pickN x s.fl.length))
  have e0 : doubleE s (Num.pickN x s.fl.length) = if s.fl.length < 200 then 0 else 8 := by unfold doubleE; rw [if_pos ⟨a1, a2⟩]
  rw [e0] at HDE
  have HPK := hideG (fun (W : World) => pick_calls x s.fl.length W hx.1 hx.2 (by omega) (by have := ok.fl; omega))
  have hlen : s.fl.length ≤ 300 := by have := ok.fl; omega
  obtain ⟨i, hi⟩ : ∃ i, i = Num.pickN x s.fl.length := ⟨_, rfl⟩
  rw [← hi] at HPK HDE ⊢
  have B0 := hideG (actW_below w N T M D 3 x y st)
  have z0 := actW_size w N T M D 3 x y st
  have HR := hideG (fun (W : World) hb => actW_rows (w := w) (W := W) (N := N) (T := T) (M := M) (D := D) (k := 3) (x := x) (y := y) (st := st) hb)
  obtain ⟨W0, hW0⟩ : ∃ W0, W0 = actW w N T M D 3 x y st := ⟨_, rfl⟩
  rw [← hW0] at B0 z0 HR
  unfold actW at hW0
  have HW0 := hideG hW0
  clear hW0
  clear h ok a1 a2 a3 hi e0
  obtain ⟨L, hL⟩ : ∃ L, L = s.fl.length := ⟨_, rfl⟩
  rw [← hL] at h0 hlen HPK HDE
  by_cases hfull : L < 200
  · rw [if_pos hfull] at HDE
    go_enter Tryz.func12, Tryz.ntmps12
    go_upto_region 1 with fail
    rw [← HW0.out]
    go_wp2_with fail
    refine (HFL.out W0 B0.out).mono ?_
    rintro e w1 ⟨v, vs, rfl, hpk, hb1⟩
    obtain ⟨q0, q1, q2, q3, q4⟩ := HR.out w1 hb1
    have z1 := hb1.size
    have B1 := hideG (B0.out.trans (hb1.mono (by omega)))
    obtain ⟨av, cv, hv, -⟩ := hpk.viewK
    rw [← hL] at hv
    rw [hv]
    clear hpk hv hL
    have HDW := hideG (HDE.out w1 B1.out)
    clear hb1
    have l0 : (0 : Int) < (L : Int) := by omega
    have l2 : (L : Int) < 200 := by omega
    go_wp2_with fail
    refine (HPK.out w1).mono ?_
    rintro e w' ⟨rfl, rfl⟩
    go_wp2_with fail
    refine HDW.out.mono ?_
    rintro e w2 ⟨rfl, m', ht⟩
    have HT := hideG (ht.after B1.out)
    clear ht q0 q1 q2 q3 q4
    go_wp2_with fail
    go_ret2
    exact ⟨rfl, m', HT.out⟩
  · rw [if_neg hfull] at HDE
    go_enter Tryz.func12, Tryz.ntmps12
    go_upto_region 1 with fail
    rw [← HW0.out]
    go_wp2_with fail
    refine (HFL.out W0 B0.out).mono ?_
    rintro e w1 ⟨v, vs, rfl, hpk, hb1⟩
    obtain ⟨q0, q1, q2, q3, q4⟩ := HR.out w1 hb1
    have z1 := hb1.size
    have B1 := hideG (B0.out.trans (hb1.mono (by omega)))
    obtain ⟨av, cv, hv, -⟩ := hpk.viewK
    rw [← hL] at hv
    rw [hv]
    clear hpk hv hL
    have HDW := hideG (HDE.out w1 B1.out)
    clear hb1
    have l0 : (0 : Int) < (L : Int) := by omega
    have l2 : (200 : Int) ≤ (L : Int) := by omega
    go_wp2_with fail
    refine (HPK.out w1).mono ?_
    rintro e w' ⟨rfl, rfl⟩
    go_wp2_with fail
    refine HDW.out.mono ?_
    rintro e w2 ⟨rfl, m', ht⟩
    have HT := hideG (ht.after B1.out)
    clear ht q0 q1 q2 q3 q4
    go_wp2_with fail
    go_ret2
    exact ⟨rfl, m', HT.out⟩

set_option maxHeartbeats 2000000 in
set_option maxRecDepth 100000 in
/-- Tick. -/
theorem act_tick (h : SesAt w b n C cl s m) (ok : SnOk C cl n s) (N T M D x y : Int) (st : ByteArray) (fg : Bool)  :
    Calls Tryz.prog 12 #[.pointer (some ⟨b, 0, none⟩), .agg #[.int .i64 N, .int .i64 T, .int .i64 M, .int .i64 D], .agg #[.int .i64 5, .int .i64 x, .int .i64 y, .string st], .bool fg] w fun e w' => e = .returned (.tuple #[.slice none 0 0, .bool true]) ∧ ∃ m', SesTook w w' b n C cl (tickN C s) m m' := by
  have HFL := hideG (fun (W : World) (hb : Below w.heap.size w W) => flight_at h ok hb)
  have HDE := hideG (fun (W : World) (hb : Below w.heap.size w W) => vTick (h.below hb) ok)
  have B0 := hideG (actW_below w N T M D 5 x y st)
  have z0 := actW_size w N T M D 5 x y st
  have HR := hideG (fun (W : World) hb => actW_rows (w := w) (W := W) (N := N) (T := T) (M := M) (D := D) (k := 5) (x := x) (y := y) (st := st) hb)
  obtain ⟨W0, hW0⟩ : ∃ W0, W0 = actW w N T M D 5 x y st := ⟨_, rfl⟩
  rw [← hW0] at B0 z0 HR
  unfold actW at hW0
  have HW0 := hideG hW0
  clear hW0
  clear h ok
  obtain ⟨L, hL⟩ : ∃ L, L = s.fl.length := ⟨_, rfl⟩
  go_enter Tryz.func12, Tryz.ntmps12
  go_upto_region 1 with fail
  rw [← HW0.out]
  go_wp2_with fail
  refine (HFL.out W0 B0.out).mono ?_
  rintro e w1 ⟨v, vs, rfl, hpk, hb1⟩
  obtain ⟨q0, q1, q2, q3, q4⟩ := HR.out w1 hb1
  have z1 := hb1.size
  have B1 := hideG (B0.out.trans (hb1.mono (by omega)))
  obtain ⟨av, cv, hv, -⟩ := hpk.viewK
  rw [← hL] at hv
  rw [hv]
  clear hpk hv hL
  have HDW := hideG (HDE.out w1 B1.out)
  clear hb1
  go_wp2_with fail
  refine HDW.out.mono ?_
  rintro e w2 ⟨rfl, m', ht⟩
  have HT := hideG (ht.after B1.out)
  clear ht q0 q1 q2 q3 q4
  go_wp2_with fail
  go_ret2
  exact ⟨rfl, m', HT.out⟩

set_option maxHeartbeats 2000000 in
set_option maxRecDepth 100000 in
/-- Crash. -/
theorem act_crash (h : SesAt w b n C cl s m) (ok : SnOk C cl n s) (N T M D x y : Int) (st : ByteArray) (fg : Bool) (hx : inI x) (hN : N = (n : Int)) (hn : 1 ≤ n ∧ n ≤ 12) :
    Calls Tryz.prog 12 #[.pointer (some ⟨b, 0, none⟩), .agg #[.int .i64 N, .int .i64 T, .int .i64 M, .int .i64 D], .agg #[.int .i64 6, .int .i64 x, .int .i64 y, .string st], .bool fg] w fun e w' => e = .returned (.tuple #[.slice none 0 0, .bool true]) ∧ ∃ m', SesTook w w' b n C cl (crashU n s (1 + Num.pickN x N)) m m' := by
  have HFL := hideG (fun (W : World) (hb : Below w.heap.size w W) => flight_at h ok hb)
  have a1 := Num.pickN_lo x N (by omega)
  have a2 := Num.pickN_hi x N (by omega)
  have HDE := hideG (fun (W : World) (hb : Below w.heap.size w W) => vCrash (h.below hb) ok (1 + Num.pickN x N))
  have e0 : crashE n (1 + Num.pickN x N) = 0 := by unfold crashE; rw [if_pos ⟨by omega, by omega⟩]
  rw [e0] at HDE
  have HPK := hideG (fun (W : World) => pick_calls x N W hx.1 hx.2 (by omega) (by omega))
  have n12 : N ≤ 12 := by omega
  obtain ⟨i, hi⟩ : ∃ i, i = Num.pickN x N := ⟨_, rfl⟩
  rw [← hi] at HPK HDE a1 a2 ⊢
  have B0 := hideG (actW_below w N T M D 6 x y st)
  have z0 := actW_size w N T M D 6 x y st
  have HR := hideG (fun (W : World) hb => actW_rows (w := w) (W := W) (N := N) (T := T) (M := M) (D := D) (k := 6) (x := x) (y := y) (st := st) hb)
  obtain ⟨W0, hW0⟩ : ∃ W0, W0 = actW w N T M D 6 x y st := ⟨_, rfl⟩
  rw [← hW0] at B0 z0 HR
  unfold actW at hW0
  have HW0 := hideG hW0
  clear hW0
  clear h ok hi e0 hN
  obtain ⟨L, hL⟩ : ∃ L, L = s.fl.length := ⟨_, rfl⟩
  go_enter Tryz.func12, Tryz.ntmps12
  go_upto_region 1 with fail
  rw [← HW0.out]
  go_wp2_with fail
  refine (HFL.out W0 B0.out).mono ?_
  rintro e w1 ⟨v, vs, rfl, hpk, hb1⟩
  obtain ⟨q0, q1, q2, q3, q4⟩ := HR.out w1 hb1
  have z1 := hb1.size
  have B1 := hideG (B0.out.trans (hb1.mono (by omega)))
  obtain ⟨av, cv, hv, -⟩ := hpk.viewK
  rw [← hL] at hv
  rw [hv]
  clear hpk hv hL
  have HDW := hideG (HDE.out w1 B1.out)
  clear hb1
  go_wp2_with fail
  refine (HPK.out w1).mono ?_
  rintro e w' ⟨rfl, rfl⟩
  go_wp2_with fail
  refine HDW.out.mono ?_
  rintro e w2 ⟨rfl, m', ht⟩
  have HT := hideG (ht.after B1.out)
  clear ht q0 q1 q2 q3 q4
  go_wp2_with fail
  go_ret2
  exact ⟨rfl, m', HT.out⟩

set_option maxHeartbeats 2000000 in
set_option maxRecDepth 100000 in
/-- No such step. -/
theorem act_skip (h : SesAt w b n C cl s m) (ok : SnOk C cl n s) (N T M D k x y : Int) (st : ByteArray) (fg : Bool) (k1 : k ≠ 1) (k2 : k ≠ 2) (k3 : k ≠ 3) (k4 : k ≠ 4) (k5 : k ≠ 5) (k6 : k ≠ 6) :
    Calls Tryz.prog 12 #[.pointer (some ⟨b, 0, none⟩), .agg #[.int .i64 N, .int .i64 T, .int .i64 M, .int .i64 D], .agg #[.int .i64 k, .int .i64 x, .int .i64 y, .string st], .bool fg] w fun e w' => e = .returned (.tuple #[.slice none 0 0, .bool true]) ∧ ∃ m', SesTook w w' b n C cl (s) m m' := by
  have HFL := hideG (fun (W : World) (hb : Below w.heap.size w W) => flight_at h ok hb)
  have HSE := hideG h
  have f1 : (k == 1) = false := by simpa using k1
  have f2 : (k == 2) = false := by simpa using k2
  have f3 : (k == 3) = false := by simpa using k3
  have f4 : (k == 4) = false := by simpa using k4
  have f5 : (k == 5) = false := by simpa using k5
  have f6 : (k == 6) = false := by simpa using k6
  have B0 := hideG (actW_below w N T M D k x y st)
  have z0 := actW_size w N T M D k x y st
  have HR := hideG (fun (W : World) hb => actW_rows (w := w) (W := W) (N := N) (T := T) (M := M) (D := D) (k := k) (x := x) (y := y) (st := st) hb)
  obtain ⟨W0, hW0⟩ : ∃ W0, W0 = actW w N T M D k x y st := ⟨_, rfl⟩
  rw [← hW0] at B0 z0 HR
  unfold actW at hW0
  have HW0 := hideG hW0
  clear hW0
  clear h ok k1 k2 k3 k4 k5 k6
  obtain ⟨L, hL⟩ : ∃ L, L = s.fl.length := ⟨_, rfl⟩
  go_enter Tryz.func12, Tryz.ntmps12
  go_upto_region 1 with fail
  rw [← HW0.out]
  go_wp2_with fail
  refine (HFL.out W0 B0.out).mono ?_
  rintro e w1 ⟨v, vs, rfl, hpk, hb1⟩
  obtain ⟨q0, q1, q2, q3, q4⟩ := HR.out w1 hb1
  have z1 := hb1.size
  have B1 := hideG (B0.out.trans (hb1.mono (by omega)))
  obtain ⟨av, cv, hv, -⟩ := hpk.viewK
  rw [← hL] at hv
  rw [hv]
  clear hpk hv hL
  have HT := hideG (sesTook_same HSE.out B1.out)
  clear hb1
  go_wp2_with fail
  go_ret2
  exact ⟨rfl, m, HT.out⟩

set_option maxHeartbeats 2000000 in
set_option maxRecDepth 100000 in
/-- Nothing is in flight. -/
theorem act_empty (h : SesAt w b n C cl s m) (ok : SnOk C cl n s) (N T M D k x y : Int) (st : ByteArray) (fg : Bool) (hk : k = 1 ∨ k = 2 ∨ k = 3) (h0 : s.fl.length = 0) :
    Calls Tryz.prog 12 #[.pointer (some ⟨b, 0, none⟩), .agg #[.int .i64 N, .int .i64 T, .int .i64 M, .int .i64 D], .agg #[.int .i64 k, .int .i64 x, .int .i64 y, .string st], .bool fg] w fun e w' => e = .returned (.tuple #[.slice none 0 0, .bool true]) ∧ ∃ m', SesTook w w' b n C cl (s) m m' := by
  have HFL := hideG (fun (W : World) (hb : Below w.heap.size w W) => flight_at h ok hb)
  have HSE := hideG h
  have B0 := hideG (actW_below w N T M D k x y st)
  have z0 := actW_size w N T M D k x y st
  have HR := hideG (fun (W : World) hb => actW_rows (w := w) (W := W) (N := N) (T := T) (M := M) (D := D) (k := k) (x := x) (y := y) (st := st) hb)
  obtain ⟨W0, hW0⟩ : ∃ W0, W0 = actW w N T M D k x y st := ⟨_, rfl⟩
  rw [← hW0] at B0 z0 HR
  unfold actW at hW0
  have HW0 := hideG hW0
  clear hW0
  clear h ok
  obtain ⟨L, hL⟩ : ∃ L, L = s.fl.length := ⟨_, rfl⟩
  rw [← hL] at h0
  rcases hk with rfl | rfl | rfl
  · go_enter Tryz.func12, Tryz.ntmps12
    go_upto_region 1 with fail
    rw [← HW0.out]
    go_wp2_with fail
    refine (HFL.out W0 B0.out).mono ?_
    rintro e w1 ⟨v, vs, rfl, hpk, hb1⟩
    obtain ⟨q0, q1, q2, q3, q4⟩ := HR.out w1 hb1
    have z1 := hb1.size
    have B1 := hideG (B0.out.trans (hb1.mono (by omega)))
    obtain ⟨av, cv, hv, -⟩ := hpk.viewK
    rw [← hL] at hv
    rw [hv]
    clear hpk hv hL
    have HT := hideG (sesTook_same HSE.out B1.out)
    clear hb1
    subst h0
    go_wp2_with fail
    go_ret2
    exact ⟨rfl, m, HT.out⟩
  · go_enter Tryz.func12, Tryz.ntmps12
    go_upto_region 1 with fail
    rw [← HW0.out]
    go_wp2_with fail
    refine (HFL.out W0 B0.out).mono ?_
    rintro e w1 ⟨v, vs, rfl, hpk, hb1⟩
    obtain ⟨q0, q1, q2, q3, q4⟩ := HR.out w1 hb1
    have z1 := hb1.size
    have B1 := hideG (B0.out.trans (hb1.mono (by omega)))
    obtain ⟨av, cv, hv, -⟩ := hpk.viewK
    rw [← hL] at hv
    rw [hv]
    clear hpk hv hL
    have HT := hideG (sesTook_same HSE.out B1.out)
    clear hb1
    subst h0
    go_wp2_with fail
    go_ret2
    exact ⟨rfl, m, HT.out⟩
  · go_enter Tryz.func12, Tryz.ntmps12
    go_upto_region 1 with fail
    rw [← HW0.out]
    go_wp2_with fail
    refine (HFL.out W0 B0.out).mono ?_
    rintro e w1 ⟨v, vs, rfl, hpk, hb1⟩
    obtain ⟨q0, q1, q2, q3, q4⟩ := HR.out w1 hb1
    have z1 := hb1.size
    have B1 := hideG (B0.out.trans (hb1.mono (by omega)))
    obtain ⟨av, cv, hv, -⟩ := hpk.viewK
    rw [← hL] at hv
    rw [hv]
    clear hpk hv hL
    have HT := hideG (sesTook_same HSE.out B1.out)
    clear hb1
    subst h0
    go_wp2_with fail
    go_ret2
    exact ⟨rfl, m, HT.out⟩
end

end Go.Proofs.YtchideljndagjabGreat

namespace Go.Proofs.YtchideljndagjabGreat
open Go.ChangeShapes Go.WideShapes Go.ChangeAt Go.RowKit
set_option linter.unusedVariables false

section
variable {w : World} {b n : Nat} {C : Srv.Cf} {cl : Nat → Cli.Cl} {s : Sn} {m : SM}

set_option maxHeartbeats 6000000 in
set_option maxRecDepth 100000 in
/-- Inject. -/
theorem act_inject (h : SesAt w b n C cl s m) (ok : SnOk C cl n s) (N T M D x y : Int) (st : ByteArray) (fg : Bool) (hy : inI y) (hN : N = (n : Int)) (hn : n ≤ 12) (hst : st.size ≤ maxLen) :
    Calls Tryz.prog 12 #[.pointer (some ⟨b, 0, none⟩), .agg #[.int .i64 N, .int .i64 T, .int .i64 M, .int .i64 D], .agg #[.int .i64 4, .int .i64 x, .int .i64 y, .string st], .bool fg] w fun e w' => e = .returned (.tuple #[.slice none 0 0, .bool true]) ∧ ∃ m', SesTook w w' b n C cl (if fg = true ∨ Frm.decF (bl st) = none then injectN C cl n s (Num.pickN y (N + 1)) (bl st) else s) m m' := by
  have HFL := hideG (fun (W : World) (hb : Below w.heap.size w W) => flight_at h ok hb)
  have a1 := Num.pickN_lo y (N + 1) (by omega)
  have a2 := Num.pickN_hi y (N + 1) (by omega)
  have HSE := hideG h
  have HDE := hideG (fun (W : World) (hb : Below w.heap.size w W) (v : Value) (hv : BytesAt W v (bl st)) => vInject (h.below hb) ok (Num.pickN y (N + 1)) hv)
  have e0 : injectE n (Num.pickN y (N + 1)) = 0 := by unfold injectE; rw [if_pos ⟨by omega, by omega⟩]
  rw [e0] at HDE
  have HPK := hideG (fun (W : World) => pick_calls y (N + 1) W hy.1 hy.2 (by omega) (by omega))
  have n12 : N ≤ 12 := by omega
  have n0 : 0 ≤ N := by omega
  obtain ⟨i, hi⟩ : ∃ i, i = Num.pickN y (N + 1) := ⟨_, rfl⟩
  rw [← hi] at HPK HDE a1 a2 ⊢
  obtain ⟨N1, hN1⟩ : ∃ N1, N1 = N + 1 := ⟨_, rfl⟩
  rw [← hN1] at HPK
  have hwr : IntKind.i64.wrap (N + 1) = N1 := by rw [IntWalk.i64_left, IntWalk.wrap64_in _ (by omega), hN1]
  have B0 := hideG (actW_below w N T M D 4 x y st)
  have z0 := actW_size w N T M D 4 x y st
  have HR := hideG (fun (W : World) hb => actW_rows (w := w) (W := W) (N := N) (T := T) (M := M) (D := D) (k := 4) (x := x) (y := y) (st := st) hb)
  obtain ⟨W0, hW0⟩ : ∃ W0, W0 = actW w N T M D 4 x y st := ⟨_, rfl⟩
  rw [← hW0] at B0 z0 HR
  unfold actW at hW0
  have HW0 := hideG hW0
  clear hW0 h ok hi e0 hN hn hN1 a1 a2
  obtain ⟨s2, hs2⟩ : ∃ s2, s2 = (if fg = true ∨ Frm.decF (bl st) = none then injectN C cl n s i (bl st) else s) := ⟨_, rfl⟩
  rw [← hs2]
  have HS2 := hideG hs2
  clear hs2
  obtain ⟨L, hL⟩ : ∃ L, L = s.fl.length := ⟨_, rfl⟩
  have HST := hideG hst
  clear hst
  go_enter Tryz.func12, Tryz.ntmps12
  go_upto_region 1 with fail
  rw [← HW0.out]
  go_wp2_with fail
  refine (HFL.out W0 B0.out).mono ?_
  rintro e w1 ⟨v, vs, rfl, hpk, hb1⟩
  obtain ⟨q0, q1, q2, q3, q4⟩ := HR.out w1 hb1
  have z1 := hb1.size
  have B1 := hideG (B0.out.trans (hb1.mono (by omega)))
  have HB1 := hideG hb1
  obtain ⟨av, cv, hv, -⟩ := hpk.viewK
  rw [← hL] at hv
  rw [hv]
  clear hpk hv hL hb1
  obtain ⟨v2, w2, hcv, hba, hb2⟩ := conv_ex w1 st HST.out
  have z2 := hb2.size
  have HDC := hideG (veilDecode v2 (bl st) w2 hba)
  have HB2 := hideG (HB1.out.trans (hb2.mono z1))
  have B2 := hideG (B1.out.trans (hb2.mono B1.out.size))
  clear hba hb2
  go_wp2_with fail
  refine HDC.out.mono ?_
  rintro e w3 ⟨vo, rfl, hown, hb3⟩
  have z3 := hb3.size
  obtain ⟨ao, co, hvo⟩ := owns_form hown
  subst hvo
  have HB3 := hideG (HB2.out.trans (hb3.mono (by omega)))
  have B3 := hideG (B2.out.trans (hb3.mono B2.out.size))
  clear hb3 hown hcv
  have hdE : (Frm.decF (bl st) = none → (dE (bl st) != 0) = true) ∧ (Frm.decF (bl st) ≠ none → (dE (bl st) != 0) = false) := by
    constructor
    · intro q; rw [(d_none q).2.2.2]; rfl
    · intro q
      cases q2 : Frm.decF (bl st) with
      | none => exact absurd q2 q
      | some f => rw [(d_some q2).2.2.2]; rfl
  generalize dK (bl st) = dk at *
  generalize dF (bl st) = df at *
  generalize (dL (bl st)).length = nl at *
  generalize dE (bl st) = de at *
  clear q0 q1 q2 q3 q4
  obtain ⟨W4, hW4⟩ : ∃ W4, W4 = w3.alloc (.cells #[.int .i64 dk, .int .i64 df, .slice ao nl co] 65) := ⟨_, rfl⟩
  have hb4 : Below w3.heap.size w3 W4 := by rw [hW4]; exact (Below.refl _ _).alloc (Nat.le_refl _) _
  have z4 := hb4.size
  have B4 := hideG (B3.out.trans (hb4.mono B3.out.size))
  have HB4 := hideG (HB3.out.trans (hb4.mono (by omega)))
  have HW4 := hideG hW4
  clear hW4 hb4
  obtain ⟨q0, q1, q2, q3, q4⟩ := HR.out W4 HB4.out
  go_upto_region 21 with fail
  rw [← HW4.out]
  have nfin : (fg = true ∨ Frm.decF (bl st) = none) ∨ (fg = false ∧ Frm.decF (bl st) ≠ none) := by
    cases fg
    · by_cases q : Frm.decF (bl st) = none
      · exact .inl (.inr q)
      · exact .inr ⟨rfl, q⟩
    · exact .inl (.inl rfl)
  rcases nfin with hyes | ⟨hf, hdn⟩
  · have es2 : s2 = injectN C cl n s i (bl st) := by rw [HS2.out, if_pos hyes]
    rw [← es2] at HDE
    have hcond : (if fg = true then true else (de != 0)) = true := by
      rcases hyes with q | q
      · rw [q]; rfl
      · rw [hdE.1 q]; split <;> rfl
    obtain ⟨v5, w5, hcv, hba, hb5⟩ := conv_ex W4.drew st HST.out
    have hb45 : Below W4.heap.size W4 w5 := (Below.refl W4.heap.size W4).drew.trans hb5
    have z5 := hb45.size
    have B5 := hideG (B4.out.trans (hb45.mono B4.out.size))
    have HINJ := hideG (HDE.out w5 B5.out v5 hba)
    obtain ⟨p0, p1, p2, p3, p4⟩ := HR.out w5 (HB4.out.trans (hb45.mono (by omega)))
    have hpl : w.heap.size + 1 < W4.heap.size := by omega
    clear hb5 hb45 hba hdE es2
    go_cut [76] (fun q wc => q = .bool true ∧ wc = W4)
    case first =>
      cases fg
      · have hdd : (de != 0) = true := by simpa using hcond
        go_wp2_with fail
        go_meet
        exact ⟨rfl, rfl⟩
      · go_wp2_with fail
        go_meet
        exact ⟨rfl, rfl⟩
    case rest =>
      obtain ⟨hq, hwc⟩ := hcut
      subst hq
      subst hwc
      clear HFL HSE HDE HB1 B1 HDC HB2 B2 HB3 B3 B4 HB4 HW4 hcond hyes HS2 HR HW0 B0 HST z0 z1 z2 z3 z4 z5 n12 n0
      go_upto_region 22 with fail
      go_region_with (first | (go_at_call 21; refine (HPK.out _).mono ?_; rintro e w' ⟨rfl, rfl⟩) | (go_at_call 22; refine HINJ.out.mono ?_; rintro e w6 ⟨rfl, m', ht⟩; have HFIN := hideG (show ∃ m', SesTook w w6 b n C cl s2 m m' from ⟨m', ht.after B5.out⟩); clear ht))
      all_goals (go_wp2_with fail; go_ret2; exact ⟨rfl, HFIN.out⟩)
  · subst hf
    have hdd : (de != 0) = false := hdE.2 hdn
    have es2 : s2 = s := by
      rw [HS2.out, if_neg]
      rintro (q | q)
      · cases q
      · exact hdn q
    have HT := hideG (show SesTook w W4 b n C cl s2 m m by rw [es2]; exact sesTook_same HSE.out B4.out)
    clear es2
    go_wp2_with fail
    go_ret2
    exact ⟨rfl, m, HT.out⟩
end

/-- One step, by its kind. -/
theorem act_calls {w : World} {b n : Nat} {C : Srv.Cf} {cl : Nat → Cli.Cl} {s : Sn} {m : SM} (h : SesAt w b n C cl s m) (hC : Cast C cl n) (ok : SnOk C cl n s) (hB : FlB s) (k x y : Int) (hx : inI x) (hy : inI y) (st : ByteArray) (hst : st.size ≤ maxLen) (fg : Bool) :
    Calls Tryz.prog 12 #[.pointer (some ⟨b, 0, none⟩), .agg #[.int .i64 C.N, .int .i64 C.T, .int .i64 C.M, .int .i64 C.D], .agg #[.int .i64 k, .int .i64 x, .int .i64 y, .string st], .bool fg] w fun e w' => ∃ v, e = .returned (.tuple #[v, .bool true]) ∧ Acted w w' b n C cl (actN C cl n fg s ⟨k, x, y, bl st⟩) m v (actD s ⟨k, x, y, bl st⟩) := by
  have hn := hC.le
  have none_ : ∀ s' w', k ≠ 1 ∨ s.fl.length = 0 → (∃ m', SesTook w w' b n C cl s' m m') → Acted w w' b n C cl s' m (.slice none 0 0) (actD s ⟨k, x, y, bl st⟩) := fun s' w' hk ⟨m', ht⟩ => by
    have hd : actD s ⟨k, x, y, bl st⟩ = none := by
      unfold actD
      by_cases c : k = 1
      · rcases hk with q | q
        · exact absurd c q
        · rw [if_pos c, List.length_eq_zero_iff.1 q]; rfl
      · exact if_neg c
    exact ⟨⟨m', ht, fun g o k c e => (by cases e)⟩, ⟨w.heap.size, Nat.le_refl _, by rw [hd]; rfl⟩⟩
  by_cases h0 : s.fl.length = 0
  · by_cases k13 : k = 1 ∨ k = 2 ∨ k = 3
    · have e : actN C cl n fg s ⟨k, x, y, bl st⟩ = s := by
        unfold actN
        rcases k13 with q | q | q
        · rw [if_pos q, if_pos h0]
        · rw [if_neg (by show ¬ k = 1; omega), if_pos q, if_pos h0]
        · rw [if_neg (by show ¬ k = 1; omega), if_neg (by show ¬ k = 2; omega), if_pos q, if_pos h0]
      rw [e]
      exact (act_empty h ok _ _ _ _ k x y st fg k13 h0).mono (fun e w' ⟨h1, h2⟩ => ⟨_, h1, none_ _ _ (.inr h0) h2⟩)
    · by_cases k4 : k = 4
      · subst k4
        exact (act_inject h ok _ _ _ _ x y st fg hy hC.num hn.2 hst).mono (fun e w' ⟨h1, h2⟩ => ⟨_, h1, none_ _ _ (.inr h0) h2⟩)
      by_cases k5 : k = 5
      · subst k5
        exact (act_tick h ok _ _ _ _ x y st fg).mono (fun e w' ⟨h1, h2⟩ => ⟨_, h1, none_ _ _ (.inr h0) h2⟩)
      by_cases k6 : k = 6
      · subst k6
        exact (act_crash h ok _ _ _ _ x y st fg hx hC.num hn).mono (fun e w' ⟨h1, h2⟩ => ⟨_, h1, none_ _ _ (.inr h0) h2⟩)
      have e : actN C cl n fg s ⟨k, x, y, bl st⟩ = s := by
        unfold actN
        rw [if_neg (by show ¬ k = 1; omega), if_neg (by show ¬ k = 2; omega), if_neg (by show ¬ k = 3; omega), if_neg (by show ¬ k = 4; omega), if_neg (by show ¬ k = 5; omega), if_neg (by show ¬ k = 6; omega)]
      rw [e]
      exact (act_skip h ok _ _ _ _ k x y st fg (by omega) (by omega) (by omega) k4 k5 k6).mono (fun e w' ⟨h1, h2⟩ => ⟨_, h1, none_ _ _ (.inr h0) h2⟩)
  · have hp : 0 < s.fl.length := by omega
    by_cases k1 : k = 1
    · subst k1
      have e : actN C cl n fg s ⟨1, x, y, bl st⟩ = deliverN C cl n s (Num.pickN x s.fl.length) := by unfold actN; rw [if_pos rfl, if_neg h0]
      have e2 : actD s ⟨1, x, y, bl st⟩ = s.fl[(Num.pickN x s.fl.length).toNat]? := if_pos rfl
      rw [e, e2]
      exact act_deliver h ok hB _ _ _ _ x y hx st fg hp
    by_cases k2 : k = 2
    · subst k2
      have e : actN C cl n fg s ⟨2, x, y, bl st⟩ = dropN s (Num.pickN x s.fl.length) := by unfold actN; rw [if_neg (by show ¬ (2 : Int) = 1; omega), if_pos rfl, if_neg h0]
      rw [e]
      exact (act_drop h ok _ _ _ _ x y st fg hx hp).mono (fun e w' ⟨h1, h2⟩ => ⟨_, h1, none_ _ _ (.inl k1) h2⟩)
    by_cases k3 : k = 3
    · subst k3
      have e : actN C cl n fg s ⟨3, x, y, bl st⟩ = doubleN s (Num.pickN x s.fl.length) := by unfold actN; rw [if_neg (by show ¬ (3 : Int) = 1; omega), if_neg (by show ¬ (3 : Int) = 2; omega), if_pos rfl, if_neg h0]
      rw [e]
      exact (act_double h ok _ _ _ _ x y st fg hx hp).mono (fun e w' ⟨h1, h2⟩ => ⟨_, h1, none_ _ _ (.inl k1) h2⟩)
    by_cases k4 : k = 4
    · subst k4
      exact (act_inject h ok _ _ _ _ x y st fg hy hC.num hn.2 hst).mono (fun e w' ⟨h1, h2⟩ => ⟨_, h1, none_ _ _ (.inl k1) h2⟩)
    by_cases k5 : k = 5
    · subst k5
      exact (act_tick h ok _ _ _ _ x y st fg).mono (fun e w' ⟨h1, h2⟩ => ⟨_, h1, none_ _ _ (.inl k1) h2⟩)
    by_cases k6 : k = 6
    · subst k6
      exact (act_crash h ok _ _ _ _ x y st fg hx hC.num hn).mono (fun e w' ⟨h1, h2⟩ => ⟨_, h1, none_ _ _ (.inl k1) h2⟩)
    have e : actN C cl n fg s ⟨k, x, y, bl st⟩ = s := by
      unfold actN
      rw [if_neg k1, if_neg k2, if_neg k3, if_neg k4, if_neg k5, if_neg k6]
    rw [e]
    exact (act_skip h ok _ _ _ _ k x y st fg k1 k2 k3 k4 k5 k6).mono (fun e w' ⟨h1, h2⟩ => ⟨_, h1, none_ _ _ (.inl k1) h2⟩)

end Go.Proofs.YtchideljndagjabGreat

namespace Go.Proofs.YtchideljndagjabGreat
open Go.ChangeShapes Go.WideShapes Go.ChangeAt Go.RowKit
set_option linter.unusedVariables false

set_option maxHeartbeats 1000000 in
set_option maxRecDepth 100000 in
theorem ksameItems_same (va vb : Value) (l : List Frm.It) (w : World) (ha : ItemsAt w va l) (hb : ItemsAt w vb l) :
    Calls Tryz.prog 47 #[va, vb] w fun e w' => e = .returned (.bool true) ∧ ∃ nq, w' = w.drewN nq := by
  obtain ⟨a, ca, rfl, a2, a3, _, hA⟩ := items_view ha
  obtain ⟨b, cb, rfl, b2, b3, _, hB⟩ := items_view hb
  have HA := hideG hA
  have HB := hideG hB
  clear hA hB ha hb
  have el : ((l.length : Int) != (l.length : Int)) = false := by simp
  generalize hn : l.length = n at *
  clear hn
  go_enter Tryz.func47, Tryz.ntmps47
  go_wp2_with fail
  go_loopw [5] (fun i wr => ∃ k nq : Nat, k ≤ n ∧ i = .int .i64 k ∧ wr = w.drewN nq) (fun i _ => n - (intOf i).toNat)
  case atStart => exact ⟨0, 0, by omega, rfl, rfl⟩
  case round =>
    obtain ⟨k, nq, hk, rfl, rfl⟩ := hrel
    by_cases hlt : k < n
    · obtain ⟨g1, o1, rfl, _, p0, p1, p2, p3⟩ := HA.out k hlt
      obtain ⟨g2, o2, rfl, _, q0, q1, q2, q3⟩ := HB.out k hlt
      generalize (Frm.it l k).1 = z0 at *
      generalize (Frm.it l k).2.1 = z1 at *
      generalize (Frm.it l k).2.2.1 = z2 at *
      generalize (Frm.it l k).2.2.2 = z3 at *
      have e0 : (z0 != z0) = false := by simp
      have e1 : (z1 != z1) = false := by simp
      have e2 : (z2 != z2) = false := by simp
      have e3 : (z3 != z3) = false := by simp
      go_wp2_with fail
      go_quiet (fail)
      go_wp2_with fail
      go_roundw
      case rel => exact ⟨k + 1, _, by omega, by go_num, rfl⟩
      case measure => simp [intOf]; omega
    · go_wp2_with fail
      go_ret
      exact ⟨rfl, nq, rfl⟩

end Go.Proofs.YtchideljndagjabGreat
