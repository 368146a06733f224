/- Contract of the program's client: Keys are taken. -/
import Derived.Test.YtchideljndagjabGreatPkIdAC
import Derived.Test.YtchideljndagjabGreatPkIdAJ
import Derived.Test.YtchideljndagjabGreatPkIdAK
import Derived.Test.YtchideljndagjabGreatPkIdAL
namespace Go.Proofs.YtchideljndagjabGreat
open Go.ChangeShapes Go.WideShapes Go.ChangeAt Go.RowKit
set_option linter.unusedVariables false
theorem keys_eq {w : World} {b : Nat} {c : Cli.Cl} {s : Cli.St} {S : PS} {l : List Frm.It} (hc : Cli.Good c) (h : CliAt w b c s S) (h1 : s.1 = 1) (hr : Frm.riseB l = true) :
    ((l.all fun x => decide (x.1 ≤ S.n)) && (decide (S.t ≤ (l.length : Int)) && l.any (ownIt S.id S.cp S.mp))) = Cli.keysAgree c l := by
  rw [(h.one h1).1, h.et (by omega) (by omega), h.eid, h.ecp, h.emp, own_any hr _ _ _ hc.i.1]
  rfl
set_option maxHeartbeats 1000000 in
set_option maxRecDepth 100000 in
theorem takeKeys_no (b : Nat) (c : Cli.Cl) (s : Cli.St) (S : PS) (v : Value) (fr : Int) (l : List Frm.It) (w : World) (hc : Cli.Good c) (hw : CliW w b c s S) (h1 : s.1 = 1) (hl : ItemsAt w v l) (ho : Frm.okF 2 fr l = true) (ha : Cli.keysAgree c l = false) (s' : Cli.St) (hs' : s'.1 = 0) :
    Calls Tryz.prog 206 #[.pointer (some ⟨b, 0, none⟩), v] w fun e w' => ∃ va, e = .returned va ∧ ∃ S', Took w w' b c s' S S' ∧ Ans w w' b S' va none := by
  have h := hw.cli
  have HLOW := hideG hw.low
  clear hw
  obtain ⟨o1, o2, o3, o4, o5⟩ := Frm.okF_parts ho
  have gt := hc.t
  have gn := hc.n
  have et := h.et (by omega) (by omega)
  have HK := hideG (keysAgree_calls b _ S v l w h.at_ hl o3 o1 (by rw [et]; omega))
  rw [keys_eq hc h h1 o3, ha] at HK
  have HH := hideG (fun w1 (hb : Below w.heap.size w w1) => halt_calls b _ S w1 (h.at_.below hb))
  have HE := hideG (And.intro h.eid (And.intro h.ecp h.emp))
  obtain ⟨a, cap, rfl, -⟩ := items_view hl
  clear h hl ho ha o1 o2 o3 o4 o5 et
  go_enter Tryz.func206, Tryz.ntmps206
  go_wp2_with fail
  refine HK.out.mono ?_
  rintro e w1 ⟨rfl, hb1⟩
  have HB := hideG hb1
  clear hb1
  go_wp2_with fail
  refine (HH.out w1 HB.out).mono ?_
  rintro e w2 ⟨rfl, hp, hch⟩
  have HP := hideG hp
  have HC := hideG hch
  clear hp hch
  go_wp2_with fail
  go_ret
  exact ⟨_, rfl, haltS S, took_halt hs' HP.out HE.out.1 HE.out.2.1 HE.out.2.2 (Chg.of_below HB.out) HC.out, rfl⟩
theorem PSAt.drew {w : World} {b : Nat} {T : TypeId} {s : PS} (h : PSAt w b T s) : PSAt w.drew b T s := by unfold PSAt at *; exact h
def keyedS (S : PS) (f : Nat → Cli.Pr) : PS := { S with ph := 2, f := f, ch := 0, ms := 0, sm := .slice none 0 0, ss := .slice none 0 0 }
theorem keyed_end {w w5 W : World} {b B : Nat} {S : PS} {g : Nat → Cli.Pr} {T : TypeId} {v : Value} {l : List Frm.It} (h : PSAt w5 b T { S with f := g, ph := 2 }) (hc : Chg (fun x => x = b) w w5) (ho : w5.ownsRow B 147 4 v l.length (flat4 l)) (hB : b < B)
    (hW : W = (w5.setCells b 6 [S.inp, .int .i64 0, .int .i64 0, .int .i64 S.sd, .slice none 0 0, .slice none 0 0]).drew) :
    PSAt W b T (keyedS S g) ∧ Chg (fun x => x = b) w W ∧ W.ownsRow B 147 4 v l.length (flat4 l) := by
  have c1 : Chg (fun x => x = b) w5 (w5.setCells b 6 [S.inp, .int .i64 0, .int .i64 0, .int .i64 S.sd, .slice none 0 0, .slice none 0 0]).drew := (chg_setCells b _ 6 w5).also (Chg.drew _ _)
  rw [hW]
  refine ⟨(h.setDraw S.inp 0 0 S.sd (.slice none 0 0) (.slice none 0 0)).drew, hc.also c1, ownsRow_chg ho c1 (fun x e hx => by have := (ho.lt x e).1; omega)⟩
set_option maxHeartbeats 2000000 in
set_option maxRecDepth 100000 in
theorem takeKeys_yes (b : Nat) (c : Cli.Cl) (s : Cli.St) (S : PS) (v : Value) (fr : Int) (l : List Frm.It) (w : World) (hc : Cli.Good c) (hw : CliW w b c s S) (h1 : s.1 = 1) (hl : ItemsAt w v l) (ho : Frm.okF 2 fr l = true) (ha : Cli.keysAgree c l = true) :
    Calls Tryz.prog 206 #[.pointer (some ⟨b, 0, none⟩), v] w fun e w' => ∃ va, e = .returned va ∧ ∃ S', Took w w' b c (2, l, [], []) S S' ∧ Ans w w' b S' va (some (3, c.id, Cli.sharing c l)) := by
  have h := hw.cli
  have HLOW := hideG hw.low
  clear hw
  obtain ⟨o1, o2, o3, o4, o5⟩ := Frm.okF_parts ho
  have gt := hc.t
  have gn := hc.n
  have et := h.et (by omega) (by omega)
  obtain ⟨n1, n2, n3, n4, n5⟩ := h.one h1
  obtain ⟨m1, m2⟩ := h.mid (by omega) (by omega)
  obtain ⟨a1, a2, a3, a4⟩ := h.apart
  have hbl := h.at_.lt
  have HK := hideG (keysAgree_calls b _ S v l w h.at_ hl o3 o1 (by rw [et]; omega))
  rw [keys_eq hc h h1 o3, ha] at HK
  have HF := hideG (fun w1 (hb : Below w.heap.size w w1) => first_calls b _ S c v l w1 (h.at_.below hb) (hl.below hb) o3 o1 (okF_keys ho) hc h.eid n2 n3 m2 (n5.below hb))
  have HPS := hideG (fun w1 (hb : Below w.heap.size w w1) => h.at_.below hb)
  have HNA := hideG (h.nil (by omega))
  have HS1 := hideG (fun (w1 : World) (hch : Chg (fun x => x = b) w w1) (hp : PSAt w1 b 231 { S with f := Cli.firstP c l }) => sealedShares_calls b _ { S with f := Cli.firstP c l } c l w1 hp o3 hc h.eid n3 m2 (n4.chg hch (fun x e hx => a2 (by rw [e, hx]))) (n5.chg hch (fun x e hx => a3 (by rw [e, hx]))) (fun v _ => rfl))
  have HSO := hideG (Cli.sharing_ok hc (k := l) o3)
  have HIN := hideG (fun (w1 : World) (hch : Chg (fun x => x = b) w w1) => m1.chg hch (fun x e hx => a1 (by rw [e, hx])))
  have HCLI := hideG (fun (w1 : World) (hch : Chg (fun x => x = b) w w1) (hp : PSAt w1 b 231 (keyedS S (Cli.firstP c l))) => (show CliAt w1 b c (2, l, [], []) (keyedS S (Cli.firstP c l)) from
    { at_ := hp, ph := ⟨by show (0 : Int) ≤ 2; omega, by show (2 : Int) ≤ 4; omega⟩, eid := h.eid, eph := rfl, ecp := h.ecp, emp := h.emp, one := fun e => absurd e (by show ¬ (2 : Int) = 1; omega), mid := fun _ _ => ⟨m1.chg hch (fun x e hx => a1 (by rw [e, hx])), m2⟩, et := fun _ _ => et,
      two := fun _ => ⟨fun _ _ => rfl, o3, ha, okF_keys ho⟩, three := fun e => absurd e (by show ¬ (2 : Int) = 3; omega), nil := fun _ => h.nil (by omega), four := fun e => absurd e (by show ¬ (2 : Int) = 4; omega),
      apart := ⟨a1, by show (Value.slice none 0 0).ownBlock ≠ _; rw [nil_own]; simp, by show (Value.slice none 0 0).ownBlock ≠ _; rw [nil_own]; simp, a4⟩ }))
  have HEID := hideG h.eid
  obtain ⟨a, cap, rfl, -⟩ := items_view hl
  obtain ⟨ai, ci, hvi, -⟩ := m1
  have HVI := hideG hvi
  clear h hl ho ha o1 o2 o3 o4 o5 et n1 n2 n3 n4 n5 m2 a1 a2 a3 a4 hvi
  go_enter Tryz.func206, Tryz.ntmps206
  go_wp2_with fail
  refine HK.out.mono ?_
  rintro e w1 ⟨rfl, hb1⟩
  have B1 := hideG hb1
  have s1 := hb1.size
  clear hb1
  go_wp2_with fail
  refine (HF.out w1 B1.out).mono ?_
  rintro e w2 ⟨rfl, hb2⟩
  have s2 := hb2.size
  have B2 := hideG (B1.out.trans (hb2.mono s1))
  clear hb2
  obtain ⟨g, hg⟩ : ∃ g, g = Cli.firstP c l := ⟨_, rfl⟩
  rw [← hg] at HS1 HCLI ⊢
  clear hg
  have PS2 := hideG (HPS.out w2 B2.out)
  obtain ⟨CS, hCS⟩ : ∃ CS, CS = circ g := ⟨_, rfl⟩
  rw [← hCS]
  have L65 := hideG (show CS.length = 65 by rw [hCS]; exact circ_length g)
  have HON := hideG (show CS.toArray.all (·.oneCell') = true by rw [hCS]; exact all_oneCell_toArray (circ_one g))
  have HSZ := hideG (show (Tryz.prog.info? 203).map (·.size) = some CS.toArray.size by rw [size_circ, List.size_toArray, L65.out])
  have HTH := hideG (show w2.there b 12 CS.toArray.size by rw [List.size_toArray, L65.out]; exact PS2.out.there 12 65 (by omega))
  have PS3 := hideG (show PSAt (w2.setCells b 12 CS) b 231 { S with f := g } by rw [hCS]; exact PS2.out.setF g)
  have C3 := hideG (show Chg (fun x => x = b) w (w2.setCells b 12 CS) from (Chg.of_below (S := fun x => x = b) B2.out).also (chg_setCells b CS 12 w2))
  clear hCS
  go_wp2_with (refine wpList_store_mid rfl 203 _ _ rfl b 12 CS.toArray rfl rfl HTH.out HSZ.out HON.out ?_)
  obtain ⟨w3, hw3⟩ : ∃ w3, w3 = w2.setCells b 12 CS := ⟨_, rfl⟩
  rw [← hw3] at PS3 C3 ⊢
  clear hw3
  have s3 := C3.out.size
  refine (HS1.out w3 C3.out PS3.out).mono ?_
  rintro e w4 ⟨va, rfl, hown, hb4⟩
  have s4 := hb4.size
  have C4 := hideG (C3.out.grow hb4)
  have PS4 := hideG (PS3.out.below hb4)
  have O4 := hideG hown
  obtain ⟨a4, c4, hv4⟩ := owns_form hown
  subst hv4
  clear hown hb4
  have d1 := PS4.out.c1
  have f1 := PS4.out.froz 1
  go_wp2_with fail
  obtain ⟨w5, hw5⟩ : ∃ w5, w5 = w4.setCell ⟨b, 1, none⟩ (.int .i64 2) := ⟨_, rfl⟩
  rw [← hw5]
  have PS5 := hideG (show PSAt w5 b 231 { S with f := g, ph := 2 } by rw [hw5]; exact PS4.out.setPh 2)
  have C5 := hideG (show Chg (fun x => x = b) w w5 by rw [hw5]; exact C4.out.also (Chg.setCell w4 ⟨b, 1, none⟩ _))
  have O5 := hideG (show w5.ownsRow w3.heap.size 147 4 (.slice a4 (Cli.sharing c l).length c4) (Cli.sharing c l).length (flat4 (Cli.sharing c l)) by
    rw [hw5]; exact ownsRow_chg O4.out (Chg.setCell w4 ⟨b, 1, none⟩ _) (fun x e hx => by have := (O4.out.lt x e).1; simp at hx; omega))
  clear hw5 d1 f1
  have e6 := PS5.out.c6
  have e7 := PS5.out.c7
  have e8 := PS5.out.c8
  have e9 := PS5.out.c9
  have e10 := PS5.out.c10
  have e11 := PS5.out.c11
  have ef := PS5.out.froz
  have HW6 := hideG (fun (W : World) hW => keyed_end (W := W) PS5.out C5.out O5.out (by omega) hW)
  rw [HVI.out] at e6 HW6
  go_region
  obtain ⟨w6, hw6⟩ : ∃ w6, w6 = ((((((w5.setCell ⟨b, 6, none⟩ (.slice ai c.inp.length ci)).setCell ⟨b, 7, none⟩ (.int .i64 0)).setCell ⟨b, 8, none⟩ (.int .i64 0)).setCell ⟨b, 9, none⟩ (.int .i64 S.sd)).setCell ⟨b, 10, none⟩ (.slice none 0 0)).setCell ⟨b, 11, none⟩ (.slice none 0 0)).drew := ⟨_, rfl⟩
  rw [← hw6]
  obtain ⟨p6, ch6, o6⟩ := HW6.out w6 hw6
  have PS6 := hideG p6
  have C6 := hideG ch6
  have I6 := hideG (itemsAt_of_owns o6 (okF_in HSO.out))
  have s6 := ch6.size
  have O6 := hideG o6
  have WR := hideG (written_calls_c b _ (keyedS S g) 3 _ (Cli.sharing c l) w6 p6 I6.out (by show Frm.okF 3 S.id _ = true; rw [HEID.out]; exact HSO.out))
  clear hw6 p6 ch6 o6 e6 e7 e8 e9 e10 e11 ef
  go_wp2_with fail
  refine WR.out.mono ?_
  rintro e w7 ⟨vb, rfl, hown7, hb7⟩
  have C7 := hideG (C6.out.grow hb7)
  have PS7 := hideG (PS6.out.below hb7)
  have O7 := hideG hown7
  clear hown7 hb7
  go_wp2_with fail
  go_ret
  have hfoot : ∀ x, CFoot b (keyedS S g) x → CFoot b S x := fun x hx => by
    rcases hx with hx | hx | hx | hx | hx
    · exact .inl hx
    · exact .inr (.inl hx)
    · change (Value.slice none 0 0).ownBlock = some x at hx; rw [nil_own] at hx; cases hx
    · change (Value.slice none 0 0).ownBlock = some x at hx; rw [nil_own] at hx; cases hx
    · exact .inr (.inr (.inr (.inr hx)))
  refine ⟨_, rfl, keyedS S g, ⟨⟨HCLI.out w7 C7.out PS7.out, fun x hx => Nat.lt_of_lt_of_le (HLOW.out x (hfoot x hx)) C7.out.size⟩, C7.out, fun x hx => .inl (hfoot x hx)⟩, ?_, fun x hx hf => ?_⟩
  · have e : (keyedS S g).id = c.id := HEID.out
    have := O7.out
    rw [e] at this
    exact ownsRow_base this s6
  · have hl := (O7.out.lt x hx).1
    have := HLOW.out x (hfoot x hf)
    omega
end Go.Proofs.YtchideljndagjabGreat
namespace Go.Proofs.YtchideljndagjabGreat
open Go.ChangeShapes Go.WideShapes Go.ChangeAt Go.RowKit
set_option linter.unusedVariables false
def boxedS (S : PS) (f : Nat → Cli.Pr) : PS := { S with ph := 3, f := f, inp := .slice none 0 0, ch := 0, ms := 0, sd := 0, sm := .slice none 0 0, ss := .slice none 0 0 }
set_option maxHeartbeats 2000000 in
set_option maxRecDepth 100000 in
theorem takeBox_calls (b : Nat) (c : Cli.Cl) (s : Cli.St) (S : PS) (v : Value) (fr : Int) (l : List Frm.It) (w : World) (hc : Cli.Good c) (hw : CliW w b c s S) (h2 : s.1 = 2) (hl : ItemsAt w v l) (ho : Frm.okF 4 fr l = true) :
    Calls Tryz.prog 207 #[.pointer (some ⟨b, 0, none⟩), v] w fun e w' => ∃ va, e = .returned va ∧ ∃ S', Took w w' b c (if Cli.boxAgree c s.2.1 l = true then (3, s.2.1, l, []) else (0, s.2.1, l, [])) S S' ∧ Ans w w' b S' va (if Cli.boxAgree c s.2.1 l = true then some (5, c.id, Cli.masking c s.2.1 l) else none) := by
  have h := hw.cli
  have HLOW := hideG hw.low
  clear hw
  obtain ⟨o1, o2, o3, o4, o5⟩ := Frm.okF_parts ho
  have et := h.et (by omega) (by omega)
  obtain ⟨n1, n2, n3, n4⟩ := h.two h2
  obtain ⟨m1, m2⟩ := h.mid (by omega) (by omega)
  obtain ⟨a1, a2, a3, a4⟩ := h.apart
  have hbl := h.at_.lt
  have hown := Cli.hasI_own hc n3
  obtain ⟨k, hk⟩ : ∃ k, k = s.2.1 := ⟨_, rfl⟩
  rw [← hk] at n1 n2 n3 n4 hown ⊢
  have HSE := hideG (second_calls b _ S c v k l w h.at_ hl o3 o1 (okF_box ho) hc h.eid et n1 hown)
  have HH := hideG (fun w1 hp => halt_calls b 231 S w1 hp)
  have HPS := hideG (fun w1 (hb : Below w.heap.size w w1) => h.at_.below hb)
  have HE := hideG (And.intro h.eid (And.intro h.ecp h.emp))
  have HNA := hideG (h.nil (by omega))
  obtain ⟨a, cap, rfl, -⟩ := items_view hl
  have HZ := hideG zero_circ
  cases hag : Cli.boxAgree c k l
  · rw [hag] at HSE
    rw [if_neg (by simp), if_neg (by simp)]
    clear h hl ho o1 o2 o3 o4 o5 et n1 n2 n3 n4 m1 m2 a1 a2 a3 a4 hag hk
    go_enter Tryz.func207, Tryz.ntmps207
    go_wp2_with fail
    refine HSE.out.mono ?_
    rintro e w1 ⟨g, rfl, -, hb1⟩
    have s1 := hb1.size
    have B1 := hideG hb1
    clear hb1
    obtain ⟨CS, hCS⟩ : ∃ CS, CS = circ g := ⟨_, rfl⟩
    rw [← hCS]
    have L65 := hideG (show CS.length = 65 by rw [hCS]; exact circ_length g)
    have HON := hideG (show CS.toArray.all (·.oneCell') = true by rw [hCS]; exact all_oneCell_toArray (circ_one g))
    clear hCS
    have HSZ := hideG (show (Tryz.prog.info? 203).map (·.size) = some CS.toArray.size by rw [size_circ, List.size_toArray, L65.out])
    have HC0 := hideG (show CircAt (w1.alloc (.cells Tryz.zeroCells203 203)) w1.heap.size (fun _ => Cli.Pr.z) by unfold CircAt; rw [← HZ.out]; exact heap_alloc_new w1 _)
    have HTH := hideG (show (w1.alloc (.cells Tryz.zeroCells203 203)).there w1.heap.size 0 CS.toArray.size by rw [show CS.toArray.size = 65 by rw [List.size_toArray]; exact L65.out]; exact HC0.out.there 0 65 (by omega))
    have B2 := hideG (show Below w.heap.size w ((w1.alloc (.cells Tryz.zeroCells203 203)).setCells w1.heap.size 0 CS) from below_setCells s1 _ _ _ (B1.out.alloc s1 _))
    go_wp2_with (refine wpList_store_mid rfl 203 _ _ rfl w1.heap.size 0 CS.toArray rfl rfl HTH.out HSZ.out HON.out ?_)
    refine (HH.out _ (HPS.out _ B2.out)).mono ?_
    rintro e w2 ⟨rfl, hp, hch⟩
    have HP := hideG hp
    have HC := hideG hch
    clear hp hch
    go_wp2_with fail
    go_ret
    exact ⟨_, rfl, haltS S, took_halt rfl HP.out HE.out.1 HE.out.2.1 HE.out.2.2 (Chg.of_below B2.out) HC.out, rfl⟩
  · rw [hag] at HSE
    rw [if_pos rfl, if_pos rfl]
    have hno : Cli.hasI l c.id = false := by unfold Cli.boxAgree at hag; rw [Bool.and_eq_true] at hag; simpa using hag.1
    have HML := hideG (fun (w1 : World) (hch : Chg (fun x => x = b) w w1) (hp : PSAt w1 b 231 { S with f := Cli.secondP c k l }) => maskedList_calls b _ { S with f := Cli.secondP c k l } c k l w1 hp (m1.chg hch (fun x e hx => a1 (by rw [e, hx]))) o3 hc h.eid m2 (fun v _ => rfl) hno)
    have HSO := hideG (Cli.masking_ok hc k l)
    have HCLI := hideG (fun (w1 : World) (hch : Chg (fun x => x = b) w w1) (hp : PSAt w1 b 231 (boxedS S (Cli.secondP c k l))) => (show CliAt w1 b c (3, k, l, []) (boxedS S (Cli.secondP c k l)) from
      { at_ := hp, ph := ⟨by show (0 : Int) ≤ 3; omega, by show (3 : Int) ≤ 4; omega⟩, eid := h.eid, eph := rfl, ecp := h.ecp, emp := h.emp, one := fun e => absurd e (by show ¬ (3 : Int) = 1; omega), mid := fun _ e => absurd e (by show ¬ (3 : Int) ≤ 2; omega), et := fun _ _ => et,
        two := fun e => absurd e (by show ¬ (3 : Int) = 2; omega), three := fun _ => ⟨fun _ _ => rfl, o3, hag⟩, nil := fun _ => h.nil (by omega), four := fun e => absurd e (by show ¬ (3 : Int) = 4; omega),
        apart := ⟨by show (Value.slice none 0 0).ownBlock ≠ _; rw [nil_own]; simp, by show (Value.slice none 0 0).ownBlock ≠ _; rw [nil_own]; simp, by show (Value.slice none 0 0).ownBlock ≠ _; rw [nil_own]; simp, a4⟩ }))
    clear h hl ho o1 o2 o3 o4 o5 et n1 n2 n3 n4 m1 m2 a1 a2 a3 a4 hag hk hno
    go_enter Tryz.func207, Tryz.ntmps207
    go_wp2_with fail
    refine HSE.out.mono ?_
    rintro e w1 ⟨g, rfl, hg, hb1⟩
    have hg' : g = Cli.secondP c k l := hg (by first | rfl | trivial)
    rw [← hg'] at HML HCLI
    have s1 := hb1.size
    have B1 := hideG hb1
    clear hb1 hg hg'
    obtain ⟨CS, hCS⟩ : ∃ CS, CS = circ g := ⟨_, rfl⟩
    rw [← hCS]
    have L65 := hideG (show CS.length = 65 by rw [hCS]; exact circ_length g)
    have HON := hideG (show CS.toArray.all (·.oneCell') = true by rw [hCS]; exact all_oneCell_toArray (circ_one g))
    have HSZ := hideG (show (Tryz.prog.info? 203).map (·.size) = some CS.toArray.size by rw [size_circ, List.size_toArray, L65.out])
    have HSL := hideG (show (Tryz.prog.info? 203).map (·.size) = some CS.length by rw [size_circ, L65.out])
    have HC0 := hideG (show CircAt (w1.alloc (.cells Tryz.zeroCells203 203)) w1.heap.size (fun _ => Cli.Pr.z) by unfold CircAt; rw [← HZ.out]; exact heap_alloc_new w1 _)
    have HTH := hideG (show (w1.alloc (.cells Tryz.zeroCells203 203)).there w1.heap.size 0 CS.toArray.size by rw [show CS.toArray.size = 65 by rw [List.size_toArray]; exact L65.out]; exact HC0.out.there 0 65 (by omega))
    obtain ⟨w2, hw2⟩ : ∃ w2, w2 = (w1.alloc (.cells Tryz.zeroCells203 203)).setCells w1.heap.size 0 CS := ⟨_, rfl⟩
    have B2 := hideG (show Below w.heap.size w w2 by rw [hw2]; exact below_setCells s1 _ _ _ (B1.out.alloc s1 _))
    have s2 := B2.out.size
    have RG := hideG (show w2.rangeAt w1.heap.size 0 CS by rw [hw2, hCS]; exact (HC0.out.all g).range)
    have PS2 := hideG (HPS.out w2 B2.out)
    have HT2 := hideG (show w2.there b 12 CS.toArray.size by rw [List.size_toArray, L65.out]; exact PS2.out.there 12 65 (by omega))
    have PS3 := hideG (show PSAt (w2.setCells b 12 CS) b 231 { S with f := g } by rw [hCS]; exact PS2.out.setF g)
    have C3 := hideG (show Chg (fun x => x = b) w (w2.setCells b 12 CS) from (Chg.of_below (S := fun x => x = b) B2.out).also (chg_setCells b CS 12 w2))
    clear hCS
    have HW2 := hideG hw2
    clear hw2
    go_upto_region 2 with (refine wpList_store_mid rfl 203 _ _ rfl w1.heap.size 0 CS.toArray rfl rfl HTH.out HSZ.out HON.out ?_)
    rw [← HW2.out]
    go_wp2_with (first | refine wpList_load_mid rfl 203 _ rfl w1.heap.size 0 rfl CS _ RG.out Tryz.underlying203 rfl HSL.out ?_ | refine wpList_store_mid rfl 203 _ _ rfl b 12 CS.toArray rfl rfl HT2.out HSZ.out HON.out ?_)
    obtain ⟨w3, hw3⟩ : ∃ w3, w3 = w2.setCells b 12 CS := ⟨_, rfl⟩
    rw [← hw3] at PS3 C3 ⊢
    clear hw3
    have s3 := C3.out.size
    refine (HML.out w3 C3.out PS3.out).mono ?_
    rintro e w4 ⟨va, rfl, hown, hb4⟩
    have s4 := hb4.size
    have C4 := hideG (C3.out.grow hb4)
    have PS4 := hideG (PS3.out.below hb4)
    have O4 := hideG hown
    obtain ⟨a4, c4, hv4⟩ := owns_form hown
    subst hv4
    clear hown hb4
    have d1 := PS4.out.c1
    have e6 := PS4.out.c6
    have e7 := PS4.out.c7
    have e8 := PS4.out.c8
    have e9 := PS4.out.c9
    have e10 := PS4.out.c10
    have e11 := PS4.out.c11
    have ef := PS4.out.froz
    have HW6 := hideG (fun (W : World) (hW : W = ((w4.setCell ⟨b, 1, none⟩ (.int .i64 3)).setCells b 6 [.slice none 0 0, .int .i64 0, .int .i64 0, .int .i64 0, .slice none 0 0, .slice none 0 0])) => (show PSAt W b 231 (boxedS S g) ∧ Chg (fun x => x = b) w W ∧ W.ownsRow w3.heap.size 147 4 (.slice a4 (Cli.masking c k l).length c4) (Cli.masking c k l).length (flat4 (Cli.masking c k l)) from by
      have c1 : Chg (fun x => x = b) w4 ((w4.setCell ⟨b, 1, none⟩ (.int .i64 3)).setCells b 6 [.slice none 0 0, .int .i64 0, .int .i64 0, .int .i64 0, .slice none 0 0, .slice none 0 0]) := (Chg.setCell w4 ⟨b, 1, none⟩ _).also (chg_setCells b _ 6 _)
      rw [hW]
      exact ⟨(PS4.out.setPh 3).setDraw (.slice none 0 0) 0 0 0 (.slice none 0 0) (.slice none 0 0), C4.out.also c1, ownsRow_chg O4.out c1 (fun x e hx => by have := (O4.out.lt x e).1; omega)⟩))
    go_wp2_with fail
    obtain ⟨w6, hw6⟩ : ∃ w6, w6 = ((((((w4.setCell ⟨b, 1, none⟩ (.int .i64 3)).setCell ⟨b, 6, none⟩ (.slice none 0 0)).setCell ⟨b, 7, none⟩ (.int .i64 0)).setCell ⟨b, 8, none⟩ (.int .i64 0)).setCell ⟨b, 9, none⟩ (.int .i64 0)).setCell ⟨b, 10, none⟩ (.slice none 0 0)).setCell ⟨b, 11, none⟩ (.slice none 0 0) := ⟨_, rfl⟩
    rw [← hw6]
    obtain ⟨p6, ch6, o6⟩ := HW6.out w6 hw6
    have PS6 := hideG p6
    have C6 := hideG ch6
    have I6 := hideG (itemsAt_of_owns o6 (okF_in HSO.out))
    have s6 := ch6.size
    have WR := hideG (written_calls_c b _ (boxedS S g) 5 _ (Cli.masking c k l) w6 p6 I6.out (by show Frm.okF 5 S.id _ = true; rw [HE.out.1]; exact HSO.out))
    clear hw6 p6 ch6 o6 d1 e6 e7 e8 e9 e10 e11 ef
    refine WR.out.mono ?_
    rintro e w7 ⟨vb, rfl, hown7, hb7⟩
    have C7 := hideG (C6.out.grow hb7)
    have PS7 := hideG (PS6.out.below hb7)
    have O7 := hideG hown7
    clear hown7 hb7
    go_wp2_with fail
    go_ret
    have hfoot : ∀ x, CFoot b (boxedS S g) x → CFoot b S x := fun x hx => by
      rcases hx with hx | hx | hx | hx | hx
      · exact .inl hx
      · change (Value.slice none 0 0).ownBlock = some x at hx; rw [nil_own] at hx; cases hx
      · change (Value.slice none 0 0).ownBlock = some x at hx; rw [nil_own] at hx; cases hx
      · change (Value.slice none 0 0).ownBlock = some x at hx; rw [nil_own] at hx; cases hx
      · exact .inr (.inr (.inr (.inr hx)))
    refine ⟨_, rfl, boxedS S g, ⟨⟨HCLI.out w7 C7.out PS7.out, fun x hx => Nat.lt_of_lt_of_le (HLOW.out x (hfoot x hx)) C7.out.size⟩, C7.out, fun x hx => .inl (hfoot x hx)⟩, ?_, fun x hx hf => ?_⟩
    · have e : (boxedS S g).id = c.id := HE.out.1
      have := O7.out
      rw [e] at this
      exact ownsRow_base this s6
    · have hl := (O7.out.lt x hx).1
      have := HLOW.out x (hfoot x hf)
      omega
end Go.Proofs.YtchideljndagjabGreat
namespace Go.Proofs.YtchideljndagjabGreat
open Go.ChangeShapes Go.WideShapes Go.ChangeAt Go.RowKit
set_option linter.unusedVariables false
theorem all_alike {α : Type} {l : List α} {p q : α → Bool} (h : ∀ x ∈ l, p x = q x) : l.all p = l.all q := by
  induction l with
  | nil => rfl
  | cons a l ih => rw [List.all_cons, List.all_cons, h a List.mem_cons_self, ih (fun x hx => h x (List.mem_cons_of_mem _ hx))]
theorem ask_eq {w : World} {b : Nat} {c : Cli.Cl} {s : Cli.St} {S : PS} {l : List Frm.It} (h : CliAt w b c s S) (h3 : s.1 = 3) (hr : Frm.riseB l = true) :
    ((l.all fun x => (S.f x.1.toNat).mem) && (Cli.hasI l S.id && decide (S.t ≤ (l.length : Int)))) = Cli.askAgree c s.2.2.1 l := by
  rw [h.eid, h.et (by omega) (by omega)]
  unfold Cli.askAgree
  congr 1
  refine all_alike fun x hx => ?_
  have hb := (Cli.rise_pair hr).2 x hx
  have e : ((x.1.toNat : Nat) : Int) = x.1 := by omega
  rw [(h.three h3).1 _ (by omega)]
  unfold Cli.secondP
  rw [e]
  cases q : Cli.hasI s.2.2.1 x.1
  · rw [if_neg (by simp)]
    by_cases q2 : x.1 = c.id
    · rw [if_pos q2, decide_eq_true q2]; rfl
    · rw [if_neg q2, decide_eq_false q2]; rfl
  · rw [if_pos rfl]; rfl
def toldS (S : PS) (v : Value) : PS := { S with ph := 4, f := fun _ => Cli.Pr.z, told := v }
set_option maxHeartbeats 2000000 in
set_option maxRecDepth 100000 in
theorem takeAsk_calls (b : Nat) (c : Cli.Cl) (s : Cli.St) (S : PS) (v : Value) (fr : Int) (l : List Frm.It) (w : World) (hc : Cli.Good c) (hw : CliW w b c s S) (h3 : s.1 = 3) (hl : ItemsAt w v l) (ho : Frm.okF 6 fr l = true) :
    Calls Tryz.prog 208 #[.pointer (some ⟨b, 0, none⟩), v] w fun e w' => ∃ va, e = .returned va ∧ ∃ S', Took w w' b c (if Cli.askAgree c s.2.2.1 l = true then (4, s.2.1, s.2.2.1, l) else (0, s.2.1, s.2.2.1, l)) S S' ∧ Ans w w' b S' va (if Cli.askAgree c s.2.2.1 l = true then some (7, c.id, Cli.tells c s.2.1 s.2.2.1 l) else none) := by
  have h := hw.cli
  have HLOW := hideG hw.low
  clear hw
  obtain ⟨o1, o2, o3, o4, o5⟩ := Frm.okF_parts ho
  have gt := hc.t
  have gn := hc.n
  have et := h.et (by omega) (by omega)
  obtain ⟨n1, n2, n3⟩ := h.three h3
  obtain ⟨a1, a2, a3, a4⟩ := h.apart
  have hbl := h.at_.lt
  have HK := hideG (askAgrees_calls b _ S v l w h.at_ hl o3 o1 (by rw [et]; omega))
  rw [ask_eq h h3 o3] at HK
  obtain ⟨k, hk⟩ : ∃ k, k = s.2.1 := ⟨_, rfl⟩
  obtain ⟨m, hm⟩ : ∃ m, m = s.2.2.1 := ⟨_, rfl⟩
  rw [← hm] at HK
  rw [← hk, ← hm] at n1 n3 ⊢
  rw [← hm] at n2
  have HH := hideG (fun w1 hp => halt_calls b 231 S w1 hp)
  have HPS := hideG (fun w1 (hb : Below w.heap.size w w1) => h.at_.below hb)
  have HE := hideG (And.intro h.eid (And.intro h.ecp h.emp))
  cases hag : Cli.askAgree c m l
  · rw [hag] at HK
    rw [if_neg (by simp), if_neg (by simp)]
    obtain ⟨a, cap, rfl, -⟩ := items_view hl
    clear h hl ho o1 o2 o3 o4 o5 et n1 n2 n3 a1 a2 a3 a4 hag hk hm
    go_enter Tryz.func208, Tryz.ntmps208
    go_wp2_with fail
    refine HK.out.mono ?_
    rintro e w1 ⟨rfl, hb1⟩
    have B1 := hideG hb1
    clear hb1
    go_wp2_with fail
    refine (HH.out _ (HPS.out _ B1.out)).mono ?_
    rintro e w2 ⟨rfl, hp, hch⟩
    have HP := hideG hp
    have HC := hideG hch
    clear hp hch
    go_wp2_with fail
    go_ret
    exact ⟨_, rfl, haltS S, took_halt rfl HP.out HE.out.1 HE.out.2.1 HE.out.2.2 (Chg.of_below B1.out) HC.out, rfl⟩
  · rw [hag] at HK
    rw [if_pos rfl, if_pos rfl]
    have hno : Cli.hasI m c.id = false := by unfold Cli.boxAgree at n3; rw [Bool.and_eq_true] at n3; simpa using n3.1
    have hown : Cli.hasI l c.id = true := by unfold Cli.askAgree at hag; rw [Bool.and_eq_true, Bool.and_eq_true] at hag; exact hag.2.1
    have HSH := hideG (fun (w1 : World) (hb : Below w.heap.size w w1) => shares_calls b _ S c v k m l w1 (h.at_.below hb) (hl.below hb) o3 o1 n2 hc n1 hno hown)
    have HSO := hideG (Cli.tells_ok hc k m l)
    have HCLI := hideG (fun (w1 : World) (va : Value) (hp : PSAt w1 b 231 (toldS S va)) (hi : ItemsAt w1 va (Cli.tells c k m l)) (hva : va.ownBlock ≠ some b) => (show CliAt w1 b c (4, k, m, l) (toldS S va) from
      { at_ := hp, ph := ⟨by show (0 : Int) ≤ 4; omega, by show (4 : Int) ≤ 4; omega⟩, eid := h.eid, eph := rfl, ecp := h.ecp, emp := h.emp, one := fun e => absurd e (by show ¬ (4 : Int) = 1; omega), mid := fun _ e => absurd e (by show ¬ (4 : Int) ≤ 2; omega), et := fun _ e => absurd e (by show ¬ (4 : Int) ≤ 3; omega),
        two := fun e => absurd e (by show ¬ (4 : Int) = 2; omega), three := fun e => absurd e (by show ¬ (4 : Int) = 3; omega), nil := fun e => absurd rfl e, four := fun _ => hi,
        apart := ⟨a1, a2, a3, hva⟩ }))
    obtain ⟨a, cap, rfl, -⟩ := items_view hl
    clear h hl ho o1 o2 o3 o4 o5 et n1 n2 n3 a1 a2 a3 a4 hag hk hm hno hown
    have HZL := hideG zero_list
    go_enter Tryz.func208, Tryz.ntmps208
    go_wp2_with fail
    refine HK.out.mono ?_
    rintro e w1 ⟨rfl, hb1⟩
    have B1 := hideG hb1
    have s1 := hb1.size
    clear hb1
    go_wp2_with fail
    refine (HSH.out w1 B1.out).mono ?_
    rintro e w2 ⟨va, rfl, hown, hb2⟩
    have s2 := hb2.size
    have B2 := hideG (B1.out.trans (hb2.mono s1))
    have PS2 := hideG (HPS.out w2 B2.out)
    have O2 := hideG hown
    obtain ⟨a2, c2, hv2⟩ := owns_form hown
    subst hv2
    clear hown hb2
    have e1 := PS2.out.c1
    have e77 := PS2.out.c77
    have ef := PS2.out.froz
    obtain ⟨V, hV⟩ : ∃ V, V = Value.slice a2 (Cli.tells c k m l).length c2 := ⟨_, rfl⟩
    have PS4 := hideG (show PSAt ((w2.setCell ⟨b, 77, none⟩ V).setCell ⟨b, 1, none⟩ (.int .i64 4)) b 231 { S with told := V, ph := 4 } from (PS2.out.setTold V).setPh 4)
    have HTH := hideG (show ((w2.setCell ⟨b, 77, none⟩ V).setCell ⟨b, 1, none⟩ (.int .i64 4)).there b 12 Tryz.zeroCells203.toList.length by rw [HZL.out, circ_length]; exact PS4.out.there 12 65 (by omega))
    have hst := stc Tryz.prog b 12 Tryz.zeroCells203.toList _ HTH.out (by rw [HZL.out]; exact circ_one _)
    have PS5 := hideG (show PSAt (((w2.setCell ⟨b, 77, none⟩ V).setCell ⟨b, 1, none⟩ (.int .i64 4)).setCells b 12 Tryz.zeroCells203.toList) b 231 (toldS S V) by rw [HZL.out]; exact PS4.out.setF _)
    have hc5 : Chg (fun x => x = b) w2 (((w2.setCell ⟨b, 77, none⟩ V).setCell ⟨b, 1, none⟩ (.int .i64 4)).setCells b 12 Tryz.zeroCells203.toList) := ((Chg.setCell w2 ⟨b, 77, none⟩ V).also (Chg.setCell _ ⟨b, 1, none⟩ _)).also (chg_setCells b _ 12 _)
    obtain ⟨w5, hw5⟩ : ∃ w5, w5 = ((w2.setCell ⟨b, 77, none⟩ V).setCell ⟨b, 1, none⟩ (.int .i64 4)).setCells b 12 Tryz.zeroCells203.toList := ⟨_, rfl⟩
    rw [← hw5] at PS5 hc5 hst
    clear hw5
    have C5 := hideG ((Chg.of_below (S := fun x => x = b) B2.out).also hc5)
    have s5 := C5.out.size
    have O5 := hideG (ownsRow_chg O2.out hc5 (fun x e hx => by have := (O2.out.lt x e).1; omega))
    have I5 := hideG (itemsAt_of_owns O5.out (okF_in HSO.out))
    rw [← hV] at I5 O5
    have g77 := PS5.out.c77
    have WR := hideG (written_calls_c b _ (toldS S V) 7 V (Cli.tells c k m l) w5 PS5.out I5.out (by show Frm.okF 7 S.id _ = true; rw [HE.out.1]; exact HSO.out))
    rw [hV] at hst WR
    change w5.cell? _ = some V at g77
    rw [hV] at g77
    have HV := hideG hV
    clear hV hc5
    go_wp2_with fail
    refine WR.out.mono ?_
    rintro e w7 ⟨vb, rfl, hown7, hb7⟩
    have C7 := hideG (C5.out.grow hb7)
    have PS7 := hideG (PS5.out.below hb7)
    have I7 := hideG (I5.out.below hb7)
    have O7 := hideG hown7
    have s7 := hb7.size
    clear hown7 hb7
    go_wp2_with fail
    go_ret
    have hlt : ∀ x, V.ownBlock = some x → w1.heap.size ≤ x ∧ x < w5.heap.size := fun x hx => O5.out.lt x hx
    have hfoot : ∀ x, CFoot b (toldS S V) x → CFoot b S x ∨ (w.heap.size ≤ x ∧ x < w5.heap.size) := fun x hx => by
      rcases hx with hx | hx | hx | hx | hx
      · exact .inl (.inl hx)
      · exact .inl (.inr (.inl hx))
      · exact .inl (.inr (.inr (.inl hx)))
      · exact .inl (.inr (.inr (.inr (.inl hx))))
      · have := hlt x hx; exact .inr ⟨by omega, this.2⟩
    have hlow : ∀ x, CFoot b (toldS S V) x → x < w5.heap.size := fun x hx => by
      rcases hfoot x hx with h | h
      · have := HLOW.out x h; omega
      · exact h.2
    refine ⟨_, rfl, toldS S V, ⟨⟨HCLI.out w7 V PS7.out I7.out (fun e => by have := (hlt b e).1; omega), fun x hx => Nat.lt_of_lt_of_le (hlow x hx) s7⟩, C7.out, fun x hx => (hfoot x hx).imp id (fun h => h.1)⟩, ?_, fun x hx hf => ?_⟩
    · have e : (toldS S (Value.slice a2 (Cli.tells c k m l).length c2)).id = c.id := HE.out.1
      have := O7.out
      rw [e] at this
      exact ownsRow_base this s5
    · have hl := (O7.out.lt x hx).1
      have := hlow x hf
      omega
end Go.Proofs.YtchideljndagjabGreat
namespace Go.Proofs.YtchideljndagjabGreat
open Go.ChangeShapes Go.WideShapes Go.ChangeAt Go.RowKit
set_option linter.unusedVariables false
def stepD (c : Cli.Cl) (s : Cli.St) (zs : List Int) : Cli.St := match Frm.decF zs with
  | none => s
  | some f => Cli.stepS c s f
def ansD (c : Cli.Cl) (s : Cli.St) (zs : List Int) : Option Cli.Fr := match Frm.decF zs with
  | none => none
  | some f => if (Cli.stepS c s f).1 = s.1 then none else Cli.answer c (Cli.stepS c s f)
theorem stepD_none {c : Cli.Cl} {s : Cli.St} {zs : List Int} (h : Frm.decF zs = none) : stepD c s zs = s ∧ ansD c s zs = none := by
  unfold stepD ansD; rw [h]; exact ⟨rfl, rfl⟩
theorem stepD_some {c : Cli.Cl} {s : Cli.St} {zs : List Int} {f : Cli.Fr} (h : Frm.decF zs = some f) : stepD c s zs = Cli.stepS c s f ∧ ansD c s zs = if (Cli.stepS c s f).1 = s.1 then none else Cli.answer c (Cli.stepS c s f) := by
  unfold stepD ansD; rw [h]; exact ⟨rfl, rfl⟩
theorem stepD_rest {c : Cli.Cl} {s : Cli.St} {zs : List Int} {k fr : Int} {l : List Frm.It} (h : Frm.decF zs = some (k, fr, l)) (h1 : ¬ (s.1 = 1 ∧ k = 2)) (h2 : ¬ (s.1 = 2 ∧ k = 4)) (h3 : ¬ (s.1 = 3 ∧ k = 6)) : stepD c s zs = s ∧ ansD c s zs = none := by
  have e := Cli.stepS_rest c s (k, fr, l) h1 h2 h3
  obtain ⟨a1, a2⟩ := stepD_some (c := c) (s := s) h
  rw [a1, a2, e, if_pos rfl]
  exact ⟨rfl, rfl⟩
theorem stepD_keys {c : Cli.Cl} {s : Cli.St} {zs : List Int} {fr : Int} {l : List Frm.It} (h : Frm.decF zs = some (2, fr, l)) (h1 : s.1 = 1) :
    stepD c s zs = (if Cli.keysAgree c l = true then (2, l, [], []) else (0, l, [], [])) ∧ ansD c s zs = (if Cli.keysAgree c l = true then some (3, c.id, Cli.sharing c l) else none) := by
  obtain ⟨a1, a2⟩ := stepD_some (c := c) (s := s) h
  have e : Cli.stepS c s (2, fr, l) = (if Cli.keysAgree c l = true then (2, l, [], []) else (0, l, [], [])) := by unfold Cli.stepS; rw [if_pos ⟨h1, rfl⟩]
  rw [a1, a2, e, h1]
  cases Cli.keysAgree c l <;> exact ⟨rfl, rfl⟩
theorem stepD_box {c : Cli.Cl} {s : Cli.St} {zs : List Int} {fr : Int} {l : List Frm.It} (h : Frm.decF zs = some (4, fr, l)) (h1 : s.1 = 2) :
    stepD c s zs = (if Cli.boxAgree c s.2.1 l = true then (3, s.2.1, l, []) else (0, s.2.1, l, [])) ∧ ansD c s zs = (if Cli.boxAgree c s.2.1 l = true then some (5, c.id, Cli.masking c s.2.1 l) else none) := by
  obtain ⟨a1, a2⟩ := stepD_some (c := c) (s := s) h
  have e : Cli.stepS c s (4, fr, l) = (if Cli.boxAgree c s.2.1 l = true then (3, s.2.1, l, []) else (0, s.2.1, l, [])) := by unfold Cli.stepS; rw [if_neg (by rw [h1]; simp), if_pos ⟨h1, rfl⟩]
  rw [a1, a2, e, h1]
  cases Cli.boxAgree c s.2.1 l <;> exact ⟨rfl, rfl⟩
theorem stepD_ask {c : Cli.Cl} {s : Cli.St} {zs : List Int} {fr : Int} {l : List Frm.It} (h : Frm.decF zs = some (6, fr, l)) (h1 : s.1 = 3) :
    stepD c s zs = (if Cli.askAgree c s.2.2.1 l = true then (4, s.2.1, s.2.2.1, l) else (0, s.2.1, s.2.2.1, l)) ∧ ansD c s zs = (if Cli.askAgree c s.2.2.1 l = true then some (7, c.id, Cli.tells c s.2.1 s.2.2.1 l) else none) := by
  obtain ⟨a1, a2⟩ := stepD_some (c := c) (s := s) h
  have e : Cli.stepS c s (6, fr, l) = (if Cli.askAgree c s.2.2.1 l = true then (4, s.2.1, s.2.2.1, l) else (0, s.2.1, s.2.2.1, l)) := by unfold Cli.stepS; rw [if_neg (by rw [h1]; simp), if_neg (by rw [h1]; simp), if_pos ⟨h1, rfl⟩]
  rw [a1, a2, e, h1]
  cases Cli.askAgree c s.2.2.1 l <;> exact ⟨rfl, rfl⟩
theorem took_same {w w' : World} {b : Nat} {c : Cli.Cl} {s : Cli.St} {S : PS} (h : CliW w b c s S) (hb : Below w.heap.size w w') : Took w w' b c s S S := ⟨h.below hb, Chg.of_below hb, fun _ hx => .inl hx⟩
theorem Took.after {w w1 w' : World} {b : Nat} {c : Cli.Cl} {s' : Cli.St} {S S' : PS} (h : Took w1 w' b c s' S S') (hb : Below w.heap.size w w1) : Took w w' b c s' S S' :=
  ⟨h.cli, (Chg.of_below hb).also h.chg, fun x hx => (h.foot x hx).imp id (fun e => Nat.le_trans hb.size e)⟩
theorem Ans.after {w w1 w' : World} {b : Nat} {S' : PS} {va : Value} {o : Option Cli.Fr} (h : Ans w1 w' b S' va o) (hb : w.heap.size ≤ w1.heap.size) : Ans w w' b S' va o := by
  cases o with
  | none => exact h
  | some f => exact ⟨ownsRow_base h.1 hb, h.2⟩
theorem Ans.form {w w' : World} {b : Nat} {S' : PS} {va : Value} {o : Option Cli.Fr} (h : Ans w w' b S' va o) : ∃ a n cap, va = .slice a n cap := by
  cases o with
  | none => exact ⟨none, 0, 0, h⟩
  | some f => obtain ⟨a, cap, e⟩ := owns_form h.1; exact ⟨a, _, cap, e⟩
set_option maxHeartbeats 4000000 in
set_option maxRecDepth 100000 in
theorem take_calls (b : Nat) (c : Cli.Cl) (s : Cli.St) (S : PS) (v : Value) (zs : List Int) (w : World) (hc : Cli.Good c) (hw : CliW w b c s S) (hv : BytesAt w v zs) :
    Calls Tryz.prog 141 #[.pointer (some ⟨b, 0, none⟩), v] w fun e w' => ∃ va, e = .returned va ∧ ∃ S', Took w w' b c (stepD c s zs) S S' ∧ Ans w w' b S' va (ansD c s zs) := by
  have hbl := hw.cli.at_.lt
  have HD := hideG (decode_calls v zs w hv)
  have c1 := hw.cli.at_.c1
  rw [hw.cli.eph] at c1
  have hph := hw.cli.ph
  obtain ⟨az, cz, rfl, -, -, hB, -⟩ := bytes_view hv
  have HW := hideG hw
  clear hv hw
  cases hd : Frm.decF zs with
  | none =>
    obtain ⟨x1, x2, x3, x4⟩ := d_none hd
    rw [x1, x2, x3, x4] at HD
    obtain ⟨y1, y2⟩ := stepD_none (c := c) (s := s) hd
    rw [y1, y2]
    clear x1 x2 x3 x4 y1 y2 hd c1 hB
    go_enter Tryz.func141, Tryz.ntmps141
    go_wp2_with fail
    refine HD.out.mono ?_
    rintro e w1 ⟨va, rfl, hown, hb⟩
    obtain ⟨a', c', hv'⟩ := owns_form hown
    subst hv'
    have HB := hideG hb
    clear hown hb
    go_wp2_with fail
    go_ret
    exact ⟨_, rfl, S, took_same HW.out (HB.out.alloc HB.out.size _), rfl⟩
  | some f =>
    obtain ⟨k, fr, l⟩ := f
    obtain ⟨x1, x2, x3, x4⟩ := d_some hd
    rw [x1, x2, x3, x4] at HD
    obtain ⟨y1, y2, y3⟩ := Frm.enc_dec hB hd
    have HOK := hideG y1
    have HIN := hideG (okF_in y1)
    have HDE := hideG hd
    clear x1 x2 x3 x4 y1 y2 y3 hd hB
    have HM := hideG (fun (w1 : World) (a' : Option Addr) (c' : Nat) (hb : Below w.heap.size w w1) (hown : w1.ownsRow w.heap.size 147 4 (.slice a' l.length c') l.length (flat4 l)) =>
      (show ∀ (o : Obj), Below w.heap.size w (w1.alloc o) ∧ CliW (w1.alloc o) b c s S ∧ ItemsAt (w1.alloc o) (.slice a' l.length c') l ∧ w.heap.size ≤ (w1.alloc o).heap.size from fun o => by
        have hb2 := hb.alloc hb.size o
        exact ⟨hb2, HW.out.below hb2, (itemsAt_of_owns hown HIN.out).below ((Below.refl _ _).alloc (Nat.le_refl _) _), hb2.size⟩))
    by_cases k1 : s.1 = 1 ∧ k = 2
    · obtain ⟨p1, rfl⟩ := k1
      obtain ⟨y1, y2⟩ := stepD_keys (c := c) HDE.out p1
      obtain ⟨s', hs'⟩ : ∃ s', s' = stepD c s zs := ⟨_, rfl⟩
      obtain ⟨o', ho'⟩ : ∃ o', o' = ansD c s zs := ⟨_, rfl⟩
      rw [← hs', ← ho']
      have HSS := hideG (hs'.trans y1)
      have HOO := hideG (ho'.trans y2)
      clear hs' ho'
      rw [p1] at c1
      have HP := hideG p1
      clear p1 y1 y2 hph
      go_enter Tryz.func141, Tryz.ntmps141
      go_wp2_with fail
      refine HD.out.mono ?_
      rintro e w1 ⟨va, rfl, hown, hb⟩
      obtain ⟨a', c', hv'⟩ := owns_form hown
      subst hv'
      have s1 := hb.size
      have MM := hideG (HM.out w1 a' c' hb hown)
      have al : ∀ (ob : Obj), (w1.alloc ob).cell? ⟨b, 1, none⟩ = some (.int .i64 1) := fun ob => by
        rw [((Below.refl w1.heap.size w1).alloc (Nat.le_refl _) ob).cell (p := ⟨b, 1, none⟩) (by show b < _; omega), hb.cell (p := ⟨b, 1, none⟩) hbl]; exact c1
      clear hown hb
      go_wp2_with fail
      obtain ⟨m1, m2, m3, m4⟩ := MM.out (.cells #[.int .i64 2, .int .i64 fr, .slice a' l.length c'] 65)
      have M1 := hideG m1
      have M4 := hideG m4
      have CON := hideG (show Calls Tryz.prog 206 #[.pointer (some ⟨b, 0, none⟩), .slice a' l.length c'] (w1.alloc (.cells #[.int .i64 2, .int .i64 fr, .slice a' l.length c'] 65)) fun e w' => ∃ va, e = .returned va ∧ ∃ S', Took (w1.alloc (.cells #[.int .i64 2, .int .i64 fr, .slice a' l.length c'] 65)) w' b c (if Cli.keysAgree c l = true then (2, l, [], []) else (0, l, [], [])) S S' ∧ Ans (w1.alloc (.cells #[.int .i64 2, .int .i64 fr, .slice a' l.length c'] 65)) w' b S' va (if Cli.keysAgree c l = true then some (3, c.id, Cli.sharing c l) else none) by
        cases e : Cli.keysAgree c l
        · exact takeKeys_no b c s S _ fr l _ hc m2 HP.out m3 HOK.out e (0, l, [], []) rfl
        · exact takeKeys_yes b c s S _ fr l _ hc m2 HP.out m3 HOK.out e)
      rw [← HSS.out, ← HOO.out] at CON
      clear m1 m2 m3 m4
      refine CON.out.mono ?_
      rintro e w2 ⟨vb, rfl, S', ht, hans⟩
      obtain ⟨a3, n3, c3, hv3⟩ := hans.form
      have HT := hideG ht
      have HA := hideG hans
      rw [hv3] at HA ⊢
      clear ht hans hv3
      go_wp2_with fail
      go_ret
      exact ⟨_, rfl, S', HT.out.after M1.out, HA.out.after M4.out⟩
    · by_cases k2 : s.1 = 2 ∧ k = 4
      · obtain ⟨p1, rfl⟩ := k2
        obtain ⟨y1, y2⟩ := stepD_box (c := c) HDE.out p1
        obtain ⟨s', hs'⟩ : ∃ s', s' = stepD c s zs := ⟨_, rfl⟩
        obtain ⟨o', ho'⟩ : ∃ o', o' = ansD c s zs := ⟨_, rfl⟩
        rw [← hs', ← ho']
        have HSS := hideG (hs'.trans y1)
        have HOO := hideG (ho'.trans y2)
        clear hs' ho'
        rw [p1] at c1
        have HP := hideG p1
        clear p1 y1 y2 hph k1
        go_enter Tryz.func141, Tryz.ntmps141
        go_wp2_with fail
        refine HD.out.mono ?_
        rintro e w1 ⟨va, rfl, hown, hb⟩
        obtain ⟨a', c', hv'⟩ := owns_form hown
        subst hv'
        have s1 := hb.size
        have MM := hideG (HM.out w1 a' c' hb hown)
        have al : ∀ (ob : Obj), (w1.alloc ob).cell? ⟨b, 1, none⟩ = some (.int .i64 2) := fun ob => by
          rw [((Below.refl w1.heap.size w1).alloc (Nat.le_refl _) ob).cell (p := ⟨b, 1, none⟩) (by show b < _; omega), hb.cell (p := ⟨b, 1, none⟩) hbl]; exact c1
        clear hown hb
        go_wp2_with fail
        obtain ⟨m1, m2, m3, m4⟩ := MM.out (.cells #[.int .i64 4, .int .i64 fr, .slice a' l.length c'] 65)
        have M1 := hideG m1
        have M4 := hideG m4
        have CON := hideG (takeBox_calls b c s S _ fr l _ hc m2 HP.out m3 HOK.out)
        rw [← HSS.out, ← HOO.out] at CON
        clear m1 m2 m3 m4
        refine CON.out.mono ?_
        rintro e w2 ⟨vb, rfl, S', ht, hans⟩
        obtain ⟨a3, n3, c3, hv3⟩ := hans.form
        have HT := hideG ht
        have HA := hideG hans
        rw [hv3] at HA ⊢
        clear ht hans hv3
        go_wp2_with fail
        go_ret
        exact ⟨_, rfl, S', HT.out.after M1.out, HA.out.after M4.out⟩
      · by_cases k3 : s.1 = 3 ∧ k = 6
        · obtain ⟨p1, rfl⟩ := k3
          obtain ⟨y1, y2⟩ := stepD_ask (c := c) HDE.out p1
          obtain ⟨s', hs'⟩ : ∃ s', s' = stepD c s zs := ⟨_, rfl⟩
          obtain ⟨o', ho'⟩ : ∃ o', o' = ansD c s zs := ⟨_, rfl⟩
          rw [← hs', ← ho']
          have HSS := hideG (hs'.trans y1)
          have HOO := hideG (ho'.trans y2)
          clear hs' ho'
          rw [p1] at c1
          have HP := hideG p1
          clear p1 y1 y2 hph k1 k2
          go_enter Tryz.func141, Tryz.ntmps141
          go_wp2_with fail
          refine HD.out.mono ?_
          rintro e w1 ⟨va, rfl, hown, hb⟩
          obtain ⟨a', c', hv'⟩ := owns_form hown
          subst hv'
          have s1 := hb.size
          have MM := hideG (HM.out w1 a' c' hb hown)
          have al : ∀ (ob : Obj), (w1.alloc ob).cell? ⟨b, 1, none⟩ = some (.int .i64 3) := fun ob => by
            rw [((Below.refl w1.heap.size w1).alloc (Nat.le_refl _) ob).cell (p := ⟨b, 1, none⟩) (by show b < _; omega), hb.cell (p := ⟨b, 1, none⟩) hbl]; exact c1
          clear hown hb
          go_wp2_with fail
          obtain ⟨m1, m2, m3, m4⟩ := MM.out (.cells #[.int .i64 6, .int .i64 fr, .slice a' l.length c'] 65)
          have M1 := hideG m1
          have M4 := hideG m4
          have CON := hideG (takeAsk_calls b c s S _ fr l _ hc m2 HP.out m3 HOK.out)
          rw [← HSS.out, ← HOO.out] at CON
          clear m1 m2 m3 m4
          refine CON.out.mono ?_
          rintro e w2 ⟨vb, rfl, S', ht, hans⟩
          obtain ⟨a3, n3, c3, hv3⟩ := hans.form
          have HT := hideG ht
          have HA := hideG hans
          rw [hv3] at HA ⊢
          clear ht hans hv3
          go_wp2_with fail
          go_ret
          exact ⟨_, rfl, S', HT.out.after M1.out, HA.out.after M4.out⟩
        · obtain ⟨y1, y2⟩ := stepD_rest (c := c) HDE.out k1 k2 k3
          rw [y1, y2]
          clear y1 y2
          by_cases p1 : s.1 = 1
          · have hkk : (k == 2) = false := by simpa using fun e => k1 ⟨p1, e⟩
            rw [p1] at c1
            clear p1 k1 k2 k3 hph
            go_enter Tryz.func141, Tryz.ntmps141
            go_wp2_with fail
            refine HD.out.mono ?_
            rintro e w1 ⟨va, rfl, hown, hb⟩
            obtain ⟨a', c', hv'⟩ := owns_form hown
            subst hv'
            have s1 := hb.size
            have al : ∀ (ob : Obj), (w1.alloc ob).cell? ⟨b, 1, none⟩ = some (.int .i64 1) := fun ob => by
              rw [((Below.refl w1.heap.size w1).alloc (Nat.le_refl _) ob).cell (p := ⟨b, 1, none⟩) (by show b < _; omega), hb.cell (p := ⟨b, 1, none⟩) hbl]; exact c1
            have HB := hideG hb
            clear hown hb c1
            go_wp2_with fail
            go_ret
            exact ⟨_, rfl, S, took_same HW.out (HB.out.alloc HB.out.size _), rfl⟩
          by_cases p2 : s.1 = 2
          · have hkk : (k == 4) = false := by simpa using fun e => k2 ⟨p2, e⟩
            rw [p2] at c1
            clear p2 k1 k2 k3 hph p1
            go_enter Tryz.func141, Tryz.ntmps141
            go_wp2_with fail
            refine HD.out.mono ?_
            rintro e w1 ⟨va, rfl, hown, hb⟩
            obtain ⟨a', c', hv'⟩ := owns_form hown
            subst hv'
            have s1 := hb.size
            have al : ∀ (ob : Obj), (w1.alloc ob).cell? ⟨b, 1, none⟩ = some (.int .i64 2) := fun ob => by
              rw [((Below.refl w1.heap.size w1).alloc (Nat.le_refl _) ob).cell (p := ⟨b, 1, none⟩) (by show b < _; omega), hb.cell (p := ⟨b, 1, none⟩) hbl]; exact c1
            have HB := hideG hb
            clear hown hb c1
            go_wp2_with fail
            go_ret
            exact ⟨_, rfl, S, took_same HW.out (HB.out.alloc HB.out.size _), rfl⟩
          by_cases p3 : s.1 = 3
          · have hkk : (k == 6) = false := by simpa using fun e => k3 ⟨p3, e⟩
            rw [p3] at c1
            clear p3 k1 k2 k3 hph p1 p2
            go_enter Tryz.func141, Tryz.ntmps141
            go_wp2_with fail
            refine HD.out.mono ?_
            rintro e w1 ⟨va, rfl, hown, hb⟩
            obtain ⟨a', c', hv'⟩ := owns_form hown
            subst hv'
            have s1 := hb.size
            have al : ∀ (ob : Obj), (w1.alloc ob).cell? ⟨b, 1, none⟩ = some (.int .i64 3) := fun ob => by
              rw [((Below.refl w1.heap.size w1).alloc (Nat.le_refl _) ob).cell (p := ⟨b, 1, none⟩) (by show b < _; omega), hb.cell (p := ⟨b, 1, none⟩) hbl]; exact c1
            have HB := hideG hb
            clear hown hb c1
            go_wp2_with fail
            go_ret
            exact ⟨_, rfl, S, took_same HW.out (HB.out.alloc HB.out.size _), rfl⟩
          obtain ⟨ph, hph'⟩ : ∃ ph, ph = s.1 := ⟨_, rfl⟩
          rw [← hph'] at p1 p2 p3 c1
          have q1 : (ph == 1) = false := by simpa using p1
          have q2 : (ph == 2) = false := by simpa using p2
          have q3 : (ph == 3) = false := by simpa using p3
          clear hph' hph k1 k2 k3 p1 p2 p3
          go_enter Tryz.func141, Tryz.ntmps141
          go_wp2_with fail
          refine HD.out.mono ?_
          rintro e w1 ⟨va, rfl, hown, hb⟩
          obtain ⟨a', c', hv'⟩ := owns_form hown
          subst hv'
          have s1 := hb.size
          have al : ∀ (ob : Obj), (w1.alloc ob).cell? ⟨b, 1, none⟩ = some (.int .i64 ph) := fun ob => by
            rw [((Below.refl w1.heap.size w1).alloc (Nat.le_refl _) ob).cell (p := ⟨b, 1, none⟩) (by show b < _; omega), hb.cell (p := ⟨b, 1, none⟩) hbl]; exact c1
          have HB := hideG hb
          clear hown hb c1
          go_wp2_with fail
          go_ret
          exact ⟨_, rfl, S, took_same HW.out (HB.out.alloc HB.out.size _), rfl⟩
end Go.Proofs.YtchideljndagjabGreat
