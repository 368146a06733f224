/- An honest session, plainly: nobody forges a frame: what everybody has, what is in flight; no client ever halts. -/
import Derived.Test.YtchideljndagjabGreatPkIdBH
namespace Go.Proofs.YtchideljndagjabGreat
open Go.RowKit Cli Frm
set_option linter.unusedVariables false
theorem hasI_map {p : Nat → Bool} {g : Nat → It} (hg : ∀ v, (g v).1 = (v : Int)) {v : Nat} (hv : v < 13) : hasI ((Srv.lst p).map g) v = p v := by
  rw [Bool.eq_iff_iff, hasI_iff]
  constructor
  · rintro ⟨x, hx, e⟩
    obtain ⟨u, hu, rfl⟩ := List.mem_map.1 hx
    rw [hg] at e
    obtain rfl : u = v := by omega
    exact (Srv.mem_lst.1 hu).2
  · intro h
    exact ⟨g v, List.mem_map.2 ⟨v, Srv.mem_lst.2 ⟨hv, h⟩, rfl⟩, hg v⟩
theorem itemOf_map {p : Nat → Bool} {g : Nat → It} (hg : ∀ v, (g v).1 = (v : Int)) {v : Nat} (hv : v < 13) (hp : p v = true) : itemOf ((Srv.lst p).map g) v = g v := by
  have h : hasI ((Srv.lst p).map g) v = true := by rw [hasI_map hg hv]; exact hp
  obtain ⟨u, hu, e⟩ := List.mem_map.1 (Srv.mem_itemOf h)
  have e2 := itemOf_has h
  rw [← e, hg] at e2
  obtain rfl : u = v := by omega
  exact e.symm
theorem sendsL_row {G G' : Srv.Tab} {r : Nat} (hr : r < 3) (h : G r = G' r) (u : Nat) : Srv.sendsL G r u = Srv.sendsL G' r u := by
  have h3 : r = 0 ∨ r = 1 ∨ r = 2 := by omega
  rcases h3 with rfl | rfl | rfl
  · show (Srv.lstN (Srv.mem (G 0)) 13).map (Srv.helloI G) = (Srv.lstN (Srv.mem (G' 0)) 13).map (Srv.helloI G')
    have : Srv.helloI G = Srv.helloI G' := by funext v; unfold Srv.helloI; rw [h]
    rw [h, this]
  · show (Srv.lstN (Srv.without (Srv.mem (G 1)) u) 13).map (Srv.boxI G u) = (Srv.lstN (Srv.without (Srv.mem (G' 1)) u) 13).map (Srv.boxI G' u)
    have : Srv.boxI G u = Srv.boxI G' u := by funext v; unfold Srv.boxI; rw [h]
    rw [h, this]
  · show (Srv.lstN (Srv.mem (G 2)) 13).map Srv.askI = (Srv.lstN (Srv.mem (G' 2)) 13).map Srv.askI
    rw [h]
def ansL (cl : Nat → Cl) (G : Srv.Tab) (i r : Nat) : List It :=
  if r = 0 then helloL (cl i) else if r = 1 then sharing (cl i) (Srv.sendsL G 0 (i + 1)) else if r = 2 then masking (cl i) (Srv.sendsL G 0 (i + 1)) (Srv.sendsL G 1 (i + 1))
  else tells (cl i) (Srv.sendsL G 0 (i + 1)) (Srv.sendsL G 1 (i + 1)) (Srv.sendsL G 2 (i + 1))
def stN (G : Srv.Tab) (i p : Nat) : St :=
  if p = 0 then (1, [], [], []) else if p = 1 then (2, Srv.sendsL G 0 (i + 1), [], []) else if p = 2 then (3, Srv.sendsL G 0 (i + 1), Srv.sendsL G 1 (i + 1), [])
  else (4, Srv.sendsL G 0 (i + 1), Srv.sendsL G 1 (i + 1), Srv.sendsL G 2 (i + 1))
def pC (cl : Nat → Cl) (G : Srv.Tab) (i r : Nat) : Pk := ((i : Int) + 1, 0, encF (2 * (r : Int) + 1) (cl i).id (ansL cl G i r))
def pS (G : Srv.Tab) (i r : Nat) : Pk := (0, (i : Int) + 1, encF (2 * (r : Int) + 2) 0 (Srv.sendsL G r (i + 1)))
theorem ansL_row (cl : Nat → Cl) {G G' : Srv.Tab} {r : Nat} (h : ∀ r', r' < r → G r' = G' r') (hr : r < 4) (i : Nat) : ansL cl G i r = ansL cl G' i r := by
  unfold ansL
  by_cases e0 : r = 0
  · rw [if_pos e0, if_pos e0]
  by_cases e1 : r = 1
  · rw [if_neg e0, if_pos e1, if_neg e0, if_pos e1, sendsL_row (by omega) (h 0 (by omega))]
  by_cases e2 : r = 2
  · rw [if_neg e0, if_neg e1, if_pos e2, if_neg e0, if_neg e1, if_pos e2, sendsL_row (by omega) (h 0 (by omega)), sendsL_row (by omega) (h 1 (by omega))]
  · rw [if_neg e0, if_neg e1, if_neg e2, if_neg e0, if_neg e1, if_neg e2, sendsL_row (by omega) (h 0 (by omega)), sendsL_row (by omega) (h 1 (by omega)), sendsL_row (by omega) (h 2 (by omega))]
theorem stN_row {G G' : Srv.Tab} {p : Nat} (h : ∀ r', r' < p → G r' = G' r') (i : Nat) : stN G i p = stN G' i p := by
  unfold stN
  by_cases e0 : p = 0
  · rw [if_pos e0, if_pos e0]
  by_cases e1 : p = 1
  · rw [if_neg e0, if_pos e1, if_neg e0, if_pos e1, sendsL_row (by omega) (h 0 (by omega))]
  by_cases e2 : p = 2
  · rw [if_neg e0, if_neg e1, if_pos e2, if_neg e0, if_neg e1, if_pos e2, sendsL_row (by omega) (h 0 (by omega)), sendsL_row (by omega) (h 1 (by omega))]
  · rw [if_neg e0, if_neg e1, if_neg e2, if_neg e0, if_neg e1, if_neg e2, sendsL_row (by omega) (h 0 (by omega)), sendsL_row (by omega) (h 1 (by omega)), sendsL_row (by omega) (h 2 (by omega))]
theorem stN_ph (G : Srv.Tab) (i : Nat) {p : Nat} (h : p ≤ 3) : (stN G i p).1 = (p : Int) + 1 := by
  unfold stN
  by_cases e0 : p = 0
  · rw [if_pos e0, e0]; rfl
  by_cases e1 : p = 1
  · rw [if_neg e0, if_pos e1, e1]; rfl
  by_cases e2 : p = 2
  · rw [if_neg e0, if_neg e1, if_pos e2, e2]; rfl
  · rw [if_neg e0, if_neg e1, if_neg e2, show p = 3 by omega]; rfl
structure HT (C : Srv.Cf) (cl : Nat → Cl) (n : Nat) (G : Srv.Tab) (rd : Nat) (ph : Nat → Nat) : Prop where
  good : Srv.GoodT C G
  rd4 : rd < 4
  late : ∀ r, rd < r → G r = fun _ => none
  big : ∀ r, r < rd → C.T ≤ (Srv.sizeR (G r) : Int)
  tab : ∀ r u l, G r u = some l → ∃ i, u = i + 1 ∧ i < n ∧ l = ansL cl G i r ∧ r ≤ ph i
  ph3 : ∀ i, i < n → ph i ≤ 3 ∧ ph i ≤ rd
  phm : ∀ i, i < n → 1 ≤ ph i → Srv.mem (G (ph i - 1)) (i + 1) = true
section
variable {C : Srv.Cf} {cl : Nat → Cl} {n : Nat} {G : Srv.Tab} {rd : Nat} {ph : Nat → Nat}
theorem HT.row (h : HT C cl n G rd ph) {r u : Nat} (hm : Srv.mem (G r) u = true) : ∃ i, u = i + 1 ∧ i < n ∧ G r u = some (ansL cl G i r) ∧ r ≤ ph i ∧ r ≤ rd := by
  obtain ⟨l, e⟩ := Srv.mem_some hm
  obtain ⟨i, e1, e2, e3, e4⟩ := h.tab r u l e
  have := (h.ph3 i e2).2
  exact ⟨i, e1, e2, by rw [e, e3], e4, by omega⟩
theorem HT.its (h : HT C cl n G rd ph) {r i : Nat} (hm : Srv.mem (G r) (i + 1) = true) : Srv.its (G r) (i + 1) = ansL cl G i r ∧ i < n ∧ r ≤ ph i := by
  obtain ⟨j, e1, e2, e3, e4, _⟩ := h.row hm
  obtain rfl : i = j := by omega
  exact ⟨Srv.its_some e3, e2, e4⟩
theorem HT.down (h : HT C cl n G rd ph) {r r' u : Nat} (hr : r ≤ r') (hm : Srv.mem (G r') u = true) : Srv.mem (G r) u = true := by
  induction r' with
  | zero => obtain rfl : r = 0 := by omega
            exact hm
  | succ k ih =>
    by_cases e : r = k + 1
    · rw [e]; exact hm
    · exact ih (by omega) (h.good.up k u hm)
theorem HT.sizes (h : HT C cl n G rd ph) (hC : Cast C cl n) {r : Nat} (hr : r < rd) : 1 ≤ Srv.sizeR (G r) := by have := h.big r hr; have := hC.gc.t; omega
theorem HT.sok (h : HT C cl n G rd ph) (hC : Cast C cl n) {r : Nat} (hr : r < rd) (u : Nat) : okF (2 * (r : Int) + 2) 0 (Srv.sendsL G r u) = true := Srv.sends_ok h.good r u (by have := h.rd4; omega) (h.sizes hC hr)
theorem HT.pub (h : HT C cl n G rd ph) (hC : Cast C cl n) {j : Nat} (hm : Srv.mem (G 0) (j + 1) = true) : Srv.helloI G (j + 1) = (((j + 1 : Nat) : Int), pubA (cl j), pubB (cl j), 0) ∧ Srv.pub G (j + 1) = pubB (cl j) ∧ j < n := by
  obtain ⟨e1, e2, _⟩ := h.its hm
  have hid := hC.id j e2
  have e3 : itemOf (Srv.its (G 0) (j + 1)) ((j + 1 : Nat) : Int) = ((cl j).id, pubA (cl j), pubB (cl j), 0) := by
    rw [e1]
    show itemOf (helloL (cl j)) _ = _
    unfold itemOf helloL
    rw [List.find?_cons_of_pos (by show decide ((cl j).id = ((j + 1 : Nat) : Int)) = true; exact decide_eq_true (by omega))]; rfl
  refine ⟨?_, ?_, e2⟩
  · unfold Srv.helloI; rw [e3]
  · unfold Srv.pub; rw [e3]
theorem keys_form (G : Srv.Tab) (u : Nat) : Srv.sendsL G 0 u = (Srv.lst (Srv.mem (G 0))).map (Srv.helloI G) := rfl
theorem box_form (G : Srv.Tab) (u : Nat) : Srv.sendsL G 1 u = (Srv.lst (Srv.without (Srv.mem (G 1)) u)).map (Srv.boxI G u) := rfl
theorem ask_form (G : Srv.Tab) (u : Nat) : Srv.sendsL G 2 u = (Srv.lst (Srv.mem (G 2))).map Srv.askI := rfl
theorem HT.keyItem (h : HT C cl n G rd ph) (hC : Cast C cl n) (u : Nat) {j : Nat} (hm : Srv.mem (G 0) (j + 1) = true) : itemOf (Srv.sendsL G 0 u) ((j : Int) + 1) = ((j : Int) + 1, pubA (cl j), pubB (cl j), 0) := by
  have h13 : j + 1 < 13 := by have := (h.good.mem hm).2.2.2.1; omega
  have e := itemOf_map (p := Srv.mem (G 0)) (g := Srv.helloI G) (fun _ => rfl) h13 hm
  rw [(h.pub hC hm).1] at e
  rw [keys_form]
  exact e
theorem HT.keysAgree (h : HT C cl n G rd ph) (hC : Cast C cl n) {i : Nat} (hr : 0 < rd) (hm : Srv.mem (G 0) (i + 1) = true) : Cli.keysAgree (cl i) (Srv.sendsL G 0 (i + 1)) = true := by
  obtain ⟨_, hi, _⟩ := h.its hm
  have hid := hC.id i hi
  unfold Cli.keysAgree
  rw [hid, h.keyItem hC (i + 1) hm]
  have a1 : ((Srv.sendsL G 0 (i + 1)).all fun x => decide (x.1 ≤ (cl i).N)) = true := List.all_eq_true.2 fun x hx => by
    rw [keys_form] at hx
    obtain ⟨v, hv, rfl⟩ := List.mem_map.1 hx
    have := (h.good.mem (Srv.mem_lst.1 hv).2).2.2.1
    rw [hC.N i hi]; exact decide_eq_true this
  have a2 : (cl i).T ≤ ((Srv.sendsL G 0 (i + 1)).length : Int) := by
    rw [hC.T i hi, keys_form, List.length_map]; exact h.big 0 hr
  rw [a1, decide_eq_true a2]
  simp
theorem HT.chan (h : HT C cl n G rd ph) (hC : Cast C cl n) {i j : Nat} (mi : Srv.mem (G 0) (i + 1) = true) (mj : Srv.mem (G 0) (j + 1) = true) : chKey (cl i) (Srv.sendsL G 0 (i + 1)) ((j : Int) + 1) = chKey (cl j) (Srv.sendsL G 0 (j + 1)) ((i : Int) + 1) := by
  unfold chKey
  rw [h.keyItem hC _ mi, h.keyItem hC _ mj]
  exact Num.pow_swap _ _ _
def mk2 (cl : Nat → Cl) (i j : Nat) : Int := Num.powP (Num.powP 37 (cl i).ms) (cl j).ms
theorem mk2_swap (cl : Nat → Cl) (i j : Nat) : mk2 cl i j = mk2 cl j i := Num.pow_swap _ _ _
theorem HT.mask (h : HT C cl n G rd ph) (hC : Cast C cl n) {i j : Nat} (mj : Srv.mem (G 0) (j + 1) = true) : mkKey (cl i) (Srv.sendsL G 0 (i + 1)) ((j : Int) + 1) = mk2 cl i j := by
  unfold mkKey
  rw [h.keyItem hC _ mj, mk2_swap]; rfl
theorem HT.sharingItem (h : HT C cl n G rd ph) (hC : Cast C cl n) (hr : 0 < rd) {i j : Nat} (hi : i < n) (mj : Srv.mem (G 0) (j + 1) = true) (hne : i ≠ j) : itemOf (sharing (cl i) (Srv.sendsL G 0 (i + 1))) ((j : Int) + 1) = sealI (cl i) (Srv.sendsL G 0 (i + 1)) ((j : Int) + 1) := by
  have h13 : j + 1 < 13 := by have := (h.good.mem mj).2.2.2.1; omega
  rw [← sealed_all (cl i) (okF_parts (h.sok hC hr (i + 1))).2.2.1]
  have e := itemOf_map (p := fun v : Nat => hasI (Srv.sendsL G 0 (i + 1)) v && decide ((v : Int) ≠ (cl i).id)) (g := fun v : Nat => sealI (cl i) (Srv.sendsL G 0 (i + 1)) v) (fun _ => rfl) h13 (by
    rw [keys_form, hasI_map (fun _ => rfl) h13, mj, Bool.true_and]
    exact decide_eq_true (by have := hC.id i hi; omega))
  exact e
theorem HT.boxItem (h : HT C cl n G rd ph) (hC : Cast C cl n) (hr : 0 < rd) {i j : Nat} (mi : Srv.mem (G 0) (i + 1) = true) (mj : Srv.mem (G 1) (j + 1) = true) (hne : i ≠ j) : itemOf (Srv.sendsL G 1 (i + 1)) ((j : Int) + 1) = ((j : Int) + 1, (sealI (cl j) (Srv.sendsL G 0 (j + 1)) ((i : Int) + 1)).2.1, (sealI (cl j) (Srv.sendsL G 0 (j + 1)) ((i : Int) + 1)).2.2.1, (sealI (cl j) (Srv.sendsL G 0 (j + 1)) ((i : Int) + 1)).2.2.2) := by
  have h13 : j + 1 < 13 := by have := (h.good.mem mj).2.2.2.1; omega
  obtain ⟨e1, hj, _⟩ := h.its mj
  have e := itemOf_map (p := Srv.without (Srv.mem (G 1)) (i + 1)) (g := Srv.boxI G (i + 1)) (fun _ => rfl) h13 (by unfold Srv.without; rw [mj, Bool.true_and]; exact decide_eq_true (by omega))
  rw [box_form]
  refine Eq.trans e ?_
  unfold Srv.boxI
  have e2 : itemOf (Srv.its (G 1) (j + 1)) ((i + 1 : Nat) : Int) = sealI (cl j) (Srv.sendsL G 0 (j + 1)) ((i : Int) + 1) := by
    rw [e1]; exact h.sharingItem hC hr hj mi (fun e => hne e.symm)
  rw [e2]; rfl
theorem HT.share (h : HT C cl n G rd ph) (hC : Cast C cl n) (hr : 1 < rd) {i j : Nat} (mi : Srv.mem (G 1) (i + 1) = true) (mj : Srv.mem (G 1) (j + 1) = true) :
    mShare (cl i) (Srv.sendsL G 0 (i + 1)) (Srv.sendsL G 1 (i + 1)) ((j : Int) + 1) = Pol.polyP (cl j).ms (cl j).sm ((i : Int) + 1) ∧ sShare (cl i) (Srv.sendsL G 0 (i + 1)) (Srv.sendsL G 1 (i + 1)) ((j : Int) + 1) = Pol.polyP (cl j).sd (cl j).ss ((i : Int) + 1) := by
  obtain ⟨_, hi, _⟩ := h.its mi
  obtain ⟨_, hj, _⟩ := h.its mj
  have ii := hC.id i hi
  have ij := hC.id j hj
  unfold mShare sShare
  by_cases e : i = j
  · subst e
    rw [if_pos ii.symm, if_pos ii.symm, ii]; exact ⟨rfl, rfl⟩
  · have mi0 := h.down (Nat.zero_le 1) mi
    have mj0 := h.down (Nat.zero_le 1) mj
    rw [if_neg (by omega), if_neg (by omega), h.boxItem hC (by omega) mi0 mj e, h.chan hC mi0 mj0]
    unfold sealI
    rw [ii, ij]
    exact ⟨Num.sub_add _ _ (Pol.polyP_lo _ _ _) (Pol.polyP_hi _ _ _), Num.sub_add _ _ (Pol.polyP_lo _ _ _) (Pol.polyP_hi _ _ _)⟩
theorem HT.boxAgree (h : HT C cl n G rd ph) (hC : Cast C cl n) {i : Nat} (hr : 1 < rd) (mi : Srv.mem (G 1) (i + 1) = true) : Cli.boxAgree (cl i) (Srv.sendsL G 0 (i + 1)) (Srv.sendsL G 1 (i + 1)) = true := by
  obtain ⟨_, hi, _⟩ := h.its mi
  have ii := hC.id i hi
  have i13 : i + 1 < 13 := by have := (h.good.mem mi).2.2.2.1; omega
  have mi0 := h.down (Nat.zero_le 1) mi
  unfold Cli.boxAgree
  have a1 : hasI (Srv.sendsL G 1 (i + 1)) (cl i).id = false := by
    rw [ii, box_form]
    have e := hasI_map (p := Srv.without (Srv.mem (G 1)) (i + 1)) (g := Srv.boxI G (i + 1)) (fun _ => rfl) i13
    have e2 : Srv.without (Srv.mem (G 1)) (i + 1) (i + 1) = false := by unfold Srv.without; simp
    rw [e2] at e; exact e
  have a2 : (cl i).T ≤ ((Srv.sendsL G 1 (i + 1)).length : Int) + 1 := by
    rw [hC.T i hi, box_form, List.length_map]
    have e := Srv.lstN_upd (Srv.without (Srv.mem (G 1)) (i + 1)) (Srv.mem (G 1)) (i + 1) (by unfold Srv.without; simp) mi (fun v hv => by unfold Srv.without; simp [hv]) 13
    rw [if_pos i13] at e
    have hb := h.big 1 hr
    unfold Srv.sizeR Srv.lst at hb
    unfold Srv.lst
    omega
  have a3 : ((Srv.sendsL G 1 (i + 1)).all fun x => hasI (Srv.sendsL G 0 (i + 1)) x.1 && opensB (cl i) (Srv.sendsL G 0 (i + 1)) (Srv.sendsL G 1 (i + 1)) x.1) = true := List.all_eq_true.2 fun x hx => by
    rw [box_form] at hx
    obtain ⟨v, hv, rfl⟩ := List.mem_map.1 hx
    obtain ⟨v13, hw⟩ := Srv.mem_lst.1 hv
    unfold Srv.without at hw
    rw [Bool.and_eq_true] at hw
    have hne : v ≠ i + 1 := of_decide_eq_true hw.2
    have mv := hw.1
    obtain ⟨j, rfl, hj, _, _, _⟩ := h.row mv
    have mj0 := h.down (Nat.zero_le 1) mv
    have ij := hC.id j hj
    show (hasI (Srv.sendsL G 0 (i + 1)) ((j + 1 : Nat) : Int) && opensB (cl i) (Srv.sendsL G 0 (i + 1)) (Srv.sendsL G 1 (i + 1)) ((j : Int) + 1)) = true
    rw [keys_form, hasI_map (fun _ => rfl) v13, mj0, Bool.true_and, ← keys_form G (i + 1)]
    unfold opensB
    rw [h.boxItem hC (by omega) mi0 mv (by omega), h.chan hC mi0 mj0]
    refine decide_eq_true ?_
    unfold sealI
    rw [ii, ij]
  rw [a1, decide_eq_true a2, a3]; rfl
theorem HT.askAgree (h : HT C cl n G rd ph) (hC : Cast C cl n) {i : Nat} (hr : 2 < rd) (mi : Srv.mem (G 2) (i + 1) = true) : Cli.askAgree (cl i) (Srv.sendsL G 1 (i + 1)) (Srv.sendsL G 2 (i + 1)) = true := by
  obtain ⟨_, hi, _⟩ := h.its mi
  have ii := hC.id i hi
  have i13 : i + 1 < 13 := by have := (h.good.mem mi).2.2.2.1; omega
  unfold Cli.askAgree
  have a1 : ((Srv.sendsL G 2 (i + 1)).all fun x => hasI (Srv.sendsL G 1 (i + 1)) x.1 || decide (x.1 = (cl i).id)) = true := List.all_eq_true.2 fun x hx => by
    rw [ask_form] at hx
    obtain ⟨v, hv, rfl⟩ := List.mem_map.1 hx
    obtain ⟨v13, mv⟩ := Srv.mem_lst.1 hv
    show (hasI (Srv.sendsL G 1 (i + 1)) (v : Int) || decide ((v : Int) = (cl i).id)) = true
    rw [box_form, hasI_map (fun _ => rfl) v13, ii]
    unfold Srv.without
    rw [h.down (by omega : 1 ≤ 2) mv, Bool.true_and]
    by_cases e : v = i + 1
    · rw [decide_eq_true (show (v : Int) = (i : Int) + 1 by omega), Bool.or_true]
    · rw [decide_eq_true e, Bool.true_or]
  have a2 : hasI (Srv.sendsL G 2 (i + 1)) (cl i).id = true := by
    rw [ii, ask_form]
    have e := hasI_map (p := Srv.mem (G 2)) (g := Srv.askI) (fun _ => rfl) i13
    rw [mi] at e; exact e
  have a3 : (cl i).T ≤ ((Srv.sendsL G 2 (i + 1)).length : Int) := by
    rw [hC.T i hi, ask_form, List.length_map]; exact h.big 2 hr
  rw [a1, a2, decide_eq_true a3]; rfl
theorem HT.hasBox (h : HT C cl n G rd ph) (hC : Cast C cl n) {i : Nat} (hi : i < n) (mi : Srv.mem (G 1) (i + 1) = true) {v : Nat} (hv : v < 13) : (hasI (Srv.sendsL G 1 (i + 1)) (v : Int) || decide ((v : Int) = (cl i).id)) = Srv.mem (G 1) v := by
  rw [box_form, hasI_map (fun _ => rfl) hv, hC.id i hi]
  unfold Srv.without
  by_cases e : v = i + 1
  · rw [e, mi]; simp
  · rw [decide_eq_true e, decide_eq_false (show ¬ (v : Int) = (i : Int) + 1 by omega), Bool.and_true, Bool.or_false]
theorem HT.tellItem (h : HT C cl n G rd ph) (hC : Cast C cl n) (hr : 2 < rd) {i j : Nat} (mi : Srv.mem (G 2) (i + 1) = true) (mj : Srv.mem (G 1) (j + 1) = true) :
    itemOf (tells (cl i) (Srv.sendsL G 0 (i + 1)) (Srv.sendsL G 1 (i + 1)) (Srv.sendsL G 2 (i + 1))) ((j : Int) + 1) = ((j : Int) + 1, if Srv.mem (G 2) (j + 1) = true then 1 else 2, if Srv.mem (G 2) (j + 1) = true then Pol.polyP (cl j).sd (cl j).ss ((i : Int) + 1) else Pol.polyP (cl j).ms (cl j).sm ((i : Int) + 1), 0) := by
  obtain ⟨_, hi, _⟩ := h.its mi
  have j13 : j + 1 < 13 := by have := (h.good.mem mj).2.2.2.1; omega
  have mi1 := h.down (by omega : 1 ≤ 2) mi
  rw [← told_all (hC.good i hi) (okF_parts (h.sok hC (by omega : 1 < rd) (i + 1))).2.2.1]
  have e := itemOf_map (p := fun v : Nat => hasI (Srv.sendsL G 1 (i + 1)) v || decide ((v : Int) = (cl i).id)) (g := fun v : Nat => tellI (cl i) (Srv.sendsL G 0 (i + 1)) (Srv.sendsL G 1 (i + 1)) (Srv.sendsL G 2 (i + 1)) v) (fun _ => rfl) j13 (by rw [h.hasBox hC hi mi1 j13]; exact mj)
  refine Eq.trans e ?_
  have a : hasI (Srv.sendsL G 2 (i + 1)) ((j + 1 : Nat) : Int) = Srv.mem (G 2) (j + 1) := by rw [ask_form]; exact hasI_map (fun _ => rfl) j13
  obtain ⟨s1, s2⟩ := h.share hC (by omega) mi1 mj
  show (((j + 1 : Nat) : Int), _, _, (0 : Int)) = _
  rw [a]
  show (((j + 1 : Nat) : Int), (if Srv.mem (G 2) (j + 1) = true then (1 : Int) else 2), (if Srv.mem (G 2) (j + 1) = true then sShare (cl i) (Srv.sendsL G 0 (i + 1)) (Srv.sendsL G 1 (i + 1)) ((j : Int) + 1) else mShare (cl i) (Srv.sendsL G 0 (i + 1)) (Srv.sendsL G 1 (i + 1)) ((j : Int) + 1)), (0 : Int)) = _
  rw [s1, s2]; rfl
theorem ans_okF (hC : Cast C cl n) (h : HT C cl n G rd ph) {i r : Nat} (hi : i < n) (hr : r ≤ rd) : okF (2 * (r : Int) + 1) (cl i).id (ansL cl G i r) = true := by
  have hg := hC.good i hi
  have h4 := h.rd4
  have q : r = 0 ∨ r = 1 ∨ r = 2 ∨ r = 3 := by omega
  rcases q with rfl | rfl | rfl | rfl
  · exact helloL_ok hg
  · exact sharing_ok hg (okF_parts (h.sok hC (by omega : 0 < rd) (i + 1))).2.2.1
  · exact masking_ok hg _ _
  · exact tells_ok hg _ _ _
theorem HT.shape (h : HT C cl n G rd ph) (hC : Cast C cl n) {i : Nat} (hi : i < n) (hp : rd ≤ ph i) : Srv.shape C G rd (i + 1) (ansL cl G i rd) = true := by
  have h4 := h.rd4
  have q : rd = 0 ∨ rd = 1 ∨ rd = 2 ∨ rd = 3 := by omega
  have ep : ph i = rd := by have := (h.ph3 i hi).2; omega
  have mm : 1 ≤ rd → Srv.mem (G (rd - 1)) (i + 1) = true := fun e => by have := h.phm i hi (by omega); rwa [ep] at this
  unfold Srv.shape ansL
  rcases q with e | e | e | e
  · rw [if_neg (by omega), if_neg (by omega), if_neg (by omega)]
  · have m0 : Srv.mem (G 0) (i + 1) = true := by have := mm (by omega); rwa [e] at this
    rw [if_pos e, if_neg (by omega), if_pos e, Srv.sameS_iff]
    intro v hv
    rw [← sealed_all (cl i) (okF_parts (h.sok hC (by omega : 0 < rd) (i + 1))).2.2.1]
    have e2 := hasI_map (p := fun v : Nat => hasI (Srv.sendsL G 0 (i + 1)) v && decide ((v : Int) ≠ (cl i).id)) (g := fun v : Nat => sealI (cl i) (Srv.sendsL G 0 (i + 1)) v) (fun _ => rfl) hv
    refine Eq.trans e2 ?_
    show (hasI (Srv.sendsL G 0 (i + 1)) v && decide ((v : Int) ≠ (cl i).id)) = _
    rw [keys_form, hasI_map (fun _ => rfl) hv, hC.id i hi]
    unfold Srv.without
    congr 1
    by_cases c : v = i + 1
    · rw [decide_eq_false (by omega : ¬ (v : Int) ≠ (i : Int) + 1), decide_eq_false (by omega : ¬ v ≠ i + 1)]
    · rw [decide_eq_true (by omega : (v : Int) ≠ (i : Int) + 1), decide_eq_true c]
  · rw [if_neg (by omega), if_pos e, if_neg (by omega), if_neg (by omega), if_pos e, masking_length, hC.M i hi]
    exact decide_eq_true (by have := hC.gc.m; omega)
  · have m2 : Srv.mem (G 2) (i + 1) = true := by have := mm (by omega); rwa [e] at this
    have m1 := h.down (by omega : 1 ≤ 2) m2
    rw [if_neg (by omega), if_neg (by omega), if_pos e, if_neg (by omega), if_neg (by omega), if_neg (by omega), Bool.and_eq_true]
    rw [← told_all (hC.good i hi) (okF_parts (h.sok hC (by omega : 1 < rd) (i + 1))).2.2.1]
    refine ⟨List.all_eq_true.2 fun x hx => ?_, Srv.sameS_iff.2 fun v hv => ?_⟩
    · unfold toldN at hx
      obtain ⟨v, hv, rfl⟩ := List.mem_map.1 hx
      obtain ⟨hv1, hv2⟩ := List.mem_filter.1 hv
      have hv13 := List.mem_range.1 hv1
      show (decide ((if hasI (Srv.sendsL G 2 (i + 1)) (v : Int) = true then (1 : Int) else 2) = 1) == Srv.mem (G 2) ((v : Int)).toNat) = true
      rw [ask_form, hasI_map (fun _ => rfl) hv13, show ((v : Int)).toNat = v by omega]
      cases Srv.mem (G 2) v <;> rfl
    · have e2 := hasI_map (p := fun v : Nat => hasI (Srv.sendsL G 1 (i + 1)) v || decide ((v : Int) = (cl i).id)) (g := fun v : Nat => tellI (cl i) (Srv.sendsL G 0 (i + 1)) (Srv.sendsL G 1 (i + 1)) (Srv.sendsL G 2 (i + 1)) v) (fun _ => rfl) hv
      refine Eq.trans e2 ?_
      exact h.hasBox hC hi m1 hv
end
end Go.Proofs.YtchideljndagjabGreat
