/- Contract of the program's server: finish. What the walks compute is what the plain server does. -/
import Derived.Test.YtchideljndagjabGreatPkIdAX
import Derived.Test.YtchideljndagjabGreatPkIdAG
namespace Go.Proofs.YtchideljndagjabGreat
open Go.ChangeShapes Go.WideShapes Go.ChangeAt Go.RowKit
set_option linter.unusedVariables false
set_option maxHeartbeats 2000000 in
set_option maxRecDepth 100000 in
theorem finish_calls (b : Nat) (S : SS) (L : Nat → List Frm.It) (zs : List Int) (w : World) (h : SSAt w b S) (hL : ∀ v, v < 13 → ItemsAt w (S.it v) (L v)) (hp : ∀ v, v < 13 → S.sh v = true → ptsB (tellG S.ct L v 13) = true) (hne : Srv.lst S.sn ≠ []) (hpb : ∀ u, u < 13 → 0 ≤ S.pb u ∧ S.pb u < 2305843009213693951)
    (hml : ListAt w S.ml zs) (hz : ∀ z ∈ zs, 0 ≤ z ∧ z < 4294967296) (hn : zs.length ≤ 12) :
    Calls Tryz.prog 197 #[.pointer (some ⟨b, 0, none⟩)] w fun e w' => e = .returned (.tuple #[]) ∧ ∃ va vb, w'.ownsRow w.heap.size 3 1 va (Srv.lst S.sn).length (natsV (Srv.lst S.sn)) ∧
      w'.ownsRow w.heap.size 3 1 vb zs.length ((unG zs (allG S.sn S.sh S.pb (fun v => Lag.joinN (tellG S.ct L v 13)) 13) zs.length).map (Value.int .i64)) ∧ SSAt w' b (overS 1 0 va vb) ∧ Turn w w' b := by
  have hbl := h.lt
  have HRG := hideG h.allsn
  have LX := hideG (bl13_length S.sn)
  have HLI := hideG (listed_calls S.sn w)
  have HUN := hideG (fun (w1 : World) (hb : Below w.heap.size w w1) => unmasked_calls b S L zs w1 (h.below hb) (fun v hv => (hL v hv).below hb) hp hne hpb (hml.below hb) hz hn)
  have HS := hideG (fun (w1 : World) (hb : Below w.heap.size w w1) => h.below hb)
  clear h hL hp hne hpb hml hz
  obtain ⟨us, hus⟩ : ∃ us, us = unG zs (allG S.sn S.sh S.pb (fun v => Lag.joinN (tellG S.ct L v 13)) 13) zs.length := ⟨_, rfl⟩
  rw [← hus] at HUN ⊢
  clear hus
  unfold memV at HLI
  obtain ⟨ls, hls⟩ : ∃ ls, ls = Srv.lst S.sn := ⟨_, rfl⟩
  rw [← hls] at HLI ⊢
  clear hls
  obtain ⟨CS, hCS⟩ : ∃ CS, CS = bl13 S.sn := ⟨_, rfl⟩
  rw [← hCS] at HRG LX HLI
  clear hCS
  go_enter Tryz.func197, Tryz.ntmps197
  go_wp2_with (refine wpList_load_mid rfl 101 _ rfl b 6 rfl CS _ HRG.out Tryz.underlying101 rfl ?z ?_)
  case z => rw [size_mem, LX.out]
  go_wp2_with fail
  refine HLI.out.mono ?_
  rintro e w1 ⟨va, rfl, hva, hb1⟩
  have s1 := hb1.size
  obtain ⟨a3, c3, hv3⟩ := owns_form hva
  subst hv3
  have B1 := hideG hb1
  have O1 := hideG hva
  clear hb1 hva
  have UN := hideG (HUN.out w1 B1.out)
  go_wp2_with fail
  refine UN.out.mono ?_
  rintro e w2 ⟨vb, rfl, hvb, hb2⟩
  have s2 := hb2.size
  obtain ⟨a4, c4, hv4⟩ := owns_form hvb
  subst hv4
  have B2 := hideG (B1.out.trans (hb2.mono B1.out.size))
  have O2 := hideG (ownsRow_chg (S := fun _ => False) O1.out (Chg.of_below hb2) (fun _ _ h => h))
  have P2 := hideG (ownsRow_base hvb s1)
  clear hb2 hvb
  have h2 := HS.out w2 B2.out
  have hst := stcl Tryz.prog b 0 (ssCells (overS 1 0 (.slice a3 ls.length c3) (.slice a4 zs.length c4))) w2 (h2.there 0 76 (by omega)) (ssCells_one _ (fun _ _ => rfl) rfl rfl rfl)
  have hst2 : (storeCells ⟨b, 0, none⟩ ((((Tryz.zeroCells106.toList.set 72 (Value.int IntKind.i64 1)).set 73 (Value.int IntKind.i64 0)).set 74 (.slice a3 ls.length c3)).set 75 (.slice a4 zs.length c4)) 0).run Tryz.prog w2 = .ok () (w2.setCells b 0 (ssCells (overS 1 0 (.slice a3 ls.length c3) (.slice a4 zs.length c4)))) := hst
  have HE := hideG (show SSAt (w2.setCells b 0 (ssCells (overS 1 0 (.slice a3 ls.length c3) (.slice a4 zs.length c4)))) b (overS 1 0 (.slice a3 ls.length c3) (.slice a4 zs.length c4)) ∧ Turn w2 (w2.setCells b 0 (ssCells (overS 1 0 (.slice a3 ls.length c3) (.slice a4 zs.length c4)))) b from ⟨h2.setAll _, Turn.cells w2 b 0 _ (by rw [ssCells_length]; omega)⟩)
  clear hst h2
  obtain ⟨cs, hcs⟩ : ∃ cs, cs = ssCells (overS 1 0 (.slice a3 ls.length c3) (.slice a4 zs.length c4)) := ⟨_, rfl⟩
  rw [← hcs] at hst2 HE
  clear hcs
  go_wp2_with fail
  go_end0
  refine ⟨rfl, _, _, ?_, ?_, HE.out.1, (Turn.grow B2.out hbl).trans HE.out.2⟩
  · exact ownsRow_chg O2.out HE.out.2.chg (fun x hx e => by have := (O2.out.lt x hx).1; omega)
  · exact ownsRow_chg P2.out HE.out.2.chg (fun x hx e => by have := (P2.out.lt x hx).1; omega)
theorem lstN_ext {p q : Nat → Bool} (h : ∀ u, u < 13 → p u = q u) : Srv.lstN p 13 = Srv.lstN q 13 := Srv.lst_ext h
theorem frG_eq {G : Srv.Tab} {p : Nat → Bool} {rd : Nat} (h : ∀ u, u < 13 → p u = Srv.mem (G rd) u) (hr : rd < 3) (u : Nat) : frG p (Srv.its (G rd)) rd u = Srv.sendsL G rd u := by
  have hd : rd = 0 ∨ rd = 1 ∨ rd = 2 := by omega
  rcases hd with rfl | rfl | rfl
  · show keyG p (Srv.its (G 0)) 13 = Srv.keysN G 13
    unfold keyG Srv.keysN; rw [lstN_ext h]; rfl
  · show boxG p (Srv.its (G 1)) u 13 = Srv.boxN G u 13
    unfold boxG Srv.boxN
    rw [lstN_ext (p := Srv.without p u) (q := Srv.without (Srv.mem (G 1)) u) (fun v hv => by unfold Srv.without; rw [h v hv])]; rfl
  · show askG p 13 = Srv.askN G 13
    unfold askG Srv.askN; rw [lstN_ext h]; rfl
def tickK (C : Srv.Cf) (s : Srv.Sv) : List Pk := (Srv.tickP C s).map fun p => ((0 : Int), p.1, p.2)
theorem pksG_eq {G : Srv.Tab} {p : Nat → Bool} {rd : Nat} (h : ∀ u, u < 13 → p u = Srv.mem (G rd) u) (hr : rd < 3) : pksG p (Srv.its (G rd)) rd 13 = ((Srv.lst (Srv.mem (G rd))).map fun u : Nat => ((u : Int), Frm.encF (2 * (rd : Int) + 2) 0 (Srv.sendsL G rd u))).map fun p => ((0 : Int), p.1, p.2) := by
  unfold pksG
  rw [lstN_ext h, List.map_map]
  apply List.map_congr_left
  intro u _
  show ((0 : Int), (u : Int), Frm.encF (2 * (rd : Int) + 2) 0 (frG p (Srv.its (G rd)) rd u)) = _
  rw [frG_eq h hr u]; rfl
theorem tellG_eq {G : Srv.Tab} {p : Nat → Bool} (h : ∀ u, u < 13 → p u = Srv.mem (G 3) u) (v : Nat) : tellG p (Srv.its (G 3)) v 13 = Srv.tellPts G v := by
  unfold tellG Srv.tellPts Srv.tellN; rw [lstN_ext h]
theorem allG_eq {G : Srv.Tab} {ct sn sh : Nat → Bool} {pb : Nat → Int} (hc : ∀ u, u < 13 → ct u = Srv.mem (G 3) u) (hn : ∀ u, u < 13 → sn u = Srv.mem (G 2) u) (hh : ∀ u, u < 13 → sh u = Srv.mem (G 1) u) (hb : ∀ u, u < 13 → pb u = Srv.pub G u) : allG sn sh pb (fun v => Lag.joinN (tellG ct (Srv.its (G 3)) v 13)) 13 = Srv.masksL G := by
  unfold allG Srv.masksL Srv.masksN
  rw [lstN_ext hh]
  congr 1
  apply List.map_congr_left
  intro v hv
  have v13 : v < 13 := (Srv.mem_lst.1 hv).1
  show withG sn pb v (Lag.joinN (tellG ct (Srv.its (G 3)) v 13)) = Srv.masksOf G v
  rw [tellG_eq hc v]
  unfold withG Srv.masksOf Srv.secret
  rw [hn v v13]
  split
  · rfl
  · unfold mwG
    show (Srv.lst sn).map _ = (Srv.lst (Srv.mem (G 2))).map _
    rw [Srv.lst_ext hn]
    apply List.map_congr_left
    intro u hu
    rw [hb u (Srv.mem_lst.1 hu).1]
theorem unG_eq (G : Srv.Tab) (M : Nat) : unG ((List.range M).map fun i => Srv.msk G i % 4294967296) (Srv.masksL G) M = (List.range M).map (Srv.totP G) := by
  unfold unG
  apply List.map_congr_left
  intro i hi
  have hi' := List.mem_range.1 hi
  have e : ((List.range M).map fun i => Srv.msk G i % 4294967296).getD i 0 = Srv.msk G i % 4294967296 := by
    rw [List.getD_eq_getElem?_getD, List.getElem?_map, List.getElem?_range hi']; rfl
  rw [e]; rfl
theorem tell_ok {C : Srv.Cf} {G : Srv.Tab} (h : Srv.GoodT C G) (hn : 1 ≤ Srv.sizeR (G 3)) (v : Nat) : ptsB (Srv.tellPts G v) = true := by
  unfold ptsB
  have e : (Srv.tellPts G v).length = Srv.sizeR (G 3) := by unfold Srv.tellPts Srv.tellN; rw [List.length_map]; rfl
  have hx : Lag.xs (Srv.tellPts G v) = (Srv.lst (Srv.mem (G 3))).map fun w : Nat => (w : Int) := by
    unfold Lag.xs Srv.tellPts Srv.tellN; rw [List.map_map]; rfl
  have hm : ∀ u ∈ Srv.lst (Srv.mem (G 3)), 1 ≤ u ∧ u ≤ 12 := fun u hu => by
    have := h.mem (Srv.mem_lst.1 hu).2
    exact ⟨this.2.1, this.2.2.2.1⟩
  have hlen : Srv.sizeR (G 3) ≤ 12 := by
    unfold Srv.sizeR
    have hz := h.zero 3
    unfold Srv.lst Srv.lstN
    have e0 : List.range 13 = 0 :: (List.range 12).map Nat.succ := List.range_succ_eq_map
    rw [e0, List.filter_cons, hz]
    refine Nat.le_trans (List.length_filter_le _ _) ?_
    simp
  have a1 : decide (1 ≤ (Srv.tellPts G v).length ∧ (Srv.tellPts G v).length ≤ 12) = true := decide_eq_true (by rw [e]; exact ⟨hn, hlen⟩)
  have a2 : (Srv.tellPts G v).all okP = true := by
    rw [List.all_eq_true]
    intro p hp
    unfold Srv.tellPts Srv.tellN at hp
    obtain ⟨u, hu, rfl⟩ := List.mem_map.1 hp
    have := hm u hu
    have el := Srv.tell_el h u (v : Int)
    show (Num.clB (u : Int) && Num.elB _) = true
    rw [Num.clB_yes (by omega) (by omega), Num.elB_yes el.1 el.2]; rfl
  have a3 : decide (Lag.xs (Srv.tellPts G v)).Nodup = true := decide_eq_true (by
    rw [hx]
    unfold List.Nodup
    rw [List.pairwise_map]
    exact (Srv.lst_pair _).imp (fun {a b} h => by omega))
  rw [a1, a2, a3]; rfl
end Go.Proofs.YtchideljndagjabGreat
namespace Go.Proofs.YtchideljndagjabGreat
open Go.RowKit
set_option linter.unusedVariables false
theorem srvAt_tm {w w' : World} {b : Nat} {C : Srv.Cf} {s : Srv.Sv} {S : SS} (h : SrvAt w b C s S) (x : Int) (hw : SSAt w' b { S with tm := x }) (hs : w.heap.size ≤ w'.heap.size) (hb : ∀ y, y ≠ b → SFoot b S y → w'.heap[y]? = w.heap[y]?) : SrvAt w' b C { s with tm := x } { S with tm := x } where
  at_ := hw
  st := h.st
  ro := h.ro
  set := h.set.keep hs fun y hy => hb y (fun e => h.apart2.2.1 (e ▸ hy)) (.inr (.inr (.inr (.inl hy))))
  sum := h.sum.keep hs fun y hy => hb y (fun e => h.apart2.2.2 (e ▸ hy)) (.inr (.inr (.inr (.inr hy))))
  apart := h.apart
  apart2 := h.apart2
  zero := h.zero
  rdz := h.rdz
  cfg := h.cfg
  now := fun p => ⟨rfl, (h.now p).2⟩
  sn := h.sn
  ct := h.ct
  it := fun p v hv => (h.it p v hv).keep hs fun y hy => hb y (fun e => h.apart v hv (e ▸ hy)) (.inr (.inl ⟨v, hv, hy⟩))
  pb := h.pb
  sh := h.sh
  ml := fun p r => (h.ml p r).keep hs fun y hy => hb y (fun e => h.apart2.1 (e ▸ hy)) (.inr (.inr (.inl hy)))
theorem items_nil (w : World) : ItemsAt w (.slice none 0 0) [] := ⟨none, 0, rfl, Nat.le_refl _, Nat.zero_le _, fun x hx => (by cases hx), .inl rfl⟩
theorem list_nil (w : World) : ListAt w (.slice none 0 0) [] := ⟨none, 0, rfl, Nat.le_refl _, Nat.zero_le _, fun x hx => (by cases hx), .inl rfl⟩
theorem srvAt_over {w' : World} {b : Nat} (C : Srv.Cf) (tm : Int) (rd : Nat) (G : Srv.Tab) {st ro : Int} {va vb : Value} {ls us : List Int} (hw : SSAt w' b (overS st ro va vb)) (h1 : ListAt w' va ls) (h2 : ListAt w' vb us) (ha : va.ownBlock ≠ some b) (hb : vb.ownBlock ≠ some b) (hst : st ≠ 0) : SrvAt w' b C ⟨tm, rd, G, (st, ro, ls, us)⟩ (overS st ro va vb) where
  at_ := hw
  st := rfl
  ro := rfl
  set := h1
  sum := h2
  apart := fun v _ => by show (Value.slice none 0 0).ownBlock ≠ some b; intro e; cases e
  apart2 := ⟨(by show (Value.slice none 0 0).ownBlock ≠ some b; intro e; cases e), ha, hb⟩
  zero := fun p => absurd p hst
  rdz := fun _ => rfl
  cfg := fun p => absurd p hst
  now := fun p => absurd p hst
  sn := fun p => absurd p hst
  ct := fun p => absurd p hst
  it := fun p => absurd p hst
  pb := fun p => absurd p hst
  sh := fun p => absurd p hst
  ml := fun p => absurd p hst
theorem srvAt_next {w w' : World} {b : Nat} {C : Srv.Cf} {s : Srv.Sv} {S : SS} (h : SrvAt w b C s S) (hp : s.out.1 = 0) (hr : s.rd < 3) (hl : ∀ r, s.rd < r → s.G r = fun _ => none) (x : Int) {pb : Nat → Int} {sh : Nat → Bool} {ml : Value} (hw : SSAt w' b (nextS { S with tm := x } pb sh ml))
    (hpb : ∀ u, u < 13 → pb u = Srv.pub s.G u) (hsh : 1 ≤ s.rd → ∀ u, u < 13 → sh u = Srv.mem (s.G 1) u) (hml : s.rd = 2 → ListAt w' ml ((List.range C.M.toNat).map fun i => Srv.msk s.G i % 4294967296)) (hmb : ml.ownBlock ≠ some b) :
    SrvAt w' b C { s with tm := x, rd := s.rd + 1 } (nextS { S with tm := x } pb sh ml) where
  at_ := hw
  st := h.st
  ro := h.ro
  set := by
    have := h.zero hp
    show ListAt w' S.set s.out.2.2.1
    rw [this.2.1, this.1]; exact list_nil _
  sum := by
    have := h.zero hp
    show ListAt w' S.sum s.out.2.2.2
    rw [this.2.2, this.1]; exact list_nil _
  apart := fun v _ => by show (Value.slice none 0 0).ownBlock ≠ some b; intro e; cases e
  apart2 := ⟨hmb, h.apart2.2.1, h.apart2.2.2⟩
  zero := h.zero
  rdz := fun p => absurd hp p
  cfg := h.cfg
  now := fun p => ⟨rfl, by show S.rd + 1 = ((s.rd + 1 : Nat) : Int); rw [(h.now hp).2]; rfl⟩
  sn := fun _ v hv => by
    show S.ct v = if s.rd + 1 = 0 then _ else Srv.mem (s.G (s.rd + 1 - 1)) v
    rw [if_neg (by omega), Nat.add_sub_cancel]; exact h.ct hp v hv
  ct := fun _ v hv => by
    show false = Srv.mem (s.G (s.rd + 1)) v
    rw [hl (s.rd + 1) (by omega)]; rfl
  it := fun _ v hv => by
    show ItemsAt w' (.slice none 0 0) (Srv.its (s.G (s.rd + 1)) v)
    rw [hl (s.rd + 1) (by omega)]; exact items_nil _
  pb := fun _ _ v hv => hpb v hv
  sh := fun _ r v hv => hsh (by have : 2 ≤ s.rd + 1 := r; omega) v hv
  ml := fun _ r => hml (by have : s.rd + 1 = 3 := r; omega)
theorem STook.of_turn {w w' : World} {b : Nat} {C : Srv.Cf} {s' : Srv.Sv} {S S' : SS} (h : SrvAt w' b C s' S') (ht : Turn w w' b) (hb : b < w.heap.size) (hf : ∀ x, x ≠ b → SFoot b S' x → (SFoot b S x ∨ w.heap.size ≤ x) ∧ x < w'.heap.size) : STook w w' b C s' S S' :=
  ⟨⟨h, fun x hx => by
      by_cases e : x = b
      · subst e; exact h.at_.lt
      · exact (hf x e hx).2⟩, ht.chg, fun x hx => by
      by_cases e : x = b
      · exact .inl (.inl e)
      · exact (hf x e hx).1, ht.rest⟩
end Go.Proofs.YtchideljndagjabGreat
namespace Go.Proofs.YtchideljndagjabGreat
open Go.ChangeShapes Go.WideShapes Go.ChangeAt Go.RowKit
set_option linter.unusedVariables false
theorem tickK_none {C : Srv.Cf} {s : Srv.Sv} (h : (Srv.pend s && (Srv.due C s && (!Srv.few C s && decide (s.rd ≠ 3)))) = false) : tickK C s = [] := by
  unfold tickK Srv.tickP; rw [if_neg (by rw [h]; exact Bool.false_ne_true)]; rfl
theorem listAt_nats {w : World} {B : Nat} {v : Value} {f : Nat → Bool} (h : w.ownsRow B 3 1 v (Srv.lst f).length (natsV (Srv.lst f))) : ListAt w v ((Srv.lst f).map fun u : Nat => (u : Int)) := by
  have e : natsV (Srv.lst f) = ((Srv.lst f).map fun u : Nat => (u : Int)).map (Value.int .i64) := by unfold natsV; rw [List.map_map]; rfl
  rw [e] at h
  refine listAt_of_owns h (fun z hz => ?_)
  obtain ⟨u, hu, rfl⟩ := List.mem_map.1 hz
  have := (Srv.mem_lst.1 hu).1
  unfold inI; omega
def Ticked (w w' : World) (b : Nat) (C : Srv.Cf) (s : Srv.Sv) (S : SS) (v : Value) : Prop :=
  ∃ S' vs, STook w w' b C (Srv.tickS C s) S S' ∧ Packs w' w.heap.size v vs (tickK C s) ∧ ∀ x, PkFoot v vs x → ¬ SFoot b S' x
set_option maxHeartbeats 4000000 in
set_option maxRecDepth 100000 in
theorem sTick_calls (b : Nat) (C : Srv.Cf) (s : Srv.Sv) (S : SS) (w : World) (hc : Srv.GoodC C) (hw : SrvW w b C s S) (hs : s.out.1 = 0 → Srv.SOk C s) :
    Calls Tryz.prog 132 #[.pointer (some ⟨b, 0, none⟩)] w fun e w' => ∃ v, e = .returned v ∧ Ticked w w' b C s S v := by
  have hbl := hw.srv.at_.lt
  have HW := hideG hw
  have IP := hideG (isPending_calls b S w hw.srv.at_)
  rw [hw.srv.st] at IP
  by_cases hp : s.out.1 = 0
  rotate_left
  · have e0 : Srv.pend s = false := by unfold Srv.pend; exact decide_eq_false hp
    have e1 : Srv.tickS C s = s := by unfold Srv.tickS; rw [if_neg (by rw [e0]; exact Bool.false_ne_true)]
    have e2 : tickK C s = [] := tickK_none (by rw [e0]; rfl)
    rw [decide_eq_false hp] at IP
    have FIN := hideG (show Ticked w w b C s S (.slice none 0 0) from ⟨S, [], by rw [e1]; exact stook_same hw (Below.refl _ _), by rw [e2]; exact packs_nil _ _, fun x hx => by rcases hx with hx | ⟨y, hy, _⟩ <;> simp_all [Value.ownBlock]⟩)
    clear e0 e1 e2 hw hs hp
    go_enter Tryz.func132, Tryz.ntmps132
    go_wp2_with fail
    refine IP.out.mono ?_
    rintro e w1 ⟨rfl, rfl⟩
    go_wp2_with fail
    go_ret
    exact ⟨_, rfl, FIN.out⟩
  have hsk := hs hp
  have e0 : Srv.pend s = true := by unfold Srv.pend; exact decide_eq_true hp
  rw [decide_eq_true hp] at IP
  obtain ⟨k1, k2, k3, k4⟩ := hw.srv.cfg hp
  obtain ⟨k5, k6⟩ := hw.srv.now hp
  have tb := Srv.now_bd hc hsk.rd hsk.now
  have hd := hc.d
  have hr4 := hsk.rd
  obtain ⟨W1, hW1⟩ : ∃ W1, W1 = w.setCell ⟨b, 4, none⟩ (.int .i64 (s.tm + 1)) := ⟨_, rfl⟩
  have H1 := hideG (show SSAt W1 b { S with tm := s.tm + 1 } by rw [hW1]; exact hw.srv.at_.setTm _)
  have HT1 := hideG (show Turn w W1 b by rw [hW1]; exact Turn.cell w b 4 _ (by omega))
  have sz1 : W1.heap.size = w.heap.size := by rw [hW1]; simp
  have KP := hideG (show ∀ y, y ≠ b → SFoot b S y → W1.heap[y]? = w.heap[y]? from fun y hy hf => HT1.out.chg.block y (hw.low y hf) hy)
  have A1 := hideG (srvAt_tm hw.srv (s.tm + 1) H1.out (by omega) KP.out)
  have c4 : w.cell? ⟨b, 4, none⟩ = some (.int .i64 s.tm) := by rw [← k5]; exact hw.srv.at_.tm
  have f4 := hw.srv.at_.froz 4 (by omega)
  have d4 : W1.cell? ⟨b, 4, none⟩ = some (.int .i64 (s.tm + 1)) := H1.out.tm
  have d3 : W1.cell? ⟨b, 3, none⟩ = some (.int .i64 C.D) := by rw [← k4]; exact H1.out.d
  have d5 : W1.cell? ⟨b, 5, none⟩ = some (.int .i64 (s.rd : Int)) := by rw [← k6]; exact H1.out.rd
  have d1 : W1.cell? ⟨b, 1, none⟩ = some (.int .i64 C.T) := by rw [← k2]; exact H1.out.t
  have m1 : 0 ≤ C.D * ((s.rd : Int) + 1) := Int.mul_nonneg (by omega) (by omega)
  have m2 : C.D * ((s.rd : Int) + 1) ≤ 200 := by
    have : C.D * ((s.rd : Int) + 1) ≤ 50 * 4 := Int.mul_le_mul (by omega) (by omega) (by omega) (by omega)
    omega
  obtain ⟨tb1, tb2⟩ := tb
  have HW1 := hideG hW1
  clear hW1
  by_cases q1 : s.tm + 1 = C.D * ((s.rd : Int) + 1)
  rotate_left
  · have q1' : (s.tm + 1 != C.D * ((s.rd : Int) + 1)) = true := by simpa using q1
    have e3 : Srv.due C s = false := by unfold Srv.due; exact decide_eq_false q1
    have e1 : Srv.tickS C s = { s with tm := s.tm + 1 } := by unfold Srv.tickS; rw [if_pos e0, if_neg (by rw [e3]; exact Bool.false_ne_true)]
    have e2 : tickK C s = [] := tickK_none (by rw [e3, e0]; rfl)
    have FIN := hideG (fun m => (show Ticked w (W1.drewN m) b C s S (.slice none 0 0) from ⟨{ S with tm := s.tm + 1 }, [], by
      rw [e1]
      exact (STook.of_turn (S := S) A1.out HT1.out hbl (fun x _ hx => ⟨.inl hx, by rw [sz1]; exact HW.out.low x hx⟩)).then (below_drewN W1 m), by rw [e2]; exact packs_nil _ _, fun x hx => by rcases hx with hx | ⟨y, hy, _⟩ <;> simp_all [Value.ownBlock]⟩))
    clear e0 e1 e2 e3 hw hs hp q1 hsk k1 k2 k3 k4 k5 k6 hd sz1
    go_enter Tryz.func132, Tryz.ntmps132
    go_wp2_with fail
    refine IP.out.mono ?_
    rintro e w1 ⟨rfl, rfl⟩
    go_upto_region 4 with fail
    rw [← HW1.out]
    go_quiet (fail)
    go_wp2_with fail
    go_ret
    exact ⟨_, rfl, FIN.out _⟩
  have q1' : (s.tm + 1 != C.D * ((s.rd : Int) + 1)) = false := by simpa using q1
  have e3 : Srv.due C s = true := by unfold Srv.due; exact decide_eq_true q1
  have hg := hsk.good
  have hlate := hsk.late
  have CTE := hideG (show ∀ u, u < 13 → S.ct u = Srv.mem (s.G s.rd) u from hw.srv.ct hp)
  have hsize : (Srv.lst S.ct).length = Srv.sizeR (s.G s.rd) := by unfold Srv.sizeR; rw [Srv.lst_ext CTE.out]
  have H5 := hideG (fun (w5 : World) (hb : Below W1.heap.size W1 w5) => (show SSAt w5 b { S with tm := s.tm + 1 } ∧ (∀ v, v < 13 → ItemsAt w5 (S.it v) (Srv.its (s.G s.rd) v)) ∧ Turn w w5 b ∧ w.heap.size ≤ w5.heap.size from
    ⟨H1.out.below hb, fun v hv => (A1.out.it hp v hv).below hb, HT1.out.trans (Turn.grow hb H1.out.lt), by have := hb.size; omega⟩))
  have SZ := hideG (sizeOf_calls S.ct)
  rw [hsize] at SZ
  unfold memV at SZ
  have e00 := (H1.out.cct 0 (by omega))
  have n13 : Srv.sizeR (s.G s.rd) ≤ 13 := Srv.lstN_le _ 13
  have ht := hc.t
  have hnn := hc.n
  have hmm := hc.m
  have TS0 := hideG (show Srv.tickS C s = if Srv.few C s = true then { s with tm := s.tm + 1, out := (2, (s.rd : Int), [], []) } else if s.rd = 3 then { s with tm := s.tm + 1, out := (1, 0, Srv.setL s.G, Srv.sumL C s.G) } else { s with tm := s.tm + 1, rd := s.rd + 1 } by unfold Srv.tickS; rw [if_pos e0, if_pos e3])
  have NP := hideG (show ∀ x, PkFoot (.slice none 0 0) [] x → False from fun x hx => by rcases hx with hx | ⟨y, hy, _⟩ <;> simp_all [Value.ownBlock])
  have HIP := hideG hp
  have HSK := hideG hsk
  have HG := hideG hg
  have HLA := hideG hlate
  have HQ1 := hideG q1
  have HE0 := hideG e0
  have HE3 := hideG e3
  have SZ1 := hideG sz1
  have K1 := hideG k3
  have K6 := hideG k6
  clear hsk hg hlate q1 e0 e3 sz1 k1 k2 k3 k4 k5 k6 hs hw hp hsize hd
  obtain ⟨n, hn⟩ : ∃ n, n = Srv.sizeR (s.G s.rd) := ⟨_, rfl⟩
  rw [← hn] at SZ n13
  have HN := hideG hn
  clear hn
  go_enter Tryz.func132, Tryz.ntmps132
  go_wp2_with fail
  refine IP.out.mono ?_
  rintro e w1 ⟨rfl, hw1⟩
  rw [hw1]
  clear hw1 w1
  go_upto_region 4 with fail
  rw [← HW1.out]
  go_quiet (fail)
  go_upto_region 6 with fail
  obtain ⟨W2, hW2⟩ : ∃ W2, W2 = W1.drewN nq := ⟨_, rfl⟩
  rw [← hW2]
  have B2 := hideG (show Below W1.heap.size W1 W2 by rw [hW2]; exact below_drewN W1 nq)
  clear hW2 d1 d3 d4 d5 e00
  have h2 := (H5.out W2 B2.out).1
  have d1 : W2.cell? ⟨b, 1, none⟩ = some (.int .i64 C.T) := by
    have := h2.t
    rw [show ({ S with tm := s.tm + 1 } : SS).t = C.T from (HW.out.srv.cfg HIP.out).2.1] at this
    exact this
  have d5 : W2.cell? ⟨b, 5, none⟩ = some (.int .i64 (s.rd : Int)) := by
    have := h2.rd
    rw [show ({ S with tm := s.tm + 1 } : SS).rd = (s.rd : Int) from K6.out] at this
    exact this
  have e0 := h2.cct 0 (by omega)
  have e1 := h2.cct 1 (by omega)
  have e2 := h2.cct 2 (by omega)
  have e3 := h2.cct 3 (by omega)
  have e4 := h2.cct 4 (by omega)
  have e5 := h2.cct 5 (by omega)
  have e6 := h2.cct 6 (by omega)
  have e7 := h2.cct 7 (by omega)
  have e8 := h2.cct 8 (by omega)
  have e9 := h2.cct 9 (by omega)
  have e10 := h2.cct 10 (by omega)
  have e11 := h2.cct 11 (by omega)
  have e12 := h2.cct 12 (by omega)
  have hbW := h2.lt
  clear h2
  by_cases fw : (n : Int) < C.T
  · have FW := hideG (show Srv.few C s = true by unfold Srv.few; rw [← HN.out]; exact decide_eq_true fw)
    refine wp_region_grow (by kernel_rfl) (by kernel_rfl) ?_
    intro I GG hI hG hGc hGn
    repeat (go_big_quiet_step ((go_at_call 195; exact call_grow hG hGn (SZ.out _))))
    refine wpQuiet_nil ?_
    intro w5 hw'
    obtain ⟨i, hw''⟩ := hw'
    have hb5 := hG.out i
    rw [← hw''] at hb5
    have B5 := hideG (B2.out.trans (hb5.mono B2.out.size))
    clear hb5 hw'' hGc hGn hG i hI GG I e0 e1 e2 e3 e4 e5 e6 e7 e8 e9 e10 e11 e12 d1 d5
    obtain ⟨h5, _, t5, s5⟩ := H5.out w5 B5.out
    have ST := hideG (stop_calls b _ w5 h5)
    have FIN := hideG (show Ticked w (w5.setCells b 0 (ssCells (overS 2 S.rd (.slice none 0 0) (.slice none 0 0)))) b C s S (.slice none 0 0) by
      refine ⟨overS 2 S.rd (.slice none 0 0) (.slice none 0 0), [], ?_, ?_, fun x hx => absurd hx (NP.out x)⟩
      · rw [TS0.out, if_pos FW.out]
        have hat := srvAt_over C (s.tm + 1) s.rd s.G (h5.setAll (overS 2 S.rd (.slice none 0 0) (.slice none 0 0))) (list_nil _) (list_nil _) (by intro e; cases e) (by intro e; cases e) (by decide)
        rw [K6.out] at hat ⊢
        refine STook.of_turn hat (t5.trans (Turn.cells w5 b 0 _ (by rw [ssCells_length]; omega))) hbl (fun x hx hf => ?_)
        rcases hf with hf | ⟨v, _, hf⟩ | hf | hf | hf
        · exact absurd hf hx
        all_goals (exfalso; cases hf)
      · have : tickK C s = [] := tickK_none (by rw [FW.out]; simp)
        rw [this]; exact packs_nil _ _)
    clear h5 t5
    go_wp2_with fail
    refine ST.out.mono ?_
    rintro e w6 ⟨rfl, rfl⟩
    go_wp2_with fail
    go_ret
    exact ⟨_, rfl, FIN.out⟩
  · have FW := hideG (show Srv.few C s = false by unfold Srv.few; rw [← HN.out]; exact decide_eq_false fw)
    refine wp_region_grow (by kernel_rfl) (by kernel_rfl) ?_
    intro I GG hI hG hGc hGn
    repeat (go_big_quiet_step ((go_at_call 195; exact call_grow hG hGn (SZ.out _))))
    refine wpQuiet_nil ?_
    intro w5 hw'
    obtain ⟨i, hw''⟩ := hw'
    have hb5 := hG.out i
    rw [← hw''] at hb5
    have B5 := hideG (B2.out.trans (hb5.mono B2.out.size))
    have d6 := (hb5.cell (p := ⟨b, 5, none⟩) hbW).trans d5
    clear hb5 hw'' hGc hGn hG i hI GG I e0 e1 e2 e3 e4 e5 e6 e7 e8 e9 e10 e11 e12 d1 d5
    obtain ⟨h5, i5, t5, s5⟩ := H5.out w5 B5.out
    have I5 := hideG i5
    have T5 := hideG t5
    have H6 := hideG h5
    have npos : 1 ≤ Srv.sizeR (s.G s.rd) := by rw [← HN.out]; omega
    have NPOS := hideG npos
    clear h5 i5 t5 npos
    by_cases r3 : s.rd = 3
    · have r3' : ((s.rd : Int) == 3) = true := by simp; omega
      have E3 := hideG r3
      have e1 : ∀ u, u < 13 → S.ct u = Srv.mem (s.G 3) u := fun u hu => by rw [← r3]; exact CTE.out u hu
      have e2 : ∀ u, u < 13 → S.sn u = Srv.mem (s.G 2) u := fun u hu => by
        have := HW.out.srv.sn HIP.out u hu
        rwa [r3, if_neg (by decide)] at this
      have e3 : ∀ u, u < 13 → S.sh u = Srv.mem (s.G 1) u := HW.out.srv.sh HIP.out (by omega)
      have e4 : ∀ u, u < 13 → S.pb u = Srv.pub s.G u := HW.out.srv.pb HIP.out (by omega)
      have np3 : 1 ≤ Srv.sizeR (s.G 3) := by have := NPOS.out; rwa [r3] at this
      have hne : Srv.lst S.sn ≠ [] := by
        rw [Srv.lst_ext e2]
        intro e
        have hx : 0 < (Srv.lst (Srv.mem (s.G 3))).length := np3
        obtain ⟨u, hu⟩ := List.exists_mem_of_length_pos hx
        obtain ⟨hu1, hu2⟩ := Srv.mem_lst.1 hu
        have := Srv.mem_lst.2 ⟨hu1, HG.out.up 2 u hu2⟩
        rw [e] at this; cases this
      have hml : ListAt w5 S.ml ((List.range C.M.toNat).map fun i => Srv.msk s.G i % 4294967296) := (A1.out.ml HIP.out r3).below B5.out
      have i5 : ∀ v, v < 13 → ItemsAt w5 (S.it v) (Srv.its (s.G 3) v) := fun v hv => by rw [← r3]; exact I5.out v hv
      have FF := hideG (finish_calls b { S with tm := s.tm + 1 } (Srv.its (s.G 3)) ((List.range C.M.toNat).map fun i => Srv.msk s.G i % 4294967296) w5 H6.out i5 (fun v hv _ => by
          show ptsB (tellG S.ct (Srv.its (s.G 3)) v 13) = true
          rw [tellG_eq e1 v]; exact tell_ok HG.out np3 v) hne (fun u hu => by
          show 0 ≤ S.pb u ∧ S.pb u < _
          rw [e4 u hu]; exact Srv.pub_el HG.out u) hml (fun z hz => by
          obtain ⟨i, _, rfl⟩ := List.mem_map.1 hz
          omega) (by rw [List.length_map, List.length_range]; omega))
      have AE := hideG (show unG ((List.range C.M.toNat).map fun i => Srv.msk s.G i % 4294967296) (allG S.sn S.sh S.pb (fun v => Lag.joinN (tellG S.ct (Srv.its (s.G 3)) v 13)) 13) ((List.range C.M.toNat).map fun i => Srv.msk s.G i % 4294967296).length = Srv.sumL C s.G by
        rw [allG_eq e1 e2 e3 e4, List.length_map, List.length_range, unG_eq]; rfl)
      have LE := hideG (show Srv.lst S.sn = Srv.lst (Srv.mem (s.G 2)) from Srv.lst_ext e2)
      have FF2 := hideG (show Calls Tryz.prog 197 #[.pointer (some ⟨b, 0, none⟩)] w5 fun e w' => e = .returned (.tuple #[]) ∧ Ticked w w' b C s S (.slice none 0 0) by
        refine FF.out.mono ?_
        rintro e w6 ⟨rfl, va, vb, hva, hvb, h6, t6⟩
        refine ⟨rfl, overS 1 0 va vb, [], ?_, ?_, fun x hx => absurd hx (NP.out x)⟩
        · rw [TS0.out, if_neg (by rw [FW.out]; exact Bool.false_ne_true), if_pos E3.out]
          have hva' : w6.ownsRow w5.heap.size 3 1 va (Srv.lst (Srv.mem (s.G 2))).length (natsV (Srv.lst (Srv.mem (s.G 2)))) := by rw [← LE.out]; exact hva
          have hvb' := hvb
          rw [show (unG ((List.range C.M.toNat).map fun i => Srv.msk s.G i % 4294967296) (allG ({ S with tm := s.tm + 1 } : SS).sn ({ S with tm := s.tm + 1 } : SS).sh ({ S with tm := s.tm + 1 } : SS).pb (fun v => Lag.joinN (tellG ({ S with tm := s.tm + 1 } : SS).ct (Srv.its (s.G 3)) v 13)) 13) ((List.range C.M.toNat).map fun i => Srv.msk s.G i % 4294967296).length) = Srv.sumL C s.G from AE.out] at hvb'
          have hb1 : ∀ x, va.ownBlock = some x → w5.heap.size ≤ x ∧ x < w6.heap.size := fun x hx => hva.lt x hx
          have hb2 : ∀ x, vb.ownBlock = some x → w5.heap.size ≤ x ∧ x < w6.heap.size := fun x hx => hvb.lt x hx
          have h5l := H6.out.lt
          have hat := srvAt_over C (s.tm + 1) s.rd s.G h6 (listAt_nats hva') (listAt_of_owns hvb' (fun z hz => by
            unfold Srv.sumL at hz
            obtain ⟨i, _, rfl⟩ := List.mem_map.1 hz
            unfold Srv.totP inI
            omega)) (fun e => by have := hb1 b e; omega) (fun e => by have := hb2 b e; omega) (by decide)
          refine STook.of_turn hat (T5.out.trans t6) hbl (fun x hx hf => ?_)
          rcases hf with hf | ⟨v, _, hf⟩ | hf | hf | hf
          · exact absurd hf hx
          · cases hf
          · cases hf
          · have := hb1 x hf; exact ⟨.inr (by omega), this.2⟩
          · have := hb2 x hf; exact ⟨.inr (by omega), this.2⟩
        · have : tickK C s = [] := tickK_none (by rw [E3.out]; simp)
          rw [this]; exact packs_nil _ _)
      clear FF hml i5 hne e1 e2 e3 e4 np3
      go_wp2_with fail
      refine FF2.out.mono ?_
      rintro e w6 ⟨rfl, hfin⟩
      have FIN := hideG hfin
      clear hfin
      go_wp2_with fail
      go_ret
      exact ⟨_, rfl, FIN.out⟩
    · have r3' : ((s.rd : Int) == 3) = false := by simp; omega
      have R3 := hideG (show s.rd < 3 by omega)
      have E3 := hideG r3
      clear r3
      have PK := hideG (show tickK C s = pksG S.ct (Srv.its (s.G s.rd)) s.rd 13 by
        rw [pksG_eq CTE.out R3.out]
        unfold tickK Srv.tickP
        rw [if_pos (by rw [HE0.out, HE3.out, FW.out, decide_eq_true E3.out]; rfl)])
      have PC := hideG (parcels_calls b { S with tm := s.tm + 1 } (Srv.its (s.G s.rd)) s.rd w5 H6.out I5.out K6.out R3.out (fun u hu _ => by
        show Frm.okF (2 * (s.rd : Int) + 2) 0 (frG S.ct (Srv.its (s.G s.rd)) s.rd u) = true
        rw [frG_eq CTE.out R3.out u]; exact Srv.sends_ok HG.out s.rd u R3.out NPOS.out))
      rw [show (pksG ({ S with tm := s.tm + 1 } : SS).ct (Srv.its (s.G s.rd)) s.rd 13) = tickK C s from PK.out.symm] at PC
      have BN := hideG (fun (w6 : World) (h6 : SSAt w6 b { S with tm := s.tm + 1 }) (i6 : ∀ v, v < 13 → ItemsAt w6 (S.it v) (Srv.its (s.G s.rd) v)) => (show Calls Tryz.prog 199 #[.pointer (some ⟨b, 0, none⟩)] w6 fun e w7 => e = .returned (.tuple #[]) ∧ ∃ S', SrvAt w7 b C { s with tm := s.tm + 1, rd := s.rd + 1 } S' ∧ Turn w6 w7 b ∧ ∀ x, x ≠ b → SFoot b S' x → SFoot b S x ∨ (w6.heap.size ≤ x ∧ x < w7.heap.size) by
        have hd : s.rd = 0 ∨ s.rd = 1 ∨ s.rd = 2 := by have := R3.out; omega
        have old : ∀ (ml : Value) (pb : Nat → Int) (sh : Nat → Bool) (x : Nat), x ≠ b → SFoot b (nextS { S with tm := s.tm + 1 } pb sh ml) x → SFoot b S x ∨ ml.ownBlock = some x := by
          intro ml pb sh x hx hf
          rcases hf with hf | ⟨v, _, hf⟩ | hf | hf | hf
          · exact absurd hf hx
          · cases hf
          · exact .inr hf
          · exact .inl (.inr (.inr (.inr (.inl hf))))
          · exact .inl (.inr (.inr (.inr (.inr hf))))
        rcases hd with r | r | r
        · refine (beginNext_zero b { S with tm := s.tm + 1 } (Srv.its (s.G s.rd)) w6 h6 i6 (K6.out.trans (by rw [r]; rfl))).mono ?_
          rintro e w7 ⟨rfl, h7, t7⟩
          refine ⟨rfl, _, srvAt_next HW.out.srv HIP.out R3.out HLA.out (s.tm + 1) h7 (fun u _ => by rw [r]; rfl) (fun q => by omega) (fun q => by omega) HW.out.srv.apart2.1, t7, fun x hx hf => ?_⟩
          rcases old _ _ _ x hx hf with q | q
          · exact .inl q
          · exact .inl (.inr (.inr (.inl q)))
        · refine (beginNext_one b { S with tm := s.tm + 1 } w6 h6 (K6.out.trans (by rw [r]; rfl))).mono ?_
          rintro e w7 ⟨rfl, h7, t7⟩
          refine ⟨rfl, _, srvAt_next HW.out.srv HIP.out R3.out HLA.out (s.tm + 1) h7 (HW.out.srv.pb HIP.out (by omega)) (fun _ u hu => by have := CTE.out u hu; rwa [r] at this) (fun q => by omega) HW.out.srv.apart2.1, t7, fun x hx hf => ?_⟩
          rcases old _ _ _ x hx hf with q | q
          · exact .inl q
          · exact .inl (.inr (.inr (.inl q)))
        · have hm : ({ S with tm := s.tm + 1 } : SS).m = ((C.M.toNat : Nat) : Int) := by show S.m = _; rw [K1.out]; omega
          refine (beginNext_two b { S with tm := s.tm + 1 } (Srv.its (s.G s.rd)) C.M.toNat w6 h6 i6 hm (by omega) (fun v x => by rw [r]; exact Srv.item_word HG.out v x) (K6.out.trans (by rw [r]; rfl))).mono ?_
          rintro e w7 ⟨rfl, va, hva, h7, t7⟩
          have h6l := h6.lt
          refine ⟨rfl, _, srvAt_next HW.out.srv HIP.out R3.out HLA.out (s.tm + 1) h7 (HW.out.srv.pb HIP.out (by omega)) (fun _ => HW.out.srv.sh HIP.out (by omega)) (fun _ => ?_) (fun q => by have := (hva.lt b q).1; omega), t7, fun x hx hf => ?_⟩
          · rw [r] at hva
            refine listAt_of_owns (zs := (List.range C.M.toNat).map fun i => Srv.msk s.G i % 4294967296) hva (fun z hz => ?_)
            obtain ⟨i, _, rfl⟩ := List.mem_map.1 hz
            unfold inI; omega
          · rcases old _ _ _ x hx hf with q | q
            · exact .inl q
            · exact .inr (hva.lt x q)))
      go_wp2_with fail
      refine PC.out.mono ?_
      rintro e w6 ⟨v, vs, rfl, hpk, hb6⟩
      obtain ⟨a7, c7, hv7⟩ := owns_form hpk.row
      have B6 := hideG hb6
      have P6 := hideG hpk
      have BN6 := hideG (BN.out w6 (H6.out.below hb6) (fun v hv => (I5.out v hv).below hb6))
      have T6 := hideG (T5.out.trans (Turn.grow hb6 H6.out.lt))
      have s6 := hb6.size
      have HV7 := hideG hv7
      clear hpk hb6
      rw [hv7]
      clear hv7
      go_wp2_with fail
      refine BN6.out.mono ?_
      rintro e w7 ⟨rfl, S', hat, t7, hft⟩
      have FIN := hideG (show Ticked w w7 b C s S v by
        refine ⟨S', vs, ?_, ?_, ?_⟩
        · rw [TS0.out, if_neg (by rw [FW.out]; exact Bool.false_ne_true), if_neg E3.out]
          refine STook.of_turn hat (T6.out.trans t7) hbl (fun x hx hf => ?_)
          rcases hft x hx hf with q | q
          · exact ⟨.inl q, Nat.lt_of_lt_of_le (HW.out.low x q) (Nat.le_trans (by omega) t7.chg.size)⟩
          · exact ⟨.inr (by omega), q.2⟩
        · have := P6.out.chg t7.chg (fun x hx e => by have := (P6.out.low x hx).1; have := H6.out.lt; omega)
          exact this.base s5
        · intro x hx hf
          have hl := P6.out.low x hx
          by_cases e : x = b
          · have := H6.out.lt; omega
          · rcases hft x e hf with q | q
            · have := HW.out.low x q; omega
            · omega)
      clear hat t7 hft
      go_wp2_with fail
      go_ret
      refine ⟨_, rfl, ?_⟩
      rw [← HV7.out]
      exact FIN.out
end Go.Proofs.YtchideljndagjabGreat
namespace Go.Proofs.YtchideljndagjabGreat
open Go.ChangeShapes Go.WideShapes Go.ChangeAt Go.RowKit
set_option linter.unusedVariables false
def zeroSS : SS := overS 0 0 (.slice none 0 0) (.slice none 0 0)
def freshSS (N T M D : Int) (f : Nat → Bool) : SS := { zeroSS with n := N, t := T, m := M, d := D, sn := f }
theorem zero_ss : Tryz.zeroCells106 = (ssCells zeroSS).toArray := by kernel_rfl
theorem zero_ssl : Tryz.zeroCells106.toList = ssCells zeroSS := by rw [zero_ss]
def SSBl (w : World) (b : Nat) (T : TypeId) (s : SS) : Prop := w.heap[b]? = some (.cells (ssCells s).toArray T (0, 0))
theorem SSBl.at_ {w : World} {b : Nat} {T : TypeId} {s : SS} (h : SSBl w b T s) : SSAt w b s := fun j v e => by
  rw [Nat.zero_add]
  refine ⟨?_, frozen_of_row w b j _ T h⟩
  rw [cell_of_row w b j _ T (0, 0) h]
  simpa using e
theorem SSBl.setAll {w : World} {b : Nat} {T : TypeId} {s : SS} (h : SSBl w b T s) (s' : SS) : SSBl (w.setCells b 0 (ssCells s')) b T s' := by
  have := heap_setCells b T (ssCells s') [] (ssCells s) [] w rfl (by rw [List.append_nil]; exact h)
  rw [List.append_nil] at this
  exact this
theorem SSBl.lt {w : World} {b : Nat} {T : TypeId} {s : SS} (h : SSBl w b T s) : b < w.heap.size := h.at_.lt
theorem SSBl.block {w w' : World} {b : Nat} {T : TypeId} {s : SS} (h : SSBl w b T s) (e : w'.heap[b]? = w.heap[b]?) : SSBl w' b T s := e.trans h
theorem fresh_one (N T M D : Int) (f : Nat → Bool) : ∀ v ∈ ssCells (freshSS N T M D f), v.oneCell' = true := ssCells_one _ (fun _ _ => rfl) rfl rfl rfl
def snewW (Z : Array Value) (w : World) (N T M D : Int) : World := (w.alloc (.cells #[.int .i64 N, .int .i64 T, .int .i64 M, .int .i64 D] 26)).alloc (.cells Z 106)
theorem snew_facts (w : World) (N T M D : Int) : Below w.heap.size w (snewW Tryz.zeroCells106 w N T M D) ∧ (snewW Tryz.zeroCells106 w N T M D).heap.size = w.heap.size + 2 ∧ SSBl (snewW Tryz.zeroCells106 w N T M D) (w.heap.size + 1) 106 zeroSS := by
  refine ⟨((Below.refl _ _).alloc (Nat.le_refl _) _).alloc (by simp) _, by simp [snewW], ?_⟩
  unfold SSBl snewW
  rw [← zero_ss]
  exact heap_alloc2_new w _ _
theorem snew_cells (w : World) (N T M D : Int) {W : World} (hb : Below (snewW Tryz.zeroCells106 w N T M D).heap.size (snewW Tryz.zeroCells106 w N T M D) W) :
    W.cell? ⟨w.heap.size, 0, none⟩ = some (.int .i64 N) ∧ W.cell? ⟨w.heap.size, 1, none⟩ = some (.int .i64 T) ∧ W.cell? ⟨w.heap.size, 2, none⟩ = some (.int .i64 M) ∧ W.cell? ⟨w.heap.size, 3, none⟩ = some (.int .i64 D) := by
  have hs := (snew_facts w N T M D).2.1
  have hr : W.heap[w.heap.size]? = some (.cells #[.int .i64 N, .int .i64 T, .int .i64 M, .int .i64 D] 26 (0, 0)) := (hb.block _ (by omega)).trans (heap_alloc2_old w _ _)
  refine ⟨?_, ?_, ?_, ?_⟩
  · rw [cell_of_row W w.heap.size 0 _ _ (0, 0) hr]; rfl
  · rw [cell_of_row W w.heap.size 1 _ _ (0, 0) hr]; rfl
  · rw [cell_of_row W w.heap.size 2 _ _ (0, 0) hr]; rfl
  · rw [cell_of_row W w.heap.size 3 _ _ (0, 0) hr]; rfl
theorem snew_store (w : World) (N T M D : Int) (s : SS) (h1 : ∀ v ∈ ssCells s, v.oneCell' = true) {W : World} (hb : Below (snewW Tryz.zeroCells106 w N T M D).heap.size (snewW Tryz.zeroCells106 w N T M D) W) :
    ∃ X, (storeCells ⟨w.heap.size + 1, 0, none⟩ (ssCells s)).run Tryz.prog W = .ok () X ∧ X.heap[w.heap.size + 1]? = some (.cells (ssCells s).toArray 106 (0, 0)) ∧ Below w.heap.size w X := by
  obtain ⟨f1, f2, f3⟩ := snew_facts w N T M D
  have hp := f3.block (hb.block _ (by omega))
  refine ⟨_, stcl Tryz.prog (w.heap.size + 1) 0 (ssCells s) W ?_ h1, hp.setAll s, below_setCells (by omega) _ _ _ (f1.trans (hb.mono (by omega)))⟩
  exact hp.at_.there 0 76 (by omega)
set_option maxHeartbeats 2000000 in
set_option maxRecDepth 100000 in
theorem sNew_no (N T M D : Int) (w : World) (h : Cli.cfgB N T M D = false) :
    Calls Tryz.prog 125 #[.agg #[.int .i64 N, .int .i64 T, .int .i64 M, .int .i64 D]] w fun e w' => e = .returned (.tuple #[.agg (ssCells zeroSS).toArray, .int .i64 5]) ∧ Below w.heap.size w w' := by
  have HCF := hideG (fun (W : World) => config_calls N T M D W)
  rw [h] at HCF
  have HWF := hideG (snew_facts w N T M D)
  have HCE := hideG (fun W hb => snew_cells w N T M D (W := W) hb)
  have HST := hideG (fun W hb => snew_store w N T M D zeroSS (ssCells_one _ (fun _ _ => rfl) rfl rfl rfl) (W := W) hb)
  rw [← zero_ssl] at HST
  have HSZ := hideG (show (Tryz.prog.info? 106).map (·.size) = some (ssCells zeroSS).toArray.size from size_srv)
  have HD := hideG (show snewW Tryz.zeroCells106 w N T M D = (w.alloc (.cells #[.int .i64 N, .int .i64 T, .int .i64 M, .int .i64 D] 26)).alloc (.cells Tryz.zeroCells106 106) from rfl)
  obtain ⟨W0, hW0⟩ : ∃ W0, W0 = snewW Tryz.zeroCells106 w N T M D := ⟨_, rfl⟩
  rw [← hW0] at HWF HCE HST HD
  clear hW0
  rw [← zero_ss] at HSZ ⊢
  obtain ⟨CZ, hCZ⟩ : ∃ CZ, CZ = Tryz.zeroCells106 := ⟨_, rfl⟩
  have HCZ := hideG hCZ
  clear hCZ
  obtain ⟨x0, x1, x2, x3⟩ := HCE.out W0 (Below.refl _ _)
  go_enter Tryz.func125, Tryz.ntmps125
  go_upto_region 1 with fail
  rw [← HD.out]
  go_wp2_with fail
  refine (HCF.out W0).mono ?_
  rintro e w1 ⟨rfl, hb1⟩
  obtain ⟨X, hst, hrow, hbx⟩ := HST.out w1 hb1
  have HROW := hideG hrow
  have HBX := hideG hbx
  clear hb1 hrow hbx
  go_wp2_with fail
  refine bodyPost_ret (results_row_tmp rfl _ _ (w.heap.size + 1) 106 Tryz.zeroCells106 (0, 0) _ rfl HROW.out Tryz.underlying106 rfl HSZ.out) rfl ?_
  exact ⟨rfl, HBX.out⟩
theorem fresh_chain (N T M D : Int) (f : Nat → Bool) : (((((((((((((((((Tryz.zeroCells106.toList.set 0 (.int .i64 N)).set 1 (.int .i64 T)).set 2 (.int .i64 M)).set 3 (.int .i64 D)).set 6 (.bool (f 0))).set 7 (.bool (f 1))).set 8 (.bool (f 2))).set 9 (.bool (f 3))).set 10 (.bool (f 4))).set 11 (.bool (f 5))).set 12 (.bool (f 6))).set 13 (.bool (f 7))).set 14 (.bool (f 8))).set 15 (.bool (f 9))).set 16 (.bool (f 10))).set 17 (.bool (f 11))).set 18 (.bool (f 12))) = ssCells (freshSS N T M D f) := by rw [zero_ssl]; rfl
set_option maxHeartbeats 2000000 in
set_option maxRecDepth 100000 in
theorem sNew_ok (N T M D : Int) (w : World) (h : Cli.cfgB N T M D = true) :
    Calls Tryz.prog 125 #[.agg #[.int .i64 N, .int .i64 T, .int .i64 M, .int .i64 D]] w fun e w' => e = .returned (.tuple #[.agg (ssCells (freshSS N T M D fun u : Nat => decide (1 ≤ u ∧ (u : Int) ≤ N))).toArray, .int .i64 0]) ∧ Below w.heap.size w w' := by
  have HCF := hideG (fun (W : World) => config_calls N T M D W)
  rw [h] at HCF
  obtain ⟨f, hf⟩ : ∃ f : Nat → Bool, f = fun u : Nat => decide (1 ≤ u ∧ (u : Int) ≤ N) := ⟨_, rfl⟩
  have HFM := hideG (fun (W : World) => (show Calls Tryz.prog 190 #[.int .i64 N] W fun e w' => e = .returned (.agg #[.bool (f 0), .bool (f 1), .bool (f 2), .bool (f 3), .bool (f 4), .bool (f 5), .bool (f 6), .bool (f 7), .bool (f 8), .bool (f 9), .bool (f 10), .bool (f 11), .bool (f 12)]) ∧ Below W.heap.size W w' by rw [hf]; exact firstMembers_calls N W))
  rw [← hf]
  clear hf
  have HWF := hideG (snew_facts w N T M D)
  have HCE := hideG (fun W hb => snew_cells w N T M D (W := W) hb)
  have HST := hideG (fun W hb => snew_store w N T M D (freshSS N T M D f) (fresh_one N T M D f) (W := W) hb)
  rw [← fresh_chain] at HST
  have HSZ := hideG (show (Tryz.prog.info? 106).map (·.size) = some (ssCells (freshSS N T M D f)).toArray.size from size_srv)
  have HD := hideG (show snewW Tryz.zeroCells106 w N T M D = (w.alloc (.cells #[.int .i64 N, .int .i64 T, .int .i64 M, .int .i64 D] 26)).alloc (.cells Tryz.zeroCells106 106) from rfl)
  obtain ⟨W0, hW0⟩ : ∃ W0, W0 = snewW Tryz.zeroCells106 w N T M D := ⟨_, rfl⟩
  rw [← hW0] at HWF HCE HST HD
  clear hW0
  have HCALL := hideG (fun (W : World) (hb : Below W0.heap.size W0 W) => (show Calls Tryz.prog 190 #[.int .i64 N] W fun e w3 => e = .returned (.agg #[.bool (f 0), .bool (f 1), .bool (f 2), .bool (f 3), .bool (f 4), .bool (f 5), .bool (f 6), .bool (f 7), .bool (f 8), .bool (f 9), .bool (f 10), .bool (f 11), .bool (f 12)]) ∧
      (w3.cell? ⟨w.heap.size, 0, none⟩ = some (.int .i64 N) ∧ w3.cell? ⟨w.heap.size, 1, none⟩ = some (.int .i64 T) ∧ w3.cell? ⟨w.heap.size, 2, none⟩ = some (.int .i64 M) ∧ w3.cell? ⟨w.heap.size, 3, none⟩ = some (.int .i64 D)) ∧
      ∃ X, (storeCells ⟨w.heap.size + 1, 0, none⟩ (((((((((((((((((Tryz.zeroCells106.toList.set 0 (.int .i64 N)).set 1 (.int .i64 T)).set 2 (.int .i64 M)).set 3 (.int .i64 D)).set 6 (.bool (f 0))).set 7 (.bool (f 1))).set 8 (.bool (f 2))).set 9 (.bool (f 3))).set 10 (.bool (f 4))).set 11 (.bool (f 5))).set 12 (.bool (f 6))).set 13 (.bool (f 7))).set 14 (.bool (f 8))).set 15 (.bool (f 9))).set 16 (.bool (f 10))).set 17 (.bool (f 11))).set 18 (.bool (f 12)))).run Tryz.prog w3 = .ok () X ∧ Hid (X.heap[w.heap.size + 1]? = some (.cells (ssCells (freshSS N T M D f)).toArray 106 (0, 0)) ∧ Below w.heap.size w X) from
    (HFM.out W).mono fun e w3 ⟨he, hb3⟩ => by
      have hb' := hb.trans (hb3.mono hb.size)
      obtain ⟨X, q1, q2, q3⟩ := HST.out w3 hb'
      refine ⟨he, HCE.out w3 hb', X, q1, ?_, q3⟩
      rw [← fresh_chain]; exact q2))
  clear HST HFM
  obtain ⟨x0, x1, x2, x3⟩ := HCE.out W0 (Below.refl _ _)
  go_enter Tryz.func125, Tryz.ntmps125
  go_upto_region 1 with fail
  rw [← HD.out]
  go_wp2_with fail
  refine (HCF.out W0).mono ?_
  rintro e w1 ⟨rfl, hb1⟩
  clear x0 x1 x2 x3
  obtain ⟨x0, x1, x2, x3⟩ := HCE.out w1 hb1
  have HB1 := hideG hb1
  clear hb1
  go_upto_region 3 with fail
  go_region_with (go_at_call 190; refine (HCALL.out _ (HB1.out.drew)).mono ?_; rintro e w3 ⟨rfl, ⟨y0, y1, y2, y3⟩, X, hst, HFIN⟩)
  all_goals (go_wp2_with fail)
  all_goals (refine bodyPost_ret (results_row_tmp rfl _ _ (w.heap.size + 1) 106 (ssCells (freshSS N T M D f)).toArray (0, 0) _ rfl HFIN.out.1 Tryz.underlying106 rfl HSZ.out) rfl ?_)
  all_goals (exact ⟨rfl, HFIN.out.2⟩)
end Go.Proofs.YtchideljndagjabGreat
