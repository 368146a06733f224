/- Frames, plainly: what is one, its bytes, and what is read of bytes. -/
import Derived.Test.YtgfkgekaodibhaaGreatNum
namespace Go.Proofs.YtgfkgekaodibhaaGreat.Frm
set_option linter.unusedVariables false

/-- An item: Id, A, B, C. -/
abbrev It := Int × Int × Int × Int
abbrev It.id (x : It) : Int := x.1
def it (l : List It) (i : Nat) : It := l.getD i (0, 0, 0, 0)

/-- Is it a public key, a number of a list? -/
def keyB (a : Int) : Bool := decide (1 ≤ a ∧ a < 2305843009213693951)
def wdB (a : Int) : Bool := decide (0 ≤ a ∧ a < 4294967296)
theorem keyB_iff {a : Int} : keyB a = true ↔ 1 ≤ a ∧ a < 2305843009213693951 := by simp [keyB]
theorem wdB_iff {a : Int} : wdB a = true ↔ 0 ≤ a ∧ a < 4294967296 := by simp [wdB]

def zB (a : Int) : Bool := decide (a = 0)
theorem zB_iff {a : Int} : zB a = true ↔ a = 0 := by simp [zB]
def tB (a : Int) : Bool := decide (a = 1 ∨ a = 2)
theorem tB_iff {a : Int} : tB a = true ↔ a = 1 ∨ a = 2 := by simp [tB]

/-- All places below n. -/
def allB (n : Nat) (p : Nat → Bool) : Bool := (List.range n).all p
theorem allB_no {n : Nat} {p : Nat → Bool} (k : Nat) (hk : k < n) (h : p k = false) : allB n p = false := by
  unfold allB; rw [List.all_eq_false]; exact ⟨k, List.mem_range.2 hk, by rw [h]; exact Bool.false_ne_true⟩
theorem allB_yes {n : Nat} {p : Nat → Bool} (h : ∀ k, k < n → p k = true) : allB n p = true := by
  unfold allB; rw [List.all_eq_true]; exact fun k hk => h k (List.mem_range.1 hk)
theorem allB_iff {n : Nat} {p : Nat → Bool} : allB n p = true ↔ ∀ k, k < n → p k = true := by
  unfold allB; rw [List.all_eq_true]; exact ⟨fun h k hk => h k (List.mem_range.2 hk), fun h k hk => h k (List.mem_range.1 hk)⟩
theorem allB_off {n : Nat} {p : Nat → Bool} : allB n p = false ↔ ∃ k, k < n ∧ p k = false := by
  unfold allB; rw [List.all_eq_false]; exact ⟨fun ⟨k, h1, h2⟩ => ⟨k, List.mem_range.1 h1, by simpa using h2⟩, fun ⟨k, h1, h2⟩ => ⟨k, List.mem_range.2 h1, by simp [h2]⟩⟩

def fromB (k fr : Int) : Bool := if k = 1 ∨ k = 3 ∨ k = 5 ∨ k = 7 then Num.clB fr else if k = 2 ∨ k = 4 ∨ k = 6 then zB fr else false
def riseAt (l : List It) (i : Nat) : Bool := Num.clB (it l i).1 && (decide (i = 0) || decide ((it l (i - 1)).1 < (it l i).1))
def riseB (l : List It) : Bool := allB l.length (riseAt l)
def noneB (l : List It) (u : Int) : Bool := allB l.length fun i => decide ((it l i).1 ≠ u)
def countB (l : List It) : Bool := allB l.length fun i => decide ((it l i).1 = (i : Int) + 1)
def idsB (k fr : Int) (l : List It) : Bool :=
  if k = 1 then decide (l.length = 1) && !noneB l fr else if k = 2 ∨ k = 6 ∨ k = 7 then decide (1 ≤ l.length) else if k = 3 then noneB l fr else if k = 4 then true else if k = 5 then decide (1 ≤ l.length) && countB l else false
def okI (k : Int) (x : It) : Bool :=
  if k = 1 ∨ k = 2 then keyB x.2.1 && (keyB x.2.2.1 && zB x.2.2.2) else if k = 3 ∨ k = 4 then Num.elB x.2.1 && (Num.elB x.2.2.1 && Num.elB x.2.2.2)
  else if k = 5 then wdB x.2.1 && (zB x.2.2.1 && zB x.2.2.2) else if k = 6 then zB x.2.1 && (zB x.2.2.1 && zB x.2.2.2) else if k = 7 then tB x.2.1 && (Num.elB x.2.2.1 && zB x.2.2.2) else false
def numsB (k : Int) (l : List It) : Bool := allB l.length fun i => okI k (it l i)
/-- Is it a frame? -/
def okF (k fr : Int) (l : List It) : Bool := decide (l.length ≤ 12) && (fromB k fr && (riseB l && (idsB k fr l && numsB k l)))

theorem fromB_kind {k fr : Int} (h : fromB k fr = true) : 1 ≤ k ∧ k ≤ 7 := by
  unfold fromB at h
  split at h
  · omega
  · split at h
    · omega
    · cases h

/-! ### Bytes -/
def wid (k : Int) : Nat := if k = 5 then 1 else if k = 1 ∨ k = 2 ∨ k = 7 then 2 else if k = 3 ∨ k = 4 then 3 else 0
def size (k : Int) : Nat := 1 + 8 * wid k
theorem wid_le (k : Int) : wid k ≤ 3 := by
  unfold wid
  (repeat' split) <;> omega
def bytesN (v : Int) : List Int := [v % 256, v / 256 % 256, v / 65536 % 256, v / 16777216 % 256, v / 4294967296 % 256, v / 1099511627776 % 256, v / 281474976710656 % 256, v / 72057594037927936 % 256]
def nums (k : Int) (x : It) : List Int := [x.2.1, x.2.2.1, x.2.2.2].take (wid k)
def encI (k : Int) (x : It) : List Int := x.1 :: ((nums k x).map bytesN).flatten
def encF (k fr : Int) (l : List It) : List Int := k :: fr :: (l.length : Int) :: (l.map (encI k)).flatten

theorem nums_length (k : Int) (x : It) : (nums k x).length = wid k := by
  have := wid_le k
  unfold nums; simp; omega
theorem flat_len8 (l : List Int) : ((l.map bytesN).flatten).length = 8 * l.length := by
  induction l with
  | nil => rfl
  | cons a l ih => rw [List.map_cons, List.flatten_cons, List.length_append, ih, List.length_cons]; simp [bytesN]; omega
theorem encI_length (k : Int) (x : It) : (encI k x).length = size k := by
  unfold encI; rw [List.length_cons, flat_len8, nums_length]; unfold size; omega
theorem flatten_length (s : Nat) (L : List (List Int)) (h : ∀ x ∈ L, x.length = s) : L.flatten.length = L.length * s := by
  induction L with
  | nil => simp
  | cons a L ih =>
    rw [List.flatten_cons, List.length_append, ih (fun x hx => h x (List.mem_cons_of_mem _ hx)), h a List.mem_cons_self, List.length_cons, Nat.add_mul]; omega
theorem body_length (k : Int) (l : List It) : ((l.map (encI k)).flatten).length = l.length * size k := by
  rw [flatten_length (size k) _ (fun x hx => by obtain ⟨y, _, rfl⟩ := List.mem_map.1 hx; exact encI_length k y)]; simp
theorem encF_length (k fr : Int) (l : List It) : (encF k fr l).length = 3 + l.length * size k := by
  unfold encF; simp only [List.length_cons, body_length]; omega

theorem flatten_get (s : Nat) (L : List (List Int)) (h : ∀ x ∈ L, x.length = s) (i j : Nat) (hj : j < s) : L.flatten.getD (i * s + j) 0 = (L.getD i []).getD j 0 := by
  induction L generalizing i with
  | nil => simp
  | cons a L ih =>
    have ha := h a List.mem_cons_self
    cases i with
    | zero => rw [List.flatten_cons, Nat.zero_mul, Nat.zero_add, List.getD_cons_zero, List.getD_eq_getElem?_getD, List.getElem?_append_left (by omega), ← List.getD_eq_getElem?_getD]
    | succ i =>
      rw [List.flatten_cons, List.getD_cons_succ, ← ih (fun x hx => h x (List.mem_cons_of_mem _ hx)) i, List.getD_eq_getElem?_getD, List.getElem?_append_right (by rw [ha, Nat.add_mul]; omega), ← List.getD_eq_getElem?_getD, ha]
      congr 1
      rw [Nat.add_mul]; omega

theorem encF_get (k fr : Int) (l : List It) (i j : Nat) (hi : i < l.length) (hj : j < size k) : (encF k fr l).getD (3 + i * size k + j) 0 = (encI k (it l i)).getD j 0 := by
  have e : 3 + i * size k + j = i * size k + j + 1 + 1 + 1 := by omega
  unfold encF
  rw [e, List.getD_cons_succ, List.getD_cons_succ, List.getD_cons_succ, flatten_get (size k) _ (fun x hx => by obtain ⟨y, _, rfl⟩ := List.mem_map.1 hx; exact encI_length k y) i j hj]
  congr 1
  rw [List.getD_eq_getElem?_getD, List.getElem?_map, List.getElem?_eq_getElem hi]
  unfold it
  rw [List.getD_eq_getElem?_getD, List.getElem?_eq_getElem hi]; rfl

def bAt (b : List Int) (i : Nat) : Int := b.getD i 0
def numAt (b : List Int) (a : Nat) : Int := bAt b a + 256 * bAt b (a + 1) + 65536 * bAt b (a + 2) + 16777216 * bAt b (a + 3) + 4294967296 * bAt b (a + 4) + 1099511627776 * bAt b (a + 5) + 281474976710656 * bAt b (a + 6) + 72057594037927936 * bAt b (a + 7)
def rdN (b : List Int) (a : Nat) : Int := if 128 ≤ bAt b (a + 7) then -1 else numAt b a
def rdI (k : Int) (b : List Int) (a : Nat) : It := (bAt b a, if 1 ≤ wid k then rdN b (a + 1) else 0, if 2 ≤ wid k then rdN b (a + 9) else 0, if 3 ≤ wid k then rdN b (a + 17) else 0)
def rdL (k : Int) (b : List Int) (n : Nat) : List It := (List.range n).map fun i => rdI k b (3 + i * size k)
/-- What is read of bytes. -/
def decF (b : List Int) : Option (Int × Int × List It) :=
  if b.length < 3 then none else if b.length = 3 + (bAt b 2).toNat * size (bAt b 0) then
    if okF (bAt b 0) (bAt b 1) (rdL (bAt b 0) b (bAt b 2).toNat) = true then some (bAt b 0, bAt b 1, rdL (bAt b 0) b (bAt b 2).toNat) else none
  else none

def isB (b : List Int) : Prop := ∀ x ∈ b, 0 ≤ x ∧ x ≤ 255
theorem isB_at {b : List Int} (h : isB b) (i : Nat) : 0 ≤ bAt b i ∧ bAt b i ≤ 255 := by
  unfold bAt
  by_cases hi : i < b.length
  · rw [List.getD_eq_getElem?_getD, List.getElem?_eq_getElem hi]; exact h _ (List.getElem_mem hi)
  · rw [List.getD_eq_getElem?_getD, List.getElem?_eq_none (by omega)]; simp

theorem getD_app (l m : List Int) (j : Nat) (h : j < l.length) : (l ++ m).getD j 0 = l.getD j 0 := by
  rw [List.getD_eq_getElem?_getD, List.getElem?_append_left h, ← List.getD_eq_getElem?_getD]
theorem bytesN_val (v : Int) (h : 0 ≤ v) (h' : v < 18446744073709551616) :
    v % 256 + 256 * (v / 256 % 256) + 65536 * (v / 65536 % 256) + 16777216 * (v / 16777216 % 256) + 4294967296 * (v / 4294967296 % 256) + 1099511627776 * (v / 1099511627776 % 256) + 281474976710656 * (v / 281474976710656 % 256) + 72057594037927936 * (v / 72057594037927936 % 256) = v := by omega

/-- The number that is read at a place whose eight bytes are a number's. -/
theorem num_of (b : List Int) (a : Nat) (v : Int) (h : 0 ≤ v) (h' : v < 9223372036854775808) (e : ∀ j, j < 8 → bAt b (a + j) = (bytesN v).getD j 0) : numAt b a = v ∧ rdN b a = v := by
  have e0 := e 0 (by omega)
  have e1 := e 1 (by omega)
  have e2 := e 2 (by omega)
  have e3 := e 3 (by omega)
  have e4 := e 4 (by omega)
  have e5 := e 5 (by omega)
  have e6 := e 6 (by omega)
  have e7 := e 7 (by omega)
  simp only [bytesN, List.getD_cons_zero, List.getD_cons_succ, Nat.add_zero] at e0 e1 e2 e3 e4 e5 e6 e7
  have hn : numAt b a = v := by
    unfold numAt; rw [e0, e1, e2, e3, e4, e5, e6, e7]; exact bytesN_val v h (by omega)
  refine ⟨hn, ?_⟩
  unfold rdN
  rw [e7, if_neg (by omega)]; exact hn

/-- The numbers that the bytes have are not below 0 and fit; those that they have not are 0. -/
theorem okI_named {k : Int} {x : It} (h : okI k x = true) : (0 ≤ x.2.1 ∧ x.2.1 < 9223372036854775808 ∧ (¬ 1 ≤ wid k → x.2.1 = 0)) ∧ (0 ≤ x.2.2.1 ∧ x.2.2.1 < 9223372036854775808 ∧ (¬ 2 ≤ wid k → x.2.2.1 = 0)) ∧ (0 ≤ x.2.2.2 ∧ x.2.2.2 < 9223372036854775808 ∧ (¬ 3 ≤ wid k → x.2.2.2 = 0)) := by
  unfold okI at h
  by_cases k12 : k = 1 ∨ k = 2
  · rw [if_pos k12, Bool.and_eq_true, Bool.and_eq_true, keyB_iff, keyB_iff, zB_iff] at h
    have : wid k = 2 := by unfold wid; rw [if_neg (by omega), if_pos (by omega)]
    omega
  rw [if_neg k12] at h
  by_cases k34 : k = 3 ∨ k = 4
  · rw [if_pos k34, Bool.and_eq_true, Bool.and_eq_true, Num.elB_iff, Num.elB_iff, Num.elB_iff] at h
    have : wid k = 3 := by unfold wid; rw [if_neg (by omega), if_neg (by omega), if_pos (by omega)]
    omega
  rw [if_neg k34] at h
  by_cases k5 : k = 5
  · rw [if_pos k5, Bool.and_eq_true, Bool.and_eq_true, wdB_iff, zB_iff, zB_iff] at h
    have : wid k = 1 := by unfold wid; rw [if_pos k5]
    omega
  rw [if_neg k5] at h
  by_cases k6 : k = 6
  · rw [if_pos k6, Bool.and_eq_true, Bool.and_eq_true, zB_iff, zB_iff, zB_iff] at h
    omega
  rw [if_neg k6] at h
  by_cases k7 : k = 7
  · rw [if_pos k7, Bool.and_eq_true, Bool.and_eq_true, tB_iff, Num.elB_iff, zB_iff] at h
    have : wid k = 2 := by unfold wid; rw [if_neg (by omega), if_pos (by omega)]
    omega
  rw [if_neg k7] at h
  cases h

theorem okF_parts {k fr : Int} {l : List It} (h : okF k fr l = true) : l.length ≤ 12 ∧ fromB k fr = true ∧ riseB l = true ∧ idsB k fr l = true ∧ ∀ i, i < l.length → okI k (it l i) = true := by
  unfold okF at h
  simp only [Bool.and_eq_true, decide_eq_true_iff] at h
  obtain ⟨h1, h2, h3, h4, h5⟩ := h
  exact ⟨h1, h2, h3, h4, allB_iff.1 h5⟩

theorem okF_bounds {k fr : Int} {l : List It} (h : okF k fr l = true) : l.length ≤ 12 ∧ 1 ≤ k ∧ k ≤ 7 ∧ 0 ≤ fr ∧ fr ≤ 12 ∧ ∀ i, i < l.length → 1 ≤ (it l i).1 ∧ (it l i).1 ≤ 12 := by
  obtain ⟨h1, h2, h3, h4, h5⟩ := okF_parts h
  have hk := fromB_kind h2
  refine ⟨h1, hk.1, hk.2, ?_, ?_, fun i hi => ?_⟩
  · unfold fromB at h2
    split at h2
    · rw [Num.clB_iff] at h2; omega
    · split at h2
      · rw [zB_iff] at h2; omega
      · cases h2
  · unfold fromB at h2
    split at h2
    · rw [Num.clB_iff] at h2; omega
    · split at h2
      · rw [zB_iff] at h2; omega
      · cases h2
  · have := allB_iff.1 h3 i hi
    unfold riseAt at this
    rw [Bool.and_eq_true, Num.clB_iff] at this
    exact this.1

theorem it_list_eq {l m : List It} (hl : l.length = m.length) (h : ∀ i, i < l.length → it l i = it m i) : l = m := by
  apply List.ext_getElem hl
  intro i h1 h2
  have := h i h1
  unfold it at this
  rw [List.getD_eq_getElem?_getD, List.getD_eq_getElem?_getD, List.getElem?_eq_getElem h1, List.getElem?_eq_getElem h2] at this
  exact this

theorem encI_get0 (k : Int) (x : It) : (encI k x).getD 0 0 = x.1 := rfl
theorem encI_getA (k : Int) (x : It) (h : 1 ≤ wid k) (j : Nat) (hj : j < 8) : (encI k x).getD (1 + j) 0 = (bytesN x.2.1).getD j 0 := by
  unfold encI nums
  rw [Nat.add_comm 1 j, List.getD_cons_succ]
  have : wid k = 1 ∨ wid k = 2 ∨ wid k = 3 := by have := wid_le k; omega
  rcases this with e | e | e <;> rw [e] <;> exact getD_app (bytesN x.2.1) _ j hj
theorem encI_getB (k : Int) (x : It) (h : 2 ≤ wid k) (j : Nat) (hj : j < 8) : (encI k x).getD (9 + j) 0 = (bytesN x.2.2.1).getD j 0 := by
  unfold encI nums
  rw [show 9 + j = j + 8 + 1 by omega, List.getD_cons_succ]
  have : wid k = 2 ∨ wid k = 3 := by have := wid_le k; omega
  rcases this with e | e <;> rw [e] <;> exact getD_app (bytesN x.2.2.1) _ j hj
theorem encI_getC (k : Int) (x : It) (h : 3 ≤ wid k) (j : Nat) (hj : j < 8) : (encI k x).getD (17 + j) 0 = (bytesN x.2.2.2).getD j 0 := by
  unfold encI nums
  rw [show 17 + j = j + 16 + 1 by omega, List.getD_cons_succ]
  have e : wid k = 3 := by have := wid_le k; omega
  rw [e]; exact getD_app (bytesN x.2.2.2) _ j hj

/-- An item that is written is read as what it was (n is how numbers are read). -/
theorem read_enc {k fr : Int} {l : List It} (h : okF k fr l = true) (i : Nat) (hi : i < l.length) (f : List Int → Nat → Int) (hf : ∀ b a v, 0 ≤ v → v < 9223372036854775808 → (∀ j, j < 8 → bAt b (a + j) = (bytesN v).getD j 0) → f b a = v) :
    ((bAt (encF k fr l) (3 + i * size k), if 1 ≤ wid k then f (encF k fr l) (3 + i * size k + 1) else 0, if 2 ≤ wid k then f (encF k fr l) (3 + i * size k + 9) else 0, if 3 ≤ wid k then f (encF k fr l) (3 + i * size k + 17) else 0) : It) = it l i := by
  obtain ⟨h1, h2, h3, h4, h5⟩ := okF_parts h
  obtain ⟨a1, a2, a3⟩ := okI_named (h5 i hi)
  have hs : size k = 1 + 8 * wid k := rfl
  have e0 : bAt (encF k fr l) (3 + i * size k) = (it l i).1 := by
    have := encF_get k fr l i 0 hi (by omega)
    rw [Nat.add_zero] at this
    exact this
  have eA : (if 1 ≤ wid k then f (encF k fr l) (3 + i * size k + 1) else 0) = (it l i).2.1 := by
    split
    · rename_i hw
      refine hf _ _ _ a1.1 a1.2.1 (fun j hj => ?_)
      rw [← encI_getA k (it l i) hw j hj, ← encF_get k fr l i (1 + j) hi (by omega), Nat.add_assoc (3 + i * size k)]; rfl
    · rename_i hw; exact (a1.2.2 hw).symm
  have eB : (if 2 ≤ wid k then f (encF k fr l) (3 + i * size k + 9) else 0) = (it l i).2.2.1 := by
    split
    · rename_i hw
      refine hf _ _ _ a2.1 a2.2.1 (fun j hj => ?_)
      rw [← encI_getB k (it l i) hw j hj, ← encF_get k fr l i (9 + j) hi (by omega), Nat.add_assoc (3 + i * size k)]; rfl
    · rename_i hw; exact (a2.2.2 hw).symm
  have eC : (if 3 ≤ wid k then f (encF k fr l) (3 + i * size k + 17) else 0) = (it l i).2.2.2 := by
    split
    · rename_i hw
      refine hf _ _ _ a3.1 a3.2.1 (fun j hj => ?_)
      rw [← encI_getC k (it l i) hw j hj, ← encF_get k fr l i (17 + j) hi (by omega), Nat.add_assoc (3 + i * size k)]; rfl
    · rename_i hw; exact (a3.2.2 hw).symm
  rw [e0, eA, eB, eC]

theorem it_range (n : Nat) (f : Nat → It) (i : Nat) (hi : i < n) : it ((List.range n).map f) i = f i := by
  unfold it; rw [List.getD_eq_getElem?_getD, List.getElem?_map, List.getElem?_range hi]; rfl

theorem rdL_enc {k fr : Int} {l : List It} (h : okF k fr l = true) : rdL k (encF k fr l) l.length = l := by
  refine it_list_eq (by simp [rdL]) (fun i hi => ?_)
  have hi' : i < l.length := by simpa [rdL] using hi
  unfold rdL
  rw [it_range _ _ _ hi']
  exact read_enc h i hi' rdN (fun b a v h h' e => (num_of b a v h h' e).2)

/-- Decode behind Encode. -/
theorem dec_enc {k fr : Int} {l : List It} (h : okF k fr l = true) : decF (encF k fr l) = some (k, fr, l) := by
  have b0 : bAt (encF k fr l) 0 = k := rfl
  have b1 : bAt (encF k fr l) 1 = fr := rfl
  have b2 : bAt (encF k fr l) 2 = (l.length : Int) := rfl
  have hl := encF_length k fr l
  unfold decF
  rw [b0, b1, b2, hl, if_neg (by omega), Int.toNat_natCast, if_pos rfl, rdL_enc h, if_pos h]

/-! ### What is read is written as what it was -/
def chunk (b : List Int) (m j : Nat) : List Int := (List.range j).map fun i => bAt b (m + i)
theorem take_chunk (b : List Int) (m j : Nat) (h : m + j ≤ b.length) : b.take (m + j) = b.take m ++ chunk b m j := by
  induction j with
  | zero => simp [chunk]
  | succ j ih =>
    unfold chunk at ih ⊢
    rw [← Nat.add_assoc, List.take_succ_eq_append_getElem (show m + j < b.length by omega), ih (by omega), List.range_succ, List.map_append, ← List.append_assoc]
    congr 1
    show [b[m + j]] = [bAt b (m + j)]
    unfold bAt
    rw [List.getD_eq_getElem?_getD, List.getElem?_eq_getElem (show m + j < b.length by omega)]; rfl

theorem bytes_num (b0 b1 b2 b3 b4 b5 b6 b7 : Int) (h0 : 0 ≤ b0 ∧ b0 ≤ 255) (h1 : 0 ≤ b1 ∧ b1 ≤ 255) (h2 : 0 ≤ b2 ∧ b2 ≤ 255) (h3 : 0 ≤ b3 ∧ b3 ≤ 255) (h4 : 0 ≤ b4 ∧ b4 ≤ 255) (h5 : 0 ≤ b5 ∧ b5 ≤ 255) (h6 : 0 ≤ b6 ∧ b6 ≤ 255) (h7 : 0 ≤ b7 ∧ b7 ≤ 255) :
    bytesN (b0 + 256 * b1 + 65536 * b2 + 16777216 * b3 + 4294967296 * b4 + 1099511627776 * b5 + 281474976710656 * b6 + 72057594037927936 * b7) = [b0, b1, b2, b3, b4, b5, b6, b7] := by
  unfold bytesN
  simp only [List.cons.injEq, and_true]
  refine ⟨by omega, by omega, by omega, by omega, by omega, by omega, by omega, by omega⟩

theorem chunk8 {b : List Int} (hb : isB b) (m : Nat) : bytesN (numAt b m) = chunk b m 8 := by
  unfold numAt
  rw [bytes_num _ _ _ _ _ _ _ _ (isB_at hb _) (isB_at hb _) (isB_at hb _) (isB_at hb _) (isB_at hb _) (isB_at hb _) (isB_at hb _) (isB_at hb _)]
  rfl

theorem rdN_nn {b : List Int} {a : Nat} (h : 0 ≤ rdN b a) : rdN b a = numAt b a := by
  unfold rdN at h ⊢
  split at h
  · omega
  · rename_i hc; rw [if_neg hc]

theorem chunk_add (b : List Int) (m i j : Nat) : chunk b m (i + j) = chunk b m i ++ chunk b (m + i) j := by
  unfold chunk
  rw [List.range_add, List.map_append, List.map_map]
  congr 1
  apply List.map_congr_left
  intro x _
  show bAt b (m + (i + x)) = bAt b (m + i + x)
  rw [Nat.add_assoc]

theorem enc_rdI {k : Int} {b : List Int} (hb : isB b) (m : Nat) (h : okI k (rdI k b m) = true) : encI k (rdI k b m) = chunk b m (size k) := by
  obtain ⟨a1, a2, a3⟩ := okI_named h
  unfold encI nums size
  rw [chunk_add]
  have ec : chunk b m 1 = [bAt b m] := rfl
  rw [ec]
  show bAt b m :: _ = [bAt b m] ++ _
  rw [List.singleton_append]
  congr 1
  have hw := wid_le k
  have eA : 1 ≤ wid k → bytesN (rdI k b m).2.1 = chunk b (m + 1) 8 := fun hk => by
    have e : (rdI k b m).2.1 = rdN b (m + 1) := if_pos hk
    rw [e] at a1 ⊢
    rw [rdN_nn a1.1, chunk8 hb]
  have eB : 2 ≤ wid k → bytesN (rdI k b m).2.2.1 = chunk b (m + 1 + 8) 8 := fun hk => by
    have e : (rdI k b m).2.2.1 = rdN b (m + 9) := if_pos hk
    rw [e] at a2 ⊢
    rw [rdN_nn a2.1, chunk8 hb]
  have eC : 3 ≤ wid k → bytesN (rdI k b m).2.2.2 = chunk b (m + 1 + 16) 8 := fun hk => by
    have e : (rdI k b m).2.2.2 = rdN b (m + 17) := if_pos hk
    rw [e] at a3 ⊢
    rw [rdN_nn a3.1, chunk8 hb]
  have : wid k = 0 ∨ wid k = 1 ∨ wid k = 2 ∨ wid k = 3 := by omega
  rcases this with e | e | e | e
  · rw [e]; rfl
  · rw [e]
    show bytesN (rdI k b m).2.1 ++ [] = _
    rw [eA (by omega), List.append_nil]
  · rw [e]
    show bytesN (rdI k b m).2.1 ++ (bytesN (rdI k b m).2.2.1 ++ []) = chunk b (m + 1) (8 + 8)
    rw [eA (by omega), eB (by omega), List.append_nil, chunk_add]
  · rw [e]
    show bytesN (rdI k b m).2.1 ++ (bytesN (rdI k b m).2.2.1 ++ (bytesN (rdI k b m).2.2.2 ++ [])) = chunk b (m + 1) (8 + 8 + 8)
    rw [eA (by omega), eB (by omega), eC (by omega), List.append_nil, chunk_add, chunk_add, List.append_assoc]

theorem body_take {k : Int} {b : List Int} (hb : isB b) (n : Nat) (hl : b.length = 3 + n * size k) (ho : ∀ i, i < n → okI k (rdI k b (3 + i * size k)) = true) (i : Nat) (hi : i ≤ n) :
    b.take (3 + i * size k) = b.take 3 ++ ((rdL k b i).map (encI k)).flatten := by
  induction i with
  | zero => simp [rdL]
  | succ i ih =>
    have hle : (i + 1) * size k ≤ n * size k := Nat.mul_le_mul_right _ hi
    have hs : (i + 1) * size k = i * size k + size k := by rw [Nat.add_mul]; omega
    rw [show 3 + (i + 1) * size k = 3 + i * size k + size k by omega, take_chunk b _ _ (by omega), ih (by omega), ← enc_rdI hb _ (ho i (by omega))]
    unfold rdL
    rw [List.range_succ, List.map_append, List.map_append, List.flatten_append, List.append_assoc]
    congr 2
    simp

theorem take3 (b : List Int) (h : 3 ≤ b.length) : b.take 3 = [bAt b 0, bAt b 1, bAt b 2] := by
  have := take_chunk b 0 3 (by omega)
  rw [this]; rfl

theorem enc_dec {b : List Int} (hb : isB b) {k fr : Int} {l : List It} (h : decF b = some (k, fr, l)) : okF k fr l = true ∧ encF k fr l = b ∧ 3 ≤ b.length := by
  unfold decF at h
  split at h
  · cases h
  · rename_i h3
    split at h
    · rename_i hl
      split at h
      · rename_i ho
        simp only [Option.some.injEq, Prod.mk.injEq] at h
        obtain ⟨rfl, rfl, rfl⟩ := h
        refine ⟨ho, ?_, by omega⟩
        have hb2 := isB_at hb 2
        have hll : (rdL (bAt b 0) b (bAt b 2).toNat).length = (bAt b 2).toNat := by simp [rdL]
        have ho' := (okF_parts ho).2.2.2.2
        rw [hll] at ho'
        have key := body_take hb (bAt b 2).toNat hl (fun i hi => by
          have := ho' i hi
          unfold rdL at this
          rw [it_range _ _ _ hi] at this
          exact this) (bAt b 2).toNat (Nat.le_refl _)
        rw [← hl, List.take_length, take3 b (by omega)] at key
        have e : encF (bAt b 0) (bAt b 1) (rdL (bAt b 0) b (bAt b 2).toNat) = [bAt b 0, bAt b 1, bAt b 2] ++ ((rdL (bAt b 0) b (bAt b 2).toNat).map (encI (bAt b 0))).flatten := by
          unfold encF
          rw [hll, show (((bAt b 2).toNat : Nat) : Int) = bAt b 2 by omega]
          rfl
        rw [e]
        exact key.symm
      · cases h
    · cases h

/-! ### The document's reading -/
def gN (b : List Int) (a : Nat) : Int := if 9223372036854775808 ≤ numAt b a then numAt b a - 18446744073709551616 else numAt b a
def gI (k : Int) (b : List Int) (a : Nat) : It := (bAt b a, if 1 ≤ wid k then gN b (a + 1) else 0, if 2 ≤ wid k then gN b (a + 9) else 0, if 3 ≤ wid k then gN b (a + 17) else 0)
def gL (k : Int) (b : List Int) (m : Nat) : List It := (List.range m).map fun i => gI k b (3 + i * size k)

theorem gL_enc {k fr : Int} {l : List It} (h : okF k fr l = true) : gL k (encF k fr l) l.length = l := by
  refine it_list_eq (by simp [gL]) (fun i hi => ?_)
  have hi' : i < l.length := by simpa [gL] using hi
  unfold gL
  rw [it_range _ _ _ hi']
  exact read_enc h i hi' gN (fun b a v h h' e => by
    have := (num_of b a v h h' e).1
    unfold gN; rw [this, if_neg (by omega)])

/-- How many items the document's reading looks at. -/
def GM (b : List Int) (m : Nat) : Prop := m ≤ (bAt b 2).toNat ∧ (m = (bAt b 2).toNat ∨ b.length ≤ 3 + m * size (bAt b 0))

theorem guess_yes {b : List Int} (hb : isB b) {m : Nat} (hm : GM b m) (h1 : okF (bAt b 0) (bAt b 1) (gL (bAt b 0) b m) = true) (h2 : encF (bAt b 0) (bAt b 1) (gL (bAt b 0) b m) = b) : decF b = some (bAt b 0, bAt b 1, gL (bAt b 0) b m) := by
  have := dec_enc h1
  rw [h2] at this
  exact this

theorem guess_no {b : List Int} (hb : isB b) {m : Nat} (hm : GM b m) (h : ¬ (okF (bAt b 0) (bAt b 1) (gL (bAt b 0) b m) = true ∧ encF (bAt b 0) (bAt b 1) (gL (bAt b 0) b m) = b)) : decF b = none := by
  cases hd : decF b with
  | none => rfl
  | some f =>
    obtain ⟨k, fr, l⟩ := f
    exfalso
    apply h
    obtain ⟨h1, h2, h3⟩ := enc_dec hb hd
    have b0 : bAt b 0 = k := by rw [← h2]; rfl
    have b1 : bAt b 1 = fr := by rw [← h2]; rfl
    have b2 : bAt b 2 = (l.length : Int) := by rw [← h2]; rfl
    have hl : b.length = 3 + l.length * size k := by rw [← h2]; exact encF_length k fr l
    have em : m = l.length := by
      obtain ⟨m1, m2⟩ := hm
      rw [b2, Int.toNat_natCast] at m1 m2
      rcases m2 with m2 | m2
      · exact m2
      · rw [b0, hl] at m2
        have : l.length * size k ≤ m * size k := by omega
        have hs : 0 < size k := by unfold size; omega
        have := Nat.le_of_mul_le_mul_right this hs
        omega
    rw [b0, b1, em]
    have e := gL_enc h1
    rw [h2] at e
    rw [e]
    exact ⟨h1, h2⟩

/-! ### The document's look at a frame -/
def pubB (l : List It) : Bool := allB l.length fun i => keyB (it l i).2.1 && (keyB (it l i).2.2.1 && zB (it l i).2.2.2)
def sealB (l : List It) (u : Int) : Bool := allB l.length fun i => (Num.elB (it l i).2.1 && (Num.elB (it l i).2.2.1 && Num.elB (it l i).2.2.2)) && decide ((it l i).1 ≠ u)
def placeB (l : List It) : Bool := allB l.length fun i => decide ((it l i).1 = (i : Int) + 1) && (wdB (it l i).2.1 && (zB (it l i).2.2.1 && zB (it l i).2.2.2))
def toldB (l : List It) : Bool := allB l.length fun i => tB (it l i).2.1 && (Num.elB (it l i).2.2.1 && zB (it l i).2.2.2)
def askB (l : List It) : Bool := allB l.length fun i => zB (it l i).2.1 && (zB (it l i).2.2.1 && zB (it l i).2.2.2)
def refF (k fr : Int) (l : List It) : Bool :=
  (decide (l.length ≤ 12) && riseB l) && (if k = 1 then Num.clB fr && (decide (l.length = 1) && (decide ((it l 0).1 = fr) && pubB l)) else if k = 2 then zB fr && (decide (1 ≤ l.length) && pubB l)
    else if k = 3 then Num.clB fr && sealB l fr else if k = 4 then zB fr && sealB l 0 else if k = 5 then Num.clB fr && (decide (1 ≤ l.length) && placeB l)
    else if k = 6 then zB fr && (decide (1 ≤ l.length) && askB l) else if k = 7 then Num.clB fr && (decide (1 ≤ l.length) && toldB l) else false)

theorem allB_and (n : Nat) (p q : Nat → Bool) : (allB n fun i => p i && q i) = (allB n p && allB n q) := by
  rw [Bool.eq_iff_iff, Bool.and_eq_true, allB_iff, allB_iff, allB_iff]
  simp only [Bool.and_eq_true]
  exact ⟨fun h => ⟨fun k hk => (h k hk).1, fun k hk => (h k hk).2⟩, fun h k hk => ⟨h.1 k hk, h.2 k hk⟩⟩

theorem refF_eq (k fr : Int) (l : List It) : refF k fr l = okF k fr l := by
  unfold refF okF
  cases hl : decide (l.length ≤ 12)
  · simp
  cases hr : riseB l
  · simp
  rw [Bool.true_and, Bool.true_and, Bool.true_and, Bool.true_and]
  have hr' := allB_iff.1 hr
  by_cases k1 : k = 1
  · subst k1
    have e1 : numsB 1 l = pubB l := rfl
    have e2 : fromB 1 fr = Num.clB fr := rfl
    have e3 : idsB 1 fr l = (decide (l.length = 1) && !noneB l fr) := rfl
    rw [if_pos rfl, e1, e2, e3]
    congr 1
    by_cases hn : l.length = 1
    · have : (!noneB l fr) = decide ((it l 0).1 = fr) := by
        unfold noneB
        rw [hn]
        unfold allB
        simp
      rw [this, decide_eq_true hn, Bool.true_and, Bool.true_and]
    · rw [decide_eq_false hn]; simp
  rw [if_neg k1]
  by_cases k2 : k = 2
  · subst k2
    have e1 : numsB 2 l = pubB l := rfl
    have e2 : fromB 2 fr = zB fr := rfl
    have e3 : idsB 2 fr l = decide (1 ≤ l.length) := rfl
    rw [if_pos rfl, e1, e2, e3]
  rw [if_neg k2]
  by_cases k3 : k = 3
  · subst k3
    have e1 : sealB l fr = (numsB 3 l && noneB l fr) := by
      unfold sealB; rw [allB_and]; rfl
    have e2 : fromB 3 fr = Num.clB fr := rfl
    have e3 : idsB 3 fr l = noneB l fr := rfl
    rw [if_pos rfl, e1, e2, e3, Bool.and_comm (numsB 3 l)]
  rw [if_neg k3]
  by_cases k4 : k = 4
  · subst k4
    have e1 : sealB l 0 = (numsB 4 l && noneB l 0) := by
      unfold sealB; rw [allB_and]; rfl
    have e2 : fromB 4 fr = zB fr := rfl
    have e3 : idsB 4 fr l = true := rfl
    have e4 : noneB l 0 = true := allB_yes fun i hi => by
      have := hr' i hi
      unfold riseAt at this
      rw [Bool.and_eq_true, Num.clB_iff] at this
      exact decide_eq_true (by omega)
    rw [if_pos rfl, e1, e2, e3, e4, Bool.and_true, Bool.true_and]
  rw [if_neg k4]
  by_cases k5 : k = 5
  · subst k5
    have e1 : placeB l = (countB l && numsB 5 l) := by
      unfold placeB; rw [allB_and]; rfl
    have e2 : fromB 5 fr = Num.clB fr := rfl
    have e3 : idsB 5 fr l = (decide (1 ≤ l.length) && countB l) := rfl
    rw [if_pos rfl, e1, e2, e3, Bool.and_assoc]
  rw [if_neg k5]
  by_cases k6 : k = 6
  · subst k6
    have e1 : numsB 6 l = askB l := rfl
    have e2 : fromB 6 fr = zB fr := rfl
    have e3 : idsB 6 fr l = decide (1 ≤ l.length) := rfl
    rw [if_pos rfl, e1, e2, e3]
  rw [if_neg k6]
  by_cases k7 : k = 7
  · subst k7
    have e1 : numsB 7 l = toldB l := rfl
    have e2 : fromB 7 fr = Num.clB fr := rfl
    have e3 : idsB 7 fr l = decide (1 ≤ l.length) := rfl
    rw [if_pos rfl, e1, e2, e3]
  rw [if_neg k7]
  have : fromB k fr = false := by unfold fromB; rw [if_neg (by omega), if_neg (by omega)]
  rw [this, Bool.false_and]

end Go.Proofs.YtgfkgekaodibhaaGreat.Frm
