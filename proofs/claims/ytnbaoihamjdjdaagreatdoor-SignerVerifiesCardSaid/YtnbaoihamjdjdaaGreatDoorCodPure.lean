/- Plain codec over lists of bytes: what the contracts of package codec and of the document's own answer come to; no program is named here. -/

namespace Go.Proofs.YtnbaoihamjdjdaaGreatDoor.Sp

/-- The last k bytes of a number, the highest first. -/
def be : Nat → Nat → List UInt8
  | 0, _ => []
  | k + 1, n => UInt8.ofNat (n / 256 ^ k) :: be k n
/-- The number that some bytes are, the highest first. -/
def num (l : List UInt8) : Nat := l.foldl (fun a b => a * 256 + b.toNat) 0

theorem be_length (k n : Nat) : (be k n).length = k := by
  induction k with
  | zero => rfl
  | succ k ih => simp [be, ih]
theorem num_snoc (l : List UInt8) (b : UInt8) : num (l ++ [b]) = num l * 256 + b.toNat := by simp [num]
theorem num_fold (l : List UInt8) : ∀ a, l.foldl (fun a b => a * 256 + b.toNat) a = a * 256 ^ l.length + num l := by
  induction l with
  | nil => intro a; simp [num]
  | cons x l ih =>
    intro a
    have h1 := ih (a * 256 + x.toNat)
    have h2 := ih (0 * 256 + x.toNat)
    simp only [num, List.foldl_cons, List.length_cons] at h1 h2 ⊢
    rw [h1, h2, Nat.pow_succ, Nat.add_mul, Nat.zero_mul, Nat.zero_add, Nat.mul_assoc a, Nat.mul_comm 256]
    omega
theorem num_cons (x : UInt8) (l : List UInt8) : num (x :: l) = x.toNat * 256 ^ l.length + num l := by
  have := num_fold l (0 * 256 + x.toNat)
  simp only [num, List.foldl_cons] at this ⊢
  rw [this]; simp
theorem num_lt (l : List UInt8) : num l < 256 ^ l.length := by
  induction l with
  | nil => simp [num]
  | cons x l ih =>
    rw [num_cons, List.length_cons, Nat.pow_succ]
    have hx := x.toNat_lt
    have : (x.toNat + 1) * 256 ^ l.length ≤ 256 * 256 ^ l.length := Nat.mul_le_mul_right _ (by omega)
    rw [Nat.add_mul] at this
    rw [Nat.mul_comm (256 ^ l.length)]
    omega
theorem num_be (k n : Nat) : num (be k n) = n % 256 ^ k := by
  induction k with
  | zero => simp [be, num, Nat.mod_one]
  | succ k ih =>
    rw [be, num_cons, be_length, ih, Nat.pow_succ, Nat.mod_mul, UInt8.toNat_ofNat', Nat.mul_comm, Nat.add_comm]
theorem be_mod (k n : Nat) : ∀ m, k ≤ m → be k (n % 256 ^ m) = be k n := by
  induction k with
  | zero => intro m _; rfl
  | succ k ih =>
    intro m hm
    rw [be, be, ih m (by omega)]
    congr 1
    apply UInt8.toNat_inj.1
    rw [UInt8.toNat_ofNat', UInt8.toNat_ofNat']
    obtain ⟨j, rfl⟩ : ∃ j, m = k + (1 + j) := ⟨m - k - 1, by omega⟩
    rw [Nat.pow_add, Nat.mod_mul_right_div_self, Nat.pow_add, Nat.pow_one, Nat.mod_mul_right_mod]
theorem be_num (l : List UInt8) : be l.length (num l) = l := by
  induction l with
  | nil => rfl
  | cons x l ih =>
    have hl := num_lt l
    have hp : 0 < 256 ^ l.length := Nat.pos_of_ne_zero (by simp)
    rw [List.length_cons, be]
    congr 1
    · rw [num_cons, Nat.mul_comm, Nat.mul_add_div hp, Nat.div_eq_of_lt hl]; simp
    · rw [← be_mod l.length (num (x :: l)) l.length (Nat.le_refl _)]
      have : num (x :: l) % 256 ^ l.length = num l := by
        rw [num_cons, Nat.mul_comm, Nat.mul_add_mod, Nat.mod_eq_of_lt hl]
      rw [this, ih]
theorem be_take (k : Nat) (n : Nat) : ∀ j, j ≤ k → (be k n).drop (k - j) = be j n := by
  induction k with
  | zero => intro j hj; obtain rfl : j = 0 := by omega
            rfl
  | succ k ih =>
    intro j hj
    by_cases h : j = k + 1
    · subst h; simp
    · rw [show k + 1 - j = (k - j) + 1 by omega, be, List.drop_succ_cons]; exact ih j (by omega)
/-- The first bytes of be: the highest ones. -/
def beTop (k n j : Nat) : List UInt8 := (be k n).take j
theorem beTop_zero (k n : Nat) : beTop k n 0 = [] := rfl
theorem beTop_all (k n : Nat) : beTop k n k = be k n := by unfold beTop; rw [List.take_of_length_le (by rw [be_length]; exact Nat.le_refl _)]
theorem be_get (k n i : Nat) (h : i < k) : (be k n)[i]? = some (UInt8.ofNat (n / 256 ^ (k - 1 - i))) := by
  have h1 := be_take k n (k - i) (by omega)
  rw [show k - (k - i) = i by omega] at h1
  have h2 : (be k n)[i]? = ((be k n).drop i)[0]? := by simp
  rw [h2, h1]
  obtain ⟨j, hj⟩ : ∃ j, k - i = j + 1 := ⟨k - i - 1, by omega⟩
  rw [hj, show k - 1 - i = j by omega]; rfl
theorem beTop_succ (k n i : Nat) (h : i < k) : beTop k n (i + 1) = beTop k n i ++ [UInt8.ofNat (n / 256 ^ (k - 1 - i))] := by
  unfold beTop
  have hg := be_get k n i h
  have hl : i < (be k n).length := by rw [be_length]; exact h
  rw [List.take_succ_eq_append_getElem hl]
  rw [List.getElem?_eq_getElem hl] at hg
  injection hg with hg
  rw [hg]
theorem be_inj {k a b : Nat} (ha : a < 256 ^ k) (hb : b < 256 ^ k) (h : be k a = be k b) : a = b := by
  have := congrArg num h
  rwa [num_be, num_be, Nat.mod_eq_of_lt ha, Nat.mod_eq_of_lt hb] at this

/-- An item: a number (t false), or a text. -/
structure It where
  t : Bool
  n : Nat
  s : ByteArray
def It.none_ : It := ⟨false, 0, .empty⟩
def enc (x : It) : List UInt8 := if x.t then be 4 x.s.size ++ x.s.data.toList else be 8 x.n
def laid (l : List It) : List UInt8 := l.flatMap enc
def It.long (x : It) : Nat := if x.t then 4 + x.s.size else 8
theorem enc_length (x : It) : (enc x).length = x.long := by
  unfold enc It.long
  split
  · rw [List.length_append, be_length]; simp
  · rw [be_length]
def laidLen (l : List It) : Nat := (l.map It.long).sum
theorem laid_length (l : List It) : (laid l).length = laidLen l := by
  unfold laid laidLen
  induction l with
  | nil => rfl
  | cons x l ih => simp [List.flatMap_cons, enc_length] at ih ⊢
theorem laid_append (l m : List It) : laid (l ++ m) = laid l ++ laid m := by simp [laid]
theorem take_at {α : Type} (d : α) (l : List α) (k : Nat) (hk : k < l.length) : l.take (k + 1) = l.take k ++ [l.getD k d] := by
  rw [List.take_succ_eq_append_getElem hk, List.getD_eq_getElem?_getD, List.getElem?_eq_getElem hk]; rfl
theorem drop_at {α : Type} (d : α) (l : List α) (k : Nat) (hk : k < l.length) : l.drop k = l.getD k d :: l.drop (k + 1) := by
  rw [List.drop_eq_getElem_cons hk, List.getD_eq_getElem?_getD, List.getElem?_eq_getElem hk]; rfl
theorem laid_succ (l : List It) (k : Nat) (hk : k < l.length) : laid (l.take (k + 1)) = laid (l.take k) ++ enc (l.getD k It.none_) := by
  rw [take_at It.none_ l k hk, laid_append]; simp [laid]
theorem laidLen_succ (l : List It) (k : Nat) (hk : k < l.length) : laidLen (l.take (k + 1)) = laidLen (l.take k) + (l.getD k It.none_).long := by
  rw [take_at It.none_ l k hk]; simp [laidLen]
theorem laidLen_le (l : List It) (k : Nat) : laidLen (l.take k) ≤ laidLen l := by
  have h : laidLen l = laidLen (l.take k) + laidLen (l.drop k) := by
    unfold laidLen
    rw [← List.sum_append, ← List.map_append, List.take_append_drop]
  omega

end Go.Proofs.YtnbaoihamjdjdaaGreatDoor.Sp
