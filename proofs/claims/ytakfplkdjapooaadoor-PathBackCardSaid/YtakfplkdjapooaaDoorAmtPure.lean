/- Plain decimals over lists of bytes: what the contracts of package amount and of the document's own answer come to; no program is named here. -/
import GoSem.Op.String
namespace Go.Proofs.YtakfplkdjapooaaDoor.Sp
open Go

def digB (d : Nat) : UInt8 := UInt8.ofNat (48 + d)
def dec (n : Nat) : List UInt8 := if n < 10 then [digB n] else dec (n / 10) ++ [digB (n % 10)]
termination_by n
decreasing_by omega
/-- The number that digits are. -/
def dval (l : List UInt8) : Nat := l.foldl (fun a b => 10 * a + (b.toNat - 48)) 0
def isDig (b : UInt8) : Prop := 48 ≤ b.toNat ∧ b.toNat ≤ 57
/-- An amount's form: digits, at least one, no 0 ahead of others. -/
def Form (l : List UInt8) : Prop := l ≠ [] ∧ (∀ b ∈ l, isDig b) ∧ (l.length = 1 ∨ l.head? ≠ some 48)

theorem digB_nat (d : Nat) (h : d < 10) : (digB d).toNat = 48 + d := by unfold digB; rw [UInt8.toNat_ofNat']; omega
theorem dec_lt (n : Nat) (h : n < 10) : dec n = [digB n] := by rw [dec, if_pos h]
theorem dec_ge (n : Nat) (h : ¬ n < 10) : dec n = dec (n / 10) ++ [digB (n % 10)] := by rw [dec, if_neg h]
theorem dval_snoc (l : List UInt8) (b : UInt8) : dval (l ++ [b]) = 10 * dval l + (b.toNat - 48) := by simp [dval]
theorem dec_ne (n : Nat) : dec n ≠ [] := by
  rw [dec]; split <;> simp
theorem dec_dig (n : Nat) : ∀ b ∈ dec n, isDig b := by
  induction n using Nat.strongRecOn with
  | _ n ih =>
    by_cases h : n < 10
    · rw [dec_lt n h]; intro b hb; simp at hb; subst hb; unfold isDig; rw [digB_nat n h]; omega
    · rw [dec_ge n h]; intro b hb
      rcases List.mem_append.1 hb with hb | hb
      · exact ih (n / 10) (by omega) b hb
      · simp at hb; subst hb; unfold isDig; rw [digB_nat _ (by omega)]; omega
theorem dval_dec (n : Nat) : dval (dec n) = n := by
  induction n using Nat.strongRecOn with
  | _ n ih =>
    by_cases h : n < 10
    · rw [dec_lt n h]; simp [dval, digB_nat n h]
    · rw [dec_ge n h, dval_snoc, ih (n / 10) (by omega), digB_nat _ (by omega)]; omega
theorem head_app {α : Type} (l m : List α) (h : l ≠ []) : (l ++ m).head? = l.head? := by
  cases l with
  | nil => exact absurd rfl h
  | cons x l => rfl
theorem dec_head (n : Nat) (h : 0 < n) : (dec n).head? ≠ some 48 := by
  induction n using Nat.strongRecOn with
  | _ n ih =>
    by_cases h1 : n < 10
    · rw [dec_lt n h1]; simp only [List.head?_cons]; intro e; injection e with e
      have := congrArg UInt8.toNat e
      rw [digB_nat n h1] at this
      have h48 : (48 : UInt8).toNat = 48 := rfl
      omega
    · rw [dec_ge n h1, head_app _ _ (dec_ne _)]; exact ih (n / 10) (by omega) (by omega)
theorem dec_form (n : Nat) : Form (dec n) := by
  refine ⟨dec_ne n, dec_dig n, ?_⟩
  rcases Nat.eq_zero_or_pos n with h | h
  · subst h; left; rw [dec_lt 0 (by omega)]; rfl
  · exact .inr (dec_head n h)
theorem digB_of (b : UInt8) (h : isDig b) : digB (b.toNat - 48) = b := by
  apply UInt8.toNat_inj.1
  unfold isDig at h
  rw [digB_nat _ (by omega)]; omega
/-- A number with digits, and no 0 ahead, is not 0. -/
theorem dval_pos (l : List UInt8) : (∀ b ∈ l, isDig b) → l ≠ [] → l.head? ≠ some 48 → 0 < dval l := by
  induction hn : l.length using Nat.strongRecOn generalizing l with
  | _ k ih =>
    intro hd hne hh
    rcases List.eq_nil_or_concat l with h | ⟨m, b, h⟩
    · exact absurd h hne
    · rw [List.concat_eq_append] at h
      subst h
      rw [dval_snoc]
      by_cases hm : m = []
      · subst hm
        have hb := hd b (by simp)
        have : b ≠ 48 := by intro e; subst e; simp at hh
        have h2 : b.toNat ≠ 48 := fun e => this (UInt8.toNat_inj.1 e)
        unfold isDig at hb; omega
      · have := ih m.length (by rw [← hn]; simp) m rfl (fun x hx => hd x (List.mem_append_left _ hx)) hm (by rwa [head_app _ _ hm] at hh)
        omega
theorem dec_dval (l : List UInt8) : Form l → dec (dval l) = l := by
  induction hn : l.length using Nat.strongRecOn generalizing l with
  | _ k ih =>
    rintro ⟨hne, hd, hh⟩
    rcases List.eq_nil_or_concat l with h | ⟨m, b, h⟩
    · exact absurd h hne
    · rw [List.concat_eq_append] at h
      subst h
      have hb := hd b (by simp)
      have hb' := hb
      unfold isDig at hb'
      rw [dval_snoc]
      by_cases hm : m = []
      · subst hm
        rw [dec_lt _ (by simp [dval]; omega)]
        simp [dval, digB_of b hb]
      · have hl : (m ++ [b]).length ≠ 1 := by
          intro e; rw [List.length_append] at e
          exact hm (List.eq_nil_of_length_eq_zero (by simpa using e))
        have hh' : m.head? ≠ some 48 := by
          rcases hh with h | h
          · exact absurd h hl
          · rwa [head_app _ _ hm] at h
        have hdm : ∀ x ∈ m, isDig x := fun x hx => hd x (List.mem_append_left _ hx)
        have hpos := dval_pos m hdm hm hh'
        rw [dec_ge _ (by omega)]
        have e1 : (10 * dval m + (b.toNat - 48)) / 10 = dval m := by omega
        have e2 : (10 * dval m + (b.toNat - 48)) % 10 = b.toNat - 48 := by omega
        rw [e1, e2, digB_of b hb, ih m.length (by rw [← hn]; simp) m rfl ⟨hm, hdm, .inr hh'⟩]
theorem dec_inj {a b : Nat} (h : dec a = dec b) : a = b := by rw [← dval_dec a, ← dval_dec b, h]
theorem dval_lt (l : List UInt8) (hd : ∀ b ∈ l, isDig b) : dval l < 10 ^ l.length := by
  induction hn : l.length using Nat.strongRecOn generalizing l with
  | _ k ih =>
    rcases List.eq_nil_or_concat l with h | ⟨m, b, h⟩
    · subst h; simp [dval] at hn ⊢; subst hn; simp
    · rw [List.concat_eq_append] at h
      subst h
      have h1 := ih m.length (by rw [← hn]; simp) m (fun x hx => hd x (List.mem_append_left _ hx)) rfl
      have hb := hd b (by simp)
      unfold isDig at hb
      rw [dval_snoc, ← hn, List.length_append, List.length_singleton, Nat.pow_succ]
      omega
theorem dec_len (n k : Nat) (hk : 0 < k) : (dec n).length ≤ k ↔ n < 10 ^ k := by
  constructor
  · intro h
    have h1 := dval_lt (dec n) (dec_dig n)
    rw [dval_dec] at h1
    exact Nat.lt_of_lt_of_le h1 (Nat.pow_le_pow_right (by omega) h)
  · induction k generalizing n with
    | zero => omega
    | succ k ih =>
      intro h
      by_cases h1 : n < 10
      · rw [dec_lt n h1]; simp
      · rw [dec_ge n h1, List.length_append, List.length_singleton]
        rcases Nat.eq_zero_or_pos k with h0 | h0
        · subst h0; omega
        · have := ih (n / 10) h0 (by rw [Nat.pow_succ] at h; omega)
          omega
theorem dec_len_mono {a b : Nat} (h : a ≤ b) : (dec a).length ≤ (dec b).length := by
  have hb : 0 < (dec b).length := List.length_pos_iff.2 (dec_ne b)
  exact (dec_len a _ hb).2 (Nat.lt_of_le_of_lt h ((dec_len b _ hb).1 (Nat.le_refl _)))
theorem dec_len_pos (n : Nat) : 1 ≤ (dec n).length := List.length_pos_iff.2 (dec_ne n)

theorem dval_fold (l : List UInt8) : ∀ a, l.foldl (fun a b => 10 * a + (b.toNat - 48)) a = a * 10 ^ l.length + dval l := by
  induction l with
  | nil => intro a; simp [dval]
  | cons x l ih =>
    intro a
    have h1 := ih (10 * a + (x.toNat - 48))
    have h2 := ih (10 * 0 + (x.toNat - 48))
    simp only [dval, List.foldl_cons, List.length_cons] at h1 h2 ⊢
    rw [h1, h2, Nat.pow_succ, Nat.add_mul, Nat.mul_zero, Nat.zero_add, Nat.mul_comm 10 a, Nat.mul_assoc, Nat.mul_comm 10]
    omega
theorem dval_cons (x : UInt8) (l : List UInt8) : dval (x :: l) = (x.toNat - 48) * 10 ^ l.length + dval l := by
  have := dval_fold l (10 * 0 + (x.toNat - 48))
  simp only [dval, List.foldl_cons] at this ⊢
  rw [this, Nat.mul_zero, Nat.zero_add]
theorem less_dval : ∀ (l m : List UInt8), (∀ b ∈ l, isDig b) → (∀ b ∈ m, isDig b) → l.length = m.length → Op.bytesLess l m = decide (dval l < dval m) := by
  intro l
  induction l with
  | nil => intro m _ _ h; have : m = [] := List.eq_nil_of_length_eq_zero h.symm
           subst this; rfl
  | cons x l ih =>
    intro m hl hm h
    cases m with
    | nil => simp at h
    | cons y m =>
      have hlen : l.length = m.length := by simpa using h
      have ih' := ih m (fun b hb => hl b (List.mem_cons_of_mem _ hb)) (fun b hb => hm b (List.mem_cons_of_mem _ hb)) hlen
      have hx := hl x (List.mem_cons_self ..)
      have hy := hm y (List.mem_cons_self ..)
      unfold isDig at hx hy
      have d1 := dval_lt l (fun b hb => hl b (List.mem_cons_of_mem _ hb))
      have d2 := dval_lt m (fun b hb => hm b (List.mem_cons_of_mem _ hb))
      rw [dval_cons, dval_cons, ← hlen]
      rw [← hlen] at d2
      simp only [Op.bytesLess, ih']
      have e1 : (x < y) ↔ x.toNat < y.toNat := UInt8.lt_iff_toNat_lt
      have e2 : (x = y) ↔ x.toNat = y.toNat := UInt8.toNat_inj.symm
      rw [Bool.eq_iff_iff]
      simp only [Bool.or_eq_true, Bool.and_eq_true, decide_eq_true_iff, beq_iff_eq, e1, e2]
      generalize 10 ^ l.length = M at *
      generalize dval l = u at *
      generalize dval m = v at *
      obtain ⟨p, hp⟩ : ∃ p, x.toNat = 48 + p := ⟨x.toNat - 48, by omega⟩
      obtain ⟨q, hq⟩ : ∃ q, y.toNat = 48 + q := ⟨y.toNat - 48, by omega⟩
      rw [hp, hq, Nat.add_sub_cancel_left, Nat.add_sub_cancel_left]
      constructor
      · rintro (h | ⟨h, h'⟩)
        · have : (p + 1) * M ≤ q * M := Nat.mul_le_mul_right _ (by omega)
          rw [Nat.add_mul] at this; omega
        · obtain rfl : p = q := by omega
          omega
      · intro h
        rcases Nat.lt_trichotomy p q with hpq | hpq | hpq
        · exact .inl (by omega)
        · subst hpq; exact .inr ⟨rfl, by omega⟩
        · have : (q + 1) * M ≤ p * M := Nat.mul_le_mul_right _ hpq
          rw [Nat.add_mul] at this; omega
/-- Decimals in order. -/
theorem dec_order (a b : Nat) : ((dec a).length < (dec b).length ∨ (dec a).length = (dec b).length ∧ Op.bytesLess (dec a) (dec b) = true) ↔ a < b := by
  constructor
  · rintro (h | ⟨h, h2⟩)
    · rcases Nat.lt_or_ge a b with h3 | h3
      · exact h3
      · have := dec_len_mono h3; omega
    · rw [less_dval _ _ (dec_dig a) (dec_dig b) h, decide_eq_true_iff, dval_dec, dval_dec] at h2; exact h2
  · intro h
    have h1 := dec_len_mono (Nat.le_of_lt h)
    rcases Nat.lt_or_ge (dec a).length (dec b).length with h3 | h3
    · exact .inl h3
    · refine .inr ⟨by omega, ?_⟩
      rw [less_dval _ _ (dec_dig a) (dec_dig b) (by omega), decide_eq_true_iff, dval_dec, dval_dec]; exact h

end Go.Proofs.YtakfplkdjapooaaDoor.Sp
