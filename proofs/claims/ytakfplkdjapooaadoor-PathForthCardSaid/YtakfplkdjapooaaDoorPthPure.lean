/- Plain paths over lists of bytes: the texts of paths, that unlike ones have unlike texts, and what Parse must answer; no program is named here. -/
import Derived.Test.YtakfplkdjapooaaDoorAmtPure
namespace Go.Proofs.YtakfplkdjapooaaDoor.Sp
open Go

def wA : Nat → List UInt8
  | 1 => [99, 108, 105, 101, 110, 116, 115, 47]
  | 2 => [99, 108, 105, 101, 110, 116, 115, 47]
  | 3 => [99, 111, 110, 110, 101, 99, 116, 105, 111, 110, 115, 47]
  | 4 => [99, 104, 97, 110, 110, 101, 108, 69, 110, 100, 115, 47, 99, 104, 97, 110, 110, 101, 108, 115, 47]
  | 5 => [99, 111, 109, 109, 105, 116, 109, 101, 110, 116, 115, 47, 99, 104, 97, 110, 110, 101, 108, 115, 47]
  | 6 => [114, 101, 99, 101, 105, 112, 116, 115, 47, 99, 104, 97, 110, 110, 101, 108, 115, 47]
  | 7 => [97, 99, 107, 115, 47, 99, 104, 97, 110, 110, 101, 108, 115, 47]
  | 8 => [110, 101, 120, 116, 83, 101, 113, 117, 101, 110, 99, 101, 82, 101, 99, 118, 47, 99, 104, 97, 110, 110, 101, 108, 115, 47]
  | _ => []
def wB : Nat → List UInt8
  | 1 => [47, 99, 108, 105, 101, 110, 116, 83, 116, 97, 116, 101]
  | 2 => [47, 99, 111, 110, 115, 101, 110, 115, 117, 115, 83, 116, 97, 116, 101, 115, 47]
  | 5 => [47, 115, 101, 113, 117, 101, 110, 99, 101, 115, 47]
  | 6 => [47, 115, 101, 113, 117, 101, 110, 99, 101, 115, 47]
  | 7 => [47, 115, 101, 113, 117, 101, 110, 99, 101, 115, 47]
  | _ => []
/-- Whether a kind's text holds B. -/
def two (k : Nat) : Bool := k == 2 || k == 5 || k == 6 || k == 7
/-- The text of a path. -/
def ptext (k a b : Nat) : List UInt8 := wA k ++ (dec a ++ (wB k ++ if two k then dec b else []))
/-- A path that has a text. -/
def Valid (k a b : Nat) : Prop := 1 ≤ k ∧ k ≤ 8 ∧ a < 18446744073709551616 ∧ b < 18446744073709551616 ∧ (two k = true ∨ b = 0)

/-- What begins with no digit. -/
def NoDig (l : List UInt8) : Prop := ∀ b, l.head? = some b → ¬ isDig b
theorem digits_part : ∀ (d e x y : List UInt8), (∀ b ∈ d, isDig b) → (∀ b ∈ e, isDig b) → NoDig x → NoDig y → d ++ x = e ++ y → d = e ∧ x = y
  | [], [], x, y, _, _, _, _, h => ⟨rfl, h⟩
  | [], c :: e, x, y, _, he, hx, _, h => by
    have : x = (c :: e) ++ y := h
    exact absurd (he c (List.mem_cons_self ..)) (hx c (by rw [this]; rfl))
  | c :: d, [], x, y, hd, _, _, hy, h => by
    have : (c :: d) ++ x = y := h
    exact absurd (hd c (List.mem_cons_self ..)) (hy c (by rw [← this]; rfl))
  | c :: d, c' :: e, x, y, hd, he, hx, hy, h => by
    rw [List.cons_append, List.cons_append] at h
    injection h with h1 h2
    obtain ⟨h3, h4⟩ := digits_part d e x y (fun b hb => hd b (List.mem_cons_of_mem _ hb)) (fun b hb => he b (List.mem_cons_of_mem _ hb)) hx hy h2
    exact ⟨by rw [h1, h3], h4⟩
theorem dec_part {a a' : Nat} {x y : List UInt8} (hx : NoDig x) (hy : NoDig y) (h : dec a ++ x = dec a' ++ y) : a = a' ∧ x = y := by
  obtain ⟨h1, h2⟩ := digits_part _ _ x y (dec_dig a) (dec_dig a') hx hy h
  exact ⟨dec_inj h1, h2⟩
theorem noDig_nil : NoDig [] := by intro b h; cases h
theorem slash_no : ¬ isDig 47 := by unfold isDig; decide
theorem noDig_cons (l : List UInt8) : NoDig (47 :: l) := by
  intro b h; injection h with h; subst h; exact slash_no
theorem tail_no (k b : Nat) (h1 : 1 ≤ k) (h8 : k ≤ 8) : NoDig (wB k ++ if two k then dec b else []) := by
  match k, h1, h8 with
  | 1, _, _ => exact noDig_cons _
  | 2, _, _ => exact noDig_cons _
  | 3, _, _ => exact noDig_nil
  | 4, _, _ => exact noDig_nil
  | 5, _, _ => exact noDig_cons _
  | 6, _, _ => exact noDig_cons _
  | 7, _, _ => exact noDig_cons _
  | 8, _, _ => exact noDig_nil

theorem ptext_same (k a b a' b' : Nat) (h : Valid k a b) (h' : Valid k a' b') (e : ptext k a b = ptext k a' b') : a = a' ∧ b = b' := by
  obtain ⟨h1, h8, _, _, hb⟩ := h
  obtain ⟨_, _, _, _, hb'⟩ := h'
  have e1 := List.append_cancel_left e
  obtain ⟨ha, e2⟩ := dec_part (tail_no k b h1 h8) (tail_no k b' h1 h8) e1
  have e3 := List.append_cancel_left e2
  refine ⟨ha, ?_⟩
  cases ht : two k with
  | true => rw [ht, if_pos rfl, if_pos rfl] at e3; exact dec_inj e3
  | false =>
    rw [ht] at hb hb'
    rw [hb.resolve_left (by decide), hb'.resolve_left (by decide)]
theorem ne_of_take {l m : List UInt8} (n : Nat) (h : l.take n ≠ m.take n) : l ≠ m := fun e => h (by rw [e])
theorem take_word {w x : List UInt8} (n : Nat) (h : n ≤ w.length) : (w ++ x).take n = w.take n := by
  rw [List.take_append_of_le_length h]
theorem kinds_12 (a b a' b' : Nat) : ptext 1 a b ≠ ptext 2 a' b' := by
  intro e
  have e1 : dec a ++ (wB 1 ++ if two 1 then dec b else []) = dec a' ++ (wB 2 ++ if two 2 then dec b' else []) := List.append_cancel_left (as := wA 1) e
  obtain ⟨_, e2⟩ := dec_part (tail_no 1 b (by omega) (by omega)) (tail_no 2 b' (by omega) (by omega)) e1
  have e3 := congrArg (List.take 3) e2
  rw [take_word 3 (by decide), take_word 3 (by decide)] at e3
  exact absurd e3 (by decide)
/-- Words that part at their second, or first, byte. -/
def far (k k' : Nat) : Bool := (wA k).take 2 != (wA k').take 2 || (wA k).take 3 != (wA k').take 3 || (wA k).take 4 != (wA k').take 4
theorem long4 (k : Nat) (h1 : 1 ≤ k) (h8 : k ≤ 8) : 4 ≤ (wA k).length := by
  have : ∀ m : Fin 9, 1 ≤ m.val → 4 ≤ (wA m.val).length := by decide
  exact this ⟨k, by omega⟩ h1
theorem kinds_far (k k' a b a' b' : Nat) (hk : 4 ≤ (wA k).length) (hk' : 4 ≤ (wA k').length) (h : far k k' = true) : ptext k a b ≠ ptext k' a' b' := by
  intro e
  have t : ∀ n, n ≤ 4 → (wA k).take n = (wA k').take n := fun n hn => by
    have e1 := congrArg (List.take n) e
    unfold ptext at e1
    rw [take_word n (by omega), take_word n (by omega)] at e1
    exact e1
  unfold far at h
  rw [t 2 (by omega), t 3 (by omega), t 4 (by omega)] at h
  simp at h
theorem kinds_apart : ∀ k k' : Fin 9, 1 ≤ k.val → 1 ≤ k'.val → k ≠ k' → far k.val k'.val = true ∨ (k.val = 1 ∧ k'.val = 2) ∨ (k.val = 2 ∧ k'.val = 1) := by decide
theorem ptext_inj (k a b k' a' b' : Nat) (h : Valid k a b) (h' : Valid k' a' b') (e : ptext k a b = ptext k' a' b') : k = k' ∧ a = a' ∧ b = b' := by
  by_cases hk : k = k'
  · subst hk; exact ⟨rfl, ptext_same k a b a' b' h h' e⟩
  · exfalso
    have hl := long4 k h.1 h.2.1
    have hl' := long4 k' h'.1 h'.2.1
    rcases kinds_apart ⟨k, by have := h.2.1; omega⟩ ⟨k', by have := h'.2.1; omega⟩ h.1 h'.1 (by intro e'; injection e' with e'; exact hk e') with hf | ⟨h1, h2⟩ | ⟨h1, h2⟩
    · exact kinds_far k k' a b a' b' hl hl' hf e
    · simp only at h1 h2; subst h1; subst h2; exact kinds_12 a b a' b' e
    · simp only at h1 h2; subst h1; subst h2; exact kinds_12 a' b' a b e.symm

/-- What Parse must answer at a text. -/
def Found (s : List UInt8) (k a b : Nat) (E : Int) : Prop :=
  (E = 0 ∧ Valid k a b ∧ ptext k a b = s) ∨ (E = 40 ∧ k = 0 ∧ a = 0 ∧ b = 0 ∧ ∀ k' a' b', Valid k' a' b' → ptext k' a' b' ≠ s)
theorem found_one {s : List UInt8} {k a b k' a' b' : Nat} {E E' : Int} (h : Found s k a b E) (h' : Found s k' a' b' E') : k = k' ∧ a = a' ∧ b = b' ∧ E = E' := by
  rcases h with ⟨rfl, hv, e⟩ | ⟨rfl, rfl, rfl, rfl, hn⟩
  · rcases h' with ⟨rfl, hv', e'⟩ | ⟨rfl, rfl, rfl, rfl, hn'⟩
    · obtain ⟨h1, h2, h3⟩ := ptext_inj k a b k' a' b' hv hv' (e.trans e'.symm)
      exact ⟨h1, h2, h3, rfl⟩
    · exact absurd e (hn' k a b hv)
  · rcases h' with ⟨rfl, hv', e'⟩ | ⟨rfl, rfl, rfl, rfl, _⟩
    · exact absurd e' (hn k' a' b' hv')
    · exact ⟨rfl, rfl, rfl, rfl⟩
theorem ptext_ne (k a b : Nat) : ptext k a b ≠ [] := by
  unfold ptext
  intro h
  rw [List.append_eq_nil_iff, List.append_eq_nil_iff] at h
  exact dec_ne a h.2.1
theorem word_len (k : Nat) : (wA k).length ≤ 26 ∧ (wB k).length ≤ 17 := by
  have : ∀ m : Fin 9, (wA m.val).length ≤ 26 ∧ (wB m.val).length ≤ 17 := by decide
  by_cases h : k < 9
  · exact this ⟨k, h⟩
  · match k, h with
    | n + 9, _ => exact ⟨Nat.zero_le _, Nat.zero_le _⟩
theorem ptext_len (k a b : Nat) (ha : a < 18446744073709551616) (hb : b < 18446744073709551616) : (ptext k a b).length ≤ 83 := by
  have h1 := (dec_len a 20 (by omega)).2 (Nat.lt_trans ha (by decide))
  have h2 := (dec_len b 20 (by omega)).2 (Nat.lt_trans hb (by decide))
  have h3 := word_len k
  unfold ptext
  rw [List.length_append, List.length_append, List.length_append]
  split
  · omega
  · simp only [List.length_nil]; omega
end Go.Proofs.YtakfplkdjapooaaDoor.Sp
