/- Package path, plain: elements find in a text the numbers of the path whose text it is, and no other text fits. -/
import Derived.Test.YtakfplkdjapooaaDoorPthPas
namespace Go.Proofs.YtakfplkdjapooaaDoor.Sp
open Go Go.RowKit

theorem parE_nil : parE [] ≠ 0 := by decide
theorem par_num {t : List UInt8} (h : parE t = 0) : dec (parN t) = t := by
  unfold parE valE at h
  unfold parN valN
  split at h
  · rename_i hf
    split at h
    · rename_i hv
      rw [if_pos hf, if_pos hv]
      exact dec_dval t hf
    · exact absurd h (by decide)
  · exact absurd h (by decide)
theorem par_dec {n : Nat} (h : n < 18446744073709551616) : parE (dec n) = 0 ∧ parN (dec n) = n := by
  have hf := dec_form n
  rw [parN, parE, if_pos hf, if_pos hf, valN, valE, dval_dec, if_pos h, if_pos h]
  exact ⟨rfl, rfl⟩
theorem dec_no47 (n : Nat) : 47 ∉ dec n := fun h => slash_no (dec_dig n 47 h)

theorem go_mid {e e' : Nat × List UInt8} {l : List (Nat × List UInt8)} {s : List UInt8} {m : Bool} {a b a' b' : Nat} (he : e.1 ≠ 0) (he' : e'.1 ≠ 0) (hw : e'.1 = 1 → e'.2 ≠ [])
    (h : goEls (e :: e' :: l) s m a b = some (a', b', false)) : ∃ t r, s = t ++ 47 :: r ∧ okEl e t ∧ goEls (e' :: l) r true (updA e t a) (updB e t b) = some (a', b', false) := by
  rw [goEls, if_neg he] at h
  split at h
  · rename_i ho
    cases hm : cutM s with
    | true =>
      rw [hm] at h
      exact ⟨cutA s, cutR s, ((cut_one s).1 hm).1, ho, h⟩
    | false =>
      obtain ⟨_, h2, _⟩ := (cut_one s).2 hm
      rw [hm, h2, goEls, if_neg he'] at h
      split at h
      · rename_i ho'
        exfalso
        unfold okEl at ho'
        split at ho'
        · rename_i h1; exact hw h1 ho'.symm
        · exact parE_nil ho'
      · cases h
  · cases h
/-- Behind the last element. -/
def Last (l : List (Nat × List UInt8)) : Prop := ∀ r m a b, goEls l r m a b = some (a, b, m)
theorem last_nil : Last [] := fun _ _ _ _ => rfl
theorem last_zero (x : List UInt8) (l : List (Nat × List UInt8)) : Last ((0, x) :: l) := fun _ _ _ _ => rfl
theorem go_end {e : Nat × List UInt8} {l : List (Nat × List UInt8)} {s : List UInt8} {m : Bool} {a b a' b' : Nat} (he : e.1 ≠ 0) (hl : Last l)
    (h : goEls (e :: l) s m a b = some (a', b', false)) : okEl e s ∧ a' = updA e s a ∧ b' = updB e s b := by
  rw [goEls, if_neg he] at h
  split at h
  · rename_i ho
    rw [hl] at h
    injection h with h
    injection h with h1 h
    injection h with h2 h3
    obtain ⟨h4, _, _⟩ := (cut_one s).2 h3
    rw [h4] at ho h1 h2
    exact ⟨ho, h1.symm, h2.symm⟩
  · cases h
theorem go_mid_ (e : Nat × List UInt8) (l : List (Nat × List UInt8)) (t r : List UInt8) (m : Bool) (a b : Nat) (he : e.1 ≠ 0) (h7 : 47 ∉ t) (ho : okEl e t) :
    goEls (e :: l) (t ++ 47 :: r) m a b = goEls l r true (updA e t a) (updB e t b) := by
  obtain ⟨h1, h2, h3⟩ := cut_at t r h7
  rw [goEls, if_neg he, h1, h2, h3, if_pos ho]
theorem go_end_ (e : Nat × List UInt8) (l : List (Nat × List UInt8)) (t : List UInt8) (m : Bool) (a b : Nat) (he : e.1 ≠ 0) (hl : Last l) (h7 : 47 ∉ t) (ho : okEl e t) :
    goEls (e :: l) t m a b = some (updA e t a, updB e t b, false) := by
  obtain ⟨h1, h2, h3⟩ := cut_end t h7
  rw [goEls, if_neg he, h1, h2, h3, if_pos ho, hl]

theorem go_sound (k a b : Nat) (s : List UInt8) (h1 : 1 ≤ k) (h8 : k ≤ 8) (h : goEls (els k) s true 0 0 = some (a, b, false)) : Valid k a b ∧ ptext k a b = s := by
  match k, h1, h8 with
  | 1, _, _ =>
    obtain ⟨t1, r1, rfl, o1, h⟩ := go_mid (by decide) (by decide) (by decide) h
    obtain ⟨t2, r2, rfl, o2, h⟩ := go_mid (by decide) (by decide) (by decide) h
    obtain ⟨o3, ra, rb⟩ := go_end (by decide) (last_zero _ _) h
    have ea : a = parN t2 := ra
    have eb : b = 0 := rb
    clear ra rb h
    obtain rfl : t1 = [99, 108, 105, 101, 110, 116, 115] := o1
    have p2 : dec (parN t2) = t2 := par_num o2
    obtain rfl : r2 = [99, 108, 105, 101, 110, 116, 83, 116, 97, 116, 101] := o3
    subst ea; subst eb
    refine ⟨⟨by omega, by omega, par_lt _, by decide, .inr rfl⟩, ?_⟩
    simp [ptext, wA, wB, two, p2]
  | 2, _, _ =>
    obtain ⟨t1, r1, rfl, o1, h⟩ := go_mid (by decide) (by decide) (by decide) h
    obtain ⟨t2, r2, rfl, o2, h⟩ := go_mid (by decide) (by decide) (by decide) h
    obtain ⟨t3, r3, rfl, o3, h⟩ := go_mid (by decide) (by decide) (by decide) h
    obtain ⟨o4, ra, rb⟩ := go_end (by decide) (last_zero _ _) h
    have ea : a = parN t2 := ra
    have eb : b = parN r3 := rb
    clear ra rb h
    obtain rfl : t1 = [99, 108, 105, 101, 110, 116, 115] := o1
    have p2 : dec (parN t2) = t2 := par_num o2
    obtain rfl : t3 = [99, 111, 110, 115, 101, 110, 115, 117, 115, 83, 116, 97, 116, 101, 115] := o3
    have p4 : dec (parN r3) = r3 := par_num o4
    subst ea; subst eb
    refine ⟨⟨by omega, by omega, par_lt _, par_lt _, .inl rfl⟩, ?_⟩
    simp [ptext, wA, wB, two, p2, p4]
  | 3, _, _ =>
    obtain ⟨t1, r1, rfl, o1, h⟩ := go_mid (by decide) (by decide) (by decide) h
    obtain ⟨o2, ra, rb⟩ := go_end (by decide) (last_zero _ _) h
    have ea : a = parN r1 := ra
    have eb : b = 0 := rb
    clear ra rb h
    obtain rfl : t1 = [99, 111, 110, 110, 101, 99, 116, 105, 111, 110, 115] := o1
    have p2 : dec (parN r1) = r1 := par_num o2
    subst ea; subst eb
    refine ⟨⟨by omega, by omega, par_lt _, by decide, .inr rfl⟩, ?_⟩
    simp [ptext, wA, wB, two, p2]
  | 4, _, _ =>
    obtain ⟨t1, r1, rfl, o1, h⟩ := go_mid (by decide) (by decide) (by decide) h
    obtain ⟨t2, r2, rfl, o2, h⟩ := go_mid (by decide) (by decide) (by decide) h
    obtain ⟨o3, ra, rb⟩ := go_end (by decide) (last_zero _ _) h
    have ea : a = parN r2 := ra
    have eb : b = 0 := rb
    clear ra rb h
    obtain rfl : t1 = [99, 104, 97, 110, 110, 101, 108, 69, 110, 100, 115] := o1
    obtain rfl : t2 = [99, 104, 97, 110, 110, 101, 108, 115] := o2
    have p3 : dec (parN r2) = r2 := par_num o3
    subst ea; subst eb
    refine ⟨⟨by omega, by omega, par_lt _, by decide, .inr rfl⟩, ?_⟩
    simp [ptext, wA, wB, two, p3]
  | 5, _, _ =>
    obtain ⟨t1, r1, rfl, o1, h⟩ := go_mid (by decide) (by decide) (by decide) h
    obtain ⟨t2, r2, rfl, o2, h⟩ := go_mid (by decide) (by decide) (by decide) h
    obtain ⟨t3, r3, rfl, o3, h⟩ := go_mid (by decide) (by decide) (by decide) h
    obtain ⟨t4, r4, rfl, o4, h⟩ := go_mid (by decide) (by decide) (by decide) h
    obtain ⟨o5, ra, rb⟩ := go_end (by decide) last_nil h
    have ea : a = parN t3 := ra
    have eb : b = parN r4 := rb
    clear ra rb h
    obtain rfl : t1 = [99, 111, 109, 109, 105, 116, 109, 101, 110, 116, 115] := o1
    obtain rfl : t2 = [99, 104, 97, 110, 110, 101, 108, 115] := o2
    have p3 : dec (parN t3) = t3 := par_num o3
    obtain rfl : t4 = [115, 101, 113, 117, 101, 110, 99, 101, 115] := o4
    have p5 : dec (parN r4) = r4 := par_num o5
    subst ea; subst eb
    refine ⟨⟨by omega, by omega, par_lt _, par_lt _, .inl rfl⟩, ?_⟩
    simp [ptext, wA, wB, two, p3, p5]
  | 6, _, _ =>
    obtain ⟨t1, r1, rfl, o1, h⟩ := go_mid (by decide) (by decide) (by decide) h
    obtain ⟨t2, r2, rfl, o2, h⟩ := go_mid (by decide) (by decide) (by decide) h
    obtain ⟨t3, r3, rfl, o3, h⟩ := go_mid (by decide) (by decide) (by decide) h
    obtain ⟨t4, r4, rfl, o4, h⟩ := go_mid (by decide) (by decide) (by decide) h
    obtain ⟨o5, ra, rb⟩ := go_end (by decide) last_nil h
    have ea : a = parN t3 := ra
    have eb : b = parN r4 := rb
    clear ra rb h
    obtain rfl : t1 = [114, 101, 99, 101, 105, 112, 116, 115] := o1
    obtain rfl : t2 = [99, 104, 97, 110, 110, 101, 108, 115] := o2
    have p3 : dec (parN t3) = t3 := par_num o3
    obtain rfl : t4 = [115, 101, 113, 117, 101, 110, 99, 101, 115] := o4
    have p5 : dec (parN r4) = r4 := par_num o5
    subst ea; subst eb
    refine ⟨⟨by omega, by omega, par_lt _, par_lt _, .inl rfl⟩, ?_⟩
    simp [ptext, wA, wB, two, p3, p5]
  | 7, _, _ =>
    obtain ⟨t1, r1, rfl, o1, h⟩ := go_mid (by decide) (by decide) (by decide) h
    obtain ⟨t2, r2, rfl, o2, h⟩ := go_mid (by decide) (by decide) (by decide) h
    obtain ⟨t3, r3, rfl, o3, h⟩ := go_mid (by decide) (by decide) (by decide) h
    obtain ⟨t4, r4, rfl, o4, h⟩ := go_mid (by decide) (by decide) (by decide) h
    obtain ⟨o5, ra, rb⟩ := go_end (by decide) last_nil h
    have ea : a = parN t3 := ra
    have eb : b = parN r4 := rb
    clear ra rb h
    obtain rfl : t1 = [97, 99, 107, 115] := o1
    obtain rfl : t2 = [99, 104, 97, 110, 110, 101, 108, 115] := o2
    have p3 : dec (parN t3) = t3 := par_num o3
    obtain rfl : t4 = [115, 101, 113, 117, 101, 110, 99, 101, 115] := o4
    have p5 : dec (parN r4) = r4 := par_num o5
    subst ea; subst eb
    refine ⟨⟨by omega, by omega, par_lt _, par_lt _, .inl rfl⟩, ?_⟩
    simp [ptext, wA, wB, two, p3, p5]
  | 8, _, _ =>
    obtain ⟨t1, r1, rfl, o1, h⟩ := go_mid (by decide) (by decide) (by decide) h
    obtain ⟨t2, r2, rfl, o2, h⟩ := go_mid (by decide) (by decide) (by decide) h
    obtain ⟨o3, ra, rb⟩ := go_end (by decide) (last_zero _ _) h
    have ea : a = parN r2 := ra
    have eb : b = 0 := rb
    clear ra rb h
    obtain rfl : t1 = [110, 101, 120, 116, 83, 101, 113, 117, 101, 110, 99, 101, 82, 101, 99, 118] := o1
    obtain rfl : t2 = [99, 104, 97, 110, 110, 101, 108, 115] := o2
    have p3 : dec (parN r2) = r2 := par_num o3
    subst ea; subst eb
    refine ⟨⟨by omega, by omega, par_lt _, by decide, .inr rfl⟩, ?_⟩
    simp [ptext, wA, wB, two, p3]
theorem go_whole (k a b : Nat) (hv : Valid k a b) : goEls (els k) (ptext k a b) true 0 0 = some (a, b, false) := by
  obtain ⟨h1, h8, ha, hb, ht⟩ := hv
  obtain ⟨pa, pa'⟩ := par_dec ha
  obtain ⟨pb, pb'⟩ := par_dec hb
  match k, h1, h8 with
  | 1, _, _ =>
    have e : ptext 1 a b = [99, 108, 105, 101, 110, 116, 115] ++ 47 :: (dec a ++ 47 :: ([99, 108, 105, 101, 110, 116, 83, 116, 97, 116, 101])) := by simp [ptext, wA, wB, two]
    rw [e, els, go_mid_ (1, [99, 108, 105, 101, 110, 116, 115]) _ ([99, 108, 105, 101, 110, 116, 115]) _ _ _ _ (by decide) (by decide) rfl, go_mid_ (2, []) _ (dec a) _ _ _ _ (by decide) (dec_no47 a) pa, go_end_ (1, [99, 108, 105, 101, 110, 116, 83, 116, 97, 116, 101]) _ ([99, 108, 105, 101, 110, 116, 83, 116, 97, 116, 101]) _ _ _ (by decide) (last_zero _ _) (by decide) rfl]
    obtain rfl := ht.resolve_left (by decide)
    simp [updA, updB, pa']
  | 2, _, _ =>
    have e : ptext 2 a b = [99, 108, 105, 101, 110, 116, 115] ++ 47 :: (dec a ++ 47 :: ([99, 111, 110, 115, 101, 110, 115, 117, 115, 83, 116, 97, 116, 101, 115] ++ 47 :: (dec b))) := by simp [ptext, wA, wB, two]
    rw [e, els, go_mid_ (1, [99, 108, 105, 101, 110, 116, 115]) _ ([99, 108, 105, 101, 110, 116, 115]) _ _ _ _ (by decide) (by decide) rfl, go_mid_ (2, []) _ (dec a) _ _ _ _ (by decide) (dec_no47 a) pa, go_mid_ (1, [99, 111, 110, 115, 101, 110, 115, 117, 115, 83, 116, 97, 116, 101, 115]) _ ([99, 111, 110, 115, 101, 110, 115, 117, 115, 83, 116, 97, 116, 101, 115]) _ _ _ _ (by decide) (by decide) rfl, go_end_ (3, []) _ (dec b) _ _ _ (by decide) (last_zero _ _) (dec_no47 b) pb]
    simp [updA, updB, pa', pb']
  | 3, _, _ =>
    have e : ptext 3 a b = [99, 111, 110, 110, 101, 99, 116, 105, 111, 110, 115] ++ 47 :: (dec a) := by simp [ptext, wA, wB, two]
    rw [e, els, go_mid_ (1, [99, 111, 110, 110, 101, 99, 116, 105, 111, 110, 115]) _ ([99, 111, 110, 110, 101, 99, 116, 105, 111, 110, 115]) _ _ _ _ (by decide) (by decide) rfl, go_end_ (2, []) _ (dec a) _ _ _ (by decide) (last_zero _ _) (dec_no47 a) pa]
    obtain rfl := ht.resolve_left (by decide)
    simp [updA, updB, pa']
  | 4, _, _ =>
    have e : ptext 4 a b = [99, 104, 97, 110, 110, 101, 108, 69, 110, 100, 115] ++ 47 :: ([99, 104, 97, 110, 110, 101, 108, 115] ++ 47 :: (dec a)) := by simp [ptext, wA, wB, two]
    rw [e, els, go_mid_ (1, [99, 104, 97, 110, 110, 101, 108, 69, 110, 100, 115]) _ ([99, 104, 97, 110, 110, 101, 108, 69, 110, 100, 115]) _ _ _ _ (by decide) (by decide) rfl, go_mid_ (1, [99, 104, 97, 110, 110, 101, 108, 115]) _ ([99, 104, 97, 110, 110, 101, 108, 115]) _ _ _ _ (by decide) (by decide) rfl, go_end_ (2, []) _ (dec a) _ _ _ (by decide) (last_zero _ _) (dec_no47 a) pa]
    obtain rfl := ht.resolve_left (by decide)
    simp [updA, updB, pa']
  | 5, _, _ =>
    have e : ptext 5 a b = [99, 111, 109, 109, 105, 116, 109, 101, 110, 116, 115] ++ 47 :: ([99, 104, 97, 110, 110, 101, 108, 115] ++ 47 :: (dec a ++ 47 :: ([115, 101, 113, 117, 101, 110, 99, 101, 115] ++ 47 :: (dec b)))) := by simp [ptext, wA, wB, two]
    rw [e, els, go_mid_ (1, [99, 111, 109, 109, 105, 116, 109, 101, 110, 116, 115]) _ ([99, 111, 109, 109, 105, 116, 109, 101, 110, 116, 115]) _ _ _ _ (by decide) (by decide) rfl, go_mid_ (1, [99, 104, 97, 110, 110, 101, 108, 115]) _ ([99, 104, 97, 110, 110, 101, 108, 115]) _ _ _ _ (by decide) (by decide) rfl, go_mid_ (2, []) _ (dec a) _ _ _ _ (by decide) (dec_no47 a) pa, go_mid_ (1, [115, 101, 113, 117, 101, 110, 99, 101, 115]) _ ([115, 101, 113, 117, 101, 110, 99, 101, 115]) _ _ _ _ (by decide) (by decide) rfl, go_end_ (3, []) _ (dec b) _ _ _ (by decide) last_nil (dec_no47 b) pb]
    simp [updA, updB, pa', pb']
  | 6, _, _ =>
    have e : ptext 6 a b = [114, 101, 99, 101, 105, 112, 116, 115] ++ 47 :: ([99, 104, 97, 110, 110, 101, 108, 115] ++ 47 :: (dec a ++ 47 :: ([115, 101, 113, 117, 101, 110, 99, 101, 115] ++ 47 :: (dec b)))) := by simp [ptext, wA, wB, two]
    rw [e, els, go_mid_ (1, [114, 101, 99, 101, 105, 112, 116, 115]) _ ([114, 101, 99, 101, 105, 112, 116, 115]) _ _ _ _ (by decide) (by decide) rfl, go_mid_ (1, [99, 104, 97, 110, 110, 101, 108, 115]) _ ([99, 104, 97, 110, 110, 101, 108, 115]) _ _ _ _ (by decide) (by decide) rfl, go_mid_ (2, []) _ (dec a) _ _ _ _ (by decide) (dec_no47 a) pa, go_mid_ (1, [115, 101, 113, 117, 101, 110, 99, 101, 115]) _ ([115, 101, 113, 117, 101, 110, 99, 101, 115]) _ _ _ _ (by decide) (by decide) rfl, go_end_ (3, []) _ (dec b) _ _ _ (by decide) last_nil (dec_no47 b) pb]
    simp [updA, updB, pa', pb']
  | 7, _, _ =>
    have e : ptext 7 a b = [97, 99, 107, 115] ++ 47 :: ([99, 104, 97, 110, 110, 101, 108, 115] ++ 47 :: (dec a ++ 47 :: ([115, 101, 113, 117, 101, 110, 99, 101, 115] ++ 47 :: (dec b)))) := by simp [ptext, wA, wB, two]
    rw [e, els, go_mid_ (1, [97, 99, 107, 115]) _ ([97, 99, 107, 115]) _ _ _ _ (by decide) (by decide) rfl, go_mid_ (1, [99, 104, 97, 110, 110, 101, 108, 115]) _ ([99, 104, 97, 110, 110, 101, 108, 115]) _ _ _ _ (by decide) (by decide) rfl, go_mid_ (2, []) _ (dec a) _ _ _ _ (by decide) (dec_no47 a) pa, go_mid_ (1, [115, 101, 113, 117, 101, 110, 99, 101, 115]) _ ([115, 101, 113, 117, 101, 110, 99, 101, 115]) _ _ _ _ (by decide) (by decide) rfl, go_end_ (3, []) _ (dec b) _ _ _ (by decide) last_nil (dec_no47 b) pb]
    simp [updA, updB, pa', pb']
  | 8, _, _ =>
    have e : ptext 8 a b = [110, 101, 120, 116, 83, 101, 113, 117, 101, 110, 99, 101, 82, 101, 99, 118] ++ 47 :: ([99, 104, 97, 110, 110, 101, 108, 115] ++ 47 :: (dec a)) := by simp [ptext, wA, wB, two]
    rw [e, els, go_mid_ (1, [110, 101, 120, 116, 83, 101, 113, 117, 101, 110, 99, 101, 82, 101, 99, 118]) _ ([110, 101, 120, 116, 83, 101, 113, 117, 101, 110, 99, 101, 82, 101, 99, 118]) _ _ _ _ (by decide) (by decide) rfl, go_mid_ (1, [99, 104, 97, 110, 110, 101, 108, 115]) _ ([99, 104, 97, 110, 110, 101, 108, 115]) _ _ _ _ (by decide) (by decide) rfl, go_end_ (2, []) _ (dec a) _ _ _ (by decide) (last_zero _ _) (dec_no47 a) pa]
    obtain rfl := ht.resolve_left (by decide)
    simp [updA, updB, pa']
theorem go_iff (k a b : Nat) (s : List UInt8) (h1 : 1 ≤ k) (h8 : k ≤ 8) : goEls (els k) s true 0 0 = some (a, b, false) ↔ Valid k a b ∧ ptext k a b = s :=
  ⟨go_sound k a b s h1 h8, fun ⟨hv, e⟩ => e ▸ go_whole k a b hv⟩
end Go.Proofs.YtakfplkdjapooaaDoor.Sp
