/- What follows of the plain one-time signatures: walks join, a signature's pieces, digits that are unlike. -/
import Derived.Test.YtncimfiiknbcfaaDoorWotNum
import Derived.Lib.SmallJoins
namespace Go.Proofs.YtncimfiiknbcfaaDoor.Sp
open Go
set_option maxRecDepth 100000

theorem walk_nat (c : Int) (a b : Nat) (v : ByteArray) (hb : b ≤ 15) : walkB c (a : Int) (b : Int) v = goB c (a : Int) (b - a) v := by
  unfold walkB
  rw [if_neg (by omega)]
  congr 1
  omega
theorem walk_on (c : Int) (a b d : Nat) (v : ByteArray) (h1 : a ≤ b) (h2 : b ≤ d) (h3 : d ≤ 15) : walkB c (b : Int) (d : Int) (walkB c (a : Int) (b : Int) v) = walkB c (a : Int) (d : Int) v := by
  rw [walk_nat c a b v (by omega), walk_nat c b d _ h3, walk_nat c a d v h3]
  have h := goB_add c (a : Int) (b - a) (d - b) v
  rw [show (a : Int) + ((b - a : Nat) : Int) = (b : Int) by omega, show b - a + (d - b) = d - a by omega] at h
  exact h
theorem walk_same (c : Int) (a : Nat) (v : ByteArray) (h : a ≤ 15) : walkB c (a : Int) (a : Int) v = v := by
  rw [walk_nat c a a v h, Nat.sub_self]; rfl

theorem digits_len (msg : ByteArray) : (digitsN msg).length = 10 := by
  unfold digitsN
  have h : (hexOf ((sum (inB 1 [msg])).take 4)).length = 8 := by rw [hexOf_length, List.length_take, sum_length]; rfl
  simp only [List.length_append, h, List.length_cons, List.length_nil]
theorem getD_le (l : List Nat) (m j : Nat) (h : ∀ d ∈ l, d ≤ m) : l.getD j 0 ≤ m := by
  rcases Nat.lt_or_ge j l.length with hj | hj
  · rw [List.getD_eq_getElem?_getD, List.getElem?_eq_getElem hj]
    exact h _ (List.getElem_mem hj)
  · rw [List.getD_eq_getElem?_getD, List.getElem?_eq_none hj]
    exact Nat.zero_le _
theorem hexOf_le (l : List UInt8) : ∀ d ∈ hexOf l, d ≤ 15 := by
  intro d hd
  simp only [hexOf, List.mem_flatMap] at hd
  obtain ⟨b, _, hb⟩ := hd
  have := b.toNat_lt
  simp only [List.mem_cons, List.not_mem_nil, or_false] at hb
  rcases hb with rfl | rfl <;> omega
theorem digits_15 (msg : ByteArray) (j : Nat) : (digitsN msg).getD j 0 ≤ 15 := by
  refine getD_le _ _ _ ?_
  intro d hd
  unfold digitsN at hd
  have h1 := lacks_le (hexOf ((sum (inB 1 [msg])).take 4))
  have h2 : (hexOf ((sum (inB 1 [msg])).take 4)).length = 8 := by rw [hexOf_length, List.length_take, sum_length]; rfl
  rw [h2] at h1
  rcases List.mem_append.1 hd with hd | hd
  · exact hexOf_le _ d hd
  · simp only [List.mem_cons, List.not_mem_nil, or_false] at hd
    rcases hd with rfl | rfl <;> omega
/-- The checksum: what eight digits lack is told by the last two. -/
theorem digits_check (msg : ByteArray) : lacks ((digitsN msg).take 8) = 16 * (digitsN msg).getD 8 0 + (digitsN msg).getD 9 0 := by
  unfold digitsN
  have h2 : (hexOf ((sum (inB 1 [msg])).take 4)).length = 8 := by rw [hexOf_length, List.length_take, sum_length]; rfl
  obtain ⟨H, hH⟩ : ∃ H, hexOf ((sum (inB 1 [msg])).take 4) = H := ⟨_, rfl⟩
  simp only [hH] at h2 ⊢
  rw [List.take_left' h2, List.getD_eq_getElem?_getD, List.getD_eq_getElem?_getD, List.getElem?_append_right (by omega), List.getElem?_append_right (by omega), h2]
  simp only [Nat.sub_self, List.getElem?_cons_zero, Option.getD_some, show 9 - 8 = 1 from rfl, List.getElem?_cons_succ]
  omega
theorem sum_mono : ∀ (l m : List Nat), l.length = m.length → (∀ j, l.getD j 0 ≤ m.getD j 0) → (∀ j, m.getD j 0 ≤ 15) → lacks m ≤ lacks l ∧ (lacks l = lacks m → l = m)
  | [], [], _, _, _ => ⟨Nat.le_refl _, fun _ => rfl⟩
  | [], _ :: _, h, _, _ => by simp at h
  | _ :: _, [], h, _, _ => by simp at h
  | x :: l, y :: m, h, h1, h2 => by
    obtain ⟨i1, i2⟩ := sum_mono l m (by simpa using h) (fun j => by simpa using h1 (j + 1)) (fun j => by simpa using h2 (j + 1))
    have a1 := h1 0
    have a2 := h2 0
    simp only [List.getD_cons_zero] at a1 a2
    simp only [lacks, List.map_cons, List.sum_cons] at i1 i2 ⊢
    refine ⟨by omega, fun e => ?_⟩
    have e1 : x = y := by omega
    rw [e1, i2 (by omega)]
/-- Of unlike digits one is lower. -/
theorem digits_lower (a b : ByteArray) (h : ∀ j, j < 10 → (digitsN b).getD j 0 ≤ (digitsN a).getD j 0) : digitsN a = digitsN b := by
  obtain ⟨D, hD⟩ : ∃ D, digitsN a = D := ⟨_, rfl⟩
  obtain ⟨E, hE⟩ : ∃ E, digitsN b = E := ⟨_, rfl⟩
  have l1 := digits_len a
  have l2 := digits_len b
  have c1 := digits_check a
  have c2 := digits_check b
  have m1 := digits_15 a
  rw [hD] at l1 c1 m1
  rw [hE] at l2 c2
  rw [hD, hE] at h ⊢
  have g : ∀ (l : List Nat) (j : Nat), (l.take 8).getD j 0 = if j < 8 then l.getD j 0 else 0 := by
    intro l j
    rw [List.getD_eq_getElem?_getD, List.getD_eq_getElem?_getD, List.getElem?_take]
    split <;> rfl
  obtain ⟨s1, s2⟩ := sum_mono (E.take 8) (D.take 8) (by rw [List.length_take, List.length_take, l1, l2]) (fun j => by
    rw [g, g]; split
    · exact h j (by omega)
    · exact Nat.le_refl _) (fun j => by
    rw [g]; split
    · exact m1 j
    · exact Nat.zero_le _)
  have h8 := h 8 (by omega)
  have h9 := h 9 (by omega)
  have e8 : E.take 8 = D.take 8 := s2 (by omega)
  rw [e8] at c2
  apply List.ext_getElem (by rw [l1, l2])
  intro j h1 h2
  have q : ∀ (l : List Nat) (hj : j < l.length), l[j] = l.getD j 0 := by
    intro l hj; rw [List.getD_eq_getElem?_getD, List.getElem?_eq_getElem hj]; rfl
  rw [q D h1, q E h2]
  rcases Nat.lt_or_ge j 8 with hj | hj
  · have e := congrArg (fun l => l.getD j 0) e8
    simp only [g, if_pos hj] at e
    exact e.symm
  · rcases (show j = 8 ∨ j = 9 by omega) with rfl | rfl <;> omega

theorem sign_piece (seed : ByteArray) (l : Int) (msg : ByteArray) : ∀ k c, c < k → (signUpto seed l msg k).extract (16 * c) (16 * c + 16) = walkB (c : Int) 0 ((digitsN msg).getD c 0 : Nat) (secretB seed l (c : Int)) := by
  have sz : ∀ k, (signUpto seed l msg k).data.toList.length = 16 * k := by
    intro k
    induction k with
    | zero => rfl
    | succ k ih =>
      have h16 := walkB_size (k : Int) 0 ((digitsN msg).getD k 0 : Nat) _ (secretB_size seed l (k : Int))
      rw [signUpto, Go.Joins.data_append, List.length_append, ih, Array.length_toList]
      have : (walkB (k : Int) 0 ((digitsN msg).getD k 0 : Nat) (secretB seed l (k : Int))).data.size = 16 := h16
      omega
  intro k
  induction k with
  | zero => intro c h; omega
  | succ k ih =>
    intro c hc
    apply list_inj
    rw [extract_list, signUpto, Go.Joins.data_append]
    rcases Nat.lt_or_ge c k with h | h
    · rw [List.take_append_of_le_length (by rw [sz]; omega), ← extract_list, ih c h]
    · obtain rfl : c = k := by omega
      have h16 : (walkB (c : Int) 0 ((digitsN msg).getD c 0 : Nat) (secretB seed l (c : Int))).data.toList.length = 16 := by
        rw [Array.length_toList]; exact walkB_size _ _ _ _ (secretB_size seed l (c : Int))
      rw [List.take_of_length_le (by rw [List.length_append, sz, h16]; omega), List.drop_left' (sz c)]
theorem sign_size (seed : ByteArray) (l : Int) (msg : ByteArray) : (signB seed l msg).size = 160 := by
  have : ∀ k, (signUpto seed l msg k).size = 16 * k := by
    intro k
    induction k with
    | zero => rfl
    | succ k ih => rw [signUpto, ByteArray.size_append, ih, walkB_size _ _ _ _ (secretB_size _ _ _)]; omega
  exact this 10
/-- The stage's theorem: From of what was signed is the public key. -/
theorem from_sign (seed : ByteArray) (l : Int) (msg : ByteArray) : fromB (signB seed l msg) msg = publicB seed l := by
  unfold fromB publicB
  rw [if_pos (sign_size seed l msg)]
  congr 4
  apply List.map_congr_left
  intro c hc
  rw [List.mem_range] at hc
  rw [show signB seed l msg = signUpto seed l msg 10 from rfl, sign_piece seed l msg 10 c hc]
  exact walk_on (c : Int) 0 _ 15 _ (Nat.zero_le _) (digits_15 msg c) (by omega)
end Go.Proofs.YtncimfiiknbcfaaDoor.Sp
