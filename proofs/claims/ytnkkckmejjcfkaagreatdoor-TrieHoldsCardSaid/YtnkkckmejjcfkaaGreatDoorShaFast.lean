/- SHA-256 over numbers, reckoned quickly: a block is one number, the rounds hand reckoned numbers on; and that it is the plain SHA-256 over lists of bytes. No program is named here. -/
import Derived.Test.YtnkkckmejjcfkaaGreatDoorGzA
import Derived.Test.YtnkkckmejjcfkaaGreatDoorGzG
namespace Go.Proofs.YtnkkckmejjcfkaaGreatDoor.Sp

/-- Hands a number on, once it is reckoned. -/
def frc {α : Type} (n : Nat) (k : Nat → α) : α := Nat.casesOn n (k 0) (fun m => k (Nat.succ m))
theorem frc_eq {α : Type} (n : Nat) (k : Nat → α) : frc n k = k n := by cases n <;> rfl

/-- The rounds over numbers: the constants that are left, a window of sixteen words, the state. -/
def fr : List Nat → Nat → Nat → Nat → Nat → Nat → Nat → Nat → Nat → Nat → Nat → Nat → Nat → Nat → Nat → Nat → Nat → Nat → Nat → Nat → Nat → Nat → Nat → Nat → Nat → List Nat
  | [], _, _, _, _, _, _, _, _, _, _, _, _, _, _, _, _, a, b, c, d, e, f, g, h => [a, b, c, d, e, f, g, h]
  | k :: ks, w0, w1, w2, w3, w4, w5, w6, w7, w8, w9, w10, w11, w12, w13, w14, w15, a, b, c, d, e, f, g, h =>
    frc (e * 4294967297) fun y => frc (h + ((y >>> 6) ^^^ (y >>> 11) ^^^ (y >>> 25)) + (g ^^^ (e &&& (f ^^^ g))) + k + w0) fun t =>
    frc (a * 4294967297) fun z => frc ((t + ((z >>> 2) ^^^ (z >>> 13) ^^^ (z >>> 22)) + ((a &&& b) ^^^ (a &&& c) ^^^ (b &&& c))) % 4294967296) fun a' =>
    frc ((d + t) % 4294967296) fun e' =>
    frc (w14 * 4294967297) fun p => frc (w1 * 4294967297) fun q =>
    frc ((((p >>> 17) ^^^ (p >>> 19) ^^^ (w14 >>> 10)) + w9 + ((q >>> 7) ^^^ (q >>> 18) ^^^ (w1 >>> 3)) + w0) % 4294967296) fun w =>
    fr ks w1 w2 w3 w4 w5 w6 w7 w8 w9 w10 w11 w12 w13 w14 w15 w a' a b c e' e f g

def packN (l : List Nat) : Nat := l.foldl (fun a b => a * 4294967296 + b) 0
def wN (B j : Nat) : Nat := (B >>> (480 - 32 * j)) % 4294967296
def addN (a b : Nat) : Nat := (a + b) % 4294967296
/-- A state behind a block, by the rounds' constants. -/
def compK (ks : List Nat) (S : List Nat) (B : Nat) : List Nat :=
  match S with
  | [a, b, c, d, e, f, g, h] =>
    frc (wN B 0) fun w0 => frc (wN B 1) fun w1 => frc (wN B 2) fun w2 => frc (wN B 3) fun w3 => frc (wN B 4) fun w4 => frc (wN B 5) fun w5 => frc (wN B 6) fun w6 => frc (wN B 7) fun w7 =>
    frc (wN B 8) fun w8 => frc (wN B 9) fun w9 => frc (wN B 10) fun w10 => frc (wN B 11) fun w11 => frc (wN B 12) fun w12 => frc (wN B 13) fun w13 => frc (wN B 14) fun w14 => frc (wN B 15) fun w15 =>
    match fr ks w0 w1 w2 w3 w4 w5 w6 w7 w8 w9 w10 w11 w12 w13 w14 w15 a b c d e f g h with
    | [a', b', c', d', e', f', g', h'] =>
      frc (addN a a') fun a => frc (addN b b') fun b => frc (addN c c') fun c => frc (addN d d') fun d => frc (addN e e') fun e => frc (addN f f') fun f => frc (addN g g') fun g => frc (addN h h') fun h => [a, b, c, d, e, f, g, h]
    | _ => []
  | _ => []
def comp (S : List Nat) (B : Nat) : List Nat := compK kN S B
def s0N : List Nat := [0x6a09e667, 0xbb67ae85, 0x3c6ef372, 0xa54ff53a, 0x510e527f, 0x9b05688c, 0x1f83d9ab, 0x5be0cd19]
/-- A state behind so many blocks, which are one number. -/
def absN : Nat → List Nat → Nat → List Nat
  | 0, S, _ => S
  | m + 1, S, P => frc ((P >>> (512 * m)) % 2 ^ 512) fun B => absN m (comp S B) (P % 2 ^ (512 * m))

def St.ns (s : St) : List Nat := [s.a.toNat, s.b.toNat, s.c.toNat, s.d.toNat, s.e.toNat, s.f.toNat, s.g.toNat, s.h.toNat]

/-! Words. -/
theorem rot_two (X : W) (n : Nat) (hn : n ≤ 32) : (rotr X n).toNat = ((X.toNat * 4294967297) >>> n) % 4294967296 := by
  have hX := X.isLt
  have e : X.toNat * 4294967297 = X.toNat <<< 32 ||| X.toNat := by
    rw [← Nat.shiftLeft_add_eq_or_of_lt hX, Nat.shiftLeft_eq]; omega
  unfold rotr
  rw [BitVec.toNat_or, BitVec.toNat_ushiftRight, BitVec.toNat_shiftLeft, e]
  apply Nat.eq_of_testBit_eq
  intro j
  rw [show (4294967296 : Nat) = 2 ^ 32 from rfl]
  simp only [Nat.testBit_or, Nat.testBit_shiftRight, Nat.testBit_mod_two_pow, Nat.testBit_shiftLeft]
  by_cases hj : j < 32
  · by_cases hk : 32 - n ≤ j
    · have h1 : n + j ≥ 32 := by omega
      have h2 : j ≥ 32 - n := hk
      rw [decide_eq_true hj, decide_eq_true h1, decide_eq_true h2, show n + j - 32 = j - (32 - n) by omega]
      simp [Bool.or_comm]
    · have h1 : ¬ n + j ≥ 32 := by omega
      have h2 : ¬ j ≥ 32 - n := hk
      rw [decide_eq_true hj, decide_eq_false h1, decide_eq_false h2]
      simp
  · rw [decide_eq_false hj]
    have hz : X.toNat.testBit (n + j) = false := Nat.testBit_lt_two_pow (Nat.lt_of_lt_of_le hX (Nat.pow_le_pow_right (by omega) (by omega)))
    rw [hz]
    simp
theorem xor3_mod (A B C : Nat) : (A ^^^ B ^^^ C) % 4294967296 = (A % 4294967296) ^^^ (B % 4294967296) ^^^ (C % 4294967296) := by
  rw [show (4294967296 : Nat) = 2 ^ 32 from rfl, Nat.xor_mod_two_pow, Nat.xor_mod_two_pow]
theorem bs1_N (X : W) : (((X.toNat * 4294967297) >>> 6) ^^^ ((X.toNat * 4294967297) >>> 11) ^^^ ((X.toNat * 4294967297) >>> 25)) % 4294967296 = (bs1 X).toNat := by
  rw [xor3_mod, ← rot_two X 6 (by omega), ← rot_two X 11 (by omega), ← rot_two X 25 (by omega)]; unfold bs1; rw [BitVec.toNat_xor, BitVec.toNat_xor]
theorem bs0_N (X : W) : (((X.toNat * 4294967297) >>> 2) ^^^ ((X.toNat * 4294967297) >>> 13) ^^^ ((X.toNat * 4294967297) >>> 22)) % 4294967296 = (bs0 X).toNat := by
  rw [xor3_mod, ← rot_two X 2 (by omega), ← rot_two X 13 (by omega), ← rot_two X 22 (by omega)]; unfold bs0; rw [BitVec.toNat_xor, BitVec.toNat_xor]
theorem shr_small (X : W) (n : Nat) : (X.toNat >>> n) % 4294967296 = (X >>> n).toNat := by
  rw [BitVec.toNat_ushiftRight]
  have hX := X.isLt
  have : X.toNat >>> n ≤ X.toNat := by rw [Nat.shiftRight_eq_div_pow]; exact Nat.div_le_self _ _
  exact Nat.mod_eq_of_lt (Nat.lt_of_le_of_lt this hX)
theorem ss1_N (X : W) : (((X.toNat * 4294967297) >>> 17) ^^^ ((X.toNat * 4294967297) >>> 19) ^^^ (X.toNat >>> 10)) % 4294967296 = (ss1 X).toNat := by
  rw [xor3_mod, ← rot_two X 17 (by omega), ← rot_two X 19 (by omega), shr_small]; unfold ss1; rw [BitVec.toNat_xor, BitVec.toNat_xor]
theorem ss0_N (X : W) : (((X.toNat * 4294967297) >>> 7) ^^^ ((X.toNat * 4294967297) >>> 18) ^^^ (X.toNat >>> 3)) % 4294967296 = (ss0 X).toNat := by
  rw [xor3_mod, ← rot_two X 7 (by omega), ← rot_two X 18 (by omega), shr_small]; unfold ss0; rw [BitVec.toNat_xor, BitVec.toNat_xor]
theorem ch_eq (x y z : W) : ch x y z = z ^^^ (x &&& (y ^^^ z)) := by
  unfold ch
  apply BitVec.eq_of_getLsbD_eq
  intro i hi
  simp only [BitVec.getLsbD_xor, BitVec.getLsbD_and, BitVec.getLsbD_not, hi, decide_true, Bool.true_and]
  cases x.getLsbD i <;> cases y.getLsbD i <;> cases z.getLsbD i <;> rfl
theorem ch_N (x y z : W) : z.toNat ^^^ (x.toNat &&& (y.toNat ^^^ z.toNat)) = (ch x y z).toNat := by
  rw [ch_eq, BitVec.toNat_xor, BitVec.toNat_and, BitVec.toNat_xor]
theorem maj_N (x y z : W) : (x.toNat &&& y.toNat) ^^^ (x.toNat &&& z.toNat) ^^^ (y.toNat &&& z.toNat) = (maj x y z).toNat := by
  unfold maj; rw [BitVec.toNat_xor, BitVec.toNat_xor, BitVec.toNat_and, BitVec.toNat_and, BitVec.toNat_and]

/-! The schedule as one row of words without an end. -/
theorem sched_len (l : List UInt8) (n : Nat) : (sched l n).length = 16 + n := by
  induction n with
  | zero => simp [sched, words]
  | succ n ih => simp [sched, ih]; omega
theorem sched_pre (l : List UInt8) (n j : Nat) (hj : j < 16 + n) : ∀ m, gW (sched l (n + m)) j = gW (sched l n) j := by
  intro m
  induction m with
  | zero => rfl
  | succ m ih =>
    rw [← ih]
    show gW (sched l (n + m) ++ _) j = _
    unfold gW
    rw [List.getD_eq_getElem?_getD, List.getD_eq_getElem?_getD, List.getElem?_append_left (by rw [sched_len]; omega)]
def sw (l : List UInt8) (j : Nat) : W := gW (sched l j) j
theorem sw_at (l : List UInt8) (n j : Nat) (hj : j < 16 + n) : gW (sched l n) j = sw l j := by
  unfold sw
  rcases Nat.le_total j n with h | h
  · obtain ⟨m, rfl⟩ : ∃ m, n = j + m := ⟨n - j, by omega⟩
    exact sched_pre l j j (by omega) m
  · obtain ⟨m, rfl⟩ : ∃ m, j = n + m := ⟨j - n, by omega⟩
    exact (sched_pre l n (n + m) hj m).symm
theorem sw_next (l : List UInt8) (n : Nat) : sw l (16 + n) = ss1 (sw l (n + 14)) + sw l (n + 9) + ss0 (sw l (n + 1)) + sw l n := by
  rw [← sw_at l (n + 1) (16 + n) (by omega)]
  show gW (sched l n ++ [next (sched l n) (16 + n)]) (16 + n) = _
  unfold gW
  rw [List.getD_eq_getElem?_getD, List.getElem?_append_right (by rw [sched_len]; omega), sched_len, Nat.sub_self]
  show next (sched l n) (16 + n) = _
  unfold next
  rw [sw_at l n _ (by omega), sw_at l n _ (by omega), sw_at l n _ (by omega), sw_at l n _ (by omega)]
  rw [show 16 + n - 2 = n + 14 by omega, show 16 + n - 7 = n + 9 by omega, show 16 + n - 15 = n + 1 by omega, show 16 + n - 16 = n by omega]

/-! The rounds. -/
theorem fr_rounds (l : List UInt8) (s : St) : ∀ (ks : List Nat) (n : Nat), ks = kN.drop n → n + ks.length = 64 →
    fr ks (sw l n).toNat (sw l (n + 1)).toNat (sw l (n + 2)).toNat (sw l (n + 3)).toNat (sw l (n + 4)).toNat (sw l (n + 5)).toNat (sw l (n + 6)).toNat (sw l (n + 7)).toNat (sw l (n + 8)).toNat (sw l (n + 9)).toNat (sw l (n + 10)).toNat (sw l (n + 11)).toNat (sw l (n + 12)).toNat (sw l (n + 13)).toNat (sw l (n + 14)).toNat (sw l (n + 15)).toNat
      (rounds (sched l 48) n s).a.toNat (rounds (sched l 48) n s).b.toNat (rounds (sched l 48) n s).c.toNat (rounds (sched l 48) n s).d.toNat (rounds (sched l 48) n s).e.toNat (rounds (sched l 48) n s).f.toNat (rounds (sched l 48) n s).g.toNat (rounds (sched l 48) n s).h.toNat = (rounds (sched l 48) 64 s).ns
  | [], n, _, h => by
    obtain rfl : n = 64 := by simpa using h
    rfl
  | k :: ks, n, hk, h => by
    have hn : n < 64 := by simp at h; omega
    have hks : ks = kN.drop (n + 1) := by rw [← List.drop_drop, ← hk]; rfl
    have hkn : kN.getD n 0 = k := by
      rw [List.getD_eq_getElem?_getD, show kN[n]? = (kN.drop n)[0]? by rw [List.getElem?_drop, Nat.add_zero], ← hk]; rfl
    have ih := fr_rounds l s ks (n + 1) hks (by simp at h; omega)
    obtain ⟨S, hS⟩ : ∃ S, rounds (sched l 48) n s = S := ⟨_, rfl⟩
    have hr : rounds (sched l 48) (n + 1) s = round S (kW n) (sw l n) := by
      show round (rounds (sched l 48) n s) (kW n) (gW (sched l 48) n) = _
      rw [hS, sw_at l 48 n (by omega)]
    have hkw : (kW n).toNat = k % 4294967296 := by unfold kW; rw [hkn, BitVec.toNat_ofNat]
    have hT : ∀ T : Nat, T = S.h.toNat + (((S.e.toNat * 4294967297) >>> 6) ^^^ ((S.e.toNat * 4294967297) >>> 11) ^^^ ((S.e.toNat * 4294967297) >>> 25)) + (S.g.toNat ^^^ (S.e.toNat &&& (S.f.toNat ^^^ S.g.toNat))) + k + (sw l n).toNat →
        T % 4294967296 = (S.h + bs1 S.e + ch S.e S.f S.g + kW n + sw l n).toNat := by
      intro T hT
      have h1 := bs1_N S.e
      have h2 := ch_N S.e S.f S.g
      simp only [BitVec.toNat_add, hkw]
      rw [hT, h2]
      omega
    have ea : ∀ T : Nat, T % 4294967296 = (S.h + bs1 S.e + ch S.e S.f S.g + kW n + sw l n).toNat →
        (T + (((S.a.toNat * 4294967297) >>> 2) ^^^ ((S.a.toNat * 4294967297) >>> 13) ^^^ ((S.a.toNat * 4294967297) >>> 22)) + ((S.a.toNat &&& S.b.toNat) ^^^ (S.a.toNat &&& S.c.toNat) ^^^ (S.b.toNat &&& S.c.toNat))) % 4294967296 = (round S (kW n) (sw l n)).a.toNat := by
      intro T hT
      have h1 := bs0_N S.a
      have h2 := maj_N S.a S.b S.c
      show _ = (S.h + bs1 S.e + ch S.e S.f S.g + kW n + sw l n + (bs0 S.a + maj S.a S.b S.c)).toNat
      generalize S.h + bs1 S.e + ch S.e S.f S.g + kW n + sw l n = t at hT
      rw [BitVec.toNat_add, BitVec.toNat_add, h2]
      omega
    have ee : ∀ T : Nat, T % 4294967296 = (S.h + bs1 S.e + ch S.e S.f S.g + kW n + sw l n).toNat → (S.d.toNat + T) % 4294967296 = (round S (kW n) (sw l n)).e.toNat := by
      intro T hT
      show _ = (S.d + (S.h + bs1 S.e + ch S.e S.f S.g + kW n + sw l n)).toNat
      generalize S.h + bs1 S.e + ch S.e S.f S.g + kW n + sw l n = t at hT
      rw [BitVec.toNat_add]
      omega
    have ew : ((((sw l (n + 14)).toNat * 4294967297) >>> 17 ^^^ ((sw l (n + 14)).toNat * 4294967297) >>> 19 ^^^ (sw l (n + 14)).toNat >>> 10) + (sw l (n + 9)).toNat + (((sw l (n + 1)).toNat * 4294967297) >>> 7 ^^^ ((sw l (n + 1)).toNat * 4294967297) >>> 18 ^^^ (sw l (n + 1)).toNat >>> 3) + (sw l n).toNat) % 4294967296 = (sw l (n + 16)).toNat := by
      have h1 := ss1_N (sw l (n + 14))
      have h2 := ss0_N (sw l (n + 1))
      rw [show n + 16 = 16 + n by omega, sw_next, BitVec.toNat_add, BitVec.toNat_add, BitVec.toNat_add]
      omega
    rw [hr] at ih
    rw [hS]
    have t1 := hT _ rfl
    simp only [fr, frc_eq]
    rw [ea _ t1, ee _ t1, ew]
    exact ih

/-! Numbers of lists of bytes. -/
theorem num_app (a b : List UInt8) : num (a ++ b) = num a * 256 ^ b.length + num b := by
  rw [← num_fold]; unfold num; rw [List.foldl_append]
theorem or_four (a b c d : Nat) (_ha : a < 256) (hb : b < 256) (hc : c < 256) (hd : d < 256) : a <<< 24 ||| b <<< 16 ||| c <<< 8 ||| d = ((a * 256 + b) * 256 + c) * 256 + d := by
  have e1 : a <<< 24 ||| b <<< 16 = (a * 256 + b) <<< 16 := by
    rw [← Nat.shiftLeft_add_eq_or_of_lt (by rw [Nat.shiftLeft_eq]; omega)]
    simp only [Nat.shiftLeft_eq]; omega
  have e2 : (a * 256 + b) <<< 16 ||| c <<< 8 = ((a * 256 + b) * 256 + c) <<< 8 := by
    rw [← Nat.shiftLeft_add_eq_or_of_lt (by rw [Nat.shiftLeft_eq]; omega)]
    simp only [Nat.shiftLeft_eq]; omega
  rw [e1, e2, ← Nat.shiftLeft_add_eq_or_of_lt (by omega), Nat.shiftLeft_eq]
theorem word_N (l : List UInt8) (i : Nat) (h : 4 * i + 4 ≤ l.length) : (word l i).toNat = num ((l.drop (4 * i)).take 4) := by
  rw [drop_at 0 l (4 * i) (by omega), drop_at 0 l (4 * i + 1) (by omega), drop_at 0 l (4 * i + 1 + 1) (by omega), drop_at 0 l (4 * i + 1 + 1 + 1) (by omega)]
  simp only [List.take_succ_cons, List.take_zero]
  unfold word byteW
  obtain ⟨x0, h0⟩ : ∃ x, l.getD (4 * i) 0 = x := ⟨_, rfl⟩
  obtain ⟨x1, h1⟩ : ∃ x, l.getD (4 * i + 1) 0 = x := ⟨_, rfl⟩
  obtain ⟨x2, h2⟩ : ∃ x, l.getD (4 * i + 1 + 1) 0 = x := ⟨_, rfl⟩
  obtain ⟨x3, h3⟩ : ∃ x, l.getD (4 * i + 1 + 1 + 1) 0 = x := ⟨_, rfl⟩
  rw [show 4 * i + 2 = 4 * i + 1 + 1 from rfl, show 4 * i + 3 = 4 * i + 1 + 1 + 1 from rfl, h0, h1, h2, h3]
  have l0 := x0.toNat_lt
  have l1 := x1.toNat_lt
  have l2 := x2.toNat_lt
  have l3 := x3.toNat_lt
  have m0 : x0.toNat <<< 24 % 2 ^ 32 = x0.toNat <<< 24 := Nat.mod_eq_of_lt (by rw [Nat.shiftLeft_eq]; omega)
  have m1 : x1.toNat <<< 16 % 2 ^ 32 = x1.toNat <<< 16 := Nat.mod_eq_of_lt (by rw [Nat.shiftLeft_eq]; omega)
  have m2 : x2.toNat <<< 8 % 2 ^ 32 = x2.toNat <<< 8 := Nat.mod_eq_of_lt (by rw [Nat.shiftLeft_eq]; omega)
  have n0 : x0.toNat % 2 ^ 32 = x0.toNat := Nat.mod_eq_of_lt (by omega)
  have n1 : x1.toNat % 2 ^ 32 = x1.toNat := Nat.mod_eq_of_lt (by omega)
  have n2 : x2.toNat % 2 ^ 32 = x2.toNat := Nat.mod_eq_of_lt (by omega)
  have n3 : x3.toNat % 2 ^ 32 = x3.toNat := Nat.mod_eq_of_lt (by omega)
  simp only [BitVec.toNat_or, BitVec.toNat_shiftLeft, BitVec.toNat_ofNat, n0, n1, n2, n3, m0, m1, m2]
  rw [or_four _ _ _ _ l0 l1 l2 l3]
  simp [num]
theorem p32 : (256 : Nat) ^ 4 = 4294967296 := by decide
theorem p512 : (2 : Nat) ^ 512 = 256 ^ 64 := by decide +kernel
theorem pow_bits (k : Nat) : (2 : Nat) ^ (8 * k) = 256 ^ k := by rw [Nat.pow_mul]
theorem cut_mid (a b c p q : Nat) (hb : b < q) (hc : c < p) : ((a * q + b) * p + c) / p % q = b := by
  rw [Nat.mul_comm _ p, Nat.mul_add_div (by omega), Nat.div_eq_of_lt hc, Nat.add_zero, Nat.mul_comm a q, Nat.mul_add_mod, Nat.mod_eq_of_lt hb]
theorem wN_word (l : List UInt8) (hl : l.length = 64) (j : Nat) (hj : j < 16) : wN (num l) j = (word l j).toNat := by
  rw [word_N l j (by omega)]
  have e : l = l.take (4 * j) ++ (l.drop (4 * j)).take 4 ++ l.drop (4 * j + 4) := by
    rw [List.append_assoc, show l.drop (4 * j + 4) = (l.drop (4 * j)).drop 4 by rw [List.drop_drop], List.take_append_drop, List.take_append_drop]
  have lb : ((l.drop (4 * j)).take 4).length = 4 := by rw [List.length_take, List.length_drop]; omega
  have lc : (l.drop (4 * j + 4)).length = 60 - 4 * j := by rw [List.length_drop]; omega
  have hb := num_lt ((l.drop (4 * j)).take 4)
  have hc := num_lt (l.drop (4 * j + 4))
  rw [lb] at hb
  rw [lc] at hc
  unfold wN
  rw [Nat.shiftRight_eq_div_pow, show 480 - 32 * j = 8 * (60 - 4 * j) by omega, pow_bits, ← p32]
  conv => lhs; rw [e]
  rw [num_app, num_app, lb, lc]
  exact cut_mid _ _ _ _ _ hb hc
theorem sw_word (l : List UInt8) (j : Nat) (hj : j < 16) : sw l j = word l j := by
  rw [← sw_at l 0 j (by omega)]
  show gW (words l 16) j = _
  unfold gW words
  simp [List.getD_eq_getElem?_getD, hj]
theorem compK_N (ks : List Nat) (s R : St) (l : List UInt8) (hl : l.length = 64)
    (h : fr ks (sw l 0).toNat (sw l 1).toNat (sw l 2).toNat (sw l 3).toNat (sw l 4).toNat (sw l 5).toNat (sw l 6).toNat (sw l 7).toNat (sw l 8).toNat (sw l 9).toNat (sw l 10).toNat (sw l 11).toNat (sw l 12).toNat (sw l 13).toNat (sw l 14).toNat (sw l 15).toNat
      s.a.toNat s.b.toNat s.c.toNat s.d.toNat s.e.toNat s.f.toNat s.g.toNat s.h.toNat = R.ns) : compK ks s.ns (num l) = (s.add R).ns := by
  simp only [compK, St.ns, frc_eq]
  rw [wN_word l hl 0 (by omega), wN_word l hl 1 (by omega), wN_word l hl 2 (by omega), wN_word l hl 3 (by omega), wN_word l hl 4 (by omega), wN_word l hl 5 (by omega), wN_word l hl 6 (by omega), wN_word l hl 7 (by omega),
    wN_word l hl 8 (by omega), wN_word l hl 9 (by omega), wN_word l hl 10 (by omega), wN_word l hl 11 (by omega), wN_word l hl 12 (by omega), wN_word l hl 13 (by omega), wN_word l hl 14 (by omega), wN_word l hl 15 (by omega)]
  rw [← sw_word l 0 (by omega), ← sw_word l 1 (by omega), ← sw_word l 2 (by omega), ← sw_word l 3 (by omega), ← sw_word l 4 (by omega), ← sw_word l 5 (by omega), ← sw_word l 6 (by omega), ← sw_word l 7 (by omega),
    ← sw_word l 8 (by omega), ← sw_word l 9 (by omega), ← sw_word l 10 (by omega), ← sw_word l 11 (by omega), ← sw_word l 12 (by omega), ← sw_word l 13 (by omega), ← sw_word l 14 (by omega), ← sw_word l 15 (by omega)]
  rw [h]
  simp only [St.ns, St.add, addN, BitVec.toNat_add]
theorem fr_all (l : List UInt8) (s : St) (ks : List Nat) (e : ks = kN) : fr ks (sw l 0).toNat (sw l 1).toNat (sw l 2).toNat (sw l 3).toNat (sw l 4).toNat (sw l 5).toNat (sw l 6).toNat (sw l 7).toNat (sw l 8).toNat (sw l 9).toNat (sw l 10).toNat (sw l 11).toNat (sw l 12).toNat (sw l 13).toNat (sw l 14).toNat (sw l 15).toNat
      s.a.toNat s.b.toNat s.c.toNat s.d.toNat s.e.toNat s.f.toNat s.g.toNat s.h.toNat = (rounds (sched l 48) 64 s).ns :=
  fr_rounds l s ks 0 (by rw [e]; rfl) (by rw [e]; rfl)
theorem comp_ks (s : St) (l : List UInt8) (hl : l.length = 64) (ks : List Nat) (e : ks = kN) : compK ks s.ns (num l) = (compress s l).ns := compK_N ks s (rounds (sched l 48) 64 s) l hl (fr_all l s ks e)
theorem comp_N (s : St) (l : List UInt8) (hl : l.length = 64) : comp s.ns (num l) = (compress s l).ns := comp_ks s l hl kN rfl
theorem abs_N : ∀ (m : Nat) (s : St) (l : List UInt8), l.length = 64 * m → absN m s.ns (num l) = (absorb m s l).ns
  | 0, _, _, _ => rfl
  | m + 1, s, l, hl => by
    have e : l = l.take 64 ++ l.drop 64 := (List.take_append_drop 64 l).symm
    have la : (l.take 64).length = 64 := by rw [List.length_take]; omega
    have lb : (l.drop 64).length = 64 * m := by rw [List.length_drop]; omega
    have ha := num_lt (l.take 64)
    have hb := num_lt (l.drop 64)
    rw [la] at ha
    rw [lb] at hb
    have e1 : (num l >>> (512 * m)) % 2 ^ 512 = num (l.take 64) := by
      rw [Nat.shiftRight_eq_div_pow, show 512 * m = 8 * (64 * m) by omega, pow_bits, p512]
      conv => lhs; rw [e]
      rw [num_app, lb]
      have h := cut_mid 0 (num (l.take 64)) (num (l.drop 64)) (256 ^ (64 * m)) (256 ^ 64) ha hb
      rw [Nat.zero_mul, Nat.zero_add] at h
      exact h
    have e2 : num l % 2 ^ (512 * m) = num (l.drop 64) := by
      rw [show 512 * m = 8 * (64 * m) by omega, pow_bits]
      conv => lhs; rw [e]
      rw [num_app, lb, Nat.mul_comm, Nat.mul_add_mod, Nat.mod_eq_of_lt hb]
    rw [absN, frc_eq, e1, e2, comp_N s _ la, abs_N m _ _ lb]
    rfl
theorem bytes4_N (x : W) : num (bytes4 x) = x.toNat := by
  have hx := x.isLt
  unfold bytes4 lowB
  simp only [num, List.foldl_cons, List.foldl_nil, UInt8.toNat_ofNat', BitVec.toNat_ushiftRight, Nat.shiftRight_eq_div_pow]
  omega
theorem encode_N (s : St) : num (encode s) = packN s.ns := by
  unfold encode St.ws St.ns packN
  simp only [List.flatMap_cons, List.flatMap_nil, List.append_nil, num_app, List.length_append, bytes4_len, bytes4_N, List.foldl_cons, List.foldl_nil]
  omega
/-- The hash of a text, by its number and its length. -/
def hashN (n len : Nat) : Nat := packN (absN ((len + 72) / 64) s0N ((n * 256 + 128) * 256 ^ (zeros len + 8) + 8 * len))
theorem zeros_num (k : Nat) : num (List.replicate k 0) = 0 := by
  induction k with
  | zero => rfl
  | succ k ih => rw [List.replicate_succ, num_cons, ih]; simp
theorem pad_N (n : Nat) (h : n < 536870912) : num (pad n) = 128 * 256 ^ (zeros n + 8) + 8 * n := by
  have e1 : (BitVec.ofNat 32 (8 * n / 4294967296)).toNat = 0 := by rw [BitVec.toNat_ofNat]; omega
  have e2 : (BitVec.ofNat 32 (8 * n)).toNat = 8 * n := by rw [BitVec.toNat_ofNat]; omega
  have e3 : num [128] = 128 := by decide
  unfold pad
  rw [num_app, num_app, num_app, bytes4_N, bytes4_N, zeros_num, bytes4_len, bytes4_len, List.length_replicate, e1, e2, e3, Nat.pow_add]
  generalize 256 ^ zeros n = z
  simp only [Nat.reducePow]
  omega
theorem pad_len (n : Nat) : (pad n).length = 9 + zeros n := by simp [pad, bytes4_len]; omega
theorem sum_N (l : List UInt8) (h : l.length < 536870912) : num (sum l) = hashN (num l) l.length := by
  have hp : (padded l).length = 64 * ((l.length + 72) / 64) := by
    unfold padded; rw [List.length_append, pad_len]; unfold zeros; omega
  have hn : num (padded l) = (num l * 256 + 128) * 256 ^ (zeros l.length + 8) + 8 * l.length := by
    unfold padded
    rw [num_app, pad_N l.length h, pad_len, show 9 + zeros l.length = 1 + (zeros l.length + 8) by omega, Nat.pow_add 256 1, Nat.pow_one, Nat.add_mul, ← Nat.mul_assoc, Nat.add_assoc]
  unfold sum hashN
  rw [encode_N, hp, Nat.mul_div_cancel_left _ (by omega), ← abs_N _ _ _ hp, hn]
  rfl
end Go.Proofs.YtnkkckmejjcfkaaGreatDoor.Sp
