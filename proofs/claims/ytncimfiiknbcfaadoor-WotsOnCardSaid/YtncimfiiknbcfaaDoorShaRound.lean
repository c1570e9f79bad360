/- Plain facts on SHA-256: a state is read back out of its text; blocks one behind the other. -/
import Derived.Test.YtncimfiiknbcfaaDoorShaSum
namespace Go.Proofs.YtncimfiiknbcfaaDoor.Sp
open Go Go.RowKit

theorem lowB_byteW (y : W) : byteW (lowB y) = y &&& 255#32 := by
  unfold byteW lowB
  apply BitVec.eq_of_toNat_eq
  rw [BitVec.toNat_ofNat, UInt8.toNat_ofNat', BitVec.toNat_and]
  show y.toNat % 256 % 4294967296 = y.toNat &&& 255
  rw [show (255 : Nat) = 2 ^ 8 - 1 from rfl, Nat.and_two_pow_sub_one_eq_mod]
  omega
theorem word_bytes4 (x : W) : byteW (lowB (x >>> 24)) <<< 24 ||| byteW (lowB (x >>> 16)) <<< 16 ||| byteW (lowB (x >>> 8)) <<< 8 ||| byteW (lowB x) = x := by
  rw [lowB_byteW, lowB_byteW, lowB_byteW, lowB_byteW]
  apply BitVec.eq_of_getLsbD_eq
  intro i hi
  have h255 : ∀ j : Nat, (255#32).getLsbD j = decide (j < 8) := by
    intro j
    rw [show (255#32) = BitVec.ofNat 32 (2^8-1) from rfl, BitVec.getLsbD_ofNat, Nat.testBit_two_pow_sub_one]
    by_cases h : j < 8 <;> simp [h]; omega
  simp only [BitVec.getLsbD_or, BitVec.getLsbD_shiftLeft, BitVec.getLsbD_and, BitVec.getLsbD_ushiftRight, h255, hi, decide_true, Bool.true_and]
  by_cases h1 : i < 8
  · simp [h1, show i < 16 by omega, show i < 24 by omega]
  · by_cases h2 : i < 16
    · simp [h1, h2, show i < 24 by omega, show i - 8 < 8 by omega, show 8 + (i - 8) = i by omega]
    · by_cases h3 : i < 24
      · simp [h1, h2, h3, show ¬ i - 8 < 8 by omega, show i - 16 < 8 by omega, show 16 + (i - 16) = i by omega]
      · simp [h1, h2, h3, show ¬ i - 8 < 8 by omega, show ¬ i - 16 < 8 by omega, show i - 24 < 8 by omega, show 24 + (i - 24) = i by omega]
theorem decode_encode (s : St) : decode (encode s) = s := by
  obtain ⟨a, b, c, d, e, f, g, h⟩ := s
  have e0 : decode (encode ⟨a, b, c, d, e, f, g, h⟩) = ⟨byteW (lowB (a >>> 24)) <<< 24 ||| byteW (lowB (a >>> 16)) <<< 16 ||| byteW (lowB (a >>> 8)) <<< 8 ||| byteW (lowB a),
    byteW (lowB (b >>> 24)) <<< 24 ||| byteW (lowB (b >>> 16)) <<< 16 ||| byteW (lowB (b >>> 8)) <<< 8 ||| byteW (lowB b),
    byteW (lowB (c >>> 24)) <<< 24 ||| byteW (lowB (c >>> 16)) <<< 16 ||| byteW (lowB (c >>> 8)) <<< 8 ||| byteW (lowB c),
    byteW (lowB (d >>> 24)) <<< 24 ||| byteW (lowB (d >>> 16)) <<< 16 ||| byteW (lowB (d >>> 8)) <<< 8 ||| byteW (lowB d),
    byteW (lowB (e >>> 24)) <<< 24 ||| byteW (lowB (e >>> 16)) <<< 16 ||| byteW (lowB (e >>> 8)) <<< 8 ||| byteW (lowB e),
    byteW (lowB (f >>> 24)) <<< 24 ||| byteW (lowB (f >>> 16)) <<< 16 ||| byteW (lowB (f >>> 8)) <<< 8 ||| byteW (lowB f),
    byteW (lowB (g >>> 24)) <<< 24 ||| byteW (lowB (g >>> 16)) <<< 16 ||| byteW (lowB (g >>> 8)) <<< 8 ||| byteW (lowB g),
    byteW (lowB (h >>> 24)) <<< 24 ||| byteW (lowB (h >>> 16)) <<< 16 ||| byteW (lowB (h >>> 8)) <<< 8 ||| byteW (lowB h)⟩ := rfl
  rw [e0]; simp only [word_bytes4]
theorem absorb_succ : ∀ (k : Nat) (s : St) (l : List UInt8), absorb (k + 1) s l = compress (absorb k s l) ((l.drop (64 * k)).take 64) := by
  intro k
  induction k with
  | zero => intro s l; simp [absorb]
  | succ k ih =>
    intro s l
    rw [absorb, ih, List.drop_drop]
    rw [show absorb (k + 1) s l = absorb k (compress s (l.take 64)) (l.drop 64) from rfl, show 64 + 64 * k = 64 * (k + 1) by omega]

/-- The text of a state, as bytes. -/
def encB (s : St) : ByteArray := ⟨(encode s).toArray⟩
theorem encB_size (s : St) : (encB s).size = 32 := by unfold encB; show (encode s).toArray.size = 32; rw [List.size_toArray]; exact encode_length s
theorem encB_list (s : St) : (encB s).data.toList = encode s := rfl
theorem extract_block (A : ByteArray) (j : Nat) : (A.extract j (j + 64)).data.toList = (A.data.toList.drop j).take 64 := by
  rw [Lib.extract_data, show j + 64 - j = 64 by omega]
/-- One block more. -/
theorem step_block (A : ByteArray) (s : St) (j : Nat) (hj : j % 64 = 0) :
    encB (compress (decode (encB (absorb (j / 64) s A.data.toList)).data.toList) (A.extract j (j + 64)).data.toList) = encB (absorb ((j + 64) / 64) s A.data.toList) := by
  rw [encB_list, decode_encode, extract_block, show (j + 64) / 64 = j / 64 + 1 by omega, absorb_succ, show 64 * (j / 64) = j by omega]
theorem sumB (b : ByteArray) (A : ByteArray) (hA : A.data.toList = padded b.data.toList) : encB (absorb (A.size / 64) st0 A.data.toList) = ⟨(sum b.data.toList).toArray⟩ := by
  unfold encB sum; rw [← hA, size_list]

end Go.Proofs.YtncimfiiknbcfaaDoor.Sp
