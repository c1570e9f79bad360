/- Plain facts on the padding: its first byte, its zeros, and the length that its last eight bytes tell. -/
import Derived.Test.YtchdnfhajcfdoaaDoorShaRound
namespace Go.Proofs.YtchdnfhajcfdoaaDoor.Sp
open Go Go.RowKit

theorem lowB_toNat (y : W) : (lowB y).toNat = y.toNat % 256 := by unfold lowB; rw [UInt8.toNat_ofNat']
/-- The k-th of the last eight bytes. -/
def tail8 (n : Nat) : List UInt8 := bytes4 (BitVec.ofNat 32 (8 * n / 4294967296)) ++ bytes4 (BitVec.ofNat 32 (8 * n))
theorem pad_split (n : Nat) : pad n = (128 :: List.replicate (zeros n) 0) ++ tail8 n := by unfold pad tail8; simp
theorem tail8_length (n : Nat) : (tail8 n).length = 8 := rfl
theorem tail8_get (n : Nat) (k : Nat) (hk : k < 8) : ((tail8 n).getD k 0).toNat = 8 * n / 256 ^ (7 - k) % 256 := by
  have key : ∀ (x : Nat), (BitVec.ofNat 32 x).toNat = x % 4294967296 := fun x => BitVec.toNat_ofNat x 32
  match k, hk with
  | 0, _ => show (lowB (BitVec.ofNat 32 (8 * n / 4294967296) >>> 24)).toNat = _; rw [lowB_toNat, BitVec.toNat_ushiftRight, key, Nat.shiftRight_eq_div_pow]; simp only [Nat.reducePow, Nat.reduceSub]; omega
  | 1, _ => show (lowB (BitVec.ofNat 32 (8 * n / 4294967296) >>> 16)).toNat = _; rw [lowB_toNat, BitVec.toNat_ushiftRight, key, Nat.shiftRight_eq_div_pow]; simp only [Nat.reducePow, Nat.reduceSub]; omega
  | 2, _ => show (lowB (BitVec.ofNat 32 (8 * n / 4294967296) >>> 8)).toNat = _; rw [lowB_toNat, BitVec.toNat_ushiftRight, key, Nat.shiftRight_eq_div_pow]; simp only [Nat.reducePow, Nat.reduceSub]; omega
  | 3, _ => show (lowB (BitVec.ofNat 32 (8 * n / 4294967296))).toNat = _; rw [lowB_toNat, key]; simp only [Nat.reducePow, Nat.reduceSub]; omega
  | 4, _ => show (lowB (BitVec.ofNat 32 (8 * n) >>> 24)).toNat = _; rw [lowB_toNat, BitVec.toNat_ushiftRight, key, Nat.shiftRight_eq_div_pow]; simp only [Nat.reducePow, Nat.reduceSub]; omega
  | 5, _ => show (lowB (BitVec.ofNat 32 (8 * n) >>> 16)).toNat = _; rw [lowB_toNat, BitVec.toNat_ushiftRight, key, Nat.shiftRight_eq_div_pow]; simp only [Nat.reducePow, Nat.reduceSub]; omega
  | 6, _ => show (lowB (BitVec.ofNat 32 (8 * n) >>> 8)).toNat = _; rw [lowB_toNat, BitVec.toNat_ushiftRight, key, Nat.shiftRight_eq_div_pow]; simp only [Nat.reducePow, Nat.reduceSub]; omega
  | 7, _ => show (lowB (BitVec.ofNat 32 (8 * n))).toNat = _; rw [lowB_toNat, key]; simp only [Nat.reducePow, Nat.reduceSub]; omega
end Go.Proofs.YtchdnfhajcfdoaaDoor.Sp
