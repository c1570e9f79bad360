/- Words of 32 bits as the walk spells them: sums, shifts and bit operations of unsigned 32-bit integers, read back as bit vectors. -/
import Derived.WalkKit
import Derived.Test.YtnbaoihamjdjdaaGreatDoorShaPure
namespace Go.Proofs.YtnbaoihamjdjdaaGreatDoor.Sp
open Go
set_option maxRecDepth 100000

/-- A word as the integer that the walk shows. -/
def U (x : W) : Int := (x.toNat : Int)
theorem U_lo (x : W) : 0 ≤ U x := by unfold U; omega
theorem U_hi (x : W) : U x < 4294967296 := by unfold U; have := x.isLt; omega
theorem U_toNat (x : W) : (U x).toNat = x.toNat := by unfold U; omega
theorem U_inj {x y : W} (h : U x = U y) : x = y := BitVec.eq_of_toNat_eq (by unfold U at h; omega)

theorem wrap_u32_nat (n : Nat) : IntKind.u32.wrap (n : Int) = U (BitVec.ofNat 32 n) := by
  rw [IntKind.wrap_u32']; unfold U; rw [BitVec.toNat_ofNat]; omega
theorem add_U (x y : W) : IntKind.u32.wrap (U x + U y) = U (x + y) := by
  have : U x + U y = ((x.toNat + y.toNat : Nat) : Int) := by unfold U; omega
  rw [this, wrap_u32_nat]; congr 1
theorem xor_U (x y : W) : bits .xor .u32 (U x) (U y) = U (x ^^^ y) := by
  unfold U; rw [u32_xor_nat _ _ x.isLt y.isLt, BitVec.toNat_xor]
theorem and_U (x y : W) : bits .and .u32 (U x) (U y) = U (x &&& y) := by
  unfold U; rw [u32_and_nat _ _ x.isLt y.isLt, BitVec.toNat_and]
theorem or_U (x y : W) : bits .or .u32 (U x) (U y) = U (x ||| y) := by
  unfold U; rw [u32_or_nat _ _ x.isLt y.isLt, BitVec.toNat_or]
theorem shr_U (x : W) (n : Nat) : U x / 2 ^ n = U (x >>> n) := by
  unfold U; rw [BitVec.toNat_ushiftRight, Nat.shiftRight_eq_div_pow]; norm_cast
theorem shl_U (x : W) (n : Nat) : IntKind.u32.wrap (U x * 2 ^ n) = U (x <<< n) := by
  have : U x * 2 ^ n = ((x.toNat * 2 ^ n : Nat) : Int) := by unfold U; norm_cast
  rw [this, wrap_u32_nat]; congr 1
  apply BitVec.eq_of_toNat_eq; rw [BitVec.toNat_ofNat, BitVec.toNat_shiftLeft, Nat.shiftLeft_eq]
theorem not_U (x : W) : bits .xor .u32 (U x) (4294967295 : Int) = U (~~~x) := by
  have h : (4294967295 : Int) = U (BitVec.allOnes 32) := by decide
  rw [h, xor_U, BitVec.xor_allOnes]

/-- The forms that the walk leaves. -/
theorem addm_U (x y : W) : (U x + U y) % (4294967296 : Int) = U (x + y) := by rw [← IntKind.wrap_u32', add_U]
theorem notm_U (x : W) : bits .xor .u32 IntKind.u32.max (U x) = U (~~~x) := by
  have h : IntKind.u32.max = U (BitVec.allOnes 32) := by decide
  rw [h, xor_U, BitVec.xor_comm, BitVec.xor_allOnes]
theorem shr3_U (x : W) : U x / (8 : Int) = U (x >>> 3) := shr_U x 3
theorem shr8_U (x : W) : U x / (256 : Int) = U (x >>> 8) := shr_U x 8
theorem shr10_U (x : W) : U x / (1024 : Int) = U (x >>> 10) := shr_U x 10
theorem shr16_U (x : W) : U x / (65536 : Int) = U (x >>> 16) := shr_U x 16
theorem shr24_U (x : W) : U x / (16777216 : Int) = U (x >>> 24) := shr_U x 24
theorem shlm_U (x : W) (n : Nat) : U x * 2 ^ n % (4294967296 : Int) = U (x <<< n) := by rw [← IntKind.wrap_u32', shl_U]

theorem shl8_U (x : W) : U x * (256 : Int) % (4294967296 : Int) = U (x <<< 8) := shlm_U x 8
theorem shl16_U (x : W) : U x * (65536 : Int) % (4294967296 : Int) = U (x <<< 16) := shlm_U x 16
theorem shl24_U (x : W) : U x * (16777216 : Int) % (4294967296 : Int) = U (x <<< 24) := shlm_U x 24
end Go.Proofs.YtnbaoihamjdjdaaGreatDoor.Sp
