/- Plain one-time signatures over texts: what the contracts of package wots and of the document's own answer come to. -/
import Derived.Test.YtncimfiiknbcfaaDoorShaInputP
import Derived.Test.YtncimfiiknbcfaaDoorCodPure
namespace Go.Proofs.YtncimfiiknbcfaaDoor.Sp
open Go

/-- The encoding of a number. -/
def encN (n : Int) : Nat := if n < 0 ∨ 4294967296 < n then 0 else n.toNat
def numB (n : Int) : ByteArray := ⟨(be 8 (encN n)).toArray⟩
/-- The value of a Tag. -/
def cut16 (l : List UInt8) : ByteArray := ⟨(l.take 16).toArray⟩
def stepB (c i : Int) (v : ByteArray) : ByteArray := cut16 (sum (inB 2 [numB c, numB i, v]))
/-- So many steps on from a place. -/
def goB (c i : Int) : Nat → ByteArray → ByteArray
  | 0, v => v
  | n + 1, v => stepB c (i + n) (goB c i n v)
def walkB (c i j : Int) (v : ByteArray) : ByteArray := if i < 0 ∨ 15 < j then v else goB c i (j - i).toNat v
def secretB (seed : ByteArray) (leaf c : Int) : ByteArray := cut16 (sum (inB 3 [seed, numB leaf, numB c]))
def hexOf (l : List UInt8) : List Nat := l.flatMap fun b => [b.toNat / 16, b.toNat % 16]
def lacks (l : List Nat) : Nat := (l.map fun d => 15 - d).sum
def digitsN (msg : ByteArray) : List Nat :=
  let h := hexOf ((sum (inB 1 [msg])).take 4)
  h ++ [lacks h / 16, lacks h % 16]
def publicB (seed : ByteArray) (leaf : Int) : ByteArray := ⟨(sum (inB 4 ((List.range 10).map fun (c : Nat) => walkB (c : Int) 0 15 (secretB seed leaf c)))).toArray⟩
def signUpto (seed : ByteArray) (leaf : Int) (msg : ByteArray) : Nat → ByteArray
  | 0 => .empty
  | c + 1 => signUpto seed leaf msg c ++ walkB (c : Int) 0 ((digitsN msg).getD c 0 : Nat) (secretB seed leaf (c : Int))
def signB (seed : ByteArray) (leaf : Int) (msg : ByteArray) : ByteArray := signUpto seed leaf msg 10
def fromB (sig msg : ByteArray) : ByteArray :=
  if sig.size = 160 then ⟨(sum (inB 4 ((List.range 10).map fun (c : Nat) => walkB (c : Int) ((digitsN msg).getD c 0 : Nat) 15 (sig.extract (16 * c) (16 * c + 16))))).toArray⟩ else .empty

theorem sum_length (l : List UInt8) : (sum l).length = 32 := encode_length _
theorem cut16_size (l : List UInt8) (h : l.length = 32) : (cut16 l).size = 16 := by
  show (l.take 16).toArray.size = 16
  simp [h]
theorem stepB_size (c i : Int) (v : ByteArray) : (stepB c i v).size = 16 := cut16_size _ (sum_length _)
theorem secretB_size (seed : ByteArray) (leaf c : Int) : (secretB seed leaf c).size = 16 := cut16_size _ (sum_length _)
theorem numB_size (n : Int) : (numB n).size = 8 := by
  show (be 8 (encN n)).toArray.size = 8
  rw [List.size_toArray]; rfl
theorem goB_size (c i : Int) (n : Nat) (v : ByteArray) (h : v.size = 16) : (goB c i n v).size = 16 := by
  cases n with
  | zero => exact h
  | succ n => exact stepB_size _ _ _
theorem goB_le (c i : Int) (n : Nat) (v : ByteArray) (m : Nat) (h : v.size ≤ m) (hm : 16 ≤ m) : (goB c i n v).size ≤ m := by
  cases n with
  | zero => exact h
  | succ n => show (stepB _ _ _).size ≤ m; rw [stepB_size]; exact hm
theorem walkB_size (c i j : Int) (v : ByteArray) (h : v.size = 16) : (walkB c i j v).size = 16 := by
  unfold walkB
  split
  · exact h
  · exact goB_size c i _ v h
theorem encN_lt (n : Int) : encN n < 18446744073709551616 := by
  unfold encN
  split <;> omega
theorem goB_add (c i : Int) (n m : Nat) (v : ByteArray) : goB c (i + n) m (goB c i n v) = goB c i (n + m) v := by
  induction m with
  | zero => rfl
  | succ m ih =>
    show stepB c (i + n + m) (goB c (i + n) m (goB c i n v)) = stepB c (i + ((n + m : Nat) : Int)) (goB c i (n + m) v)
    rw [ih]
    congr 1
    omega
end Go.Proofs.YtncimfiiknbcfaaDoor.Sp
