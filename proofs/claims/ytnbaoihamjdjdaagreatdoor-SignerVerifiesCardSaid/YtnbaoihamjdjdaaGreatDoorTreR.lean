/- What is wanted of package tree's own Node, Root, Path, Climb: each answers as the plain tree does. (No statement is named here.) -/
import Derived.Test.YtnbaoihamjdjdaaGreatDoorTreB
import Derived.Test.YtnbaoihamjdjdaaGreatDoorShaPb
namespace Go.Proofs.YtnbaoihamjdjdaaGreatDoor.Sp
open Go Go.RowKit
set_option maxRecDepth 100000

/-- What two texts of a Node may have together. -/
def TM : Nat := 281474976710647
/-- The program's calls, by what they answer. -/
structure TreeR : Prop where
  node : ∀ (a b : ByteArray) (w : World), a.size + b.size ≤ TM → Tab w → Calls Tryz.prog 60 #[.string a, .string b] w fun e w' => e = .returned (.string (nodeB a b)) ∧ Below w.heap.size w w'
  root : ∀ (l : List ByteArray) (a : Option Addr) (n cap : Nat) (w : World), n ≤ 9223372036854775807 → (∀ x ∈ l, ∀ y ∈ l, x.size + y.size ≤ TM) → Strs w a n l → Tab w →
    Calls Tryz.prog 32 #[.slice a n cap] w fun e w' => e = .returned (.string (rootB l)) ∧ Below w.heap.size w w'
  path : ∀ (l : List ByteArray) (a : Option Addr) (n cap : Nat) (i : Int) (w : World), n ≤ 9223372036854775807 → -9223372036854775808 ≤ i ∧ i ≤ 9223372036854775807 → (∀ x ∈ l, ∀ y ∈ l, x.size + y.size ≤ TM) → Strs w a n l → Tab w →
    Calls Tryz.prog 24 #[.slice a n cap, .int .i64 i] w (TextsTo (pathB l i) w)
  climb : ∀ (x : ByteArray) (i : Int) (l : List ByteArray) (a : Option Addr) (n cap : Nat) (w : World), n ≤ 4294967296 → -9223372036854775808 ≤ i ∧ i ≤ 9223372036854775807 → x.size ≤ 140737488355328 → (∀ y ∈ l, x.size + y.size ≤ TM ∧ 32 + y.size ≤ TM) → Strs w a n l → Tab w →
    Calls Tryz.prog 40 #[.string x, .int .i64 i, .slice a n cap] w fun e w' => e = .returned (.string (climbI x i l)) ∧ Below w.heap.size w w'

end Go.Proofs.YtnbaoihamjdjdaaGreatDoor.Sp
