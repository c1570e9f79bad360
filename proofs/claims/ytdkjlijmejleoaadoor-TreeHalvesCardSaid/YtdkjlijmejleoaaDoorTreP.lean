/- What is wanted of package tree's own calls, with Inputs and Climbed. -/
import Derived.Test.YtdkjlijmejleoaaDoorTreR
namespace Go.Proofs.YtdkjlijmejleoaaDoor.Sp
open Go Go.RowKit

/-- The program's calls, by what they answer. -/
structure TreeP : Prop extends TreeR where
  inputs : ∀ (l : List ByteArray) (a : Option Addr) (n cap : Nat) (w : World), n ≤ 9223372036854775807 → (∀ x ∈ l, ∀ y ∈ l, x.size + y.size ≤ TM) → Strs w a n l → Tab w →
    Calls Tryd.prog 18 #[.slice a n cap] w (TextsTo (inputsB l) w)
  climbed : ∀ (x : ByteArray) (i : Int) (l : List ByteArray) (a : Option Addr) (n cap : Nat) (w : World), n ≤ 4294967296 → -9223372036854775808 ≤ i ∧ i ≤ 9223372036854775807 → (∀ y ∈ l, x.size + y.size ≤ TM ∧ 32 + y.size ≤ TM) → Strs w a n l → Tab w →
    Calls Tryd.prog 22 #[.string x, .int .i64 i, .slice a n cap] w (TextsTo (climbedI x i l) w)

end Go.Proofs.YtdkjlijmejleoaaDoor.Sp
