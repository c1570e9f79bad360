/- Package tree: the program's own calls, in the form in which the walks of the statements use them. -/
import Derived.Test.YtdkjlijmejleoaaDoorTreP
import Derived.Test.YtdkjlijmejleoaaDoorTreRProg
import Derived.Test.YtdkjlijmejleoaaDoorTrgInp
import Derived.Test.YtdkjlijmejleoaaDoorTrgClimbed
namespace Go.Proofs.YtdkjlijmejleoaaDoor.Sp
open Go Go.RowKit

theorem treeP : TreeP where
  toTreeR := treeR
  inputs l a n cap w hn hM hl hT := tinputs_any l a n cap w hn hM hl hT
  climbed x i l a n cap w hn hi hM hl hT := tclimbed_any x i l a n cap w hn hi hM hl hT
end Go.Proofs.YtdkjlijmejleoaaDoor.Sp
