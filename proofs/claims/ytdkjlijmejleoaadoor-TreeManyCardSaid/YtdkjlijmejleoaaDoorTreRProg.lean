/- Package tree: the program's own Node, Root, Path, Climb, in the form in which the walks of the statements use them. -/
import Derived.Test.YtdkjlijmejleoaaDoorTreR
import Derived.Test.YtdkjlijmejleoaaDoorTrgA
import Derived.Test.YtdkjlijmejleoaaDoorTrgClimb
namespace Go.Proofs.YtdkjlijmejleoaaDoor.Sp
open Go Go.RowKit

theorem treeR : TreeR where
  node a b w h hT := tnode_any a b w h hT
  root l a n cap w hn hM hl hT := troot_any l a n cap w hn hM hl hT
  path l a n cap i w hn hi hM hl hT := tpath_any l a n cap i w hn hi hM hl hT
  climb x i l a n cap w hn hi hx hM hl hT := tclimb_any x i l a n cap w hn hi hx hM hl hT
end Go.Proofs.YtdkjlijmejleoaaDoor.Sp
