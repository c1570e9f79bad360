/-
  NARROWER THAN 'FOR EVERY INPUT', by the rows' own cells (each row's printed sentence says how): TreeTells: laid · TreeGrows: laid · TreeClimbs: laid · TreeSound: laid · TreeRoots: laid · TreeInputs: laid · TreeHalves: laid · TreeMany: laid · TreeSiblings: laid.
  DERIVED. THE GIVEN ROWS OF THIS SEAT. 9 by the template 'for every input the law returns true; each argument reads behind the call as it read before'; 0 by the template 'total and deterministic' (their statements: YtdkjlijmejleoaaDoorTotals.lean).
  GIVEN WITH THE SEED: the statements are not yours to turn. If you find one false, say at which input.
  Laid BY PROGRAM, IN A SANDBOX (cutbox-rows.mjs): the forced cells as the released guide's own fill.sh prints them over the translation 0083719565dfad7f… (all of the seat's roots in one cut). By AI agents, Wed Nov 11 2026. No macro, syntax, notation, axiom, sorry.
-/
import Derived.Test.YtdkjlijmejleoaaDoorChecked
import GoSem.Claim
import GoSem.ClaimJoined
import GoSem.ClaimMapViews
import Derived.JoinedTies
import Derived.KernelRfl
namespace Go.Proofs.YtdkjlijmejleoaaDoor
/- THE CELL 'sum', in the pinned program and in every row, IS THE sha256 OF THE DUMP (.gsa) THAT YtdkjlijmejleoaaDoorProg.lean LOADS. Nothing in Lean hashes anything: it is a label: what it is worth is what the hold of that sum in a sandbox is worth. -/
noncomputable def Tryd.pinned : Pinned := { name := "ytdkjlijmejleoaadoor", sum := "0083719565dfad7f426442647437fa4e525f45f860ff2f7b6d16216ad90dffe4", checked := Tryd.checked }
namespace Rows
def none {H : Type} : Left H := { results := [], args := [] }

/- WHAT THE LISTED PACKAGE-LEVEL VARIABLES READ AS WHEN THE CALL BEGINS. Each datum BY PROGRAM (the guide's laid-datum.mjs) off the statement by which the dump's own 'gosem.cut.vars' lays the variable. In a bare row this is a premise. The card (YtdkjlijmejleoaaDoorCards.lean) ties it to the program's text. -/
def laid_voussoir_sha_constants {H : Type} : DataW H := .agg [.lit (.int .u32 1116352408), .lit (.int .u32 1899447441), .lit (.int .u32 3049323471), .lit (.int .u32 3921009573), .lit (.int .u32 961987163), .lit (.int .u32 1508970993), .lit (.int .u32 2453635748), .lit (.int .u32 2870763221), .lit (.int .u32 3624381080), .lit (.int .u32 310598401), .lit (.int .u32 607225278), .lit (.int .u32 1426881987), .lit (.int .u32 1925078388), .lit (.int .u32 2162078206), .lit (.int .u32 2614888103), .lit (.int .u32 3248222580), .lit (.int .u32 3835390401), .lit (.int .u32 4022224774), .lit (.int .u32 264347078), .lit (.int .u32 604807628), .lit (.int .u32 770255983), .lit (.int .u32 1249150122), .lit (.int .u32 1555081692), .lit (.int .u32 1996064986), .lit (.int .u32 2554220882), .lit (.int .u32 2821834349), .lit (.int .u32 2952996808), .lit (.int .u32 3210313671), .lit (.int .u32 3336571891), .lit (.int .u32 3584528711), .lit (.int .u32 113926993), .lit (.int .u32 338241895), .lit (.int .u32 666307205), .lit (.int .u32 773529912), .lit (.int .u32 1294757372), .lit (.int .u32 1396182291), .lit (.int .u32 1695183700), .lit (.int .u32 1986661051), .lit (.int .u32 2177026350), .lit (.int .u32 2456956037), .lit (.int .u32 2730485921), .lit (.int .u32 2820302411), .lit (.int .u32 3259730800), .lit (.int .u32 3345764771), .lit (.int .u32 3516065817), .lit (.int .u32 3600352804), .lit (.int .u32 4094571909), .lit (.int .u32 275423344), .lit (.int .u32 430227734), .lit (.int .u32 506948616), .lit (.int .u32 659060556), .lit (.int .u32 883997877), .lit (.int .u32 958139571), .lit (.int .u32 1322822218), .lit (.int .u32 1537002063), .lit (.int .u32 1747873779), .lit (.int .u32 1955562222), .lit (.int .u32 2024104815), .lit (.int .u32 2227730452), .lit (.int .u32 2361852424), .lit (.int .u32 2428436474), .lit (.int .u32 2756734187), .lit (.int .u32 3204031479), .lit (.int .u32 3329325298)]
def laid_voussoir_voussoirref01_k {H : Type} : DataW H := .agg [.lit (.int .u32 1116352408), .lit (.int .u32 1899447441), .lit (.int .u32 3049323471), .lit (.int .u32 3921009573), .lit (.int .u32 961987163), .lit (.int .u32 1508970993), .lit (.int .u32 2453635748), .lit (.int .u32 2870763221), .lit (.int .u32 3624381080), .lit (.int .u32 310598401), .lit (.int .u32 607225278), .lit (.int .u32 1426881987), .lit (.int .u32 1925078388), .lit (.int .u32 2162078206), .lit (.int .u32 2614888103), .lit (.int .u32 3248222580), .lit (.int .u32 3835390401), .lit (.int .u32 4022224774), .lit (.int .u32 264347078), .lit (.int .u32 604807628), .lit (.int .u32 770255983), .lit (.int .u32 1249150122), .lit (.int .u32 1555081692), .lit (.int .u32 1996064986), .lit (.int .u32 2554220882), .lit (.int .u32 2821834349), .lit (.int .u32 2952996808), .lit (.int .u32 3210313671), .lit (.int .u32 3336571891), .lit (.int .u32 3584528711), .lit (.int .u32 113926993), .lit (.int .u32 338241895), .lit (.int .u32 666307205), .lit (.int .u32 773529912), .lit (.int .u32 1294757372), .lit (.int .u32 1396182291), .lit (.int .u32 1695183700), .lit (.int .u32 1986661051), .lit (.int .u32 2177026350), .lit (.int .u32 2456956037), .lit (.int .u32 2730485921), .lit (.int .u32 2820302411), .lit (.int .u32 3259730800), .lit (.int .u32 3345764771), .lit (.int .u32 3516065817), .lit (.int .u32 3600352804), .lit (.int .u32 4094571909), .lit (.int .u32 275423344), .lit (.int .u32 430227734), .lit (.int .u32 506948616), .lit (.int .u32 659060556), .lit (.int .u32 883997877), .lit (.int .u32 958139571), .lit (.int .u32 1322822218), .lit (.int .u32 1537002063), .lit (.int .u32 1747873779), .lit (.int .u32 1955562222), .lit (.int .u32 2024104815), .lit (.int .u32 2227730452), .lit (.int .u32 2361852424), .lit (.int .u32 2428436474), .lit (.int .u32 2756734187), .lit (.int .u32 3204031479), .lit (.int .u32 3329325298)]
def laid_voussoir_voussoirref01_first {H : Type} : DataW H := .agg [.lit (.int .u32 1779033703), .lit (.int .u32 3144134277), .lit (.int .u32 1013904242), .lit (.int .u32 2773480762), .lit (.int .u32 1359893119), .lit (.int .u32 2600822924), .lit (.int .u32 528734635), .lit (.int .u32 1541459225)]

/-- 'voussoirlaw06.TreeTells': WHATEVER THE INPUT: true; the input reads as it did. -/
def treeTellsSpec : ChangeSpec := { name := "treeTells", fn := fun _ => fun
  | [d1, d2, d3, d4] => { results := [.lit (.bool true)], args := [d1, d2, d3, d4] }
  | _ => none }
def treeTellsRow : OpenClaim := { program := "ytdkjlijmejleoaadoor", sum := "0083719565dfad7f426442647437fa4e525f45f860ff2f7b6d16216ad90dffe4", func := "voussoir/voussoirlaw06.TreeTells", spec := "treeTells", unfollowed := true, recurses := true, named := ["voussoir/sha.constants", "voussoir/voussoirref01.first", "voussoir/voussoirref01.k"], apart := false, laid := [("voussoir/sha.constants", laid_voussoir_sha_constants), ("voussoir/voussoirref01.k", laid_voussoir_voussoirref01_k), ("voussoir/voussoirref01.first", laid_voussoir_voussoirref01_first)] }
def TreeTellsSaid : Prop := treeTellsRow.holds Tryd.pinned (OpenSpec.ofChange treeTellsSpec)

/-- ITS FALSE NEIGHBOUR: 'it returns false'. Refute it at one input. -/
def treeTellsWrong : ChangeSpec := { name := "treeTells", fn := fun _ => fun
  | [d1, d2, d3, d4] => { results := [.lit (.bool false)], args := [d1, d2, d3, d4] }
  | _ => none }
def TreeTellsWrongFalsely : Prop := treeTellsRow.holds Tryd.pinned (OpenSpec.ofChange treeTellsWrong)

/-- 'voussoirlaw06.TreeGrows': WHATEVER THE INPUT: true; the input reads as it did. -/
def treeGrowsSpec : ChangeSpec := { name := "treeGrows", fn := fun _ => fun
  | [d1, d2, d3, d4] => { results := [.lit (.bool true)], args := [d1, d2, d3, d4] }
  | _ => none }
def treeGrowsRow : OpenClaim := { program := "ytdkjlijmejleoaadoor", sum := "0083719565dfad7f426442647437fa4e525f45f860ff2f7b6d16216ad90dffe4", func := "voussoir/voussoirlaw06.TreeGrows", spec := "treeGrows", unfollowed := true, recurses := true, named := ["voussoir/voussoirref01.first", "voussoir/voussoirref01.k", "voussoir/sha.constants"], apart := false, laid := [("voussoir/sha.constants", laid_voussoir_sha_constants), ("voussoir/voussoirref01.k", laid_voussoir_voussoirref01_k), ("voussoir/voussoirref01.first", laid_voussoir_voussoirref01_first)] }
def TreeGrowsSaid : Prop := treeGrowsRow.holds Tryd.pinned (OpenSpec.ofChange treeGrowsSpec)

/-- ITS FALSE NEIGHBOUR: 'it returns false'. Refute it at one input. -/
def treeGrowsWrong : ChangeSpec := { name := "treeGrows", fn := fun _ => fun
  | [d1, d2, d3, d4] => { results := [.lit (.bool false)], args := [d1, d2, d3, d4] }
  | _ => none }
def TreeGrowsWrongFalsely : Prop := treeGrowsRow.holds Tryd.pinned (OpenSpec.ofChange treeGrowsWrong)

/-- 'voussoirlaw06.TreeClimbs': WHATEVER THE INPUT: true; the input reads as it did. -/
def treeClimbsSpec : ChangeSpec := { name := "treeClimbs", fn := fun _ => fun
  | [d1, d2, d3] => { results := [.lit (.bool true)], args := [d1, d2, d3] }
  | _ => none }
def treeClimbsRow : OpenClaim := { program := "ytdkjlijmejleoaadoor", sum := "0083719565dfad7f426442647437fa4e525f45f860ff2f7b6d16216ad90dffe4", func := "voussoir/voussoirlaw06.TreeClimbs", spec := "treeClimbs", unfollowed := true, recurses := true, named := ["voussoir/sha.constants"], apart := false, laid := [("voussoir/sha.constants", laid_voussoir_sha_constants)] }
def TreeClimbsSaid : Prop := treeClimbsRow.holds Tryd.pinned (OpenSpec.ofChange treeClimbsSpec)

/-- ITS FALSE NEIGHBOUR: 'it returns false'. Refute it at one input. -/
def treeClimbsWrong : ChangeSpec := { name := "treeClimbs", fn := fun _ => fun
  | [d1, d2, d3] => { results := [.lit (.bool false)], args := [d1, d2, d3] }
  | _ => none }
def TreeClimbsWrongFalsely : Prop := treeClimbsRow.holds Tryd.pinned (OpenSpec.ofChange treeClimbsWrong)

/-- 'voussoirlaw06.TreeSound': WHATEVER THE INPUT: true; the input reads as it did. -/
def treeSoundSpec : ChangeSpec := { name := "treeSound", fn := fun _ => fun
  | [d1, d2, d3, d4, d5, d6] => { results := [.lit (.bool true)], args := [d1, d2, d3, d4, d5, d6] }
  | _ => none }
def treeSoundRow : OpenClaim := { program := "ytdkjlijmejleoaadoor", sum := "0083719565dfad7f426442647437fa4e525f45f860ff2f7b6d16216ad90dffe4", func := "voussoir/voussoirlaw06.TreeSound", spec := "treeSound", unfollowed := true, recurses := true, named := ["voussoir/sha.constants"], apart := false, laid := [("voussoir/sha.constants", laid_voussoir_sha_constants)] }
def TreeSoundSaid : Prop := treeSoundRow.holds Tryd.pinned (OpenSpec.ofChange treeSoundSpec)

/-- ITS FALSE NEIGHBOUR: 'it returns false'. Refute it at one input. -/
def treeSoundWrong : ChangeSpec := { name := "treeSound", fn := fun _ => fun
  | [d1, d2, d3, d4, d5, d6] => { results := [.lit (.bool false)], args := [d1, d2, d3, d4, d5, d6] }
  | _ => none }
def TreeSoundWrongFalsely : Prop := treeSoundRow.holds Tryd.pinned (OpenSpec.ofChange treeSoundWrong)

/-- 'voussoirlaw06.TreeRoots': WHATEVER THE INPUT: true; the input reads as it did. -/
def treeRootsSpec : ChangeSpec := { name := "treeRoots", fn := fun _ => fun
  | [d1, d2, d3] => { results := [.lit (.bool true)], args := [d1, d2, d3] }
  | _ => none }
def treeRootsRow : OpenClaim := { program := "ytdkjlijmejleoaadoor", sum := "0083719565dfad7f426442647437fa4e525f45f860ff2f7b6d16216ad90dffe4", func := "voussoir/voussoirlaw06.TreeRoots", spec := "treeRoots", unfollowed := true, recurses := true, named := ["voussoir/sha.constants"], apart := false, laid := [("voussoir/sha.constants", laid_voussoir_sha_constants)] }
def TreeRootsSaid : Prop := treeRootsRow.holds Tryd.pinned (OpenSpec.ofChange treeRootsSpec)

/-- ITS FALSE NEIGHBOUR: 'it returns false'. Refute it at one input. -/
def treeRootsWrong : ChangeSpec := { name := "treeRoots", fn := fun _ => fun
  | [d1, d2, d3] => { results := [.lit (.bool false)], args := [d1, d2, d3] }
  | _ => none }
def TreeRootsWrongFalsely : Prop := treeRootsRow.holds Tryd.pinned (OpenSpec.ofChange treeRootsWrong)

/-- 'voussoirlaw06.TreeInputs': WHATEVER THE INPUT: true; the input reads as it did. -/
def treeInputsSpec : ChangeSpec := { name := "treeInputs", fn := fun _ => fun
  | [d1, d2, d3, d4, d5] => { results := [.lit (.bool true)], args := [d1, d2, d3, d4, d5] }
  | _ => none }
def treeInputsRow : OpenClaim := { program := "ytdkjlijmejleoaadoor", sum := "0083719565dfad7f426442647437fa4e525f45f860ff2f7b6d16216ad90dffe4", func := "voussoir/voussoirlaw06.TreeInputs", spec := "treeInputs", unfollowed := true, recurses := true, named := ["voussoir/sha.constants"], apart := false, laid := [("voussoir/sha.constants", laid_voussoir_sha_constants)] }
def TreeInputsSaid : Prop := treeInputsRow.holds Tryd.pinned (OpenSpec.ofChange treeInputsSpec)

/-- ITS FALSE NEIGHBOUR: 'it returns false'. Refute it at one input. -/
def treeInputsWrong : ChangeSpec := { name := "treeInputs", fn := fun _ => fun
  | [d1, d2, d3, d4, d5] => { results := [.lit (.bool false)], args := [d1, d2, d3, d4, d5] }
  | _ => none }
def TreeInputsWrongFalsely : Prop := treeInputsRow.holds Tryd.pinned (OpenSpec.ofChange treeInputsWrong)

/-- 'voussoirlaw06.TreeHalves': WHATEVER THE INPUT: true; the input reads as it did. -/
def treeHalvesSpec : ChangeSpec := { name := "treeHalves", fn := fun _ => fun
  | [d1, d2, d3] => { results := [.lit (.bool true)], args := [d1, d2, d3] }
  | _ => none }
def treeHalvesRow : OpenClaim := { program := "ytdkjlijmejleoaadoor", sum := "0083719565dfad7f426442647437fa4e525f45f860ff2f7b6d16216ad90dffe4", func := "voussoir/voussoirlaw06.TreeHalves", spec := "treeHalves", unfollowed := true, recurses := true, named := ["voussoir/sha.constants"], apart := false, laid := [("voussoir/sha.constants", laid_voussoir_sha_constants)] }
def TreeHalvesSaid : Prop := treeHalvesRow.holds Tryd.pinned (OpenSpec.ofChange treeHalvesSpec)

/-- ITS FALSE NEIGHBOUR: 'it returns false'. Refute it at one input. -/
def treeHalvesWrong : ChangeSpec := { name := "treeHalves", fn := fun _ => fun
  | [d1, d2, d3] => { results := [.lit (.bool false)], args := [d1, d2, d3] }
  | _ => none }
def TreeHalvesWrongFalsely : Prop := treeHalvesRow.holds Tryd.pinned (OpenSpec.ofChange treeHalvesWrong)

/-- 'voussoirlaw06.TreeMany': WHATEVER THE INPUT: true; the input reads as it did. -/
def treeManySpec : ChangeSpec := { name := "treeMany", fn := fun _ => fun
  | [d1, d2, d3] => { results := [.lit (.bool true)], args := [d1, d2, d3] }
  | _ => none }
def treeManyRow : OpenClaim := { program := "ytdkjlijmejleoaadoor", sum := "0083719565dfad7f426442647437fa4e525f45f860ff2f7b6d16216ad90dffe4", func := "voussoir/voussoirlaw06.TreeMany", spec := "treeMany", unfollowed := true, recurses := true, named := ["voussoir/sha.constants"], apart := false, laid := [("voussoir/sha.constants", laid_voussoir_sha_constants)] }
def TreeManySaid : Prop := treeManyRow.holds Tryd.pinned (OpenSpec.ofChange treeManySpec)

/-- ITS FALSE NEIGHBOUR: 'it returns false'. Refute it at one input. -/
def treeManyWrong : ChangeSpec := { name := "treeMany", fn := fun _ => fun
  | [d1, d2, d3] => { results := [.lit (.bool false)], args := [d1, d2, d3] }
  | _ => none }
def TreeManyWrongFalsely : Prop := treeManyRow.holds Tryd.pinned (OpenSpec.ofChange treeManyWrong)

/-- 'voussoirlaw06.TreeSiblings': WHATEVER THE INPUT: true; the input reads as it did. -/
def treeSiblingsSpec : ChangeSpec := { name := "treeSiblings", fn := fun _ => fun
  | [d1, d2, d3] => { results := [.lit (.bool true)], args := [d1, d2, d3] }
  | _ => none }
def treeSiblingsRow : OpenClaim := { program := "ytdkjlijmejleoaadoor", sum := "0083719565dfad7f426442647437fa4e525f45f860ff2f7b6d16216ad90dffe4", func := "voussoir/voussoirlaw06.TreeSiblings", spec := "treeSiblings", unfollowed := true, recurses := true, named := ["voussoir/sha.constants"], apart := false, laid := [("voussoir/sha.constants", laid_voussoir_sha_constants)] }
def TreeSiblingsSaid : Prop := treeSiblingsRow.holds Tryd.pinned (OpenSpec.ofChange treeSiblingsSpec)

/-- ITS FALSE NEIGHBOUR: 'it returns false'. Refute it at one input. -/
def treeSiblingsWrong : ChangeSpec := { name := "treeSiblings", fn := fun _ => fun
  | [d1, d2, d3] => { results := [.lit (.bool false)], args := [d1, d2, d3] }
  | _ => none }
def TreeSiblingsWrongFalsely : Prop := treeSiblingsRow.holds Tryd.pinned (OpenSpec.ofChange treeSiblingsWrong)

/- THE SECOND FORM. 'bulk': how many values and letters a reading holds, each counted each time it is reached (what is shared counts as often as it is met; a slice's spare places count too). A statement '..UptoSaid' is the law's where the arguments, and the package variables that the reading takes, are together of bulk at most 1048576: NARROWER than '..Said'. Prove '..Said' where nothing that the law and all that it calls make is longer than what came in: it says more and counts as full. Else prove '..UptoSaid'. A law counts once. -/
mutual
def uptoBulk {H : Type} : DataW H → Nat
  | .lit (.string bytes) => bytes.length + 1
  | .lit _ => 1
  | .nil => 1
  | .ptr d => uptoBulk d + 1
  | .slice elems spare => uptoBulkAll elems + uptoBulkAll spare + 1
  | .agg parts => uptoBulkAll parts + 1
  | .iface _ d => uptoBulk d + 1
  | .map entries => uptoBulkEntries entries + 1
  | .held _ => 1
def uptoBulkAll {H : Type} : List (DataW H) → Nat
  | [] => 0
  | d :: r => uptoBulk d + uptoBulkAll r
def uptoBulkEntries {H : Type} : List (Lit × DataW H) → Nat
  | [] => 0
  | x :: r => uptoBulkEntry x + uptoBulkEntries r
def uptoBulkEntry {H : Type} : Lit × DataW H → Nat
  | (.string bytes, d) => bytes.length + uptoBulk d + 1
  | (_, d) => uptoBulk d + 1
 end
def uptoSmall : (H : Type) → List (DataW H) → Bool := fun _ ds => decide (uptoBulkAll ds ≤ 1048576)
def OpenSpec.upto (s : _root_.Go.ChangeSpec) : _root_.Go.OpenSpec := { _root_.Go.OpenSpec.ofChange s with cond := some uptoSmall }

/-- 'voussoirlaw06.TreeTells', WHERE WHAT IT READS IS OF BULK AT MOST 1048576: true; the input reads as it did. -/
def treeTellsUptoRow : OpenClaim := { program := "ytdkjlijmejleoaadoor", sum := "0083719565dfad7f426442647437fa4e525f45f860ff2f7b6d16216ad90dffe4", func := "voussoir/voussoirlaw06.TreeTells", spec := "treeTells", unfollowed := true, recurses := true, named := ["voussoir/sha.constants", "voussoir/voussoirref01.first", "voussoir/voussoirref01.k"], apart := false, laid := [("voussoir/sha.constants", laid_voussoir_sha_constants), ("voussoir/voussoirref01.k", laid_voussoir_voussoirref01_k), ("voussoir/voussoirref01.first", laid_voussoir_voussoirref01_first)], narrowed := true }
def TreeTellsUptoSaid : Prop := treeTellsUptoRow.holds Tryd.pinned (OpenSpec.upto treeTellsSpec)

/-- 'voussoirlaw06.TreeGrows', WHERE WHAT IT READS IS OF BULK AT MOST 1048576: true; the input reads as it did. -/
def treeGrowsUptoRow : OpenClaim := { program := "ytdkjlijmejleoaadoor", sum := "0083719565dfad7f426442647437fa4e525f45f860ff2f7b6d16216ad90dffe4", func := "voussoir/voussoirlaw06.TreeGrows", spec := "treeGrows", unfollowed := true, recurses := true, named := ["voussoir/voussoirref01.first", "voussoir/voussoirref01.k", "voussoir/sha.constants"], apart := false, laid := [("voussoir/sha.constants", laid_voussoir_sha_constants), ("voussoir/voussoirref01.k", laid_voussoir_voussoirref01_k), ("voussoir/voussoirref01.first", laid_voussoir_voussoirref01_first)], narrowed := true }
def TreeGrowsUptoSaid : Prop := treeGrowsUptoRow.holds Tryd.pinned (OpenSpec.upto treeGrowsSpec)

/-- 'voussoirlaw06.TreeClimbs', WHERE WHAT IT READS IS OF BULK AT MOST 1048576: true; the input reads as it did. -/
def treeClimbsUptoRow : OpenClaim := { program := "ytdkjlijmejleoaadoor", sum := "0083719565dfad7f426442647437fa4e525f45f860ff2f7b6d16216ad90dffe4", func := "voussoir/voussoirlaw06.TreeClimbs", spec := "treeClimbs", unfollowed := true, recurses := true, named := ["voussoir/sha.constants"], apart := false, laid := [("voussoir/sha.constants", laid_voussoir_sha_constants)], narrowed := true }
def TreeClimbsUptoSaid : Prop := treeClimbsUptoRow.holds Tryd.pinned (OpenSpec.upto treeClimbsSpec)

/-- 'voussoirlaw06.TreeSound', WHERE WHAT IT READS IS OF BULK AT MOST 1048576: true; the input reads as it did. -/
def treeSoundUptoRow : OpenClaim := { program := "ytdkjlijmejleoaadoor", sum := "0083719565dfad7f426442647437fa4e525f45f860ff2f7b6d16216ad90dffe4", func := "voussoir/voussoirlaw06.TreeSound", spec := "treeSound", unfollowed := true, recurses := true, named := ["voussoir/sha.constants"], apart := false, laid := [("voussoir/sha.constants", laid_voussoir_sha_constants)], narrowed := true }
def TreeSoundUptoSaid : Prop := treeSoundUptoRow.holds Tryd.pinned (OpenSpec.upto treeSoundSpec)

/-- 'voussoirlaw06.TreeRoots', WHERE WHAT IT READS IS OF BULK AT MOST 1048576: true; the input reads as it did. -/
def treeRootsUptoRow : OpenClaim := { program := "ytdkjlijmejleoaadoor", sum := "0083719565dfad7f426442647437fa4e525f45f860ff2f7b6d16216ad90dffe4", func := "voussoir/voussoirlaw06.TreeRoots", spec := "treeRoots", unfollowed := true, recurses := true, named := ["voussoir/sha.constants"], apart := false, laid := [("voussoir/sha.constants", laid_voussoir_sha_constants)], narrowed := true }
def TreeRootsUptoSaid : Prop := treeRootsUptoRow.holds Tryd.pinned (OpenSpec.upto treeRootsSpec)

/-- 'voussoirlaw06.TreeInputs', WHERE WHAT IT READS IS OF BULK AT MOST 1048576: true; the input reads as it did. -/
def treeInputsUptoRow : OpenClaim := { program := "ytdkjlijmejleoaadoor", sum := "0083719565dfad7f426442647437fa4e525f45f860ff2f7b6d16216ad90dffe4", func := "voussoir/voussoirlaw06.TreeInputs", spec := "treeInputs", unfollowed := true, recurses := true, named := ["voussoir/sha.constants"], apart := false, laid := [("voussoir/sha.constants", laid_voussoir_sha_constants)], narrowed := true }
def TreeInputsUptoSaid : Prop := treeInputsUptoRow.holds Tryd.pinned (OpenSpec.upto treeInputsSpec)

/-- 'voussoirlaw06.TreeHalves', WHERE WHAT IT READS IS OF BULK AT MOST 1048576: true; the input reads as it did. -/
def treeHalvesUptoRow : OpenClaim := { program := "ytdkjlijmejleoaadoor", sum := "0083719565dfad7f426442647437fa4e525f45f860ff2f7b6d16216ad90dffe4", func := "voussoir/voussoirlaw06.TreeHalves", spec := "treeHalves", unfollowed := true, recurses := true, named := ["voussoir/sha.constants"], apart := false, laid := [("voussoir/sha.constants", laid_voussoir_sha_constants)], narrowed := true }
def TreeHalvesUptoSaid : Prop := treeHalvesUptoRow.holds Tryd.pinned (OpenSpec.upto treeHalvesSpec)

/-- 'voussoirlaw06.TreeMany', WHERE WHAT IT READS IS OF BULK AT MOST 1048576: true; the input reads as it did. -/
def treeManyUptoRow : OpenClaim := { program := "ytdkjlijmejleoaadoor", sum := "0083719565dfad7f426442647437fa4e525f45f860ff2f7b6d16216ad90dffe4", func := "voussoir/voussoirlaw06.TreeMany", spec := "treeMany", unfollowed := true, recurses := true, named := ["voussoir/sha.constants"], apart := false, laid := [("voussoir/sha.constants", laid_voussoir_sha_constants)], narrowed := true }
def TreeManyUptoSaid : Prop := treeManyUptoRow.holds Tryd.pinned (OpenSpec.upto treeManySpec)

/-- 'voussoirlaw06.TreeSiblings', WHERE WHAT IT READS IS OF BULK AT MOST 1048576: true; the input reads as it did. -/
def treeSiblingsUptoRow : OpenClaim := { program := "ytdkjlijmejleoaadoor", sum := "0083719565dfad7f426442647437fa4e525f45f860ff2f7b6d16216ad90dffe4", func := "voussoir/voussoirlaw06.TreeSiblings", spec := "treeSiblings", unfollowed := true, recurses := true, named := ["voussoir/sha.constants"], apart := false, laid := [("voussoir/sha.constants", laid_voussoir_sha_constants)], narrowed := true }
def TreeSiblingsUptoSaid : Prop := treeSiblingsUptoRow.holds Tryd.pinned (OpenSpec.upto treeSiblingsSpec)

end Rows
end Go.Proofs.YtdkjlijmejleoaaDoor
