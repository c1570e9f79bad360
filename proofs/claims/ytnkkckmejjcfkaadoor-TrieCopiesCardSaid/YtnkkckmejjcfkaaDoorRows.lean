/-
  NARROWER THAN 'FOR EVERY INPUT', by the rows' own cells (each row's printed sentence says how): TrieTells: laid · TrieProves: laid · TrieOrder: laid · TrieApart: laid · TrieModel: laid · TrieBack: laid · TrieCopies: laid · TrieForm: laid.
  DERIVED. THE GIVEN ROWS OF THIS SEAT. 8 by the template 'for every input the law returns true; each argument reads behind the call as it read before'; 0 by the template 'total and deterministic' (their statements: YtnkkckmejjcfkaaDoorTotals.lean).
  GIVEN WITH THE SEED: the statements are not yours to turn. If you find one false, say at which input.
  Laid BY PROGRAM, IN A SANDBOX (cutbox-rows.mjs): the forced cells as the released guide's own fill.sh prints them over the translation a52e19c61395292e… (all of the seat's roots in one cut). By AI agents, Wed Nov 11 2026. No macro, syntax, notation, axiom, sorry.
-/
import Derived.Test.YtnkkckmejjcfkaaDoorChecked
import GoSem.Claim
import GoSem.ClaimJoined
import GoSem.ClaimMapViews
import Derived.JoinedTies
import Derived.KernelRfl
namespace Go.Proofs.YtnkkckmejjcfkaaDoor
/- THE CELL 'sum', in the pinned program and in every row, IS THE sha256 OF THE DUMP (.gsa) THAT YtnkkckmejjcfkaaDoorProg.lean LOADS. Nothing in Lean hashes anything: it is a label: what it is worth is what the hold of that sum in a sandbox is worth. -/
noncomputable def Tryd.pinned : Pinned := { name := "ytnkkckmejjcfkaadoor", sum := "a52e19c61395292e06b500abc760a33ba939922d3f69c44191ef18e0c8a16abf", checked := Tryd.checked }
namespace Rows
def none {H : Type} : Left H := { results := [], args := [] }

/- WHAT THE LISTED PACKAGE-LEVEL VARIABLES READ AS WHEN THE CALL BEGINS. Each datum BY PROGRAM (the guide's laid-datum.mjs) off the statement by which the dump's own 'gosem.cut.vars' lays the variable. In a bare row this is a premise. The card (YtnkkckmejjcfkaaDoorCards.lean) ties it to the program's text. -/
def laid_voussoir_sha_constants {H : Type} : DataW H := .agg [.lit (.int .u32 1116352408), .lit (.int .u32 1899447441), .lit (.int .u32 3049323471), .lit (.int .u32 3921009573), .lit (.int .u32 961987163), .lit (.int .u32 1508970993), .lit (.int .u32 2453635748), .lit (.int .u32 2870763221), .lit (.int .u32 3624381080), .lit (.int .u32 310598401), .lit (.int .u32 607225278), .lit (.int .u32 1426881987), .lit (.int .u32 1925078388), .lit (.int .u32 2162078206), .lit (.int .u32 2614888103), .lit (.int .u32 3248222580), .lit (.int .u32 3835390401), .lit (.int .u32 4022224774), .lit (.int .u32 264347078), .lit (.int .u32 604807628), .lit (.int .u32 770255983), .lit (.int .u32 1249150122), .lit (.int .u32 1555081692), .lit (.int .u32 1996064986), .lit (.int .u32 2554220882), .lit (.int .u32 2821834349), .lit (.int .u32 2952996808), .lit (.int .u32 3210313671), .lit (.int .u32 3336571891), .lit (.int .u32 3584528711), .lit (.int .u32 113926993), .lit (.int .u32 338241895), .lit (.int .u32 666307205), .lit (.int .u32 773529912), .lit (.int .u32 1294757372), .lit (.int .u32 1396182291), .lit (.int .u32 1695183700), .lit (.int .u32 1986661051), .lit (.int .u32 2177026350), .lit (.int .u32 2456956037), .lit (.int .u32 2730485921), .lit (.int .u32 2820302411), .lit (.int .u32 3259730800), .lit (.int .u32 3345764771), .lit (.int .u32 3516065817), .lit (.int .u32 3600352804), .lit (.int .u32 4094571909), .lit (.int .u32 275423344), .lit (.int .u32 430227734), .lit (.int .u32 506948616), .lit (.int .u32 659060556), .lit (.int .u32 883997877), .lit (.int .u32 958139571), .lit (.int .u32 1322822218), .lit (.int .u32 1537002063), .lit (.int .u32 1747873779), .lit (.int .u32 1955562222), .lit (.int .u32 2024104815), .lit (.int .u32 2227730452), .lit (.int .u32 2361852424), .lit (.int .u32 2428436474), .lit (.int .u32 2756734187), .lit (.int .u32 3204031479), .lit (.int .u32 3329325298)]
def laid_voussoir_voussoirref01_k {H : Type} : DataW H := .agg [.lit (.int .u32 1116352408), .lit (.int .u32 1899447441), .lit (.int .u32 3049323471), .lit (.int .u32 3921009573), .lit (.int .u32 961987163), .lit (.int .u32 1508970993), .lit (.int .u32 2453635748), .lit (.int .u32 2870763221), .lit (.int .u32 3624381080), .lit (.int .u32 310598401), .lit (.int .u32 607225278), .lit (.int .u32 1426881987), .lit (.int .u32 1925078388), .lit (.int .u32 2162078206), .lit (.int .u32 2614888103), .lit (.int .u32 3248222580), .lit (.int .u32 3835390401), .lit (.int .u32 4022224774), .lit (.int .u32 264347078), .lit (.int .u32 604807628), .lit (.int .u32 770255983), .lit (.int .u32 1249150122), .lit (.int .u32 1555081692), .lit (.int .u32 1996064986), .lit (.int .u32 2554220882), .lit (.int .u32 2821834349), .lit (.int .u32 2952996808), .lit (.int .u32 3210313671), .lit (.int .u32 3336571891), .lit (.int .u32 3584528711), .lit (.int .u32 113926993), .lit (.int .u32 338241895), .lit (.int .u32 666307205), .lit (.int .u32 773529912), .lit (.int .u32 1294757372), .lit (.int .u32 1396182291), .lit (.int .u32 1695183700), .lit (.int .u32 1986661051), .lit (.int .u32 2177026350), .lit (.int .u32 2456956037), .lit (.int .u32 2730485921), .lit (.int .u32 2820302411), .lit (.int .u32 3259730800), .lit (.int .u32 3345764771), .lit (.int .u32 3516065817), .lit (.int .u32 3600352804), .lit (.int .u32 4094571909), .lit (.int .u32 275423344), .lit (.int .u32 430227734), .lit (.int .u32 506948616), .lit (.int .u32 659060556), .lit (.int .u32 883997877), .lit (.int .u32 958139571), .lit (.int .u32 1322822218), .lit (.int .u32 1537002063), .lit (.int .u32 1747873779), .lit (.int .u32 1955562222), .lit (.int .u32 2024104815), .lit (.int .u32 2227730452), .lit (.int .u32 2361852424), .lit (.int .u32 2428436474), .lit (.int .u32 2756734187), .lit (.int .u32 3204031479), .lit (.int .u32 3329325298)]
def laid_voussoir_voussoirref01_first {H : Type} : DataW H := .agg [.lit (.int .u32 1779033703), .lit (.int .u32 3144134277), .lit (.int .u32 1013904242), .lit (.int .u32 2773480762), .lit (.int .u32 1359893119), .lit (.int .u32 2600822924), .lit (.int .u32 528734635), .lit (.int .u32 1541459225)]

/-- 'voussoirlaw08.TrieTells': WHATEVER THE INPUT: true; the input reads as it did. -/
def trieTellsSpec : ChangeSpec := { name := "trieTells", fn := fun _ => fun
  | [d1, d2] => { results := [.lit (.bool true)], args := [d1, d2] }
  | _ => none }
def trieTellsRow : OpenClaim := { program := "ytnkkckmejjcfkaadoor", sum := "a52e19c61395292e06b500abc760a33ba939922d3f69c44191ef18e0c8a16abf", func := "voussoir/voussoirlaw08.TrieTells", spec := "trieTells", inPlace := ["internal/bytealg.Compare"], unfollowed := true, recurses := true, named := ["voussoir/sha.constants", "voussoir/voussoirref01.first", "voussoir/voussoirref01.k"], plainKeys := false, apart := false, laid := [("voussoir/sha.constants", laid_voussoir_sha_constants), ("voussoir/voussoirref01.k", laid_voussoir_voussoirref01_k), ("voussoir/voussoirref01.first", laid_voussoir_voussoirref01_first)] }
def TrieTellsSaid : Prop := trieTellsRow.holds Tryd.pinned (OpenSpec.ofChange trieTellsSpec)

/-- ITS FALSE NEIGHBOUR: 'it returns false'. Refute it at one input. -/
def trieTellsWrong : ChangeSpec := { name := "trieTells", fn := fun _ => fun
  | [d1, d2] => { results := [.lit (.bool false)], args := [d1, d2] }
  | _ => none }
def TrieTellsWrongFalsely : Prop := trieTellsRow.holds Tryd.pinned (OpenSpec.ofChange trieTellsWrong)

/-- 'voussoirlaw08.TrieProves': WHATEVER THE INPUT: true; the input reads as it did. -/
def trieProvesSpec : ChangeSpec := { name := "trieProves", fn := fun _ => fun
  | [d1, d2] => { results := [.lit (.bool true)], args := [d1, d2] }
  | _ => none }
def trieProvesRow : OpenClaim := { program := "ytnkkckmejjcfkaadoor", sum := "a52e19c61395292e06b500abc760a33ba939922d3f69c44191ef18e0c8a16abf", func := "voussoir/voussoirlaw08.TrieProves", spec := "trieProves", inPlace := ["internal/bytealg.Compare"], unfollowed := true, recurses := true, named := ["voussoir/sha.constants", "voussoir/voussoirref01.first", "voussoir/voussoirref01.k"], plainKeys := false, apart := false, laid := [("voussoir/sha.constants", laid_voussoir_sha_constants), ("voussoir/voussoirref01.k", laid_voussoir_voussoirref01_k), ("voussoir/voussoirref01.first", laid_voussoir_voussoirref01_first)] }
def TrieProvesSaid : Prop := trieProvesRow.holds Tryd.pinned (OpenSpec.ofChange trieProvesSpec)

/-- ITS FALSE NEIGHBOUR: 'it returns false'. Refute it at one input. -/
def trieProvesWrong : ChangeSpec := { name := "trieProves", fn := fun _ => fun
  | [d1, d2] => { results := [.lit (.bool false)], args := [d1, d2] }
  | _ => none }
def TrieProvesWrongFalsely : Prop := trieProvesRow.holds Tryd.pinned (OpenSpec.ofChange trieProvesWrong)

/-- 'voussoirlaw08.TrieOrder': WHATEVER THE INPUT: true; the input reads as it did. -/
def trieOrderSpec : ChangeSpec := { name := "trieOrder", fn := fun _ => fun
  | [d1, d2] => { results := [.lit (.bool true)], args := [d1, d2] }
  | _ => none }
def trieOrderRow : OpenClaim := { program := "ytnkkckmejjcfkaadoor", sum := "a52e19c61395292e06b500abc760a33ba939922d3f69c44191ef18e0c8a16abf", func := "voussoir/voussoirlaw08.TrieOrder", spec := "trieOrder", inPlace := ["internal/bytealg.Compare"], unfollowed := true, recurses := true, named := ["voussoir/sha.constants", "voussoir/voussoirref01.first", "voussoir/voussoirref01.k"], plainKeys := false, apart := false, laid := [("voussoir/sha.constants", laid_voussoir_sha_constants), ("voussoir/voussoirref01.k", laid_voussoir_voussoirref01_k), ("voussoir/voussoirref01.first", laid_voussoir_voussoirref01_first)] }
def TrieOrderSaid : Prop := trieOrderRow.holds Tryd.pinned (OpenSpec.ofChange trieOrderSpec)

/-- ITS FALSE NEIGHBOUR: 'it returns false'. Refute it at one input. -/
def trieOrderWrong : ChangeSpec := { name := "trieOrder", fn := fun _ => fun
  | [d1, d2] => { results := [.lit (.bool false)], args := [d1, d2] }
  | _ => none }
def TrieOrderWrongFalsely : Prop := trieOrderRow.holds Tryd.pinned (OpenSpec.ofChange trieOrderWrong)

/-- 'voussoirlaw08.TrieApart': WHATEVER THE INPUT: true; the input reads as it did. -/
def trieApartSpec : ChangeSpec := { name := "trieApart", fn := fun _ => fun
  | [d1, d2, d3, d4, d5] => { results := [.lit (.bool true)], args := [d1, d2, d3, d4, d5] }
  | _ => none }
def trieApartRow : OpenClaim := { program := "ytnkkckmejjcfkaadoor", sum := "a52e19c61395292e06b500abc760a33ba939922d3f69c44191ef18e0c8a16abf", func := "voussoir/voussoirlaw08.TrieApart", spec := "trieApart", inPlace := ["internal/bytealg.Compare"], unfollowed := true, recurses := true, named := ["voussoir/sha.constants", "voussoir/voussoirref01.first", "voussoir/voussoirref01.k"], plainKeys := false, apart := false, laid := [("voussoir/sha.constants", laid_voussoir_sha_constants), ("voussoir/voussoirref01.k", laid_voussoir_voussoirref01_k), ("voussoir/voussoirref01.first", laid_voussoir_voussoirref01_first)] }
def TrieApartSaid : Prop := trieApartRow.holds Tryd.pinned (OpenSpec.ofChange trieApartSpec)

/-- ITS FALSE NEIGHBOUR: 'it returns false'. Refute it at one input. -/
def trieApartWrong : ChangeSpec := { name := "trieApart", fn := fun _ => fun
  | [d1, d2, d3, d4, d5] => { results := [.lit (.bool false)], args := [d1, d2, d3, d4, d5] }
  | _ => none }
def TrieApartWrongFalsely : Prop := trieApartRow.holds Tryd.pinned (OpenSpec.ofChange trieApartWrong)

/-- 'voussoirlaw08.TrieModel': WHATEVER THE INPUT: true; the input reads as it did. -/
def trieModelSpec : ChangeSpec := { name := "trieModel", fn := fun _ => fun
  | [d] => { results := [.lit (.bool true)], args := [d] }
  | _ => none }
def trieModelRow : OpenClaim := { program := "ytnkkckmejjcfkaadoor", sum := "a52e19c61395292e06b500abc760a33ba939922d3f69c44191ef18e0c8a16abf", func := "voussoir/voussoirlaw08.TrieModel", spec := "trieModel", inPlace := ["internal/bytealg.Compare"], unfollowed := true, recurses := true, named := ["voussoir/sha.constants", "voussoir/voussoirref01.first", "voussoir/voussoirref01.k"], plainKeys := false, apart := false, laid := [("voussoir/sha.constants", laid_voussoir_sha_constants), ("voussoir/voussoirref01.k", laid_voussoir_voussoirref01_k), ("voussoir/voussoirref01.first", laid_voussoir_voussoirref01_first)] }
def TrieModelSaid : Prop := trieModelRow.holds Tryd.pinned (OpenSpec.ofChange trieModelSpec)

/-- ITS FALSE NEIGHBOUR: 'it returns false'. Refute it at one input. -/
def trieModelWrong : ChangeSpec := { name := "trieModel", fn := fun _ => fun
  | [d] => { results := [.lit (.bool false)], args := [d] }
  | _ => none }
def TrieModelWrongFalsely : Prop := trieModelRow.holds Tryd.pinned (OpenSpec.ofChange trieModelWrong)

/-- 'voussoirlaw08.TrieBack': WHATEVER THE INPUT: true; the input reads as it did. -/
def trieBackSpec : ChangeSpec := { name := "trieBack", fn := fun _ => fun
  | [d1, d2, d3] => { results := [.lit (.bool true)], args := [d1, d2, d3] }
  | _ => none }
def trieBackRow : OpenClaim := { program := "ytnkkckmejjcfkaadoor", sum := "a52e19c61395292e06b500abc760a33ba939922d3f69c44191ef18e0c8a16abf", func := "voussoir/voussoirlaw08.TrieBack", spec := "trieBack", inPlace := ["internal/bytealg.Compare"], unfollowed := true, recurses := true, named := ["voussoir/sha.constants", "voussoir/voussoirref01.first", "voussoir/voussoirref01.k"], plainKeys := false, apart := false, laid := [("voussoir/sha.constants", laid_voussoir_sha_constants), ("voussoir/voussoirref01.k", laid_voussoir_voussoirref01_k), ("voussoir/voussoirref01.first", laid_voussoir_voussoirref01_first)] }
def TrieBackSaid : Prop := trieBackRow.holds Tryd.pinned (OpenSpec.ofChange trieBackSpec)

/-- ITS FALSE NEIGHBOUR: 'it returns false'. Refute it at one input. -/
def trieBackWrong : ChangeSpec := { name := "trieBack", fn := fun _ => fun
  | [d1, d2, d3] => { results := [.lit (.bool false)], args := [d1, d2, d3] }
  | _ => none }
def TrieBackWrongFalsely : Prop := trieBackRow.holds Tryd.pinned (OpenSpec.ofChange trieBackWrong)

/-- 'voussoirlaw08.TrieCopies': WHATEVER THE INPUT: true; the input reads as it did. -/
def trieCopiesSpec : ChangeSpec := { name := "trieCopies", fn := fun _ => fun
  | [d1, d2] => { results := [.lit (.bool true)], args := [d1, d2] }
  | _ => none }
def trieCopiesRow : OpenClaim := { program := "ytnkkckmejjcfkaadoor", sum := "a52e19c61395292e06b500abc760a33ba939922d3f69c44191ef18e0c8a16abf", func := "voussoir/voussoirlaw08.TrieCopies", spec := "trieCopies", inPlace := ["internal/bytealg.Compare", "maps.clone"], unfollowed := true, recurses := true, named := ["voussoir/sha.constants", "voussoir/voussoirref01.first", "voussoir/voussoirref01.k"], plainKeys := false, apart := false, laid := [("voussoir/sha.constants", laid_voussoir_sha_constants), ("voussoir/voussoirref01.k", laid_voussoir_voussoirref01_k), ("voussoir/voussoirref01.first", laid_voussoir_voussoirref01_first)] }
def TrieCopiesSaid : Prop := trieCopiesRow.holds Tryd.pinned (OpenSpec.ofChange trieCopiesSpec)

/-- ITS FALSE NEIGHBOUR: 'it returns false'. Refute it at one input. -/
def trieCopiesWrong : ChangeSpec := { name := "trieCopies", fn := fun _ => fun
  | [d1, d2] => { results := [.lit (.bool false)], args := [d1, d2] }
  | _ => none }
def TrieCopiesWrongFalsely : Prop := trieCopiesRow.holds Tryd.pinned (OpenSpec.ofChange trieCopiesWrong)

/-- 'voussoirlaw08.TrieForm': WHATEVER THE INPUT: true; the input reads as it did. -/
def trieFormSpec : ChangeSpec := { name := "trieForm", fn := fun _ => fun
  | [d1, d2] => { results := [.lit (.bool true)], args := [d1, d2] }
  | _ => none }
def trieFormRow : OpenClaim := { program := "ytnkkckmejjcfkaadoor", sum := "a52e19c61395292e06b500abc760a33ba939922d3f69c44191ef18e0c8a16abf", func := "voussoir/voussoirlaw08.TrieForm", spec := "trieForm", inPlace := ["internal/bytealg.Compare"], unfollowed := true, recurses := true, named := ["voussoir/sha.constants", "voussoir/voussoirref01.first", "voussoir/voussoirref01.k"], plainKeys := false, apart := false, laid := [("voussoir/sha.constants", laid_voussoir_sha_constants), ("voussoir/voussoirref01.k", laid_voussoir_voussoirref01_k), ("voussoir/voussoirref01.first", laid_voussoir_voussoirref01_first)] }
def TrieFormSaid : Prop := trieFormRow.holds Tryd.pinned (OpenSpec.ofChange trieFormSpec)

/-- ITS FALSE NEIGHBOUR: 'it returns false'. Refute it at one input. -/
def trieFormWrong : ChangeSpec := { name := "trieForm", fn := fun _ => fun
  | [d1, d2] => { results := [.lit (.bool false)], args := [d1, d2] }
  | _ => none }
def TrieFormWrongFalsely : Prop := trieFormRow.holds Tryd.pinned (OpenSpec.ofChange trieFormWrong)

/- THE SECOND FORM. 'bulk': how many values and letters a reading holds, each counted each time it is reached (what is shared counts as often as it is met; a slice's spare places count too). A statement '..UptoSaid' is the law's where the arguments, and the package variables that the reading takes, are together of bulk at most 1048576: NARROWER than '..Said'. Prove '..Said' where nothing that the law and all that it calls make is longer than what came in: it says more and counts as full. Else prove '..UptoSaid'. A law counts once. -/
mutual
def uptoBulk {H : Type} : DataW H → Nat
  | .lit (.string bytes) => bytes.length + 1
  | .lit _ => 1
  | .nil => 1
  | .ptr d => uptoBulk d + 1
  | .slice elems spare => uptoBulkAll elems + uptoBulkAll spare + 1
  | .agg parts => uptoBulkAll parts + 1
  | .iface _ d => uptoBulk d + 1
  | .map entries => uptoBulkEntries entries + 1
  | .held _ => 1
def uptoBulkAll {H : Type} : List (DataW H) → Nat
  | [] => 0
  | d :: r => uptoBulk d + uptoBulkAll r
def uptoBulkEntries {H : Type} : List (Lit × DataW H) → Nat
  | [] => 0
  | x :: r => uptoBulkEntry x + uptoBulkEntries r
def uptoBulkEntry {H : Type} : Lit × DataW H → Nat
  | (.string bytes, d) => bytes.length + uptoBulk d + 1
  | (_, d) => uptoBulk d + 1
 end
def uptoSmall : (H : Type) → List (DataW H) → Bool := fun _ ds => decide (uptoBulkAll ds ≤ 1048576)
def OpenSpec.upto (s : _root_.Go.ChangeSpec) : _root_.Go.OpenSpec := { _root_.Go.OpenSpec.ofChange s with cond := some uptoSmall }

/-- 'voussoirlaw08.TrieTells', WHERE WHAT IT READS IS OF BULK AT MOST 1048576: true; the input reads as it did. -/
def trieTellsUptoRow : OpenClaim := { program := "ytnkkckmejjcfkaadoor", sum := "a52e19c61395292e06b500abc760a33ba939922d3f69c44191ef18e0c8a16abf", func := "voussoir/voussoirlaw08.TrieTells", spec := "trieTells", inPlace := ["internal/bytealg.Compare"], unfollowed := true, recurses := true, named := ["voussoir/sha.constants", "voussoir/voussoirref01.first", "voussoir/voussoirref01.k"], plainKeys := false, apart := false, laid := [("voussoir/sha.constants", laid_voussoir_sha_constants), ("voussoir/voussoirref01.k", laid_voussoir_voussoirref01_k), ("voussoir/voussoirref01.first", laid_voussoir_voussoirref01_first)], narrowed := true }
def TrieTellsUptoSaid : Prop := trieTellsUptoRow.holds Tryd.pinned (OpenSpec.upto trieTellsSpec)

/-- 'voussoirlaw08.TrieProves', WHERE WHAT IT READS IS OF BULK AT MOST 1048576: true; the input reads as it did. -/
def trieProvesUptoRow : OpenClaim := { program := "ytnkkckmejjcfkaadoor", sum := "a52e19c61395292e06b500abc760a33ba939922d3f69c44191ef18e0c8a16abf", func := "voussoir/voussoirlaw08.TrieProves", spec := "trieProves", inPlace := ["internal/bytealg.Compare"], unfollowed := true, recurses := true, named := ["voussoir/sha.constants", "voussoir/voussoirref01.first", "voussoir/voussoirref01.k"], plainKeys := false, apart := false, laid := [("voussoir/sha.constants", laid_voussoir_sha_constants), ("voussoir/voussoirref01.k", laid_voussoir_voussoirref01_k), ("voussoir/voussoirref01.first", laid_voussoir_voussoirref01_first)], narrowed := true }
def TrieProvesUptoSaid : Prop := trieProvesUptoRow.holds Tryd.pinned (OpenSpec.upto trieProvesSpec)

/-- 'voussoirlaw08.TrieOrder', WHERE WHAT IT READS IS OF BULK AT MOST 1048576: true; the input reads as it did. -/
def trieOrderUptoRow : OpenClaim := { program := "ytnkkckmejjcfkaadoor", sum := "a52e19c61395292e06b500abc760a33ba939922d3f69c44191ef18e0c8a16abf", func := "voussoir/voussoirlaw08.TrieOrder", spec := "trieOrder", inPlace := ["internal/bytealg.Compare"], unfollowed := true, recurses := true, named := ["voussoir/sha.constants", "voussoir/voussoirref01.first", "voussoir/voussoirref01.k"], plainKeys := false, apart := false, laid := [("voussoir/sha.constants", laid_voussoir_sha_constants), ("voussoir/voussoirref01.k", laid_voussoir_voussoirref01_k), ("voussoir/voussoirref01.first", laid_voussoir_voussoirref01_first)], narrowed := true }
def TrieOrderUptoSaid : Prop := trieOrderUptoRow.holds Tryd.pinned (OpenSpec.upto trieOrderSpec)

/-- 'voussoirlaw08.TrieApart', WHERE WHAT IT READS IS OF BULK AT MOST 1048576: true; the input reads as it did. -/
def trieApartUptoRow : OpenClaim := { program := "ytnkkckmejjcfkaadoor", sum := "a52e19c61395292e06b500abc760a33ba939922d3f69c44191ef18e0c8a16abf", func := "voussoir/voussoirlaw08.TrieApart", spec := "trieApart", inPlace := ["internal/bytealg.Compare"], unfollowed := true, recurses := true, named := ["voussoir/sha.constants", "voussoir/voussoirref01.first", "voussoir/voussoirref01.k"], plainKeys := false, apart := false, laid := [("voussoir/sha.constants", laid_voussoir_sha_constants), ("voussoir/voussoirref01.k", laid_voussoir_voussoirref01_k), ("voussoir/voussoirref01.first", laid_voussoir_voussoirref01_first)], narrowed := true }
def TrieApartUptoSaid : Prop := trieApartUptoRow.holds Tryd.pinned (OpenSpec.upto trieApartSpec)

/-- 'voussoirlaw08.TrieModel', WHERE WHAT IT READS IS OF BULK AT MOST 1048576: true; the input reads as it did. -/
def trieModelUptoRow : OpenClaim := { program := "ytnkkckmejjcfkaadoor", sum := "a52e19c61395292e06b500abc760a33ba939922d3f69c44191ef18e0c8a16abf", func := "voussoir/voussoirlaw08.TrieModel", spec := "trieModel", inPlace := ["internal/bytealg.Compare"], unfollowed := true, recurses := true, named := ["voussoir/sha.constants", "voussoir/voussoirref01.first", "voussoir/voussoirref01.k"], plainKeys := false, apart := false, laid := [("voussoir/sha.constants", laid_voussoir_sha_constants), ("voussoir/voussoirref01.k", laid_voussoir_voussoirref01_k), ("voussoir/voussoirref01.first", laid_voussoir_voussoirref01_first)], narrowed := true }
def TrieModelUptoSaid : Prop := trieModelUptoRow.holds Tryd.pinned (OpenSpec.upto trieModelSpec)

/-- 'voussoirlaw08.TrieBack', WHERE WHAT IT READS IS OF BULK AT MOST 1048576: true; the input reads as it did. -/
def trieBackUptoRow : OpenClaim := { program := "ytnkkckmejjcfkaadoor", sum := "a52e19c61395292e06b500abc760a33ba939922d3f69c44191ef18e0c8a16abf", func := "voussoir/voussoirlaw08.TrieBack", spec := "trieBack", inPlace := ["internal/bytealg.Compare"], unfollowed := true, recurses := true, named := ["voussoir/sha.constants", "voussoir/voussoirref01.first", "voussoir/voussoirref01.k"], plainKeys := false, apart := false, laid := [("voussoir/sha.constants", laid_voussoir_sha_constants), ("voussoir/voussoirref01.k", laid_voussoir_voussoirref01_k), ("voussoir/voussoirref01.first", laid_voussoir_voussoirref01_first)], narrowed := true }
def TrieBackUptoSaid : Prop := trieBackUptoRow.holds Tryd.pinned (OpenSpec.upto trieBackSpec)

/-- 'voussoirlaw08.TrieCopies', WHERE WHAT IT READS IS OF BULK AT MOST 1048576: true; the input reads as it did. -/
def trieCopiesUptoRow : OpenClaim := { program := "ytnkkckmejjcfkaadoor", sum := "a52e19c61395292e06b500abc760a33ba939922d3f69c44191ef18e0c8a16abf", func := "voussoir/voussoirlaw08.TrieCopies", spec := "trieCopies", inPlace := ["internal/bytealg.Compare", "maps.clone"], unfollowed := true, recurses := true, named := ["voussoir/sha.constants", "voussoir/voussoirref01.first", "voussoir/voussoirref01.k"], plainKeys := false, apart := false, laid := [("voussoir/sha.constants", laid_voussoir_sha_constants), ("voussoir/voussoirref01.k", laid_voussoir_voussoirref01_k), ("voussoir/voussoirref01.first", laid_voussoir_voussoirref01_first)], narrowed := true }
def TrieCopiesUptoSaid : Prop := trieCopiesUptoRow.holds Tryd.pinned (OpenSpec.upto trieCopiesSpec)

/-- 'voussoirlaw08.TrieForm', WHERE WHAT IT READS IS OF BULK AT MOST 1048576: true; the input reads as it did. -/
def trieFormUptoRow : OpenClaim := { program := "ytnkkckmejjcfkaadoor", sum := "a52e19c61395292e06b500abc760a33ba939922d3f69c44191ef18e0c8a16abf", func := "voussoir/voussoirlaw08.TrieForm", spec := "trieForm", inPlace := ["internal/bytealg.Compare"], unfollowed := true, recurses := true, named := ["voussoir/sha.constants", "voussoir/voussoirref01.first", "voussoir/voussoirref01.k"], plainKeys := false, apart := false, laid := [("voussoir/sha.constants", laid_voussoir_sha_constants), ("voussoir/voussoirref01.k", laid_voussoir_voussoirref01_k), ("voussoir/voussoirref01.first", laid_voussoir_voussoirref01_first)], narrowed := true }
def TrieFormUptoSaid : Prop := trieFormUptoRow.holds Tryd.pinned (OpenSpec.upto trieFormSpec)

end Rows
end Go.Proofs.YtnkkckmejjcfkaaDoor
