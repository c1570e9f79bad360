/- Clash as package trie's statements call it, where there is one; texts that are summed. -/
import Derived.Test.YtnkkckmejjcfkaaDoorTriOne
import Derived.Test.YtnkkckmejjcfkaaDoorTriLawP
import Derived.Test.YtnkkckmejjcfkaaDoorGdM
import Derived.Test.YtnkkckmejjcfkaaDoorTxt
namespace Go.Proofs.YtnkkckmejjcfkaaDoor.Sp
open Go Go.RowKit

/-- Clash where there is one. -/
theorem tclash_any (l : List ByteArray) (a : Option Addr) (n cap : Nat) (hn : n ≤ 4294967296) (hM : ∀ x ∈ l, x.size ≤ 9223372036854775000) (hS : ClashIn l) (w : World) (hl : Strs w a n l) (hT : Tab w) :
    Calls Tryd.prog 33 #[.slice a n cap] w fun e w' => e = .returned (.bool true) ∧ Below w.heap.size w w' :=
  clash_any Tab (fun _ _ h => h) (fun _ _ h hb => h.below hb h.lt) (fun b w h ht => sum_any b h w ht) l a n cap hn hM true ⟨fun _ => hS, fun _ => rfl⟩ w hl hT
theorem inT_one_size (d : UInt8) (a : ByteArray) (h : a.size ≤ 140737488351232) : (inT d [a]).size ≤ 9223372036854775000 := by
  rw [← size_list]
  show (inB d [a]).length ≤ _
  rw [← inp_all, inp_length]
  show len2 [a] 1 ≤ _
  rw [len_one]; omega
theorem text_eq (x y : ByteArray) (h : x = y) : (x.toList == y.toList) = true := by rw [h]; exact text_self y
end Go.Proofs.YtnkkckmejjcfkaaDoor.Sp
