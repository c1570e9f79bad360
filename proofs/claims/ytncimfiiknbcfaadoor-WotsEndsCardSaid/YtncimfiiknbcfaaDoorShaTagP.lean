/- Package sha: Tag. -/
import Derived.Test.YtncimfiiknbcfaaDoorShaInputP
namespace Go.Proofs.YtncimfiiknbcfaaDoor.Sp
open Go Go.RowKit

/-- Tag is the sum of the input. -/
theorem tag_any (d : UInt8) (a : Option Addr) (n c : Nat) (ss : List ByteArray) (w : World) (h : Strs w a n ss) (hn : n ≤ 9223372036854775807) (hlen : len2 ss n ≤ 140737488351300) (hT : Tab w) :
    Calls Tryd.prog 25 #[.int .u8 (d.toNat : Int), .slice a n c] w fun e w' => e = .returned (.string ⟨(sum (inB d ss)).toArray⟩) ∧ Below w.heap.size w w' := by
  have HH := Lib.hid h
  have HT := Lib.hid hT
  obtain ⟨I, eI⟩ : ∃ I : ByteArray, I = ⟨(inB d ss).toArray⟩ := ⟨_, rfl⟩
  have hIl : I.data.toList = inB d ss := by rw [eI]
  have hIs : I.size ≤ 140737488351300 := by rw [← size_list, hIl, ← inp_all, inp_length, h.1]; exact hlen
  have HI := Lib.hid hIl
  have EI := Lib.hid eI
  clear h hT eI hIl
  go_enter Tryd.func25, Tryd.ntmps25
  go_wp2_with fail
  refine (input_any d a n c ss _ HH.out hn hlen).mono ?_
  rintro e w1 ⟨rfl, hb1⟩
  have B1 := Lib.hid hb1
  have HT1 := Lib.hid (HT.out.below hb1 HT.out.lt)
  clear hb1
  rw [← EI.out]
  go_wp2_with fail
  refine (sum_any I (by omega) _ HT1.out).mono ?_
  rintro e w2 ⟨rfl, hb2⟩
  have B2 := Lib.hid (B1.out.trans (hb2.mono B1.out.size))
  clear hb2
  go_wp2_with fail
  go_ret
  exact ⟨ret_string (by rw [HI.out]), B2.out⟩

end Go.Proofs.YtncimfiiknbcfaaDoor.Sp
