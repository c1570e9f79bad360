/- The document's own Verify: what it answers at any texts. -/
import Derived.Test.YtnbaoihamjdjdaaGreatDoorSigVerG
namespace Go.Proofs.YtnbaoihamjdjdaaGreatDoor.Sp
open Go Go.RowKit
set_option maxRecDepth 100000

theorem qver_any (p msg sig : ByteArray) (w : World) (hp : p.size ≤ 140737488353000) (hm : msg.size ≤ 140737488351232) (hs : sig.size ≤ 140737488353000) (hT : Tabs w) :
    Calls Tryz.prog 15 #[.string p, .string msg, .string sig] w fun e w' => e = .returned (.bool (verB p msg sig)) ∧ Below w.heap.size w w' := by
  by_cases h40 : p.size = 40
  · obtain ⟨H, hH⟩ : ∃ H, num (p.data.toList.take 8) = H := ⟨_, rfl⟩
    by_cases h7 : 7 < H
    · exact qver_high p msg sig w hp hm hs hT h40 H hH h7
    · have hp8 : p.data.toList.take 8 = be 8 H := by
        have h := be_num (p.data.toList.take 8)
        rw [show (p.data.toList.take 8).length = 8 by rw [List.length_take, size_list]; omega, hH] at h
        exact h.symm
      by_cases h8 : 8 ≤ sig.size
      · obtain ⟨q1, q2, q3⟩ := qn_good sig h8
        by_cases hok : rtOk (sig.extract 8 sig.size) 160
        · exact qver_good p msg sig w hp hm hs hT h40 H hH (by omega) hp8 h8 hok
        · refine qver_bad p msg sig w hp hm hs hT h40 H hH (by omega) (by rw [q2]; exact fun e => hok e.2) (not_valid p msg sig H (by omega) hp8 ?_)
          obtain ⟨e, _⟩ := rn_ok sig h8 false
          rw [rnS, if_pos h8] at e
          exact no_head sig (sig.extract 8 sig.size) (rnN sig) H e.symm hok
      · obtain ⟨q1, q2⟩ := qn_bad sig h8
        exact qver_bad p msg sig w hp hm hs hT h40 H hH (by omega) (by rw [q2]; exact fun e => by cases e.1) (not_valid p msg sig H (by omega) hp8 (no_short sig H (by omega)))
  · exact qver_size p msg sig w hp hm hs hT h40
end Go.Proofs.YtnbaoihamjdjdaaGreatDoor.Sp
