/- The statement on refusals: its walk. -/
import Derived.Test.YtchdnfhajcfdoaaDoorShaLaw
namespace Go.Proofs.YtchdnfhajcfdoaaDoor.Sp
open Go Go.RowKit

theorem flatMap4_length (l : List W) : (l.flatMap bytes4).length = 4 * l.length := by
  induction l with
  | nil => rfl
  | cons x l ih => simp [List.flatMap_cons, ih, bytes4_length]; omega
theorem encode_length (s : St) : (encode s).length = 32 := by unfold encode; rw [flatMap4_length]; rfl

/-- A block of the right length: the new state under a name. -/
theorem block_ok (s b : ByteArray) (hs : s.size = 32) (hb : b.size = 64) (w : World) (hT : Tab w) (R : ByteArray) (hR : R = ⟨(encode (compress (decode s.data.toList) b.data.toList)).toArray⟩) :
    Calls Tryd.prog 18 #[.string s, .string b] w fun e w' => e = .returned (.string R) ∧ Below w.heap.size w w' := by
  rw [hR]; exact block_yes s b hs hb w hT

set_option maxHeartbeats 1000000 in
theorem refuses_law (s b : ByteArray) (n : Int) (hn1 : -9223372036854775808 ≤ n) (hn2 : n ≤ 9223372036854775807) (hs : s.size ≤ 9223372036854775807) (hb : b.size ≤ 9223372036854775807) (w : World) (hT : Tab w) :
    Calls Tryd.prog 10 #[.string s, .string b, .int .i64 n] w fun e w' => e = .returned (.bool true) ∧ Below w.heap.size w w' := by
  have HT := Lib.hid hT
  clear hT
  by_cases hyes : s.size = 32 ∧ b.size = 64
  · obtain ⟨h1, h2⟩ := hyes
    have g1 : ((s.size : Int) == 32) = true := by rw [h1]; rfl
    have g2 : ((b.size : Int) == 64) = true := by rw [h2]; rfl
    obtain ⟨R, hR⟩ : ∃ R : ByteArray, R = ⟨(encode (compress (decode s.data.toList) b.data.toList)).toArray⟩ := ⟨_, rfl⟩
    have hRs : R.size = 32 := by rw [hR]; show (encode _).toArray.size = 32; rw [List.size_toArray]; exact encode_length _
    have g3 : ((R.size : Int) == 32) = true := by rw [hRs]; rfl
    have H1 := Lib.hid h1
    have H2 := Lib.hid h2
    have HR := Lib.hid hR
    clear h1 h2 hR hRs
    by_cases hneg : n < 0
    all_goals
      go_enter Tryd.func10, Tryd.ntmps10
      go_wp2_with fail
      refine (awake_any _ HT.out).mono ?_
      rintro e w1 ⟨rfl, hb1⟩
      have B1 := Lib.hid hb1
      have HT1 := Lib.hid (HT.out.below hb1 HT.out.lt)
      clear hb1
      go_wp2_with fail
      refine (block_ok s b H1.out H2.out _ HT1.out R HR.out).mono ?_
      rintro e w2 ⟨rfl, hb2⟩
      have B2 := Lib.hid (B1.out.trans (hb2.mono B1.out.size))
      clear hb2
      go_wp2_with fail
    · refine (pad_neg n hneg _).mono ?_
      rintro e w3 ⟨rfl, rfl⟩
      go_wp2_with fail
      go_ret
      exact ⟨rfl, B2.out⟩
    · go_ret
      exact ⟨rfl, B2.out⟩
  · have HN := Lib.hid hyes
    have cases4 : (((s.size : Int) == 32) = false) ∨ (((s.size : Int) == 32) = true ∧ ((b.size : Int) == 64) = false) := by
      by_cases h1 : s.size = 32
      · exact .inr ⟨by rw [h1]; rfl, beq_eq_false_iff_ne.2 (by omega)⟩
      · exact .inl (beq_eq_false_iff_ne.2 (by omega))
    clear hyes
    by_cases hneg : n < 0
    all_goals
      rcases cases4 with g1 | ⟨g1, g2⟩
      all_goals
        go_enter Tryd.func10, Tryd.ntmps10
        go_wp2_with fail
        refine (awake_any _ HT.out).mono ?_
        rintro e w1 ⟨rfl, hb1⟩
        have B1 := Lib.hid hb1
        clear hb1
        go_wp2_with fail
        refine (block_no s b HN.out _).mono ?_
        rintro e w2 ⟨rfl, hb2⟩
        have B2 := Lib.hid (B1.out.trans (hb2.mono B1.out.size))
        clear hb2
        go_wp2_with fail
    · refine (pad_neg n hneg _).mono ?_
      rintro e w3 ⟨rfl, rfl⟩
      go_wp2_with fail
      go_ret
      exact ⟨rfl, B2.out⟩
    · refine (pad_neg n hneg _).mono ?_
      rintro e w3 ⟨rfl, rfl⟩
      go_wp2_with fail
      go_ret
      exact ⟨rfl, B2.out⟩
    · go_ret
      exact ⟨rfl, B2.out⟩
    · go_ret
      exact ⟨rfl, B2.out⟩

end Go.Proofs.YtchdnfhajcfdoaaDoor.Sp
