/- The statement that holds package sha against the document's own answer: its walk. -/
import Derived.Test.YtchdnfhajcfdoaaDoorShaRefI
import Derived.Test.YtchdnfhajcfdoaaDoorShaApartW
namespace Go.Proofs.YtchdnfhajcfdoaaDoor.Sp
open Go Go.RowKit

theorem pads_alike (n : Int) (h1 : -9223372036854775808 ≤ n) (h2 : n ≤ 9223372036854775807) : ∃ P : ByteArray,
    (∀ w : World, Calls Tryd.prog 14 #[.int .i64 n] w fun e w' => e = .returned (.string P) ∧ Below w.heap.size w w') ∧
    (∀ w : World, Calls Tryd.prog 15 #[.int .i64 n] w fun e w' => e = .returned (.string P) ∧ Below w.heap.size w w') := by
  by_cases hn : n < 0
  · exact ⟨⟨#[]⟩, fun w => (pad_neg n hn w).mono (fun _ _ h => ⟨h.1, h.2 ▸ Below.refl _ _⟩), fun w => (rpad_neg n hn w).mono (fun _ _ h => ⟨h.1, h.2 ▸ Below.refl _ _⟩)⟩
  · obtain ⟨m, rfl⟩ : ∃ m : Nat, n = (m : Int) := ⟨n.toNat, by omega⟩
    exact ⟨⟨(pad m).toArray⟩, fun w => pad_any m (by omega) w, fun w => rpad_any m (by omega) w⟩

theorem blocks_alike (s b : ByteArray) : ∃ R : ByteArray,
    (∀ w : World, Tab w → Calls Tryd.prog 18 #[.string s, .string b] w fun e w' => e = .returned (.string R) ∧ Below w.heap.size w w') ∧
    (∀ w : World, KTab w → Calls Tryd.prog 19 #[.string s, .string b] w fun e w' => e = .returned (.string R) ∧ Below w.heap.size w w') := by
  by_cases hyes : s.size = 32 ∧ b.size = 64
  · exact ⟨⟨(encode (compress (decode s.data.toList) b.data.toList)).toArray⟩, fun w hT => block_ok s b hyes.1 hyes.2 w hT _ rfl, fun w hK => rblock_yes s b hyes.1 hyes.2 w hK _ rfl⟩
  · exact ⟨⟨#[]⟩, fun w _ => block_no s b hyes w, fun w _ => rblock_no s b hyes w⟩

set_option maxHeartbeats 2000000 in
theorem tells_law (s : ByteArray) (n : Int) (st bl : ByteArray) (d : UInt8) (a : Option Addr) (m c : Nat) (ss : List ByteArray) (hs : s.size ≤ 9223372036854775000) (hn1 : -9223372036854775808 ≤ n) (hn2 : n ≤ 9223372036854775807)
    (w : World) (h : Strs w a m ss) (hT : Tab w) (hK : KTab w) (hF : FTab w) (hl : len2 ss m ≤ 100000000) (hm : m ≤ 100000000) :
    Calls Tryd.prog 3 #[.string s, .int .i64 n, .string st, .string bl, .int .u8 (d.toNat : Int), .slice a m c] w fun e w' => e = .returned (.bool true) ∧ Below w.heap.size w w' := by
  obtain ⟨P, hp1, hp2⟩ := pads_alike n hn1 hn2
  obtain ⟨R, hr1, hr2⟩ := blocks_alike st bl
  obtain ⟨M, eM⟩ : ∃ M : ByteArray, M = ⟨(sum s.data.toList).toArray⟩ := ⟨_, rfl⟩
  obtain ⟨I, eI⟩ : ∃ I : ByteArray, I = ⟨(inB d ss).toArray⟩ := ⟨_, rfl⟩
  obtain ⟨G, eG⟩ : ∃ G : ByteArray, G = ⟨(sum (inB d ss)).toArray⟩ := ⟨_, rfl⟩
  obtain ⟨F, eF⟩ : ∃ F : ByteArray, F = ⟨(encode st0).toArray⟩ := ⟨_, rfl⟩
  have HP1 := Lib.hid hp1
  have HP2 := Lib.hid hp2
  have HR1 := Lib.hid hr1
  have HR2 := Lib.hid hr2
  have EM := Lib.hid eM
  have EI := Lib.hid eI
  have EG := Lib.hid eG
  have EF := Lib.hid eF
  have HH := Lib.hid h
  have HT := Lib.hid hT
  have HK := Lib.hid hK
  have HF := Lib.hid hF
  clear hp1 hp2 hr1 hr2 eM eI eG eF h hT hK hF
  go_enter Tryd.func3, Tryd.ntmps3
  go_wp2_with fail
  refine (awake_any _ HT.out).mono ?_
  rintro e w1 ⟨rfl, hb⟩
  have B1 := Lib.hid hb
  clear hb
  go_wp2_with fail
  refine (sumA s hs _ (HT.out.below B1.out HT.out.lt) M EM.out).mono ?_
  rintro e w2 ⟨rfl, hb⟩
  have B2 := Lib.hid (B1.out.trans (hb.mono B1.out.size))
  clear hb B1
  go_wp2_with fail
  refine (rsum_any s hs _ (HK.out.below B2.out HK.out.lt) (HF.out.below B2.out HF.out.lt) M EM.out).mono ?_
  rintro e w3 ⟨rfl, hb⟩
  have B3 := Lib.hid (B2.out.trans (hb.mono B2.out.size))
  clear hb B2
  go_wp2_with fail
  refine (HP1.out _).mono ?_
  rintro e w4 ⟨rfl, hb⟩
  have B4 := Lib.hid (B3.out.trans (hb.mono B3.out.size))
  clear hb B3
  go_wp2_with fail
  refine (HP2.out _).mono ?_
  rintro e w5 ⟨rfl, hb⟩
  have B5 := Lib.hid (B4.out.trans (hb.mono B4.out.size))
  clear hb B4
  go_wp2_with fail
  refine (first_any _).mono ?_
  rintro e w6 ⟨rfl, hb⟩
  have B6 := Lib.hid (B5.out.trans (hb.mono B5.out.size))
  clear hb B5
  rw [← EF.out]
  go_wp2_with fail
  refine (rfirst_any _ (HF.out.below B6.out HF.out.lt) F EF.out).mono ?_
  rintro e w7 ⟨rfl, hb⟩
  have B7 := Lib.hid (B6.out.trans (hb.mono B6.out.size))
  clear hb B6
  go_wp2_with fail
  refine (HR1.out _ (HT.out.below B7.out HT.out.lt)).mono ?_
  rintro e w8 ⟨rfl, hb⟩
  have B8 := Lib.hid (B7.out.trans (hb.mono B7.out.size))
  clear hb B7
  go_wp2_with fail
  refine (HR2.out _ (HK.out.below B8.out HK.out.lt)).mono ?_
  rintro e w9 ⟨rfl, hb⟩
  have B9 := Lib.hid (B8.out.trans (hb.mono B8.out.size))
  clear hb B8
  go_wp2_with fail
  refine (input_B d a m c ss _ (HH.out.below B9.out) (by omega) (by omega) I EI.out).mono ?_
  rintro e w10 ⟨rfl, hb⟩
  have B10 := Lib.hid (B9.out.trans (hb.mono B9.out.size))
  clear hb B9
  go_wp2_with fail
  refine (rinput_any d a m c ss _ (HH.out.below B10.out) (by omega) (by omega) I EI.out).mono ?_
  rintro e w11 ⟨rfl, hb⟩
  have B11 := Lib.hid (B10.out.trans (hb.mono B10.out.size))
  clear hb B10
  go_wp2_with fail
  refine (tag_B d a m c ss _ (HH.out.below B11.out) (by omega) (by omega) (HT.out.below B11.out HT.out.lt) G EG.out).mono ?_
  rintro e w12 ⟨rfl, hb⟩
  have B12 := Lib.hid (B11.out.trans (hb.mono B11.out.size))
  clear hb B11
  go_wp2_with fail
  refine (rtag_any d a m c ss _ (HH.out.below B12.out) (by omega) (by omega) (HK.out.below B12.out HK.out.lt) (HF.out.below B12.out HF.out.lt) G EG.out).mono ?_
  rintro e w13 ⟨rfl, hb⟩
  have B13 := Lib.hid (B12.out.trans (hb.mono B12.out.size))
  clear hb B12
  go_wp2_with fail
  go_ret
  exact ⟨rfl, B13.out⟩

end Go.Proofs.YtchdnfhajcfdoaaDoor.Sp
