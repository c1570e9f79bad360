/- The document's own answer for package sha: Input, Tag. -/
import Derived.Test.YtdkjlijmejleoaaDoorShaRefS
import Derived.Test.YtdkjlijmejleoaaDoorShaPb
namespace Go.Proofs.YtdkjlijmejleoaaDoor.Sp
open Go Go.RowKit

theorem int_bytes (n : Nat) :
    IntKind.u8.wrap ((n : Int) / 16777216) = ((lowB (BitVec.ofNat 32 n >>> 24)).toNat : Int) ∧ IntKind.u8.wrap ((n : Int) / 65536) = ((lowB (BitVec.ofNat 32 n >>> 16)).toNat : Int) ∧
    IntKind.u8.wrap ((n : Int) / 256) = ((lowB (BitVec.ofNat 32 n >>> 8)).toNat : Int) ∧ IntKind.u8.wrap (n : Int) = ((lowB (BitVec.ofNat 32 n)).toNat : Int) := by
  refine ⟨?_, ?_, ?_, ?_⟩
  all_goals
    rw [lowB_nat, IntKind.wrap_u8']
    simp only [BitVec.toNat_ushiftRight, BitVec.toNat_ofNat, Nat.shiftRight_eq_div_pow, Nat.reducePow]
    omega

set_option maxHeartbeats 2000000 in
theorem rinput_any (d : UInt8) (a : Option Addr) (n c : Nat) (ss : List ByteArray) (w : World) (h : Strs w a n ss) (hn : n ≤ 9223372036854775807) (hlen : len2 ss n ≤ 281474976710656) (I : ByteArray) (hI : I = ⟨(inB d ss).toArray⟩) :
    Calls Tryd.prog 39 #[.int .u8 (d.toNat : Int), .slice a n c] w fun e w' => e = .returned (.string I) ∧ Below w.heap.size w w' := by
  have HH := Lib.hid h
  have HN := Lib.hid h.1
  have HI := Lib.hid hI
  have HLEN := Lib.hid hlen
  clear h hI hlen
  have hc0 := run_text_of_blk (cap := 1) (l := [d]) (n := 1) (heap_alloc_new w (.cells #[Value.int .u8 (d.toNat : Int)] 5)) rfl
  go_enter Tryd.func39, Tryd.ntmps39
  go_wp2_with fail
  clear hc0
  go_loopw [5, 6] (fun v i wr => ∃ (k : Nat) (G : ByteArray), k ≤ n ∧ v = .string G ∧ G.data.toList = inp d ss k ∧ i = .int .i64 (k : Int) ∧ Below w.heap.size w wr) (fun _ i _ => n - (intOf i).toNat)
  case atStart => exact ⟨0, _, Nat.zero_le _, rfl, rfl, rfl, (Below.refl _ _).alloc (Nat.le_refl _) _⟩
  case round =>
    obtain ⟨k, G, hk, rfl, hG, rfl, hbel⟩ := hrel
    have HG := Lib.hid hG
    have HB := Lib.hid hbel
    have hsz := hbel.size
    clear hG hbel
    by_cases hlt : k < n
    · obtain ⟨b, off, rfl, hc⟩ := HH.out.2 (by omega)
      obtain ⟨S, eS⟩ : ∃ S, S = ss.getD k ByteArray.empty := ⟨_, rfl⟩
      have hcell0 := hc k hlt
      have hcell : wr.cell? ⟨b, off + k, none⟩ = some (.string S) := by
        rw [eS]; exact (HB.out.cell (p := ⟨b, off + k, none⟩) (block_lt_of_cell hcell0)).trans hcell0
      have hbw : b < wr.heap.size := block_lt_of_cell hcell
      have hs2 : len2 ss (k + 1) = len2 ss k + (4 + S.size) := by rw [eS]; exact len2_succ ss k (by rw [HN.out]; exact hlt)
      have hm2 := len2_mono ss (k + 1) n (by omega)
      have hGl : G.size = len2 ss k := by rw [← size_list, HG.out, inp_length]
      have hLE := HLEN.out
      obtain ⟨B4, e4⟩ : ∃ B4 : ByteArray, B4 = ⟨(bytes4 (BitVec.ofNat 32 S.size)).toArray⟩ := ⟨_, rfl⟩
      have h4 : B4.size = 4 := by rw [e4]; rfl
      have ha1 : ¬ 9223372036854775807 < G.size + B4.size := by omega
      have ha2 : ¬ 9223372036854775807 < G.size + B4.size + S.size := by omega
      have hss : S.size ≤ 9223372036854775807 := by omega
      have hsucc := Lib.hid (show (G ++ B4 ++ S).data.toList = inp d ss (k + 1) from by
        rw [inp_succ d ss k (by rw [HN.out]; exact hlt), ← HG.out, ← eS]
        simp [e4])
      obtain ⟨i1, i2, i3, i4⟩ := int_bytes S.size
      have hcv := run_text_of_blk (cap := 4) (l := bytes4 (BitVec.ofNat 32 S.size)) (n := 4) (heap_alloc_new wr (.cells #[Value.int .u8 ((lowB (BitVec.ofNat 32 S.size >>> 24)).toNat : Int), Value.int .u8 ((lowB (BitVec.ofNat 32 S.size >>> 16)).toNat : Int), Value.int .u8 ((lowB (BitVec.ofNat 32 S.size >>> 8)).toNat : Int), Value.int .u8 ((lowB (BitVec.ofNat 32 S.size)).toNat : Int)] 5)) rfl
      have hcv2 := run_text_of_blk (cap := 4) (l := bytes4 (BitVec.ofNat 32 S.size)) (n := 4) (w := (wr.alloc (.cells #[Value.int .u8 ((lowB (BitVec.ofNat 32 S.size >>> 24)).toNat : Int), Value.int .u8 ((lowB (BitVec.ofNat 32 S.size >>> 16)).toNat : Int), Value.int .u8 ((lowB (BitVec.ofNat 32 S.size >>> 8)).toNat : Int), Value.int .u8 ((lowB (BitVec.ofNat 32 S.size)).toNat : Int)] 5)).drew) (g := wr.heap.size) (Blk.drew (heap_alloc_new wr _)) rfl
      rw [← e4] at hcv hcv2
      have E4 := Lib.hid e4
      clear e4 h4 hs2 hm2 hc eS hcell0 hGl hLE
      go_wp2_with fail
      go_region_law ((fail))
      all_goals
        obtain ⟨GN, eGN⟩ : ∃ GN : ByteArray, GN = G ++ B4 ++ S := ⟨_, rfl⟩
        have HGN := Lib.hid (show GN.data.toList = inp d ss (k + 1) from by rw [eGN]; exact hsucc.out)
        have HBn := Lib.hid (HB.out.alloc hsz (.cells #[Value.int .u8 ((lowB (BitVec.ofNat 32 S.size >>> 24)).toNat : Int), Value.int .u8 ((lowB (BitVec.ofNat 32 S.size >>> 16)).toNat : Int), Value.int .u8 ((lowB (BitVec.ofNat 32 S.size >>> 8)).toNat : Int), Value.int .u8 ((lowB (BitVec.ofNat 32 S.size)).toNat : Int)] 5)).drew
        rw [← eGN]
        clear hcv hcv2 eGN i1 i2 i3 i4 ha1 ha2
        go_wp2_with fail
        go_roundw
        case rel => exact ⟨k + 1, GN, by omega, rfl, HGN.out, by go_num, HBn.out⟩
        case measure => simp [intOf]; omega
    · have hkn : k = n := by omega
      have hGI := Lib.hid (show G = I from by
        rw [HI.out, ← inp_all, HN.out, ← hkn, ← HG.out])
      have hki : ¬ (k : Int) < (n : Int) := by omega
      clear hkn
      go_wp2_with fail
      go_ret
      exact ⟨ret_text hGI.out, HB.out⟩

theorem rsumB (b : ByteArray) (hs : b.size ≤ 9223372036854775000) (w : World) (hK : KTab w) (hF : FTab w) (R : ByteArray) (hR : R = ⟨(sum b.data.toList).toArray⟩) :
    Calls Tryd.prog 53 #[.string b] w fun e w' => e = .returned (.string R) ∧ Below w.heap.size w w' := rsum_any b hs w hK hF R hR

/-- Tag is the sum of the input. -/
theorem rtag_any (d : UInt8) (a : Option Addr) (n c : Nat) (ss : List ByteArray) (w : World) (h : Strs w a n ss) (hn : n ≤ 9223372036854775807) (hlen : len2 ss n ≤ 281474976710656) (hK : KTab w) (hF : FTab w) (R : ByteArray) (hR : R = ⟨(sum (inB d ss)).toArray⟩) :
    Calls Tryd.prog 50 #[.int .u8 (d.toNat : Int), .slice a n c] w fun e w' => e = .returned (.string R) ∧ Below w.heap.size w w' := by
  have HH := Lib.hid h
  have HK := Lib.hid hK
  have HF := Lib.hid hF
  obtain ⟨I, eI⟩ : ∃ I : ByteArray, I = ⟨(inB d ss).toArray⟩ := ⟨_, rfl⟩
  have hIl : I.data.toList = inB d ss := by rw [eI]
  have hIs : I.size ≤ 281474976710656 := by rw [← size_list, hIl, ← inp_all, inp_length, h.1]; exact hlen
  have EI := Lib.hid eI
  have HR := Lib.hid (show R = ⟨(sum I.data.toList).toArray⟩ from by rw [hIl]; exact hR)
  clear h hK hF eI hIl hR
  go_enter Tryd.func50, Tryd.ntmps50
  go_wp2_with fail
  refine (rinput_any d a n c ss _ HH.out hn hlen I EI.out).mono ?_
  rintro e w1 ⟨rfl, hb1⟩
  have B1 := Lib.hid hb1
  have HK1 := Lib.hid (HK.out.below hb1 HK.out.lt)
  have HF1 := Lib.hid (HF.out.below hb1 HF.out.lt)
  clear hb1
  go_wp2_with fail
  refine (rsum_any I (by omega) _ HK1.out HF1.out R HR.out).mono ?_
  rintro e w2 ⟨rfl, hb2⟩
  have B2 := Lib.hid (B1.out.trans (hb2.mono B1.out.size))
  clear hb2
  go_wp2_with fail
  go_ret
  exact ⟨rfl, B2.out⟩

end Go.Proofs.YtdkjlijmejleoaaDoor.Sp
