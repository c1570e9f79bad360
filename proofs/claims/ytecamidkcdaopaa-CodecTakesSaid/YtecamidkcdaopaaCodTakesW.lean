/- The walk of CodecTakes. -/
import Derived.Test.YtecamidkcdaopaaCodForthW
import Derived.Test.YtecamidkcdaopaaCodRef
import Derived.Deep.RegionLaw
namespace Go.Proofs.Ytecamidkcdaopaa.Sp
open Go Go.RowKit

/-- What the program's Reader has left, beside the document's. -/
def Same (A B : ByteArray) (b : Bool) : Prop := (b = false → A = B) ∧ (b = true → A = .empty)
theorem same_num (A B : ByteArray) (b : Bool) (h : Same A B b) : rnN A = qnN B b ∧ rnB A b = qnB B b ∧ Same (rnS A) (qnS B b) (qnB B b) := by
  cases b
  · obtain rfl := h.1 rfl
    by_cases h8 : 8 ≤ A.size
    · have hk : qnOk A false := ⟨rfl, h8⟩
      refine ⟨?_, ?_, ?_⟩
      · unfold rnN qnN; rw [if_pos h8, if_pos hk]
      · unfold rnB qnB; rw [if_pos h8, if_pos hk]
      · unfold rnS qnS qnB; rw [if_pos h8, if_pos hk, if_pos hk]; exact ⟨fun _ => rfl, fun h => by cases h⟩
    · have hk : ¬ qnOk A false := fun h => h8 h.2
      refine ⟨?_, ?_, ?_⟩
      · unfold rnN qnN; rw [if_neg h8, if_neg hk]
      · unfold rnB qnB; rw [if_neg h8, if_neg hk]
      · unfold rnS qnS qnB; rw [if_neg h8, if_neg hk, if_neg hk]; exact ⟨fun h => (by cases h), fun _ => rfl⟩
  · obtain rfl := h.2 rfl
    have h8 : ¬ 8 ≤ ByteArray.empty.size := by decide
    have hk : ¬ qnOk B true := fun h => by cases h.1
    refine ⟨?_, ?_, ?_⟩
    · unfold rnN qnN; rw [if_neg h8, if_neg hk]
    · unfold rnB qnB; rw [if_neg h8, if_neg hk]
    · unfold rnS qnS qnB; rw [if_neg h8, if_neg hk, if_neg hk]; exact ⟨fun h => (by cases h), fun _ => rfl⟩
theorem same_text (A B : ByteArray) (b : Bool) (m : Int) (h : Same A B b) : rtT A m = qtT B m b ∧ rtB A m b = qtB B m b ∧ Same (rtS A m) (qtS B m b) (qtB B m b) := by
  cases b
  · obtain rfl := h.1 rfl
    by_cases h8 : rtOk A m
    · have hk : qtOk A m false := ⟨rfl, h8⟩
      refine ⟨?_, ?_, ?_⟩
      · unfold rtT qtT; rw [if_pos h8, if_pos hk]
      · unfold rtB qtB; rw [if_pos h8, if_pos hk]
      · unfold rtS qtS qtB; rw [if_pos h8, if_pos hk, if_pos hk]; exact ⟨fun _ => rfl, fun h => by cases h⟩
    · have hk : ¬ qtOk A m false := fun h => h8 h.2
      refine ⟨?_, ?_, ?_⟩
      · unfold rtT qtT; rw [if_neg h8, if_neg hk]
      · unfold rtB qtB; rw [if_neg h8, if_neg hk]
      · unfold rtS qtB; rw [if_neg h8, if_neg hk]; exact ⟨fun h => (by cases h), fun _ => rfl⟩
  · obtain rfl := h.2 rfl
    have h8 : ¬ rtOk ByteArray.empty m := fun h => absurd h.1 (by decide)
    have hk : ¬ qtOk B m true := fun h => by cases h.1
    refine ⟨?_, ?_, ?_⟩
    · unfold rtT qtT; rw [if_neg h8, if_neg hk]
    · unfold rtB qtB; rw [if_neg h8, if_neg hk]
    · unfold rtS qtB; rw [if_neg h8, if_neg hk]; exact ⟨fun h => (by cases h), fun _ => rfl⟩
theorem same_end (A B : ByteArray) (b : Bool) (h : Same A B b) : (!b && decide (A.size = 0)) = (!b && decide (B.size = 0)) := by
  cases b
  · rw [h.1 rfl]
  · rfl
theorem rnS_le (A : ByteArray) : (rnS A).size ≤ A.size := by
  unfold rnS; split
  · rw [dr_size]; omega
  · exact Nat.zero_le _
theorem qnS_le (A : ByteArray) (b : Bool) : (qnS A b).size ≤ A.size := by
  unfold qnS; split
  · rw [dr_size]; omega
  · exact Nat.le_refl _
theorem qtS_le (A : ByteArray) (m : Int) (b : Bool) : (qtS A m b).size ≤ A.size := by
  unfold qtS; split
  · rw [dr_size, dr_size]; omega
  · split
    · rw [dr_size]; omega
    · exact Nat.le_refl _

set_option maxHeartbeats 2000000 in
theorem takes_law (s : ByteArray) (a : Option Addr) (n c : Nat) (q : Nat → Int) (hq : ∀ j, j < n → -9223372036854775808 ≤ q j ∧ q j ≤ 9223372036854775807) (hs : s.size ≤ 140737488355328) (w : World) (hC : Cells w a n fun j => .int .i64 (q j)) (hn : n ≤ 9223372036854775807) :
    Calls Try.prog 4 #[.string s, .slice a n c] w fun e w' => e = .returned (.bool true) ∧ Below w.heap.size w w' := by
  have HC := Lib.hid hC
  have HQ := Lib.hid hq
  clear hC hq
  go_enter Try.func4, Try.ntmps4
  go_wp2_with fail
  refine (awake_any _).mono ?_
  rintro e w1 ⟨rfl, h1⟩
  have B1 := Lib.hid h1
  clear h1
  go_wp2_with fail
  refine (newReader_any s _).mono ?_
  rintro e w2 ⟨rfl, h2⟩
  obtain ⟨g, eg⟩ : ∃ g, g = w1.heap.size := ⟨_, rfl⟩
  have hgb : w.heap.size ≤ g := by rw [eg]; exact B1.out.size
  have R2 := Lib.hid (show Rd w2 g s false from by rw [h2, eg]; exact Blk.new w1 _ _)
  have B2 := Lib.hid (show Below w.heap.size w w2 from by rw [h2]; exact B1.out.alloc B1.out.size _)
  rw [← eg]
  clear h2 eg
  go_wp2_with fail
  refine (qnewReader_any s _).mono ?_
  rintro e w3 ⟨rfl, h3⟩
  obtain ⟨gq, egq⟩ : ∃ gq, gq = w2.heap.size := ⟨_, rfl⟩
  have hgq : g < gq := by rw [egq]; exact Blk.lt R2.out
  have R3 := Lib.hid (show Rd w3 g s false from by rw [h3]; exact Blk.alloc R2.out _)
  have Q3 := Lib.hid (show QR w3 gq s false from by rw [h3, egq]; exact Blk.new w2 _ _)
  have B3 := Lib.hid (show Below w.heap.size w w3 from by rw [h3]; exact B2.out.alloc B2.out.size _)
  rw [← egq]
  clear h3 egq
  go_wp2_with fail
  go_loopw [8] (fun i wr => ∃ (k : Nat) (b : Bool) (A B : ByteArray), k ≤ n ∧ k ≤ 100 ∧ i = .int .i64 (k : Int) ∧ Rd wr g A b ∧ QR wr gq B b ∧ A.size ≤ 140737488355328 ∧ B.size ≤ 140737488355328 ∧ Hid (Same A B b) ∧ Below w.heap.size w wr) (fun i _ => n - (intOf i).toNat)
  case atStart => exact ⟨0, false, s, s, Nat.zero_le _, Nat.zero_le _, rfl, R3.out, Q3.out, hs, hs, ⟨fun _ => rfl, fun h => by cases h⟩, B3.out⟩
  case round =>
    obtain ⟨k, b, A, B, hk, hk100, rfl, hr, hqr, hA7, hB7, HSM, hbel⟩ := hrel
    have HR := Lib.hid hr
    have HQR := Lib.hid hqr
    have HB := Lib.hid hbel
    clear hr hqr hbel
    by_cases hlt : k < n
    · by_cases hlt5 : k < 100
      · obtain ⟨bk, off, rfl, hbw, hcell⟩ := HC.out.at_ HB.out hlt
        obtain ⟨hq0, hq1⟩ := HQ.out k hlt
        obtain ⟨Q, eQ⟩ : ∃ Q, Q = q k := ⟨_, rfl⟩
        rw [← eQ] at hcell hq0 hq1
        have hbg : bk ≠ g := by omega
        have hbq : bk ≠ gq := by omega
        have hgne : gq ≠ g := by omega
        have hki : (k : Int) < (n : Int) := by omega
        have hk5 : (k : Int) < 100 := by omega
        have hk0 : (0 : Int) ≤ (k : Int) := by omega
        have hA9 : A.size ≤ 9223372036854775807 := by omega
        have hB9 : B.size ≤ 9223372036854775807 := by omega
        clear eQ
        by_cases hQ : (Q.tmod 3 == 0) = true
        · obtain ⟨e1, e2, e3⟩ := same_num A B b HSM.out
          have E1 := Lib.hid e1
          have E2 := Lib.hid e2
          have E3 := Lib.hid e3
          have EE := Lib.hid (same_end _ _ _ e3)
          have hle1 := Nat.le_trans (rnS_le A) hA7
          have hle2 := Nat.le_trans (qnS_le B b) hB7
          clear e1 e2 e3
          go_wp2_with fail
          refine (rnum_any g A b _ HR.out hA9).mono ?_
          rintro e w5 ⟨rfl, h5, o5⟩
          rw [E2.out] at h5
          rw [E1.out]
          have R5 := Lib.hid h5
          have Q5 := Lib.hid (Only.blk o5 HQR.out hgne)
          have B5 := Lib.hid (Only.below HB.out HB.out.size hgb o5)
          clear h5 o5
          go_wp2_with fail
          refine (qrnum_any gq B b _ Q5.out hB9).mono ?_
          rintro e w6 ⟨rfl, h6, o6⟩
          have Q6 := Lib.hid h6
          have R6 := Lib.hid (Only.blk o6 R5.out (Ne.symm hgne))
          have B6 := Lib.hid (Only.below B5.out B5.out.size (by omega) o6)
          clear h6 o6 hcell
          go_wp2_with fail
          refine (bad_any g _ _ _ R6.out).mono ?_
          rintro e w7 ⟨rfl, rfl⟩
          go_wp2_with fail
          refine (qbad_any gq _ _ _ Q6.out).mono ?_
          rintro e w7 ⟨rfl, rfl⟩
          go_wp2_with fail
          refine (end_any g _ _ _ R6.out).mono ?_
          rintro e w7 ⟨rfl, rfl⟩
          rw [EE.out]
          go_wp2_with fail
          refine (qend_any gq _ _ _ Q6.out).mono ?_
          rintro e w7 ⟨rfl, rfl⟩
          go_wp2_with fail
          go_roundw
          case rel => exact ⟨k + 1, _, _, _, by omega, by omega, by go_num, R6.out, Q6.out, hle1, hle2, E3.out, B6.out⟩
          case measure => simp [intOf]; omega
        · have hQf : (Q.tmod 3 == 0) = false := by cases h : (Q.tmod 3 == 0); rfl; exact absurd h hQ
          obtain ⟨e1, e2, e3⟩ := same_text A B b Q HSM.out
          have E1 := Lib.hid e1
          have E2 := Lib.hid e2
          have E3 := Lib.hid e3
          have EE := Lib.hid (same_end _ _ _ e3)
          have hle1 := Nat.le_trans (rtS_le A Q) hA7
          have hle2 := Nat.le_trans (qtS_le B Q b) hB7
          clear e1 e2 e3 hQ
          go_wp2_with fail
          go_region_law ((first
            | (go_simp; go_at_call 22; refine (rtext_any g A b Q hq0 hq1 _ (Blk.drew HR.out) hA7).mono ?_; rintro e w5 ⟨rfl, h5, o5⟩; rw [E2.out] at h5; rw [E1.out]; have R5 := Lib.hid h5; have Q5 := Lib.hid (show QR w5 gq B b from Only.blk o5 (Blk.drew HQR.out) hgne); have c5 := Only.cell o5 (p := ⟨bk, off + k, none⟩) hcell hbg; have B5 := Lib.hid (Only.below HB.out HB.out.size hgb ((Only.refl g wr).drew.trans o5)); clear h5 o5)
            | (go_simp; go_at_call 23; refine (qrtext_any gq B b Q hq0 hq1 _ (Hid.out (by assumption)) hB7).mono ?_; rintro e w6 ⟨rfl, h6, o6⟩; have Q6 := Lib.hid h6; have R6 := Lib.hid (show Rd w6 g (rtS A Q) (qtB B Q b) from Only.blk o6 (Hid.out (by assumption)) (Ne.symm hgne)); have B6 := Lib.hid (show Below w.heap.size w w6 from Only.below (Hid.out (by assumption)) (Below.size (Hid.out (by assumption))) (by omega) o6); clear h6 o6)))
          all_goals
            clear c5 hcell
            go_wp2_with fail
            refine (bad_any g _ _ _ R6.out).mono ?_
            rintro e w7 ⟨rfl, rfl⟩
            go_wp2_with fail
            refine (qbad_any gq _ _ _ Q6.out).mono ?_
            rintro e w7 ⟨rfl, rfl⟩
            go_wp2_with fail
            refine (end_any g _ _ _ R6.out).mono ?_
            rintro e w7 ⟨rfl, rfl⟩
            rw [EE.out]
            go_wp2_with fail
            refine (qend_any gq _ _ _ Q6.out).mono ?_
            rintro e w7 ⟨rfl, rfl⟩
            go_wp2_with fail
            go_roundw
            case rel => exact ⟨k + 1, _, _, _, by omega, by omega, by go_num, R6.out, Q6.out, hle1, hle2, E3.out, B6.out⟩
            case measure => simp [intOf]; omega
      · have hki : (k : Int) < (n : Int) := by omega
        have hk5 : ¬ (k : Int) < 100 := by omega
        clear hlt hlt5 hk hk100
        go_wp2_with fail
        go_ret
        exact ⟨rfl, HB.out⟩
    · have hki : ¬ (k : Int) < (n : Int) := by omega
      clear hlt hk hk100
      go_wp2_with fail
      go_ret
      exact ⟨rfl, HB.out⟩
end Go.Proofs.Ytecamidkcdaopaa.Sp
