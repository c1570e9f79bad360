/- The walk of CodecStays. -/
import Derived.Test.YtecamidkcdaopaaCodForthW
namespace Go.Proofs.Ytecamidkcdaopaa.Sp
open Go Go.RowKit

set_option maxHeartbeats 2000000 in
theorem stays_law (s : ByteArray) (a : Option Addr) (n c : Nat) (q : Nat → Int) (hq : ∀ j, j < n → -9223372036854775808 ≤ q j ∧ q j ≤ 9223372036854775807) (hs : s.size ≤ 140737488355328) (w : World) (hC : Cells w a n fun j => .int .i64 (q j)) (hn : n ≤ 9223372036854775807) :
    Calls Try.prog 10 #[.string s, .slice a n c] w fun e w' => e = .returned (.bool true) ∧ Below w.heap.size w w' := by
  have HC := Lib.hid hC
  have HQ := Lib.hid hq
  clear hC hq
  go_enter Try.func10, Try.ntmps10
  go_wp2_with fail
  refine (awake_any _).mono ?_
  rintro e w1 ⟨rfl, h1⟩
  have B1 := Lib.hid h1
  clear h1
  go_wp2_with fail
  refine (newReader_any s _).mono ?_
  rintro e w2 ⟨rfl, h2⟩
  obtain ⟨g, eg⟩ : ∃ g, g = w1.heap.size := ⟨_, rfl⟩
  have hgb : w.heap.size ≤ g := by rw [eg]; exact B1.out.size
  have R2 := Lib.hid (show Rd w2 g s false from by rw [h2, eg]; exact Blk.new w1 _ _)
  have B2 := Lib.hid (show Below w.heap.size w w2 from by rw [h2]; exact B1.out.alloc B1.out.size _)
  rw [← eg]
  clear h2 eg
  go_wp2_with fail
  go_loopw [7, 8] (fun v i wr => ∃ (k : Nat) (b : Bool) (S : ByteArray), k ≤ n ∧ k ≤ 100 ∧ i = .int .i64 (k : Int) ∧ v = .bool b ∧ Rd wr g S b ∧ S.size ≤ 140737488355328 ∧ Hid (b = true → S = .empty) ∧ Below w.heap.size w wr) (fun _ i _ => n - (intOf i).toNat)
  case atStart => exact ⟨0, false, s, Nat.zero_le _, Nat.zero_le _, rfl, rfl, R2.out, hs, (by intro h; cases h), B2.out⟩
  case round =>
    obtain ⟨k, b, S, hk, hk100, rfl, rfl, hr, hS7, HBS, hbel⟩ := hrel
    have HR := Lib.hid hr
    have HB := Lib.hid hbel
    clear hr hbel
    by_cases hlt : k < n
    · by_cases hlt5 : k < 100
      · obtain ⟨bk, off, rfl, hbw, hcell⟩ := HC.out.at_ HB.out hlt
        obtain ⟨hq0, hq1⟩ := HQ.out k hlt
        obtain ⟨Q, eQ⟩ : ∃ Q, Q = q k := ⟨_, rfl⟩
        rw [← eQ] at hcell hq0 hq1
        have hbg : bk ≠ g := by omega
        have hki : (k : Int) < (n : Int) := by omega
        have hk5 : (k : Int) < 100 := by omega
        have hk0 : (0 : Int) ≤ (k : Int) := by omega
        have hS9 : S.size ≤ 9223372036854775807 := by omega
        clear eQ
        by_cases hQ : Q < 0
        · by_cases h8 : 8 ≤ S.size
          · obtain ⟨e1, e2⟩ := rn_ok S h8 b
            obtain rfl : b = false := by
              cases b
              · rfl
              · have := HBS.out rfl; rw [this] at h8; exact absurd h8 (by decide)
            have hdz : (rnS S).size ≤ 140737488355328 := by unfold rnS; rw [if_pos h8, dr_size]; omega
            have E2 := Lib.hid e2
            have hNl := rnN_lt S
            clear e1 e2
            go_wp2_with fail
            refine (rnum_any g S false _ HR.out hS9).mono ?_
            rintro e w5 ⟨rfl, h5, o5⟩
            rw [E2.out] at h5
            have R5 := Lib.hid h5
            have c5 := Only.cell o5 (p := ⟨bk, off + k, none⟩) hcell hbg
            have B5 := Lib.hid (Only.below HB.out HB.out.size hgb o5)
            clear h5 o5 hcell
            go_wp2_with fail
            refine (bad_any g _ false _ R5.out).mono ?_
            rintro e w7 ⟨rfl, rfl⟩
            go_wp2_with fail
            refine (bad_any g _ false _ R5.out).mono ?_
            rintro e w7 ⟨rfl, rfl⟩
            go_wp2_with fail
            go_roundw
            case rel => exact ⟨k + 1, false, _, by omega, by omega, by go_num, rfl, R5.out, hdz, (by intro h; cases h), B5.out⟩
            case measure => simp [intOf]; omega
          · obtain ⟨e1, e2, e3⟩ := rn_no S h8 b
            have E1 := Lib.hid e1
            have E2 := Lib.hid e2
            have E3 := Lib.hid e3
            clear e1 e2 e3
            go_wp2_with fail
            refine (rnum_any g S b _ HR.out hS9).mono ?_
            rintro e w5 ⟨rfl, h5, o5⟩
            rw [E2.out, E3.out] at h5
            rw [E1.out]
            have R5 := Lib.hid h5
            have c5 := Only.cell o5 (p := ⟨bk, off + k, none⟩) hcell hbg
            have B5 := Lib.hid (Only.below HB.out HB.out.size hgb o5)
            clear h5 o5 hcell
            cases b
            · go_wp2_with fail
              refine (bad_any g _ true _ R5.out).mono ?_
              rintro e w7 ⟨rfl, rfl⟩
              go_wp2_with fail
              refine (end_any g _ true _ R5.out).mono ?_
              rintro e w7 ⟨rfl, rfl⟩
              go_wp2_with fail
              refine (bad_any g _ true _ R5.out).mono ?_
              rintro e w7 ⟨rfl, rfl⟩
              go_wp2_with fail
              go_roundw
              case rel => exact ⟨k + 1, true, _, by omega, by omega, by go_num, rfl, R5.out, Nat.zero_le _, (by intro _; rfl), B5.out⟩
              case measure => simp [intOf]; omega
            · go_wp2_with fail
              refine (bad_any g _ true _ R5.out).mono ?_
              rintro e w7 ⟨rfl, rfl⟩
              go_wp2_with fail
              refine (bad_any g _ true _ R5.out).mono ?_
              rintro e w7 ⟨rfl, rfl⟩
              go_wp2_with fail
              refine (end_any g _ true _ R5.out).mono ?_
              rintro e w7 ⟨rfl, rfl⟩
              go_wp2_with fail
              refine (bad_any g _ true _ R5.out).mono ?_
              rintro e w7 ⟨rfl, rfl⟩
              go_wp2_with fail
              go_roundw
              case rel => exact ⟨k + 1, true, _, by omega, by omega, by go_num, rfl, R5.out, Nat.zero_le _, (by intro _; rfl), B5.out⟩
              case measure => simp [intOf]; omega
        · have hQ0 : 0 ≤ Q := by omega
          by_cases hok : rtOk S Q
          · obtain ⟨e1, e2, e3⟩ := rt_ok S Q hok b
            obtain rfl : b = false := by
              cases b
              · rfl
              · have h4 := hok.1; have := HBS.out rfl; rw [this] at h4; exact absurd h4 (by decide)
            have hdz : (rtS S Q).size ≤ 140737488355328 := by
              have h1 := congrArg List.length e1
              rw [List.length_append, size_list, size_list] at h1; omega
            have htq : ((rtT S Q).size : Int) ≤ Q := by rw [e3]; exact hok.2.1
            have E2 := Lib.hid e2
            clear e1 e2 e3 hok hQ
            go_wp2_with fail
            refine (rtext_any g S false Q hq0 hq1 _ HR.out hS7).mono ?_
            rintro e w5 ⟨rfl, h5, o5⟩
            rw [E2.out] at h5
            have R5 := Lib.hid h5
            have c5 := Only.cell o5 (p := ⟨bk, off + k, none⟩) hcell hbg
            have B5 := Lib.hid (Only.below HB.out HB.out.size hgb o5)
            obtain ⟨T, eT⟩ : ∃ T, T = rtT S Q := ⟨_, rfl⟩
            rw [← eT] at htq ⊢
            clear h5 o5 hcell eT
            go_wp2_with fail
            refine (bad_any g _ false _ R5.out).mono ?_
            rintro e w7 ⟨rfl, rfl⟩
            go_wp2_with fail
            refine (bad_any g _ false _ R5.out).mono ?_
            rintro e w7 ⟨rfl, rfl⟩
            go_wp2_with fail
            go_roundw
            case rel => exact ⟨k + 1, false, _, by omega, by omega, by go_num, rfl, R5.out, hdz, (by intro h; cases h), B5.out⟩
            case measure => simp [intOf]; omega
          · obtain ⟨e1, e2, e3⟩ := rt_no S Q hok b
            have E1 := Lib.hid e1
            have E2 := Lib.hid e2
            have E3 := Lib.hid e3
            clear e1 e2 e3 hok hQ
            go_wp2_with fail
            refine (rtext_any g S b Q hq0 hq1 _ HR.out hS7).mono ?_
            rintro e w5 ⟨rfl, h5, o5⟩
            rw [E2.out, E3.out] at h5
            rw [E1.out]
            have R5 := Lib.hid h5
            have c5 := Only.cell o5 (p := ⟨bk, off + k, none⟩) hcell hbg
            have B5 := Lib.hid (Only.below HB.out HB.out.size hgb o5)
            clear h5 o5 hcell
            cases b
            · go_wp2_with fail
              refine (bad_any g _ true _ R5.out).mono ?_
              rintro e w7 ⟨rfl, rfl⟩
              go_wp2_with fail
              refine (end_any g _ true _ R5.out).mono ?_
              rintro e w7 ⟨rfl, rfl⟩
              go_wp2_with fail
              refine (bad_any g _ true _ R5.out).mono ?_
              rintro e w7 ⟨rfl, rfl⟩
              go_wp2_with fail
              go_roundw
              case rel => exact ⟨k + 1, true, _, by omega, by omega, by go_num, rfl, R5.out, Nat.zero_le _, (by intro _; rfl), B5.out⟩
              case measure => simp [intOf]; omega
            · go_wp2_with fail
              refine (bad_any g _ true _ R5.out).mono ?_
              rintro e w7 ⟨rfl, rfl⟩
              go_wp2_with fail
              refine (bad_any g _ true _ R5.out).mono ?_
              rintro e w7 ⟨rfl, rfl⟩
              go_wp2_with fail
              refine (end_any g _ true _ R5.out).mono ?_
              rintro e w7 ⟨rfl, rfl⟩
              go_wp2_with fail
              refine (bad_any g _ true _ R5.out).mono ?_
              rintro e w7 ⟨rfl, rfl⟩
              go_wp2_with fail
              go_roundw
              case rel => exact ⟨k + 1, true, _, by omega, by omega, by go_num, rfl, R5.out, Nat.zero_le _, (by intro _; rfl), B5.out⟩
              case measure => simp [intOf]; omega
      · have hki : (k : Int) < (n : Int) := by omega
        have hk5 : ¬ (k : Int) < 100 := by omega
        clear hlt hlt5 hk hk100
        go_wp2_with fail
        go_ret
        exact ⟨rfl, HB.out⟩
    · have hki : ¬ (k : Int) < (n : Int) := by omega
      clear hlt hk hk100
      go_wp2_with fail
      go_ret
      exact ⟨rfl, HB.out⟩
end Go.Proofs.Ytecamidkcdaopaa.Sp
