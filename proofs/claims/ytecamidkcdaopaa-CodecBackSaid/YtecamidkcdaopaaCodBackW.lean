/- The walk of CodecBack. -/
import Derived.Test.YtecamidkcdaopaaCodSem
import Derived.Deep.RegionLaw
namespace Go.Proofs.Ytecamidkcdaopaa.Sp
open Go Go.RowKit

set_option maxHeartbeats 1000000 in
theorem back_law (a : Option Addr) (n c : Nat) (l : List It) (hwf : ∀ x ∈ l, x.n < 18446744073709551616 ∧ x.s.size ≤ 9223372036854775807) (w : World) (hI : Items w a n l) (hn : n ≤ 9223372036854775807) :
    Calls Try.prog 5 #[.slice a n c] w fun e w' => e = .returned (.bool true) ∧ Below w.heap.size w w' := by
  have HI := Lib.hid hI
  obtain ⟨L, eL⟩ : ∃ L, L = fewL l := ⟨_, rfl⟩
  have hLm : ∀ x ∈ L, x.n < 18446744073709551616 ∧ x.s.size ≤ 1000 := by
    intro x hx; rw [eL] at hx; obtain ⟨y, hy, _, h2, h3⟩ := fewL_mem l x hx; exact ⟨by rw [h2]; exact (hwf y hy).1, h3⟩
  have HLM := Lib.hid hLm
  have hfl := few_len l
  rw [← eL] at hfl
  have HFL := Lib.hid hfl
  have hL50 : L.length ≤ 50 := by rw [eL, fewL_length]; omega
  have HWF := Lib.hid (show ∀ x ∈ l, x.s.size ≤ 9223372036854775807 from fun x hx => (hwf x hx).2)
  have hfew := fun W (h : Items W a n l) => few_any a n c l W h hn HWF.out
  rw [← eL] at hfew
  have HF := Lib.hid hfew
  clear hI hwf hLm hfl eL hfew
  go_enter Try.func5, Try.ntmps5
  go_wp2_with fail
  refine (awake_any _).mono ?_
  rintro e w1 ⟨rfl, h1⟩
  have B1 := Lib.hid h1
  clear h1
  go_wp2_with fail
  refine (HF.out _ (HI.out.below' B1.out)).mono ?_
  rintro e w2 ⟨a2, c2, rfl, hI2, h2⟩
  have HI2 := Lib.hid hI2
  have B2 := Lib.hid (B1.out.trans (h2.mono B1.out.size))
  clear h2 hI2
  go_wp2_with fail
  refine (laid_any a2 L.length c2 L (fun x hx => (HLM.out x hx).1) _ HI2.out (by omega) (by have := HFL.out; omega)).mono ?_
  rintro e w3 ⟨rfl, h3⟩
  have HI3 := Lib.hid (HI2.out.below' h3)
  have B3 := Lib.hid (B2.out.trans (h3.mono B2.out.size))
  clear h3
  obtain ⟨S0, eS0⟩ : ∃ S : ByteArray, S = ⟨(laid L).toArray⟩ := ⟨_, rfl⟩
  rw [← eS0]
  have HS0 := Lib.hid (show S0.data.toList = laid L from by rw [eS0])
  clear eS0
  go_wp2_with fail
  refine (newReader_any S0 _).mono ?_
  rintro e w4 ⟨rfl, h4⟩
  obtain ⟨g, eg⟩ : ∃ g, g = w3.heap.size := ⟨_, rfl⟩
  have hgb : w.heap.size ≤ g := by rw [eg]; exact B3.out.size
  have R4 := Lib.hid (show Rd w4 g S0 false from by rw [h4, eg]; exact Blk.new w3 _ _)
  have B4 := Lib.hid (show Below g w3 w4 from by rw [h4, eg]; exact (Below.refl _ _).alloc (Nat.le_refl _) _)
  have hg3 := Lib.hid eg
  rw [← eg]
  clear h4 eg
  go_wp2_with fail
  go_loopw [5] (fun i wr => ∃ (k : Nat) (S : ByteArray), k ≤ L.length ∧ i = .int .i64 (k : Int) ∧ Rd wr g S false ∧ Hid (S.data.toList = laid (L.drop k)) ∧ Below g w3 wr) (fun i _ => L.length - (intOf i).toNat)
  case atStart => exact ⟨0, S0, Nat.zero_le _, rfl, R4.out, HS0.out, B4.out⟩
  case round =>
    obtain ⟨k, S, hk, rfl, hr, HS, hbel⟩ := hrel
    have HR := Lib.hid hr
    have HB := Lib.hid hbel
    clear hr hbel
    by_cases hlt : k < L.length
    · obtain ⟨b, off, X, rfl, eX, hXm, hbl, c0, c1, c2⟩ := HI3.out.at_ (wr := wr) (HB.out.mono (by rw [hg3.out]; exact Nat.le_refl _)) hlt
      obtain ⟨hXn, hXs⟩ := HLM.out X hXm
      have hS1 : S.data.toList = enc X ++ laid (L.drop (k + 1)) := by rw [HS.out, eX]; exact laid_drop L k hlt
      have hSl : S.size = X.long + (laid (L.drop (k + 1))).length := by rw [app_len S _ _ hS1, enc_length]
      have hlo : X.long = if X.t then 4 + X.s.size else 8 := rfl
      have hS4 : 4 ≤ S.size := by rw [hSl, hlo]; split <;> omega
      have hSm : S.size ≤ 50200 := by
        have h1 := HFL.out
        rw [← laid_length] at h1
        have h2 : (laid L).length = (laid (L.take k)).length + S.size := by
          rw [← size_list, HS.out, ← List.length_append, ← laid_append, List.take_append_drop]
        omega
      have hend : (!false && decide (S.size = 0)) = false := by
        have : ¬ S.size = 0 := by omega
        simp [this]
      have HE := Lib.hid hend
      have hbg : b ≠ g := by have := hg3.out; omega
      have hS9 : S.size ≤ 9223372036854775807 := by omega
      have hS7 : S.size ≤ 140737488355328 := by omega
      clear eX hXm hbl hSl hlo hend hSm
      go_wp2_with fail
      refine (end_any g S false _ HR.out).mono ?_
      rintro e w5 ⟨rfl, rfl⟩
      rw [HE.out]
      rcases hXt : X.t with _ | _
      · have henc : enc X = be 8 X.n := by unfold enc; rw [hXt]; rfl
        rw [henc] at hS1
        obtain ⟨e1, e2, e3⟩ := rn_at S X.n _ hXn hS1 false
        rw [hXt] at c0
        have E1 := Lib.hid e1
        have E2 := Lib.hid e2
        have E3 := Lib.hid e3
        clear hXt henc hS1 e1 e2 e3 c2
        go_wp2_with fail
        go_region_law ((go_simp; go_at_call 20; refine (rnum_any g S false _ (Blk.drew HR.out) hS9).mono ?_; rintro e w6 ⟨rfl, h6, o6⟩; rw [E3.out] at h6; rw [E1.out]; have cc1 := Only.cell o6 (p := ⟨b, off + k * 3 + 1, none⟩) c1 hbg; have H6 := Lib.hid h6; have O6 := Lib.hid o6; clear h6 o6))
        all_goals
          have B6 := Lib.hid (Only.below HB.out (Nat.le_of_lt (Blk.lt HR.out)) (Nat.le_refl _) ((Only.refl g wr).drew.trans O6.out))
          clear cc1 c0 c1
          go_wp2_with fail
          refine (bad_any g _ false _ H6.out).mono ?_
          rintro e w7 ⟨rfl, rfl⟩
          go_wp2_with fail
          go_roundw
          case rel => exact ⟨k + 1, _, by omega, by go_num, H6.out, E2.out, B6.out⟩
          case measure => simp [intOf]; omega
      · have henc : enc X = be 4 X.s.size ++ X.s.data.toList := by unfold enc; rw [hXt]; rfl
        rw [henc] at hS1
        obtain ⟨e1, e2, e3⟩ := rt_at S X.s _ (X.s.size : Int) (by omega) (Int.le_refl _) hS1 false
        rw [hXt] at c0
        have E1 := Lib.hid e1
        have E2 := Lib.hid e2
        have E3 := Lib.hid e3
        have hm9 : (X.s.size : Int) ≤ 9223372036854775807 := by omega
        have hm0 : -9223372036854775808 ≤ (X.s.size : Int) := by omega
        clear hXt henc hS1 e1 e2 e3 c1
        go_wp2_with fail
        go_region_law ((go_simp; go_at_call 22; refine (rtext_any g S false (X.s.size : Int) hm0 hm9 _ (Blk.drew HR.out) hS7).mono ?_; rintro e w6 ⟨rfl, h6, o6⟩; rw [E3.out] at h6; rw [E1.out]; have cc2 := Only.cell o6 (p := ⟨b, off + k * 3 + 2, none⟩) c2 hbg; have H6 := Lib.hid h6; have O6 := Lib.hid o6; clear h6 o6))
        all_goals
          have B6 := Lib.hid (Only.below HB.out (Nat.le_of_lt (Blk.lt HR.out)) (Nat.le_refl _) ((Only.refl g wr).drew.trans O6.out))
          try clear cc2
          clear c0 c2
          go_wp2_with fail
          refine (bad_any g _ false _ H6.out).mono ?_
          rintro e w7 ⟨rfl, rfl⟩
          go_wp2_with fail
          go_roundw
          case rel => exact ⟨k + 1, _, by omega, by go_num, H6.out, E2.out, B6.out⟩
          case measure => simp [intOf]; omega
    · have HK := Lib.hid (show k = L.length by omega)
      have hki : ¬ (k : Int) < (L.length : Int) := by omega
      have hS0 : S.size = 0 := by rw [← size_list, HS.out, HK.out, List.drop_length]; rfl
      have hend : (!false && decide (S.size = 0)) = true := by simp [hS0]
      have HE := Lib.hid hend
      clear hk hlt hS0 hend
      go_wp2_with fail
      refine (end_any g S false _ HR.out).mono ?_
      rintro e w5 ⟨rfl, rfl⟩
      rw [HE.out]
      go_wp2_with fail
      go_ret
      exact ⟨rfl, B3.out.trans (HB.out.mono hgb)⟩
end Go.Proofs.Ytecamidkcdaopaa.Sp
