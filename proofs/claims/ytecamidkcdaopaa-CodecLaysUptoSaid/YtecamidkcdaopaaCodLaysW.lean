/- The walk of CodecLays. -/
import Derived.Test.YtecamidkcdaopaaCodLongW
import Derived.Test.YtecamidkcdaopaaCodRef
namespace Go.Proofs.Ytecamidkcdaopaa.Sp
open Go Go.RowKit

theorem app_list (S T : ByteArray) : (S ++ T).data.toList = S.data.toList ++ T.data.toList := by simp

set_option maxHeartbeats 1000000 in
theorem lays_law (a : Option Addr) (n c : Nat) (l : List It) (hwf : ∀ x ∈ l, x.n < 18446744073709551616) (w : World) (hI : Items w a n l) (hn : n ≤ 9223372036854775807) (hlen : laidLen l ≤ 140737488355328) :
    Calls Try.prog 3 #[.slice a n c] w fun e w' => e = .returned (.bool true) ∧ Below w.heap.size w w' := by
  have HI := Lib.hid hI
  have HN := Lib.hid hI.1
  have HWF := Lib.hid hwf
  clear hI hwf
  go_enter Try.func3, Try.ntmps3
  go_wp2_with fail
  refine (awake_any _).mono ?_
  rintro e w1 ⟨rfl, h1⟩
  have B1 := Lib.hid h1
  clear h1
  go_wp2_with fail
  refine (qnewWriter_any _).mono ?_
  rintro e w2 ⟨rfl, h2⟩
  obtain ⟨g, eg⟩ : ∃ g, g = w1.heap.size := ⟨_, rfl⟩
  have hgb : w.heap.size ≤ g := by rw [eg]; exact B1.out.size
  have Q2 := Lib.hid (show QW w2 g .empty from by rw [h2, eg]; exact Blk.new w1 _ _)
  have B2 := Lib.hid (show Below w.heap.size w w2 from by rw [h2]; exact B1.out.alloc B1.out.size _)
  rw [← eg]
  clear h2 eg
  go_wp2_with fail
  go_loopw [5] (fun i wr => ∃ (k : Nat) (S : ByteArray), k ≤ n ∧ i = .int .i64 (k : Int) ∧ QW wr g S ∧ Hid (S.data.toList = laid (l.take k)) ∧ Below w.heap.size w wr) (fun i _ => n - (intOf i).toNat)
  case atStart => exact ⟨0, .empty, Nat.zero_le _, rfl, Q2.out, rfl, B2.out⟩
  case round =>
    obtain ⟨k, S, hk, rfl, hq, HS, hbel⟩ := hrel
    have HQ := Lib.hid hq
    have HB := Lib.hid hbel
    clear hq hbel
    have hSs : S.size = laidLen (l.take k) := by rw [← size_list, HS.out, laid_length]
    by_cases hlt : k < n
    · obtain ⟨b, off, X, rfl, eX, hXm, _, c0, c1, c2⟩ := HI.out.at_ HB.out hlt
      have hXn := HWF.out X hXm
      obtain ⟨hs, hb⟩ := laidLen_at l k (by rw [HN.out]; exact hlt)
      have hsucc := Lib.hid (show laid (l.take (k + 1)) = laid (l.take k) ++ enc X from by rw [eX]; exact laid_succ l k (by rw [HN.out]; exact hlt))
      rw [← eX] at hs
      have hbnd : S.size + X.long ≤ 140737488355328 := by omega
      clear hs hb eX hSs
      rcases hXt : X.t with _ | _
      · have hl8 : X.long = 8 := by unfold It.long; rw [hXt]; rfl
        have henc := Lib.hid (show enc X = be 8 X.n from by unfold enc; rw [hXt]; rfl)
        rw [hXt] at c0
        have hb8 : S.size ≤ 9223372036854775000 := by omega
        clear hXt hl8 c2
        go_wp2_with fail
        refine (qwnum_any g X.n S _ hXn _ HQ.out hb8 rfl).mono ?_
        rintro e w3 ⟨rfl, h3, o3⟩
        have H3 := Lib.hid h3
        have B3 := Lib.hid (Only.below HB.out HB.out.size hgb o3)
        clear h3 o3
        go_wp2_with fail
        go_roundw
        case rel => exact ⟨k + 1, _, by omega, by go_num, H3.out, (by show _ = _; rw [hsucc.out, henc.out, ← HS.out]; simp only [app_list, List.append_assoc]), B3.out⟩
        case measure => simp [intOf]; omega
      · have hl8 : X.long = 4 + X.s.size := by unfold It.long; rw [hXt]; rfl
        have henc := Lib.hid (show enc X = be 4 X.s.size ++ X.s.data.toList from by unfold enc; rw [hXt]; rfl)
        rw [hXt] at c0
        have hb8 : S.size + 4 + X.s.size ≤ 9223372036854775000 := by omega
        clear hXt hl8 c1
        go_wp2_with fail
        refine (qwtext_any g X.s S _ _ HQ.out hb8 rfl).mono ?_
        rintro e w3 ⟨rfl, h3, o3⟩
        have H3 := Lib.hid h3
        have B3 := Lib.hid (Only.below HB.out HB.out.size hgb o3)
        clear h3 o3
        go_wp2_with fail
        go_roundw
        case rel => exact ⟨k + 1, _, by omega, by go_num, H3.out, (by show _ = _; rw [hsucc.out, henc.out, ← HS.out]; simp only [app_list, List.append_assoc]), B3.out⟩
        case measure => simp [intOf]; omega
    · have HK := Lib.hid (show k = n by omega)
      have hki : ¬ (k : Int) < (n : Int) := by omega
      clear hk hlt hSs
      go_wp2_with fail
      refine (laid_any a n c l HWF.out _ (HI.out.below' HB.out) hn hlen).mono ?_
      rintro e w2 ⟨rfl, h2⟩
      have HQ2 := Lib.hid (Blk.below HQ.out h2 HQ.out.lt)
      have B3 := Lib.hid (HB.out.trans (h2.mono HB.out.size))
      clear h2
      have eL := Lib.hid (show (⟨(laid l).toArray⟩ : ByteArray) = S from (of_list (by rw [HS.out, HK.out, ← HN.out, List.take_length])).symm)
      rw [eL.out]
      go_wp2_with fail
      refine (qbytes_any g S _ HQ2.out).mono ?_
      rintro e w3 ⟨rfl, rfl⟩
      go_wp2_with fail
      go_ret
      exact ⟨rfl, B3.out⟩
end Go.Proofs.Ytecamidkcdaopaa.Sp
