/- The walk of CodecForth. -/
import Derived.Test.YtecamidkcdaopaaCodSem
namespace Go.Proofs.Ytecamidkcdaopaa.Sp
open Go Go.RowKit

theorem rn_ok (S : ByteArray) (h : 8 ≤ S.size) (b : Bool) : be 8 (rnN S) ++ (rnS S).data.toList = S.data.toList ∧ rnB S b = b := by
  refine ⟨?_, if_pos h⟩
  unfold rnN rnS
  rw [if_pos h, if_pos h, dr_list]
  have hl : (S.data.toList.take 8).length = 8 := by rw [List.length_take, size_list]; omega
  have := be_num (S.data.toList.take 8)
  rw [hl] at this
  rw [this, List.take_append_drop]
theorem rn_no (S : ByteArray) (h : ¬ 8 ≤ S.size) (b : Bool) : rnN S = 0 ∧ rnS S = .empty ∧ rnB S b = true := ⟨if_neg h, if_neg h, if_neg h⟩
theorem rt_no (S : ByteArray) (most : Int) (h : ¬ rtOk S most) (b : Bool) : rtT S most = .empty ∧ rtS S most = .empty ∧ rtB S most b = true := ⟨if_neg h, if_neg h, if_neg h⟩
theorem rt_ok (S : ByteArray) (most : Int) (h : rtOk S most) (b : Bool) :
    (be 4 (rtT S most).size ++ (rtT S most).data.toList) ++ (rtS S most).data.toList = S.data.toList ∧ rtB S most b = b ∧ (rtT S most).size = rtN S := by
  obtain ⟨h4, _, hN⟩ := id h
  have hsz : (rtT S most).size = rtN S := by
    unfold rtT
    rw [if_pos h]
    exact tk_size _ _ (by rw [dr_size]; omega)
  refine ⟨?_, if_pos h, hsz⟩
  rw [hsz]
  unfold rtT rtS
  rw [if_pos h, if_pos h, dr_list, tk_list, dr_list, List.append_assoc, List.take_append_drop]
  have hl : (S.data.toList.take 4).length = 4 := by rw [List.length_take, size_list]; omega
  have := be_num (S.data.toList.take 4)
  rw [hl] at this
  unfold rtN
  rw [this, List.take_append_drop]
theorem rtS_le (A : ByteArray) (m : Int) : (rtS A m).size ≤ A.size := by
  unfold rtS; split
  · rw [dr_size, dr_size]; omega
  · exact Nat.zero_le _
theorem Only.wr {w w' : World} {g gw : Nat} {l : List UInt8} (h : Only g w w') (hW : Wr w gw gw l) (hg : g < gw) : Wr w' gw gw l := by
  obtain ⟨hb, v, h1, h2⟩ := hW
  refine ⟨hb, v, Only.blk h h1 (by omega), World.ownsRow.kept h2 h ?_⟩
  rcases hv : v.ownBlock with _ | k
  · exact .inl rfl
  · exact .inr (by have := (h2.lt k hv).1; intro e; injection e with e; omega)

set_option maxHeartbeats 2000000 in
theorem forth_law (s : ByteArray) (a : Option Addr) (n c : Nat) (p : Nat → Bool) (hs : s.size ≤ 140737488351232) (w : World) (hC : Cells w a n fun j => .bool (p j)) (hn : n ≤ 9223372036854775807) :
    Calls Try.prog 6 #[.string s, .slice a n c] w fun e w' => e = .returned (.bool true) ∧ Below w.heap.size w w' := by
  have HC := Lib.hid hC
  have hs47 : s.size ≤ 140737488355328 := by omega
  have hs63 : (s.size : Int) ≤ 9223372036854775807 := by omega
  clear hC
  go_enter Try.func6, Try.ntmps6
  go_wp2_with fail
  refine (awake_any _).mono ?_
  rintro e w1 ⟨rfl, h1⟩
  have B1 := Lib.hid h1
  clear h1
  go_wp2_with fail
  refine (newReader_any s _).mono ?_
  rintro e w2 ⟨rfl, h2⟩
  obtain ⟨g, eg⟩ : ∃ g, g = w1.heap.size := ⟨_, rfl⟩
  have hgb : w.heap.size ≤ g := by rw [eg]; exact B1.out.size
  have R2 := Lib.hid (show Rd w2 g s false from by rw [h2, eg]; exact Blk.new w1 _ _)
  have B2 := Lib.hid (show Below w.heap.size w w2 from by rw [h2]; exact B1.out.alloc B1.out.size _)
  rw [← eg]
  clear h2 eg
  go_wp2_with fail
  refine (newWriter_any _).mono ?_
  rintro e w3 ⟨rfl, h3⟩
  obtain ⟨gw, egw⟩ : ∃ gw, gw = w2.heap.size := ⟨_, rfl⟩
  have hgw : g < gw := by rw [egw]; exact Blk.lt R2.out
  have R3 := Lib.hid (show Rd w3 g s false from by rw [h3]; exact Blk.alloc R2.out _)
  have W3 := Lib.hid (show Wr w3 gw gw [] from by rw [h3, egw]; exact ⟨Nat.le_refl _, _, Blk.new w2 _ _, World.ownsRow_nil _ _ _ _⟩)
  have B3 := Lib.hid (show Below w.heap.size w w3 from by rw [h3]; exact B2.out.alloc B2.out.size _)
  rw [← egw]
  clear h3 egw
  go_wp2_with fail
  go_loopw [8] (fun i wr => ∃ (k : Nat) (l : List UInt8) (S : ByteArray), k ≤ n ∧ k ≤ 100 ∧ i = .int .i64 (k : Int) ∧ Rd wr g S false ∧ Wr wr gw gw l ∧ Hid (l ++ S.data.toList = s.data.toList) ∧ Below w.heap.size w wr) (fun i _ => n - (intOf i).toNat)
  case atStart => exact ⟨0, [], s, Nat.zero_le _, Nat.zero_le _, rfl, R3.out, W3.out, rfl, B3.out⟩
  case round =>
    obtain ⟨k, l, S, hk, hk100, rfl, hr, hw, HS, hbel⟩ := hrel
    have HR := Lib.hid hr
    have HW := Lib.hid hw
    have HB := Lib.hid hbel
    clear hr hw hbel
    have hlen : l.length + S.size = s.size := by rw [← size_list S, ← size_list s, ← HS.out, List.length_append]
    by_cases hlt : k < n
    · by_cases hlt5 : k < 100
      · obtain ⟨b, off, rfl, hbw, hcell⟩ := HC.out.at_ HB.out hlt
        have hki : (k : Int) < (n : Int) := by omega
        have hk5 : (k : Int) < 100 := by omega
        have hk0 : (0 : Int) ≤ (k : Int) := by omega
        have hS9 : S.size ≤ 9223372036854775807 := by omega
        have hS7 : S.size ≤ 140737488355328 := by omega
        rcases hp : p k with _ | _
        · rw [hp] at hcell
          clear hp
          have hl8 : l.length + 8 ≤ 140737488355328 := by omega
          by_cases h8 : 8 ≤ S.size
          · obtain ⟨e1, e2⟩ := rn_ok S h8 false
            have E1 := Lib.hid e1
            have E2 := Lib.hid e2
            have hNl := rnN_lt S
            clear e1 e2
            go_wp2_with fail
            refine (rnum_any g S false _ HR.out hS9).mono ?_
            rintro e w5 ⟨rfl, h5, o5⟩
            rw [E2.out] at h5
            have W5 := Lib.hid (Only.wr o5 HW.out hgw)
            have R5 := Lib.hid h5
            have B5 := Lib.hid (Only.below HB.out HB.out.size hgb o5)
            clear h5 o5
            go_wp2_with fail
            refine (wnum_any gw gw (rnN S) l hNl _ W5.out hl8).mono ?_
            rintro e w6 ⟨rfl, h6, b6⟩
            have W6 := Lib.hid h6
            have R6 := Lib.hid (show Rd w6 g (rnS S) false from Blk.below R5.out b6 hgw)
            have B6 := Lib.hid (B5.out.trans (b6.mono (by omega)))
            clear h6 b6
            go_wp2_with fail
            refine (bad_any g _ false _ R6.out).mono ?_
            rintro e w7 ⟨rfl, rfl⟩
            go_wp2_with fail
            refine (end_any g _ false _ R6.out).mono ?_
            rintro e w7 ⟨rfl, rfl⟩
            by_cases hz : (rnS S).size = 0
            · have HZ := Lib.hid (show (!false && decide ((rnS S).size = 0)) = true from by simp [hz])
              have hall := Lib.hid (show (⟨(l ++ be 8 (rnN S)).toArray⟩ : ByteArray) = s from by
                refine (of_list ?_).symm
                have hnil : (rnS S).data.toList = [] := List.eq_nil_of_length_eq_zero (by rw [size_list]; exact hz)
                have h1 := E1.out
                rw [hnil, List.append_nil] at h1
                rw [h1, HS.out])
              rw [HZ.out]
              clear hz
              go_wp2_with fail
              refine (bytes_any gw gw _ _ W6.out).mono ?_
              rintro e w7 ⟨rfl, rfl⟩
              rw [hall.out]
              go_wp2_with fail
              go_ret
              exact ⟨rfl, B6.out⟩
            · have HZ := Lib.hid (show (!false && decide ((rnS S).size = 0)) = false from by simp [hz])
              rw [HZ.out]
              clear hz
              go_wp2_with fail
              go_roundw
              case rel => exact ⟨k + 1, _, _, by omega, by omega, by go_num, R6.out, W6.out, (by show _ = _; rw [List.append_assoc, E1.out, HS.out]), B6.out⟩
              case measure => simp [intOf]; omega
          · obtain ⟨e1, e2, e3⟩ := rn_no S h8 false
            have E1 := Lib.hid e1
            have E2 := Lib.hid e2
            have E3 := Lib.hid e3
            clear e1 e2 e3
            go_wp2_with fail
            refine (rnum_any g S false _ HR.out hS9).mono ?_
            rintro e w5 ⟨rfl, h5, o5⟩
            rw [E2.out, E3.out] at h5
            rw [E1.out]
            have W5 := Lib.hid (Only.wr o5 HW.out hgw)
            have R5 := Lib.hid h5
            have B5 := Lib.hid (Only.below HB.out HB.out.size hgb o5)
            clear h5 o5
            go_wp2_with fail
            refine (wnum_any gw gw 0 l (by omega) _ W5.out hl8).mono ?_
            rintro e w6 ⟨rfl, h6, b6⟩
            have R6 := Lib.hid (show Rd w6 g .empty true from Blk.below R5.out b6 hgw)
            have B6 := Lib.hid (B5.out.trans (b6.mono (by omega)))
            clear h6 b6
            go_wp2_with fail
            refine (bad_any g _ true _ R6.out).mono ?_
            rintro e w7 ⟨rfl, rfl⟩
            go_wp2_with fail
            refine (end_any g _ true _ R6.out).mono ?_
            rintro e w7 ⟨rfl, rfl⟩
            go_wp2_with fail
            go_ret
            exact ⟨rfl, B6.out⟩
        · rw [hp] at hcell
          clear hp
          have hm0 : -9223372036854775808 ≤ (s.size : Int) := by omega
          by_cases hok : rtOk S (s.size : Int)
          · obtain ⟨e1, e2, e3⟩ := rt_ok S _ hok false
            have hl8 : l.length + 4 + (rtT S (s.size : Int)).size ≤ 140737488355328 := by rw [e3]; have := hok.2.2; omega
            have E1 := Lib.hid e1
            have E2 := Lib.hid e2
            clear e1 e2 e3 hok
            go_wp2_with fail
            refine (rtext_any g S false (s.size : Int) hm0 hs63 _ HR.out hS7).mono ?_
            rintro e w5 ⟨rfl, h5, o5⟩
            rw [E2.out] at h5
            have W5 := Lib.hid (Only.wr o5 HW.out hgw)
            have R5 := Lib.hid h5
            have B5 := Lib.hid (Only.below HB.out HB.out.size hgb o5)
            clear h5 o5
            go_wp2_with fail
            refine (wtext_any gw gw (rtT S (s.size : Int)) l _ W5.out hl8).mono ?_
            rintro e w6 ⟨rfl, h6, b6⟩
            have W6 := Lib.hid h6
            have R6 := Lib.hid (show Rd w6 g (rtS S (s.size : Int)) false from Blk.below R5.out b6 hgw)
            have B6 := Lib.hid (B5.out.trans (b6.mono (by omega)))
            clear h6 b6
            go_wp2_with fail
            refine (bad_any g _ false _ R6.out).mono ?_
            rintro e w7 ⟨rfl, rfl⟩
            go_wp2_with fail
            refine (end_any g _ false _ R6.out).mono ?_
            rintro e w7 ⟨rfl, rfl⟩
            by_cases hz : (rtS S (s.size : Int)).size = 0
            · have HZ := Lib.hid (show (!false && decide ((rtS S (s.size : Int)).size = 0)) = true from by simp [hz])
              have hall := Lib.hid (show (⟨(l ++ (be 4 (rtT S (s.size : Int)).size ++ (rtT S (s.size : Int)).data.toList)).toArray⟩ : ByteArray) = s from by
                refine (of_list ?_).symm
                have hnil : (rtS S (s.size : Int)).data.toList = [] := List.eq_nil_of_length_eq_zero (by rw [size_list]; exact hz)
                have h1 := E1.out
                rw [hnil, List.append_nil] at h1
                rw [h1, HS.out])
              rw [HZ.out]
              clear hz
              go_wp2_with fail
              refine (bytes_any gw gw _ _ W6.out).mono ?_
              rintro e w7 ⟨rfl, rfl⟩
              rw [hall.out]
              go_wp2_with fail
              go_ret
              exact ⟨rfl, B6.out⟩
            · have HZ := Lib.hid (show (!false && decide ((rtS S (s.size : Int)).size = 0)) = false from by simp [hz])
              rw [HZ.out]
              clear hz
              go_wp2_with fail
              go_roundw
              case rel => exact ⟨k + 1, _, _, by omega, by omega, by go_num, R6.out, W6.out, (by show _ = _; rw [List.append_assoc, E1.out, HS.out]), B6.out⟩
              case measure => simp [intOf]; omega
          · obtain ⟨e1, e2, e3⟩ := rt_no S _ hok false
            have E1 := Lib.hid e1
            have E2 := Lib.hid e2
            have E3 := Lib.hid e3
            have hl8 : l.length + 4 + ByteArray.empty.size ≤ 140737488355328 := by show l.length + 4 + 0 ≤ _; omega
            clear e1 e2 e3 hok
            go_wp2_with fail
            refine (rtext_any g S false (s.size : Int) hm0 hs63 _ HR.out hS7).mono ?_
            rintro e w5 ⟨rfl, h5, o5⟩
            rw [E2.out, E3.out] at h5
            rw [E1.out]
            have W5 := Lib.hid (Only.wr o5 HW.out hgw)
            have R5 := Lib.hid h5
            have B5 := Lib.hid (Only.below HB.out HB.out.size hgb o5)
            clear h5 o5
            go_wp2_with fail
            refine (wtext_any gw gw .empty l _ W5.out hl8).mono ?_
            rintro e w6 ⟨rfl, h6, b6⟩
            have R6 := Lib.hid (show Rd w6 g .empty true from Blk.below R5.out b6 hgw)
            have B6 := Lib.hid (B5.out.trans (b6.mono (by omega)))
            clear h6 b6
            go_wp2_with fail
            refine (bad_any g _ true _ R6.out).mono ?_
            rintro e w7 ⟨rfl, rfl⟩
            go_wp2_with fail
            refine (end_any g _ true _ R6.out).mono ?_
            rintro e w7 ⟨rfl, rfl⟩
            go_wp2_with fail
            go_ret
            exact ⟨rfl, B6.out⟩
      · have hki : (k : Int) < (n : Int) := by omega
        have hk5 : ¬ (k : Int) < 100 := by omega
        clear hlt hlt5 hk hk100
        go_wp2_with fail
        go_ret
        exact ⟨rfl, HB.out⟩
    · have hki : ¬ (k : Int) < (n : Int) := by omega
      clear hlt hk hk100
      go_wp2_with fail
      go_ret
      exact ⟨rfl, HB.out⟩
end Go.Proofs.Ytecamidkcdaopaa.Sp
