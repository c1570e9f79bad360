/- The document's own Verify: where nothing is valid. -/
import Derived.Test.YtnbaoihamjdjdaaGreatDoorSigGot
import Derived.Test.YtnbaoihamjdjdaaGreatDoorCodRef
import Derived.Test.YtnbaoihamjdjdaaGreatDoorShaTabs
import Derived.BigQuiet
namespace Go.Proofs.YtnbaoihamjdjdaaGreatDoor.Sp
open Go Go.RowKit
set_option maxRecDepth 100000

theorem qn_good (S : ByteArray) (h : 8 ≤ S.size) : qnN S false = num (S.data.toList.take 8) ∧ qnS S false = S.extract 8 S.size ∧ qnB S false = false := ⟨if_pos ⟨rfl, h⟩, if_pos ⟨rfl, h⟩, if_pos ⟨rfl, h⟩⟩
theorem qn_bad (S : ByteArray) (h : ¬ 8 ≤ S.size) : qnN S false = 0 ∧ qnB S false = true := ⟨if_neg (fun e => h e.2), if_neg (fun e => h e.2)⟩
theorem qt_good (S : ByteArray) (m : Int) (h : rtOk S m) : qtT S m false = rtT S m ∧ qtS S m false = rtS S m ∧ qtB S m false = false := by
  refine ⟨?_, ?_, if_pos ⟨rfl, h⟩⟩
  · rw [qtT, if_pos ⟨rfl, h⟩, rtT, if_pos h]
  · rw [qtS, if_pos ⟨rfl, h⟩, rtS, if_pos h]
theorem qt_bad (S : ByteArray) (m : Int) (b : Bool) (h : ¬ (b = false ∧ rtOk S m)) : qtT S m b = .empty ∧ qtB S m b = true := ⟨if_neg h, if_neg h⟩
theorem qtS_le (S : ByteArray) (m : Int) (b : Bool) : (qtS S m b).size ≤ S.size := by
  unfold qtS
  split
  · rw [dr_size, dr_size]; omega
  · split
    · rw [dr_size]; omega
    · exact Nat.le_refl _
theorem qnS_le (S : ByteArray) (b : Bool) : (qnS S b).size ≤ S.size := by
  unfold qnS
  split
  · rw [dr_size]; omega
  · exact Nat.le_refl _
theorem rtT_le (S : ByteArray) (m : Nat) : (rtT S (m : Int)).size ≤ m := by
  by_cases h : rtOk S (m : Int)
  · obtain ⟨_, _, e⟩ := rt_ok S (m : Int) h false
    rw [e]
    have := h.2.1
    omega
  · rw [rtT, if_neg h]; exact Nat.zero_le _

theorem qver_size (p msg sig : ByteArray) (w : World) (hp : p.size ≤ 140737488353000) (_hm : msg.size ≤ 140737488351232) (_hs : sig.size ≤ 140737488353000) (_hT : Tabs w) (h40 : ¬ p.size = 40) :
    Calls Tryz.prog 15 #[.string p, .string msg, .string sig] w fun e w' => e = .returned (.bool (verB p msg sig)) ∧ Below w.heap.size w w' := by
  rw [verB_no (fun v => h40 (valid_pub _ _ _ v))]
  have h1 : ¬ (p.size : Int) = 40 := by omega
  have h2 : (p.size : Int) ≤ 9223372036854775807 := by omega
  go_enter Tryz.func15, Tryz.ntmps15
  go_wp2_with fail
  go_ret
  exact ⟨rfl, Below.refl _ _⟩

set_option maxHeartbeats 1000000 in
theorem qver_high (p msg sig : ByteArray) (w : World) (_hp : p.size ≤ 140737488353000) (_hm : msg.size ≤ 140737488351232) (_hs : sig.size ≤ 140737488353000) (_hT : Tabs w) (h40 : p.size = 40) (H : Nat) (hH : num (p.data.toList.take 8) = H) (h7 : 7 < H) :
    Calls Tryz.prog 15 #[.string p, .string msg, .string sig] w fun e w' => e = .returned (.bool (verB p msg sig)) ∧ Below w.heap.size w w' := by
  rw [verB_no (not_high p msg sig H hH h7)]
  obtain ⟨P, hP⟩ : ∃ P, p.extract 0 8 = P := ⟨_, rfl⟩
  have hPs : P.size = 8 := by rw [← hP]; exact tk_size _ _ (by omega)
  have hPl : P.data.toList = p.data.toList.take 8 := by rw [← hP, tk_list]
  have hPl8 : P.data.toList.take 8 = p.data.toList.take 8 := by rw [hPl, List.take_of_length_le (by rw [List.length_take]; omega)]
  have HN := Lib.hid (show qnN P false = H from by rw [(qn_good P (by omega)).1, hPl8]; exact hH)
  have h40i : (p.size : Int) = 40 := by omega
  have h7i : 7 < (H : Int) := by omega
  clear hPl hPl8 hH
  go_enter Tryz.func15, Tryz.ntmps15
  go_wp2_with fail
  refine (qnewReader_any P w).mono ?_
  rintro e w1 ⟨rfl, h1⟩
  have R1 := Lib.hid (show QR w1 w.heap.size P false from by rw [h1]; exact Blk.new _ _ _)
  have B1 := Lib.hid (show Below w.heap.size w w1 from by rw [h1]; exact (Below.refl _ _).alloc (Nat.le_refl _) _)
  clear h1
  go_wp2_with fail
  refine (qrnum_any w.heap.size P false w1 R1.out (by omega)).mono ?_
  rw [HN.out]
  rintro e w2 ⟨rfl, _, o2⟩
  have B2 := Lib.hid (Only.below B1.out B1.out.size (Nat.le_refl _) o2)
  clear o2
  go_wp2_with fail
  go_ret
  exact ⟨rfl, B2.out⟩

set_option maxHeartbeats 2000000 in
theorem qver_bad (p msg sig : ByteArray) (w : World) (_hp : p.size ≤ 140737488353000) (_hm : msg.size ≤ 140737488351232) (hs : sig.size ≤ 140737488353000) (_hT : Tabs w) (h40 : p.size = 40) (H : Nat) (hH : num (p.data.toList.take 8) = H) (h7 : H ≤ 7) (hbad : ¬ (qnB sig false = false ∧ rtOk (qnS sig false) 160)) (hno : ¬ Valid p msg sig) :
    Calls Tryz.prog 15 #[.string p, .string msg, .string sig] w fun e w' => e = .returned (.bool (verB p msg sig)) ∧ Below w.heap.size w w' := by
  rw [verB_no hno]
  obtain ⟨P, hP⟩ : ∃ P, p.extract 0 8 = P := ⟨_, rfl⟩
  have hPs : P.size = 8 := by rw [← hP]; exact tk_size _ _ (by omega)
  have hPl : P.data.toList = p.data.toList.take 8 := by rw [← hP, tk_list]
  have hPl8 : P.data.toList.take 8 = p.data.toList.take 8 := by rw [hPl, List.take_of_length_le (by rw [List.length_take]; omega)]
  have HN := Lib.hid (show qnN P false = H from by rw [(qn_good P (by omega)).1, hPl8]; exact hH)
  have h40i : (p.size : Int) = 40 := by omega
  have h7i : ¬ 7 < (H : Int) := by omega
  have hHw : IntKind.i64.wrap (H : Int) = (H : Int) := by rw [IntKind.wrap_i64]; omega
  have hle := qnS_le sig false
  have hle2 := qtS_le (qnS sig false) 160 (qnB sig false)
  obtain ⟨hb1, hb2⟩ := qt_bad (qnS sig false) 160 (qnB sig false) hbad
  have HT1 := Lib.hid hb1
  have HT2 := Lib.hid hb2
  clear hPl hPl8 hH hno hbad hb1 hb2
  go_enter Tryz.func15, Tryz.ntmps15
  go_wp2_with fail
  refine (qnewReader_any P w).mono ?_
  rintro e w1 ⟨rfl, h1⟩
  have R1 := Lib.hid (show QR w1 w.heap.size P false from by rw [h1]; exact Blk.new _ _ _)
  have B1 := Lib.hid (show Below w.heap.size w w1 from by rw [h1]; exact (Below.refl _ _).alloc (Nat.le_refl _) _)
  clear h1
  go_wp2_with fail
  refine (qrnum_any w.heap.size P false w1 R1.out (by omega)).mono ?_
  rw [HN.out]
  rintro e w2 ⟨rfl, _, o2⟩
  have B2 := Lib.hid (Only.below B1.out B1.out.size (Nat.le_refl _) o2)
  clear o2
  go_wp2_with fail
  refine (qnewReader_any sig w2).mono ?_
  rintro e w3 ⟨rfl, h3⟩
  have R3 := Lib.hid (show QR w3 w2.heap.size sig false from by rw [h3]; exact Blk.new _ _ _)
  have B3 := Lib.hid (show Below w2.heap.size w2 w3 from by rw [h3]; exact (Below.refl _ _).alloc (Nat.le_refl _) _)
  clear h3
  obtain ⟨gr, hgr⟩ : ∃ gr, w2.heap.size = gr := ⟨_, rfl⟩
  have HGR := Lib.hid hgr
  rw [hgr] at R3 ⊢
  clear hgr
  go_wp2_with fail
  refine (qrnum_any gr sig false w3 R3.out (by omega)).mono ?_
  rintro e w4 ⟨rfl, r4, o4⟩
  have R4 := Lib.hid r4
  have B4 := Lib.hid (Only.below B3.out B3.out.size (by rw [HGR.out]; exact Nat.le_refl _) o4)
  clear r4 o4
  go_wp2_with fail
  refine (qrtext_any gr _ _ 160 (by omega) (by omega) w4 R4.out (by omega)).mono ?_
  rw [HT1.out]
  rintro e w5 ⟨rfl, r5, o5⟩
  rw [HT2.out] at r5
  have R5 := Lib.hid r5
  have B5 := Lib.hid (Only.below B4.out B4.out.size (by rw [HGR.out]; exact Nat.le_refl _) o5)
  clear r5 o5
  obtain ⟨I, hI⟩ : ∃ I, qnN sig false = I := ⟨_, rfl⟩
  obtain ⟨X, hX⟩ : ∃ X, qtS (qnS sig false) 160 (qnB sig false) = X := ⟨_, rfl⟩
  rw [hX] at R5 hle2
  rw [hI]
  clear hI hX
  go_wp2_with fail
  go_loopw [12] (fun t wr => t = .int .i64 0 ∧ QR wr gr X true ∧ Below w2.heap.size w2 wr) (fun _ _ => 0)
  case atStart => exact ⟨rfl, R5.out, B5.out⟩
  case round =>
    obtain ⟨rfl, hr, hb⟩ := hrel
    have XR := Lib.hid hr
    have XB := Lib.hid hb
    clear hr hb
    by_cases h0 : 0 < H
    · have h0i : (0 : Int) < (H : Int) := by omega
      obtain ⟨q1, q2⟩ := qt_bad X 32 true (by simp)
      have HQ := Lib.hid q1
      clear q1 q2 h0
      go_wp2_with fail
      refine (qrtext_any gr X true 32 (by omega) (by omega) wr XR.out (by omega)).mono ?_
      rw [HQ.out]
      rintro e w6 ⟨rfl, _, o6⟩
      have B6 := Lib.hid (B2.out.trans ((Only.below XB.out XB.out.size (by rw [HGR.out]; exact Nat.le_refl _) o6).mono B2.out.size))
      clear o6
      go_wp2_with fail
      go_ret
      exact ⟨rfl, B6.out⟩
    · have h0i : ¬ (0 : Int) < (H : Int) := by omega
      clear h0
      go_wp2_with fail
      refine (qend_any gr X true wr XR.out).mono ?_
      rintro e w6 ⟨rfl, rfl⟩
      have B6 := Lib.hid (B2.out.trans (XB.out.mono B2.out.size))
      go_wp2_with fail
      go_ret
      exact ⟨rfl, B6.out⟩

end Go.Proofs.YtnbaoihamjdjdaaGreatDoor.Sp
