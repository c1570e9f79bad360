/- The document's own Verify. -/
import Derived.Test.YtnbaoihamjdjdaaGreatDoorSigVer
import Derived.Test.YtnbaoihamjdjdaaGreatDoorWotZ
import Derived.Test.YtnbaoihamjdjdaaGreatDoorTreZ
import Derived.Test.YtnbaoihamjdjdaaGreatDoorTreR
import Derived.Test.YtnbaoihamjdjdaaGreatDoorTreB
namespace Go.Proofs.YtnbaoihamjdjdaaGreatDoor.Sp
open Go Go.RowKit
set_option maxRecDepth 100000

theorem qclimb_t (x : ByteArray) (i : Int) (l : List ByteArray) (a : Option Addr) (n cap : Nat) (w : World) (hn : n ≤ 4294967296) (hi : -9223372036854775808 ≤ i ∧ i ≤ 9223372036854775807) (hM : ∀ y ∈ l, x.size + y.size ≤ TM ∧ 32 + y.size ≤ TM) (hl : Strs w a n l) (hT : Tabs w) :
    Calls Tryz.prog 46 #[.string x, .int .i64 i, .slice a n cap] w fun e w' => e = .returned (.string (climbI x i l)) ∧ Below w.heap.size w w' :=
  qclimb_of Tabs (fun _ h => h.drew_) (fun _ _ h hb => h.below hb) TM (fun a b w h ht => qnode_any a b w h ht) x i hi l a n cap (by omega) hM w hl hT

theorem fromB_32 (s msg : ByteArray) (h : s.size = 160) : (fromB s msg).size = 32 := by
  unfold fromB
  rw [if_pos h, ← size_list]
  exact sum_length _

theorem text_no {x y : ByteArray} (h : ¬ x = y) : (x.toList == y.toList) = false := by
  cases e : (x.toList == y.toList) with
  | false => rfl
  | true =>
    exfalso
    apply h
    have e2 := eq_of_beq e
    rw [Lib.toList_data, Lib.toList_data] at e2
    have h6 := Array.toList_inj.1 e2
    cases x; cases y; simp only at h6; rw [h6]

set_option maxHeartbeats 8000000 in
theorem qver_good (p msg sig : ByteArray) (w : World) (_hp : p.size ≤ 140737488353000) (hm : msg.size ≤ 140737488351232) (hs : sig.size ≤ 140737488353000) (hT : Tabs w) (h40 : p.size = 40) (h : Nat) (hH : num (p.data.toList.take 8) = h) (h7 : h ≤ 7) (hp8 : p.data.toList.take 8 = be 8 h) (h8 : 8 ≤ sig.size) (hok : rtOk (sig.extract 8 sig.size) 160) :
    Calls Tryz.prog 15 #[.string p, .string msg, .string sig] w fun e w' => e = .returned (.bool (verB p msg sig)) ∧ Below w.heap.size w w' := by
  obtain ⟨P, hP⟩ : ∃ P, p.extract 0 8 = P := ⟨_, rfl⟩
  have hPs : P.size = 8 := by rw [← hP]; exact tk_size _ _ (by omega)
  have hPl : P.data.toList = p.data.toList.take 8 := by rw [← hP, tk_list]
  have hPl8 : P.data.toList.take 8 = p.data.toList.take 8 := by rw [hPl, List.take_of_length_le (by rw [List.length_take]; omega)]
  have HN := Lib.hid (show qnN P false = h from by rw [(qn_good P (by omega)).1, hPl8]; exact hH)
  have h40i : (p.size : Int) = 40 := by omega
  have h7i : ¬ 7 < (h : Int) := by omega
  have hHw : IntKind.i64.wrap (h : Int) = (h : Int) := by rw [IntKind.wrap_i64]; omega
  have h128 := two_le h h7
  obtain ⟨M, hM⟩ : ∃ M : Nat, 2 ^ h = M := ⟨_, rfl⟩
  have hMi : (2 : Int) ^ h = (M : Int) := by rw [← hM]; simp
  have hMw : IntKind.u64.wrap (M : Int) = (M : Int) := by rw [IntKind.wrap_u64]; omega
  have HM := Lib.hid hM
  have hMl : M ≤ 128 := by omega
  obtain ⟨q1, q2, q3⟩ := qn_good sig h8
  obtain ⟨S1, hS1⟩ : ∃ S1, sig.extract 8 sig.size = S1 := ⟨_, rfl⟩
  obtain ⟨I, hI⟩ : ∃ I, num (sig.data.toList.take 8) = I := ⟨_, rfl⟩
  have hI64 : I < 18446744073709551616 := by
    rw [← hI]
    have h2 := num_lt (sig.data.toList.take 8)
    rw [show (sig.data.toList.take 8).length = 8 by rw [List.length_take, size_list]; omega] at h2
    exact h2
  rw [hS1] at hok q2
  rw [hI] at q1
  have HI := Lib.hid q1
  have HS1 := Lib.hid q2
  have HB1 := Lib.hid q3
  have hS1s : S1.size ≤ sig.size := by rw [← hS1, dr_size]; omega
  have hsig : sig.data.toList = be 8 I ++ S1.data.toList := by
    obtain ⟨e, _⟩ := rn_ok sig h8 false
    rw [rnN, if_pos h8, rnS, if_pos h8, hI, hS1] at e
    exact e.symm
  obtain ⟨t1, t2, t3⟩ := qt_good S1 160 hok
  have hgot := got_head sig S1 I hsig hI64 hok
  have hsl := rtT_le S1 160
  obtain ⟨s, hse⟩ : ∃ s, rtT S1 160 = s := ⟨_, rfl⟩
  obtain ⟨X0, hX0⟩ : ∃ X0, rtS S1 160 = X0 := ⟨_, rfl⟩
  have hX0s : X0.size ≤ S1.size := by rw [← hX0]; exact rtS_le S1 160
  rw [show ((160 : Nat) : Int) = 160 from rfl] at hsl
  rw [hse] at t1 hgot hsl
  rw [hX0] at t2 hgot
  have HT1 := Lib.hid t1
  have HT2 := Lib.hid t2
  have HT3 := Lib.hid t3
  have HG := Lib.hid hgot
  have HP8 := Lib.hid hp8
  have HT := Lib.hid hT
  obtain ⟨E, hE⟩ : ∃ E, p.extract 8 40 = E := ⟨_, rfl⟩
  have hE2 : p.extract 8 p.size = E := by rw [h40]; exact hE
  have HE := Lib.hid hE
  clear hPl hPl8 hH q1 q2 q3 hS1 hI hsig t1 t2 t3 hgot hse hX0 hp8 hT hok h128 hM
  go_enter Tryz.func15, Tryz.ntmps15
  go_wp2_with fail
  refine (qnewReader_any P w).mono ?_
  rintro e w1 ⟨rfl, h1⟩
  have R1 := Lib.hid (show QR w1 w.heap.size P false from by rw [h1]; exact Blk.new _ _ _)
  have B1 := Lib.hid (show Below w.heap.size w w1 from by rw [h1]; exact (Below.refl _ _).alloc (Nat.le_refl _) _)
  clear h1
  go_wp2_with fail
  refine (qrnum_any w.heap.size P false w1 R1.out (by omega)).mono ?_
  rw [HN.out]
  rintro e w2 ⟨rfl, _, o2⟩
  have B2 := Lib.hid (Only.below B1.out B1.out.size (Nat.le_refl _) o2)
  clear o2
  go_wp2_with fail
  refine (qnewReader_any sig w2).mono ?_
  rintro e w3 ⟨rfl, h3⟩
  have R3 := Lib.hid (show QR w3 w2.heap.size sig false from by rw [h3]; exact Blk.new _ _ _)
  have B3 := Lib.hid (show Below w2.heap.size w2 w3 from by rw [h3]; exact (Below.refl _ _).alloc (Nat.le_refl _) _)
  clear h3
  obtain ⟨gr, hgr⟩ : ∃ gr, w2.heap.size = gr := ⟨_, rfl⟩
  have HGR := Lib.hid hgr
  rw [hgr] at R3 ⊢
  clear hgr
  go_wp2_with fail
  refine (qrnum_any gr sig false w3 R3.out (by omega)).mono ?_
  rw [HI.out]
  rintro e w4 ⟨rfl, r4, o4⟩
  rw [HS1.out, HB1.out] at r4
  have R4 := Lib.hid r4
  have B4 := Lib.hid (Only.below B3.out B3.out.size (by rw [HGR.out]; exact Nat.le_refl _) o4)
  clear r4 o4
  go_wp2_with fail
  refine (qrtext_any gr S1 false 160 (by omega) (by omega) w4 R4.out (by omega)).mono ?_
  rw [HT1.out]
  rintro e w5 ⟨rfl, r5, o5⟩
  rw [HT2.out, HT3.out] at r5
  have R5 := Lib.hid r5
  have B5 := Lib.hid (Only.below B4.out B4.out.size (by rw [HGR.out]; exact Nat.le_refl _) o5)
  clear r5 o5
  go_wp2_with fail
  go_loopw [11, 12] (fun l t wr => ∃ (k : Nat) (Q : List ByteArray) (X : ByteArray), k ≤ h ∧ t = .int .i64 (k : Int) ∧ Q.length = k ∧ Hid (Got sig I s Q X) ∧ X.size ≤ sig.size ∧ QR wr gr X false ∧ OwnT wr w2.heap.size l Q ∧ Below w2.heap.size w2 wr) (fun _ t _ => h - (intOf t).toNat)
  case atStart => exact ⟨0, [], X0, by omega, rfl, rfl, HG, by omega, R5.out, World.ownsRow_nil _ _ _ _, B5.out⟩
  case round =>
    obtain ⟨k, Q, X, hk, rfl, hQl, Gx, hXs, hr, ho, hb⟩ := hrel
    have XR := Lib.hid hr
    have XO := Lib.hid ho
    have XB := Lib.hid hb
    have hbz := hb.size
    have hne := Lib.hid (own_blk_ne ho hr (by decide))
    clear hr ho hb
    by_cases hlt : k < h
    · have hki : (k : Int) < (h : Int) := by omega
      by_cases hokx : rtOk X 32
      · obtain ⟨u1, u2, u3⟩ := qt_good X 32 hokx
        have hgs := Gx.out.step hokx
        have hno := Gx.out.no_text h7 (by omega)
        have hx2 := rtS_le X 32
        obtain ⟨Y, hY⟩ : ∃ Y, rtT X 32 = Y := ⟨_, rfl⟩
        obtain ⟨X2, hX2⟩ : ∃ X2, rtS X 32 = X2 := ⟨_, rfl⟩
        rw [hY] at u1 hgs hno
        rw [hX2] at u2 hgs hx2
        have HU1 := Lib.hid u1
        have HU2 := Lib.hid u2
        have HU3 := Lib.hid u3
        by_cases hz : Y.size = 32
        · have hzi : (Y.size : Int) = 32 := by omega
          have HGS := Lib.hid (hgs hz)
          obtain ⟨Xs, eXs⟩ : ∃ Xs : List Value, Q.map Value.string = Xs := ⟨_, rfl⟩
          have HOk := Lib.hid (show wr.ownsRow w2.heap.size 9 1 u11 k Xs from by have := XO.out; unfold OwnT at this; rw [hQl, eXs] at this; exact this)
          have EXs := Lib.hid eXs
          have HQL := Lib.hid hQl
          obtain ⟨i0, hi0, hz0, hz1, hz2⟩ := info_parts infoText
          have hk8 : k + 1 ≤ maxLen := by unfold maxLen; omega
          have hkb : (k + 1) * 16 ≤ 140737488355328 := by omega
          clear u1 u2 u3 hgs hno hY hX2 hz eXs hQl hlt hokx XO
          go_wp2_with fail
          refine (qrtext_any gr X false 32 (by omega) (by omega) wr XR.out (by omega)).mono ?_
          rw [HU1.out]
          rintro e w6 ⟨rfl, r6, o6⟩
          rw [HU2.out, HU3.out] at r6
          have R6 := Lib.hid r6
          have B6 := Lib.hid (Only.below XB.out XB.out.size (by rw [HGR.out]; exact Nat.le_refl _) o6)
          have O6 := Lib.hid (World.ownsRow.kept HOk.out o6 (.inr hne.out))
          have b6 := B6.out.size
          clear r6 o6 HOk
          go_wp2_with (at_builtin; refine wpList_append_lies _ rfl (.tmp 41) (.tmp 43) 22 rfl w2.heap.size 9 i0 (.string .empty) 1 16 Tryz.underlying22 hi0 hz0 hz1 hz2 rfl (by decide) u11 k Xs rfl (O6.out.alloc _) ⟨w6.heap.size, 0, none⟩ 1 1 [.string Y] rfl rfl ?c1 ?c2 (by decide) ?c3 ?c4 ?c5 (w6.heap.size + 1) ?c6 ?_)
          case c1 => intro j u hj; exact new_cell _ _ _ hj
          case c2 => intro u hu; simp at hu; subst hu; rfl
          case c3 => exact hk8
          case c4 => exact hkb
          case c5 => simp; omega
          case c6 => simp
          intro gg cap2 w7 hown7 hgrow hat hgl
          have O7 := Lib.hid (show OwnT w7 w2.heap.size (.slice (some ⟨gg, 0, none⟩) (k + 1) cap2) (Q ++ [Y]) from by
            unfold OwnT
            rw [List.map_append, List.length_append, HQL.out, EXs.out]
            exact hown7)
          have R7 := Lib.hid (show QR w7 gr X2 false from R6.out.kept ((Below.refl _ _).alloc (Nat.le_refl _) _) hgrow hne.out)
          have B7 := Lib.hid (show Below w2.heap.size w2 w7 from (B6.out.alloc b6 _).grown hgrow (by simp; omega) (fun q hq => (O6.out.lt q hq).1))
          clear hown7 hgrow hat hgl hk8 hkb
          go_wp2_with fail
          go_roundw
          case rel => exact ⟨k + 1, Q ++ [Y], X2, by omega, by go_num, by rw [List.length_append, HQL.out]; rfl, HGS, by omega, R7.out, O7.out, B7.out⟩
          case measure => simp [intOf]; omega
        · have hzi : ¬ (Y.size : Int) = 32 := by omega
          have HNO := Lib.hid (hno (fun e => hz e.2))
          clear u1 u2 u3 hgs hno hY hX2 hz hlt hokx
          go_wp2_with fail
          refine (qrtext_any gr X false 32 (by omega) (by omega) wr XR.out (by omega)).mono ?_
          rw [HU1.out]
          rintro e w6 ⟨rfl, _, o6⟩
          have B6 := Lib.hid (B2.out.trans ((Only.below XB.out XB.out.size (by rw [HGR.out]; exact Nat.le_refl _) o6).mono B2.out.size))
          clear o6
          go_wp2_with fail
          go_ret
          exact ⟨ret_bool (verB_no (not_valid p msg sig _ h7 HP8.out (HNO.out))).symm, B6.out⟩
      · obtain ⟨u1, u2⟩ := qt_bad X 32 false (fun e => hokx e.2)
        have HU1 := Lib.hid u1
        have HNO := Lib.hid (Gx.out.no_text h7 (by omega) (fun e => hokx e.1))
        clear u1 u2 hokx hlt
        go_wp2_with fail
        refine (qrtext_any gr X false 32 (by omega) (by omega) wr XR.out (by omega)).mono ?_
        rw [HU1.out]
        rintro e w6 ⟨rfl, _, o6⟩
        have B6 := Lib.hid (B2.out.trans ((Only.below XB.out XB.out.size (by rw [HGR.out]; exact Nat.le_refl _) o6).mono B2.out.size))
        clear o6
        go_wp2_with fail
        go_ret
        exact ⟨ret_bool (verB_no (not_valid p msg sig _ h7 HP8.out (HNO.out))).symm, B6.out⟩
    · have hki : ¬ (k : Int) < (h : Int) := by omega
      obtain rfl : k = h := by omega
      have BX := Lib.hid (B2.out.trans (XB.out.mono B2.out.size))
      by_cases hx0 : X.size = 0
      · have hend : (!false && decide (X.size = 0)) = true := by simp [hx0]
        have HQE := Lib.hid (qend_any gr X false wr XR.out)
        rw [hend] at HQE
        by_cases hin : I < M
        · have hini : ¬ (M : Int) ≤ (I : Int) := by omega
          have hini2 : ¬ M ≤ I := by omega
          by_cases hs160 : s.size = 160
          · have hs160i : (s.size : Int) = 160 := by omega
            have HPA := Lib.hid (Gx.out.yes hQl hx0 (by rw [HM.out]; exact hin) hs160)
            obtain ⟨al, cl, hv, hSl, _, _⟩ := XO.out.strs_
            rw [hQl] at hv hSl
            subst hv
            have SL := Lib.hid hSl
            have HFr := Lib.hid (fun w ht => qfrom_any s msg (by omega) hm w ht)
            have hF32 := fromB_32 s msg hs160
            obtain ⟨F, hF⟩ : ∃ F, fromB s msg = F := ⟨_, rfl⟩
            rw [hF] at HFr hF32
            have HCl := Lib.hid (fun a w hs ht => qclimb_t F (I : Int) Q a k cl w (by omega) (by omega) (fun y hy => by have := Gx.out.each y hy; unfold TM; omega) hs ht)
            obtain ⟨C, hC⟩ : ∃ C, climbI F (I : Int) Q = C := ⟨_, rfl⟩
            rw [hC] at HCl
            have hiff := valid_iff p msg sig k I s Q h7 h40 HP8.out HPA.out
            have hCe : climbB (fromB s msg) I Q = C := by rw [hF, ← hC]; rfl
            rw [hCe, HE.out] at hiff
            have HV := Lib.hid hiff
            have hIw : IntKind.i64.wrap (I : Int) = (I : Int) := by rw [IntKind.wrap_i64]; omega
            have TX := Lib.hid (HT.out.below BX.out)
            clear hSl hF hC hiff hCe hend hx0 hlt hQl hin
            go_wp2_with fail
            refine HQE.out.mono ?_
            rintro e w6 ⟨rfl, rfl⟩
            go_wp2_with fail
            have B7z := BX.out.size
            go_region_held3 (fun _ => True) (trivial) ((first
              | (go_at_call 47; refine (HFr.out _ (by first | exact TX.out | exact TX.out.drew_)).mono ?_; rintro e w7 ⟨rfl, h7b⟩; have h7b : Below wr.heap.size wr w7 := (by first | exact h7b | exact below_of_drew h7b | exact below_of_drew (below_of_drew h7b)); have S7 := Lib.hid (SL.out.below h7b); have B7 := Lib.hid (BX.out.trans (h7b.mono BX.out.size)); have T7 := Lib.hid (HT.out.below B7.out); clear h7b)
              | (go_at_call 46; refine (HCl.out _ _ (by exact S7.out) (by first | exact T7.out | exact T7.out.drew_)).mono ?_; rintro e w8 ⟨rfl, h8b⟩; have h8b : Below w7.heap.size w7 w8 := (by first | exact h8b | exact below_of_drew h8b | exact below_of_drew (below_of_drew h8b)); have B8 := Lib.hid (B7.out.trans (h8b.mono B7.out.size)); clear h8b)))
            all_goals
              go_wp2_with fail
              go_ret
              refine ⟨ret_bool ?_, B8.out⟩
              by_cases hCE : C = E
              · rw [verB_yes (HV.out.2 hCE), hCE]
                simp
              · rw [verB_no (fun v => hCE (HV.out.1 v))]
                exact text_no hCE
          · have hs160i : ¬ (s.size : Int) = 160 := by omega
            have HNO := Lib.hid (Gx.out.no_sig h7 hQl hs160)
            clear hend hx0 hlt hs160 hin
            go_wp2_with fail
            refine HQE.out.mono ?_
            rintro e w6 ⟨rfl, rfl⟩
            go_wp2_with fail
            go_ret
            exact ⟨ret_bool (verB_no (not_valid p msg sig _ h7 HP8.out (HNO.out))).symm, BX.out⟩
        · have hini : (M : Int) ≤ (I : Int) := by omega
          have HNO := Lib.hid (Gx.out.no_num h7 hQl (by rw [HM.out]; exact hin))
          clear hend hx0 hlt hin
          go_wp2_with fail
          refine HQE.out.mono ?_
          rintro e w6 ⟨rfl, rfl⟩
          go_wp2_with fail
          go_ret
          exact ⟨ret_bool (verB_no (not_valid p msg sig _ h7 HP8.out (HNO.out))).symm, BX.out⟩
      · have hend : (!false && decide (X.size = 0)) = false := by simp [hx0]
        have HQE := Lib.hid (qend_any gr X false wr XR.out)
        rw [hend] at HQE
        have HNO := Lib.hid (Gx.out.no_end h7 hQl hx0)
        clear hend hx0 hlt
        go_wp2_with fail
        refine HQE.out.mono ?_
        rintro e w6 ⟨rfl, rfl⟩
        go_wp2_with fail
        go_ret
        exact ⟨ret_bool (verB_no (not_valid p msg sig _ h7 HP8.out (HNO.out))).symm, BX.out⟩

end Go.Proofs.YtnbaoihamjdjdaaGreatDoor.Sp
