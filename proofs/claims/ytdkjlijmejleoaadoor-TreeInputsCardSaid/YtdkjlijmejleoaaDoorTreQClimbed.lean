/- The document's own inputs of a climb. -/
import Derived.Test.YtdkjlijmejleoaaDoorTreQInp
namespace Go.Proofs.YtdkjlijmejleoaaDoor.Sp
open Go Go.RowKit

set_option maxHeartbeats 4000000 in
theorem qclimbed_of (T : World → Prop) (hTb : ∀ w w', T w → Below w.heap.size w w' → T w') (M : Nat)
    (hnode : ∀ (a b : ByteArray) (w : World), a.size + b.size ≤ M → T w → Calls Tryd.prog 41 #[.string a, .string b] w fun e w' => e = .returned (.string (nodeB a b)) ∧ Below w.heap.size w w')
    (hinp : ∀ (a b : ByteArray) (g c : Nat) (w : World), Strs w (some ⟨g, 0, none⟩) 2 [a, b] → a.size + b.size ≤ M → Calls Tryd.prog 39 #[.int .u8 5, .slice (some ⟨g, 0, none⟩) 2 c] w fun e w' => e = .returned (.string (inpB a b)) ∧ Below w.heap.size w w')
    (x : ByteArray) (i : Int) (hi : -9223372036854775808 ≤ i ∧ i ≤ 9223372036854775807) (l : List ByteArray) (a : Option Addr) (n cap : Nat) (hn : n ≤ 4294967296) (hM : ∀ y ∈ l, x.size + y.size ≤ M ∧ 32 + y.size ≤ M) (w : World) (hl : Strs w a n l) (hT : T w) :
    Calls Tryd.prog 23 #[.string x, .int .i64 i, .slice a n cap] w (TextsTo (climbedI x i l) w) := by
  have hlen := hl.1
  obtain ⟨I, hI⟩ : ∃ I : Nat, i.toNat = I := ⟨_, rfl⟩
  have hmax : (max i 0 : Int) = (I : Int) := by omega
  have hI9 : I ≤ 9223372036854775807 := by omega
  have hite : (if i < 0 then (0 : Int) else i) = (I : Int) := by split <;> omega
  have hite2 : (if 0 < i then i else (0 : Int)) = (I : Int) := by split <;> omega
  have hite3 : (if i ≤ 0 then (0 : Int) else i) = (I : Int) := by split <;> omega
  have hite4 : (if 0 ≤ i then i else (0 : Int)) = (I : Int) := by split <;> omega
  have HX := Lib.hid (show climbedI x i l = climbedB x I l from by unfold climbedI; rw [hI])
  have HL := Lib.hid hl
  have HT := Lib.hid hT
  have HTb := Lib.hid hTb
  have HM := Lib.hid hM
  have HN := Lib.hid hnode
  have HIn := Lib.hid hinp
  clear hl hT hM hnode hTb hinp
  go_enter Tryd.func23, Tryd.ntmps23
  go_wp2_with fail
  go_loopw [0, 1, 7, 8] (fun s t v y wr => ∃ k : Nat, k ≤ n ∧ y = .int .i64 (k : Int) ∧ t = .int .i64 ((I / 2 ^ k : Nat) : Int) ∧ s = .string (climbB x I (l.take k)) ∧ OwnT wr w.heap.size v (climbedB x I (l.take k)) ∧ T wr ∧ Below w.heap.size w wr) (fun _ _ _ y _ => n - (intOf y).toNat)
  case atStart => exact ⟨0, by omega, rfl, by first | (simp; done) | (simp; omega) | (simp only [Nat.pow_zero, Nat.div_one]; congr 1), rfl, World.ownsRow_nil _ _ _ _, HT.out, Below.refl _ _⟩
  case round =>
    obtain ⟨k, hk, rfl, rfl, rfl, hown, ht, hbel⟩ := hrel
    have HTr := Lib.hid ht
    have HB := Lib.hid hbel
    have HO := Lib.hid hown
    clear ht hbel hown
    obtain ⟨C, hC⟩ : ∃ C, climbB x I (l.take k) = C := ⟨_, rfl⟩
    obtain ⟨D, hD⟩ : ∃ D, climbedB x I (l.take k) = D := ⟨_, rfl⟩
    obtain ⟨J, hJ⟩ : ∃ J, I / 2 ^ k = J := ⟨_, rfl⟩
    have hJ9 : J ≤ 9223372036854775807 := by rw [← hJ]; exact Nat.le_trans (Nat.div_le_self _ _) hI9
    rw [hC, hJ]
    rw [hD] at HO
    have hDl : D.length = k := by rw [← hD, climbed_len, List.length_take]; omega
    by_cases hlt : k < n
    · have hki : (k : Int) < (n : Int) := by omega
      have hk0 : (0 : Int) ≤ (k : Int) := by omega
      obtain ⟨b, off, rfl, c1⟩ := HL.out.at_ HB.out hlt
      obtain ⟨Y, hY⟩ : ∃ Y, l.getD k ByteArray.empty = Y := ⟨_, rfl⟩
      rw [hY] at c1
      have HY := Lib.hid hY
      have hbr : b < wr.heap.size := block_lt_of_cell c1
      have hCY : C.size + Y.size ≤ M := by
        have h1 := HM.out Y (by rw [← hY]; exact getD_mem_ l k (by omega))
        rcases climb_size (l.take k) x I with ⟨_, h2⟩ | h2
        · rw [← hC, h2]; exact h1.1
        · rw [← hC, h2]; exact h1.2
      have hstep := climb_take l k (by omega) x I
      rw [hC, hJ, hY] at hstep
      have hstep2 := climbed_take l k (by omega) x I
      rw [hC, hJ, hY, hD] at hstep2
      have hJ2 : I / 2 ^ (k + 1) = J / 2 := by rw [← hJ, Nat.pow_succ, Nat.div_div_eq_div_mul]
      have HJ2 := Lib.hid hJ2
      obtain ⟨J', hJ'⟩ : ∃ J', J / 2 = J' := ⟨_, rfl⟩
      rw [hJ'] at HJ2
      have hq : (J : Int).tdiv 2 = (J' : Int) := by rw [Int.tdiv_eq_ediv_of_nonneg (by omega)]; omega
      have hq' : (J : Int) / 2 = (J' : Int) := by omega
      have hqw : IntKind.i64.wrap (J' : Int) = (J' : Int) := by rw [IntKind.wrap_i64]; omega
      obtain ⟨Xs, eXs⟩ : ∃ Xs : List Value, D.map Value.string = Xs := ⟨_, rfl⟩
      have HOk := Lib.hid (show wr.ownsRow w.heap.size 9 1 u7 k Xs from by have := HO.out; unfold OwnT at this; rw [hDl, eXs] at this; exact this)
      have EXs := Lib.hid (And.intro eXs hDl)
      obtain ⟨i0, hi0, hz0, hz1, hz2⟩ := info_parts infoText
      have hk8 : k + 1 ≤ maxLen := by unfold maxLen; omega
      have hkb : (k + 1) * 16 ≤ 140737488355328 := by omega
      clear hJ2 hC hJ hD hlt eXs hDl hY
      rcases Nat.mod_two_eq_zero_or_one J with hm | hm
      · have hmi : (J : Int) % 2 = 0 := by omega
        have htm : (J : Int).tmod 2 = 0 := by rw [Int.tmod_eq_emod_of_nonneg (by omega)]; exact hmi
        rw [if_pos hm] at hstep hstep2
        obtain ⟨W, hW⟩ : ∃ W, nodeB C Y = W := ⟨_, rfl⟩
        obtain ⟨V, hV⟩ : ∃ V, inpB C Y = V := ⟨_, rfl⟩
        rw [hW] at hstep
        rw [hV] at hstep2
        have HS := Lib.hid hstep
        have HS2 := Lib.hid hstep2
        have HW := Lib.hid (fun w ht => HN.out C Y w (by omega) ht)
        rw [hW] at HW
        have HV := Lib.hid (fun g c w hs => HIn.out C Y g c w hs (by omega))
        rw [hV] at HV
        have St0 := Lib.hid (strs_blk (ss := [C, Y]) (Blk.new wr 9 #[.string C, .string Y]) rfl)
        have HB1 := Lib.hid (HB.out.alloc HB.out.size (.cells #[.string C, .string Y] 9))
        have HO1 := Lib.hid (HOk.out.alloc (.cells #[.string C, .string Y] 9))
        clear hstep hstep2 hW hV hm hJ'
        go_wp2_with fail
        refine (HV.out wr.heap.size 2 _ St0.out).mono ?_
        rintro e w2 ⟨rfl, h2⟩
        have B2 := Lib.hid (HB1.out.trans (h2.mono HB1.out.size))
        have O2 := Lib.hid (own_below HO1.out h2)
        have b2 := B2.out.size
        clear h2
        go_wp2_with (at_builtin; refine wpList_append_own _ rfl (.tmp 20) (.tmp 28) 22 rfl w.heap.size 9 i0 (.string .empty) 1 16 Tryd.underlying22 hi0 hz0 hz1 hz2 rfl (by decide) u7 k Xs rfl (O2.out.alloc _) ⟨w2.heap.size, 0, none⟩ 1 1 [.string V] rfl rfl ?c1 ?c2 ?c3 ?c4 ?c5 ?_)
        case c1 => intro j u hj; exact new_cell _ _ _ hj
        case c2 => intro u hu; simp at hu; subst hu; rfl
        case c3 => exact hk8
        case c4 => exact hkb
        case c5 => simp; omega
        intro v' w3 hown3 hgrow _
        have HO3 := Lib.hid (show OwnT w3 w.heap.size v' (climbedB x I (l.take (k + 1))) from by
          unfold OwnT
          rw [HS2.out, List.map_append, List.length_append, EXs.out.1, EXs.out.2]
          exact hown3)
        have HB3 := Lib.hid (show Below w.heap.size w w3 from by
          refine (B2.out.alloc b2 _).grown hgrow (by simp; omega) ?_
          intro k' hk'
          exact (O2.out.lt k' hk').1)
        have HT3 := Lib.hid (show T w3 from HTb.out w w3 HT.out HB3.out)
        clear hown3 hgrow hk8 hkb c1
        obtain ⟨b5, off5, e5, c1⟩ := HL.out.at_ HB3.out (show k < n by omega)
        injection e5 with e5
        injection e5 with e6 e7
        subst e6; subst e7
        rw [HY.out] at c1
        go_wp2_with fail
        refine (HW.out w3 HT3.out).mono ?_
        rintro e w4 ⟨rfl, h4⟩
        have B4 := Lib.hid (HB3.out.trans (h4.mono HB3.out.size))
        have T4 := Lib.hid (HTb.out w w4 HT.out B4.out)
        have O4 := Lib.hid (show OwnT w4 w.heap.size v' (climbedB x I (l.take (k + 1))) from own_below HO3.out h4)
        clear h4
        go_wp2_with fail
        go_roundw
        case rel => exact ⟨k + 1, by omega, by go_num, by rw [HJ2.out], by rw [HS.out], O4.out, T4.out, B4.out⟩
        case measure => simp [intOf]; omega
      · have hmi : (J : Int) % 2 = 1 := by omega
        have htm : (J : Int).tmod 2 = 1 := by rw [Int.tmod_eq_emod_of_nonneg (by omega)]; exact hmi
        rw [if_neg (by omega)] at hstep hstep2
        obtain ⟨W, hW⟩ : ∃ W, nodeB Y C = W := ⟨_, rfl⟩
        obtain ⟨V, hV⟩ : ∃ V, inpB Y C = V := ⟨_, rfl⟩
        rw [hW] at hstep
        rw [hV] at hstep2
        have HS := Lib.hid hstep
        have HS2 := Lib.hid hstep2
        have HW := Lib.hid (fun w ht => HN.out Y C w (by omega) ht)
        rw [hW] at HW
        have HV := Lib.hid (fun g c w hs => HIn.out Y C g c w hs (by omega))
        rw [hV] at HV
        have St0 := Lib.hid (strs_blk (ss := [Y, C]) (Blk.new wr 9 #[.string Y, .string C]) rfl)
        have HB1 := Lib.hid (HB.out.alloc HB.out.size (.cells #[.string Y, .string C] 9))
        have HO1 := Lib.hid (HOk.out.alloc (.cells #[.string Y, .string C] 9))
        clear hstep hstep2 hW hV hm hJ'
        go_wp2_with fail
        refine (HV.out wr.heap.size 2 _ St0.out).mono ?_
        rintro e w2 ⟨rfl, h2⟩
        have B2 := Lib.hid (HB1.out.trans (h2.mono HB1.out.size))
        have O2 := Lib.hid (own_below HO1.out h2)
        have b2 := B2.out.size
        clear h2
        go_wp2_with (at_builtin; refine wpList_append_own _ rfl (.tmp 36) (.tmp 44) 22 rfl w.heap.size 9 i0 (.string .empty) 1 16 Tryd.underlying22 hi0 hz0 hz1 hz2 rfl (by decide) u7 k Xs rfl (O2.out.alloc _) ⟨w2.heap.size, 0, none⟩ 1 1 [.string V] rfl rfl ?c1 ?c2 ?c3 ?c4 ?c5 ?_)
        case c1 => intro j u hj; exact new_cell _ _ _ hj
        case c2 => intro u hu; simp at hu; subst hu; rfl
        case c3 => exact hk8
        case c4 => exact hkb
        case c5 => simp; omega
        intro v' w3 hown3 hgrow _
        have HO3 := Lib.hid (show OwnT w3 w.heap.size v' (climbedB x I (l.take (k + 1))) from by
          unfold OwnT
          rw [HS2.out, List.map_append, List.length_append, EXs.out.1, EXs.out.2]
          exact hown3)
        have HB3 := Lib.hid (show Below w.heap.size w w3 from by
          refine (B2.out.alloc b2 _).grown hgrow (by simp; omega) ?_
          intro k' hk'
          exact (O2.out.lt k' hk').1)
        have HT3 := Lib.hid (show T w3 from HTb.out w w3 HT.out HB3.out)
        clear hown3 hgrow hk8 hkb c1
        obtain ⟨b5, off5, e5, c1⟩ := HL.out.at_ HB3.out (show k < n by omega)
        injection e5 with e5
        injection e5 with e6 e7
        subst e6; subst e7
        rw [HY.out] at c1
        go_wp2_with fail
        refine (HW.out w3 HT3.out).mono ?_
        rintro e w4 ⟨rfl, h4⟩
        have B4 := Lib.hid (HB3.out.trans (h4.mono HB3.out.size))
        have T4 := Lib.hid (HTb.out w w4 HT.out B4.out)
        have O4 := Lib.hid (show OwnT w4 w.heap.size v' (climbedB x I (l.take (k + 1))) from own_below HO3.out h4)
        clear h4
        go_wp2_with fail
        go_roundw
        case rel => exact ⟨k + 1, by omega, by go_num, by rw [HJ2.out], by rw [HS.out], O4.out, T4.out, B4.out⟩
        case measure => simp [intOf]; omega
    · have hki : ¬ (k : Int) < (n : Int) := by omega
      obtain rfl : k = n := by omega
      have hall : climbedI x i l = D := by rw [HX.out, ← hD, List.take_of_length_le (by omega)]
      have Hall := Lib.hid hall
      obtain ⟨a2, c2, hv, hS2, hfr⟩ := HO.out.strs_
      subst hv
      have HSt := Lib.hid hS2
      have HFr := Lib.hid hfr
      clear hall hC hJ hD hlt hS2 hfr HO hDl
      go_wp2_with fail
      go_ret
      rw [Hall.out]
      exact ⟨a2, c2, rfl, HSt.out, HB.out, fun p hp => (HFr.out.1 p hp).1, HFr.out.2⟩
end Go.Proofs.YtdkjlijmejleoaaDoor.Sp
