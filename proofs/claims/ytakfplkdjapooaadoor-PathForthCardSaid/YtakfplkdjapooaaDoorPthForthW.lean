/- The walk of PathForth. -/
import Derived.Test.YtakfplkdjapooaaDoorPthBackW
namespace Go.Proofs.YtakfplkdjapooaaDoor.Sp
open Go Go.RowKit

theorem blk_byte (c : UInt8) (W : World) : Blk (W.alloc (.cells #[Value.int .u8 (c.toNat : Int)] 5)) W.heap.size 5 (byteVs [c]).toArray := Blk.new _ _ _
theorem one_byte0 (c : UInt8) (W : World) :
    (convert 35 9 (.slice (some ⟨W.heap.size, 0, none⟩) 1 1)).run Tryd.prog (W.alloc (.cells #[Value.int .u8 (c.toNat : Int)] 5)) = .ok (.string ⟨[c].toArray⟩) (W.alloc (.cells #[Value.int .u8 (c.toNat : Int)] 5)) :=
  run_text_of_blk (blk_byte c W) rfl
theorem one_byte1 (c : UInt8) (W : World) :
    (convert 35 9 (.slice (some ⟨W.heap.size, 0, none⟩) 1 1)).run Tryd.prog (W.alloc (.cells #[Value.int .u8 (c.toNat : Int)] 5)).drew = .ok (.string ⟨[c].toArray⟩) (W.alloc (.cells #[Value.int .u8 (c.toNat : Int)] 5)).drew :=
  run_text_of_blk (blk_byte c W).drew rfl

set_option maxRecDepth 100000 in
set_option maxHeartbeats 8000000 in
theorem forth_law (s : ByteArray) (K1 : Int) (a1 b1 : Nat) (at_ : Int) (c : UInt8) (ins : Bool) (hs : s.size ≤ 9223372036854775807) (hK1 : -9223372036854775808 ≤ K1 ∧ K1 ≤ 9223372036854775807) (ha1 : a1 < 18446744073709551616) (hb1 : b1 < 18446744073709551616)
    (hat : -9223372036854775808 ≤ at_ ∧ at_ ≤ 9223372036854775807) (w : World) (hT : Tens w) :
    Calls Tryd.prog 5 #[.string s, pathV K1 a1 b1, .int .i64 at_, .int .u8 (c.toNat : Int), .bool ins] w fun e w' => e = .returned (.bool true) ∧ Below w.heap.size w w' := by
  have HT := Lib.hid (tens_alloc hT (.cells #[.int .i64 K1, .int .u64 (a1 : Int), .int .u64 (b1 : Int)] 24))
  have HA := Lib.hid ((Below.refl w.heap.size w).alloc (Nat.le_refl _) (.cells #[.int .i64 K1, .int .u64 (a1 : Int), .int .u64 (b1 : Int)] 24))
  have HP := Lib.hid (Blk.new w 24 #[.int .i64 K1, .int .u64 (a1 : Int), .int .u64 (b1 : Int)])
  clear hT
  unfold pathV
  go_enter Tryd.func5, Tryd.ntmps5
  go_wp2_with fail
  refine (awake_any _ HT.out).mono ?_
  rintro e w1 ⟨rfl, h1⟩
  have T1 := Lib.hid (tens_below HT.out h1)
  have B1 := Lib.hid (HA.out.trans (h1.mono HA.out.size))
  have P1 := Lib.hid (HP.out.below h1 HP.out.lt)
  clear h1 HP HT HA
  obtain ⟨c0, c1, c2⟩ := cells3 P1.out
  go_wp2_with fail
  refine (fit_any K1 a1 b1 hK1.1 hK1.2 ha1 hb1 w1).mono ?_
  rintro e w2 ⟨k, a, b, hv, rfl, h2⟩
  unfold pathV
  have T2 := Lib.hid (tens_below T1.out h2)
  have B2 := Lib.hid (B1.out.trans (h2.mono B1.out.size))
  clear h2 c0 c1 c2 P1 T1
  obtain ⟨S, hS⟩ : ∃ S : ByteArray, ⟨(ptext k a b).toArray⟩ = S := ⟨_, rfl⟩
  have HS := Lib.hid hS
  have HV := Lib.hid hv
  have hSm : S.size ≤ 83 := text_size hv S hS
  have hSe : S.toList.isEmpty = false := by
    rw [ByteArray.toList_eq, ← hS, Bool.eq_false_iff]; intro h
    exact ptext_ne k a b (List.isEmpty_iff.1 h)
  have hS1 : 0 < S.size := by
    rw [← size_list, ← hS]
    exact List.length_pos_iff.2 (ptext_ne k a b)
  obtain ⟨r, hr, hpick⟩ := pick_any at_ S.size hS1 (by omega) hat.1 hat.2
  have HPk := Lib.hid hpick
  clear hS hv hpick
  go_wp2_with fail
  refine (pr_at (k : Int) a b S 0 (shown_of HV.out S HS.out) HV.out.2.2.1 HV.out.2.2.2.1 _ T2.out).mono ?_
  rintro e w3 ⟨rfl, h3⟩
  have T3 := Lib.hid (tens_below T2.out h3)
  have B3 := Lib.hid (B2.out.trans (h3.mono B2.out.size))
  clear h3 T2 B2
  go_wp2_with fail
  refine (HPk.out _).mono ?_
  rintro e w' ⟨rfl, rfl⟩
  obtain ⟨C, hC⟩ : ∃ C : ByteArray, ⟨[c].toArray⟩ = C := ⟨_, rfl⟩
  have hCs : C.size = 1 := by rw [← hC]; rfl
  have hc0 := one_byte0 c
  have hc1 := one_byte1 c
  rw [hC] at hc0 hc1
  have hri : (r : Int) < (S.size : Int) := by omega
  have hrj : (r : Int) ≤ (S.size : Int) := by omega
  have hr0 : (0 : Int) ≤ (r : Int) := by omega
  obtain ⟨q, hq⟩ : ∃ q : Nat, r + 1 = q := ⟨_, rfl⟩
  have hqi : (r : Int) + 1 = (q : Int) := by omega
  have hqS : (q : Int) ≤ (S.size : Int) := by omega
  have hq0 : (0 : Int) ≤ (q : Int) := by omega
  have hqw : IntKind.i64.wrap (q : Int) = (q : Int) := by rw [IntKind.wrap_i64]; omega
  have HQ := Lib.hid hq
  have i1 : ¬ 9223372036854775807 < min r S.size + 1 := by omega
  have i2 : ¬ 9223372036854775807 < min r S.size + 1 + (S.size - q) := by omega
  have i3 : ¬ 9223372036854775807 < min r S.size + 1 + (S.size - r) := by omega
  clear hC hq
  go_wp2_with fail
  go_region_law ((fail))
  all_goals
    obtain ⟨U1, hU1⟩ : ∃ U1 : ByteArray, S.extract 0 r ++ C ++ S.extract q S.size = U1 := ⟨_, rfl⟩
    have hU1s : U1.size ≤ 200 := by
      rw [← hU1, ByteArray.size_append, ByteArray.size_append, ByteArray.size_extract, ByteArray.size_extract, hCs]; omega
    rw [hU1]
    clear hU1
    have B4 := Lib.hid ((B3.out.alloc B3.out.size (.cells #[.int .u8 (c.toNat : Int)] 5)).drew)
    have T4 := Lib.hid (show Tens (w3.alloc (.cells #[.int .u8 (c.toNat : Int)] 5)).drew from tens_alloc T3.out _)
    obtain ⟨w4, hw4⟩ : ∃ w4, (w3.alloc (.cells #[.int .u8 (c.toNat : Int)] 5)).drew = w4 := ⟨_, rfl⟩
    rw [hw4] at B4 T4
    rw [hw4]
    clear hw4 T3 B3
    cases ins with
    | false =>
      obtain ⟨U, rfl⟩ : ∃ U, U = U1 := ⟨_, rfl⟩
      obtain ⟨w6, rfl⟩ : ∃ w6, w6 = w4 := ⟨_, rfl⟩
      have B6 := B4
      have T6 := T4
      clear B4 T4
      clear hc0 hc1 i1 i2 i3 hqi hqS hq0 hqw hri hrj hr0
      obtain ⟨gs, hgs⟩ : ∃ gs, w6.heap.size = gs := ⟨_, rfl⟩
      have HN := Lib.hid (Blk.new w6 9 #[.string s, .string S, .string U])
      have B7 := Lib.hid (B6.out.alloc B6.out.size (.cells #[.string s, .string S, .string U] 9))
      have T7 := Lib.hid (tens_alloc T6.out (.cells #[.string s, .string S, .string U] 9))
      go_wp2_with fail
      rw [hgs] at HN
      go_loopw [72] (fun v wr => ∃ j : Nat, j ≤ 3 ∧ v = .int .i64 (j : Int) ∧ Blk wr gs 9 #[.string s, .string S, .string U] ∧ Tens wr ∧ Below w.heap.size w wr) (fun v _ => 3 - (intOf v).toNat)
      case atStart => exact ⟨0, by omega, rfl, HN.out, T7.out, B7.out⟩
      case round =>
        obtain ⟨j, hj, rfl, hbk, htr, hbel⟩ := hrel
        have HG := Lib.hid hbk
        have HTr := Lib.hid htr
        have HB := Lib.hid hbel
        clear hbk htr hbel
        by_cases hlt : j < 3
        · have hji : (j : Int) < 3 := by omega
          have hj0 : (0 : Int) ≤ (j : Int) := by omega
          obtain ⟨X, hX, hXs⟩ : ∃ X : ByteArray, wr.cell? ⟨gs, j, none⟩ = some (.string X) ∧ X.size ≤ 9223372036854775807 := by
            match j, hlt with
            | 0, _ => exact ⟨s, HG.out.cell 0, hs⟩
            | 1, _ => exact ⟨S, HG.out.cell 1, by omega⟩
            | 2, _ => exact ⟨U, HG.out.cell 2, by omega⟩
          obtain ⟨k', a', b', F, hF⟩ := found_ex X.data.toList
          have HF := Lib.hid hF
          clear hlt hj
          go_wp2_with fail
          refine (pa_at X k' a' b' F hF hXs wr HTr.out).mono ?_
          rintro e w8 ⟨rfl, h8⟩
          unfold pathV
          have G8 := Lib.hid (HG.out.below h8 HG.out.lt)
          have T8 := Lib.hid (tens_alloc (tens_below HTr.out h8) (.cells #[.int .i64 (k' : Int), .int .u64 (a' : Int), .int .u64 (b' : Int)] 24))
          have B8 := Lib.hid ((HB.out.trans (h8.mono HB.out.size)).alloc (Nat.le_trans HB.out.size h8.size) (.cells #[.int .i64 (k' : Int), .int .u64 (a' : Int), .int .u64 (b' : Int)] 24))
          have G9 := Lib.hid (G8.out.alloc (.cells #[.int .i64 (k' : Int), .int .u64 (a' : Int), .int .u64 (b' : Int)] 24))
          clear h8 hX
          rcases hF with ⟨rfl, hv', hl'⟩ | ⟨rfl, rfl, rfl, rfl, hno⟩
          · have HV' := Lib.hid (And.intro hv' hl')
            clear hv' hl'
            go_wp2_with fail
            refine (pr_at (k' : Int) a' b' X 0 (.inl ⟨k', rfl, HV'.out.1, rfl, HV'.out.2.symm⟩) HV'.out.1.2.2.1 HV'.out.1.2.2.2.1 _ T8.out).mono ?_
            rintro e w9 ⟨rfl, h9⟩
            have T10 := Lib.hid (tens_below T8.out h9)
            have G10 := Lib.hid (G9.out.below h9 G9.out.lt)
            have B10 := Lib.hid (B8.out.trans (h9.mono B8.out.size))
            clear h9
            go_wp2_with fail
            go_roundw
            case rel => exact ⟨j + 1, by omega, by go_num, G10.out, T10.out, B10.out⟩
            case measure => simp [intOf]; omega
          · have hne : (X.toList == S.toList) = false := by
              rw [beq_eq_false_iff_ne, ByteArray.toList_eq, ByteArray.toList_eq]
              intro h
              refine hno k a b HV.out ?_
              rw [h, ← HS.out]
            clear hno
            go_wp2_with fail
            go_roundw
            case rel => exact ⟨j + 1, by omega, by go_num, G9.out, T8.out, B8.out⟩
            case measure => simp [intOf]; omega
        · have hji : ¬ (j : Int) < 3 := by omega
          clear hlt hj
          go_wp2_with fail
          go_ret
          exact ⟨rfl, HB.out⟩
    | true =>
      go_wp2_with fail
      go_region_law ((fail))
      all_goals
        obtain ⟨U, hU⟩ : ∃ U : ByteArray, S.extract 0 r ++ C ++ S.extract r S.size = U := ⟨_, rfl⟩
        have hUs : U.size ≤ 200 := by
          rw [← hU, ByteArray.size_append, ByteArray.size_append, ByteArray.size_extract, ByteArray.size_extract, hCs]; omega
        rw [hU]
        clear hU
        have B6 := Lib.hid ((B4.out.alloc B4.out.size (.cells #[.int .u8 (c.toNat : Int)] 5)).drew)
        have T6 := Lib.hid (show Tens (w4.alloc (.cells #[.int .u8 (c.toNat : Int)] 5)).drew from tens_alloc T4.out _)
        obtain ⟨w6, hw6⟩ : ∃ w6, (w4.alloc (.cells #[.int .u8 (c.toNat : Int)] 5)).drew = w6 := ⟨_, rfl⟩
        rw [hw6] at B6 T6
        rw [hw6]
        clear hw6 T4 B4
        clear hc0 hc1 i1 i2 i3 hqi hqS hq0 hqw hri hrj hr0
        obtain ⟨gs, hgs⟩ : ∃ gs, w6.heap.size = gs := ⟨_, rfl⟩
        have HN := Lib.hid (Blk.new w6 9 #[.string s, .string S, .string U])
        have B7 := Lib.hid (B6.out.alloc B6.out.size (.cells #[.string s, .string S, .string U] 9))
        have T7 := Lib.hid (tens_alloc T6.out (.cells #[.string s, .string S, .string U] 9))
        go_wp2_with fail
        rw [hgs] at HN
        go_loopw [72] (fun v wr => ∃ j : Nat, j ≤ 3 ∧ v = .int .i64 (j : Int) ∧ Blk wr gs 9 #[.string s, .string S, .string U] ∧ Tens wr ∧ Below w.heap.size w wr) (fun v _ => 3 - (intOf v).toNat)
        case atStart => exact ⟨0, by omega, rfl, HN.out, T7.out, B7.out⟩
        case round =>
          obtain ⟨j, hj, rfl, hbk, htr, hbel⟩ := hrel
          have HG := Lib.hid hbk
          have HTr := Lib.hid htr
          have HB := Lib.hid hbel
          clear hbk htr hbel
          by_cases hlt : j < 3
          · have hji : (j : Int) < 3 := by omega
            have hj0 : (0 : Int) ≤ (j : Int) := by omega
            obtain ⟨X, hX, hXs⟩ : ∃ X : ByteArray, wr.cell? ⟨gs, j, none⟩ = some (.string X) ∧ X.size ≤ 9223372036854775807 := by
              match j, hlt with
              | 0, _ => exact ⟨s, HG.out.cell 0, hs⟩
              | 1, _ => exact ⟨S, HG.out.cell 1, by omega⟩
              | 2, _ => exact ⟨U, HG.out.cell 2, by omega⟩
            obtain ⟨k', a', b', F, hF⟩ := found_ex X.data.toList
            have HF := Lib.hid hF
            clear hlt hj
            go_wp2_with fail
            refine (pa_at X k' a' b' F hF hXs wr HTr.out).mono ?_
            rintro e w8 ⟨rfl, h8⟩
            unfold pathV
            have G8 := Lib.hid (HG.out.below h8 HG.out.lt)
            have T8 := Lib.hid (tens_alloc (tens_below HTr.out h8) (.cells #[.int .i64 (k' : Int), .int .u64 (a' : Int), .int .u64 (b' : Int)] 24))
            have B8 := Lib.hid ((HB.out.trans (h8.mono HB.out.size)).alloc (Nat.le_trans HB.out.size h8.size) (.cells #[.int .i64 (k' : Int), .int .u64 (a' : Int), .int .u64 (b' : Int)] 24))
            have G9 := Lib.hid (G8.out.alloc (.cells #[.int .i64 (k' : Int), .int .u64 (a' : Int), .int .u64 (b' : Int)] 24))
            clear h8 hX
            rcases hF with ⟨rfl, hv', hl'⟩ | ⟨rfl, rfl, rfl, rfl, hno⟩
            · have HV' := Lib.hid (And.intro hv' hl')
              clear hv' hl'
              go_wp2_with fail
              refine (pr_at (k' : Int) a' b' X 0 (.inl ⟨k', rfl, HV'.out.1, rfl, HV'.out.2.symm⟩) HV'.out.1.2.2.1 HV'.out.1.2.2.2.1 _ T8.out).mono ?_
              rintro e w9 ⟨rfl, h9⟩
              have T10 := Lib.hid (tens_below T8.out h9)
              have G10 := Lib.hid (G9.out.below h9 G9.out.lt)
              have B10 := Lib.hid (B8.out.trans (h9.mono B8.out.size))
              clear h9
              go_wp2_with fail
              go_roundw
              case rel => exact ⟨j + 1, by omega, by go_num, G10.out, T10.out, B10.out⟩
              case measure => simp [intOf]; omega
            · have hne : (X.toList == S.toList) = false := by
                rw [beq_eq_false_iff_ne, ByteArray.toList_eq, ByteArray.toList_eq]
                intro h
                refine hno k a b HV.out ?_
                rw [h, ← HS.out]
              clear hno
              go_wp2_with fail
              go_roundw
              case rel => exact ⟨j + 1, by omega, by go_num, G9.out, T8.out, B8.out⟩
              case measure => simp [intOf]; omega
          · have hji : ¬ (j : Int) < 3 := by omega
            clear hlt hj
            go_wp2_with fail
            go_ret
            exact ⟨rfl, HB.out⟩
end Go.Proofs.YtakfplkdjapooaaDoor.Sp
