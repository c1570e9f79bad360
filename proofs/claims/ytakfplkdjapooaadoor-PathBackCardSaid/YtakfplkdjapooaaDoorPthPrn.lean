/- Package path: the string that elements have with a path's numbers. -/
import Derived.Test.YtakfplkdjapooaaDoorPthHas
import Derived.Test.YtakfplkdjapooaaDoorPthShelf
import Derived.Test.YtakfplkdjapooaaDoorOwnT
import Derived.Test.YtakfplkdjapooaaDoorAmtStr
import Derived.Deep.DeepCutAuto
import Derived.Deep.Cut
import Derived.Laws.MakeOwn
namespace Go.Proofs.YtakfplkdjapooaaDoor.Sp
open Go Go.RowKit

/-- An element's text. -/
def txt (a b : Nat) (e : Nat × List UInt8) : Option ByteArray :=
  if e.1 = 1 then some ⟨e.2.toArray⟩ else if e.1 = 2 then some ⟨(dec a).toArray⟩ else if e.1 = 3 then some ⟨(dec b).toArray⟩ else none
def txts (k a b j : Nat) : List ByteArray := ((els k).take j).filterMap (txt a b)

theorem run_make5 (w : World) : (Instr.makeSlice 36 (.int .i64 0) (.int .i64 5)).run Tryd.prog w = .ok (.slice (some ⟨w.heap.size, 0, none⟩) 0 5) (w.alloc (.cells (madeCells #[.string .empty] 5) 9)) := by
  obtain ⟨i0, hi, hz0, hz1, hz2⟩ := info_parts infoText
  have h := run_make (P := Tryd.prog) w 36 9 i0 (.string .empty) Tryd.underlying36 hi hz0 .i64 .i64 0 5 (by omega) (by omega) (by rw [hz2]; omega) (by omega)
  rw [hz1] at h
  exact h

theorem ownT_made (w : World) (base g : Nat) (hg : w.heap.size = g) (hb : base ≤ g) : OwnT (w.alloc (.cells (madeCells #[.string .empty] 5) 9)) base (.slice (some ⟨g, 0, none⟩) 0 5) [] := by
  subst hg
  exact World.ownsRow_made w _ 5 hb (by decide) (size_madeCells _ _)
theorem els_lit (k : Nat) (h1 : 1 ≤ k) (h8 : k ≤ 8) : ∃ (r0 : Int) (S0 : ByteArray) (r1 : Int) (S1 : ByteArray) (r2 : Int) (S2 : ByteArray) (r3 : Int) (S3 : ByteArray) (r4 : Int) (S4 : ByteArray),
    elsV k = #[.int .i64 r0, .string S0, .int .i64 r1, .string S1, .int .i64 r2, .string S2, .int .i64 r3, .string S3, .int .i64 r4, .string S4] := by
  match k, h1, h8 with
  | 1, _, _ | 2, _, _ | 3, _, _ | 4, _, _ | 5, _, _ | 6, _, _ | 7, _, _ | 8, _, _ => exact ⟨_, _, _, _, _, _, _, _, _, _, rfl⟩
theorem txts_succ (k a b j : Nat) (e : Nat × List UInt8) (h : (els k)[j]? = some e) : txts k a b (j + 1) = txts k a b j ++ (txt a b e).toList := by
  unfold txts
  rw [List.take_add_one, h, List.filterMap_append]
  rfl
theorem txts_len (k a b j : Nat) : (txts k a b j).length ≤ j := by
  unfold txts
  exact Nat.le_trans (List.length_filterMap_le ..) (by rw [List.length_take]; omega)

theorem print_at (n : Nat) (t : ByteArray) (h : ⟨(dec n).toArray⟩ = t) (hn : n < 18446744073709551616) (w : World) (hT : Tens w) :
    Calls Tryd.prog 25 #[.int .u64 (n : Int)] w fun e w' => e = .returned (.string t) ∧ Below w.heap.size w w' := by
  subst h
  exact print_any n hn w hT
theorem join_txts (k a b : Nat) (h1 : 1 ≤ k) (h8 : k ≤ 8) : Lib.join ((txts k a b 5).map (·.data.toList)) [47] = ptext k a b ∧ 0 < (txts k a b 5).length := by
  match k, h1, h8 with
  | 1, _, _ | 2, _, _ | 3, _, _ | 4, _, _ | 5, _, _ | 6, _, _ | 7, _, _ | 8, _, _ => simp [txts, els, txt, Lib.join, List.intercalate, ptext, wA, wB, two]

set_option maxHeartbeats 2000000 in
theorem prn_any (k a b : Nat) (h1 : 1 ≤ k) (h8 : k ≤ 8) (ha : a < 18446744073709551616) (hb : b < 18446744073709551616) (w : World) (hT : Tens w) :
    Calls Tryd.prog 19 #[.agg (elsV k), .agg #[.int .i64 (k : Int), .int .u64 (a : Int), .int .u64 (b : Int)]] w fun e w' => e = .returned (.string ⟨(Lib.join ((txts k a b 5).map (·.data.toList)) [47]).toArray⟩) ∧ Below w.heap.size w w' := by
  obtain ⟨r0, S0, r1, S1, r2, S2, r3, S3, r4, S4, hV⟩ := els_lit k h1 h8
  have hix := fun j e h W => index_el k j e h W
  rw [hV] at hix
  have HIX := Lib.hid hix
  rw [hV]
  clear hV hix
  have HT := Lib.hid hT
  clear hT
  have hmk := run_make5
  obtain ⟨A, hA⟩ : ∃ A : ByteArray, ⟨(dec a).toArray⟩ = A := ⟨_, rfl⟩
  obtain ⟨B, hB⟩ : ∃ B : ByteArray, ⟨(dec b).toArray⟩ = B := ⟨_, rfl⟩
  have HA := Lib.hid hA
  have HB_ := Lib.hid hB
  clear hA hB
  go_enter Tryd.func19, Tryd.ntmps19
  go_upto_region 3 with fail
  clear hmk
  go_loopw [5, 7, 10] (fun v _ i wr => ∃ j : Nat, j ≤ 5 ∧ i = .int .i64 (j : Int) ∧ Hid (OwnT wr w.heap.size v (txts k a b j)) ∧ Hid (Tens wr) ∧ Hid (Blk wr (w.heap.size + 1) 24 #[.int .i64 (k : Int), .int .u64 (a : Int), .int .u64 (b : Int)]) ∧ Hid (Below w.heap.size w wr)) (fun _ _ i _ => 5 - (intOf i).toNat)
  case atStart =>
    refine ⟨0, by omega, rfl, ?_, ?_, ?_, ?_⟩
    · exact ownT_made _ _ _ (by simp) (by omega)
    · exact tens_alloc (tens_alloc (tens_alloc HT.out _) _) _
    · have h := Blk.new (w.alloc (.cells #[.int .i64 r0, .string S0, .int .i64 r1, .string S1, .int .i64 r2, .string S2, .int .i64 r3, .string S3, .int .i64 r4, .string S4] 46)) 24 #[.int .i64 (k : Int), .int .u64 (a : Int), .int .u64 (b : Int)]
      rw [show ((w.alloc (.cells #[.int .i64 r0, .string S0, .int .i64 r1, .string S1, .int .i64 r2, .string S2, .int .i64 r3, .string S3, .int .i64 r4, .string S4] 46))).heap.size = w.heap.size + 1 from by simp] at h
      exact h.alloc _
    · exact below_more (below_more (below_more (Below.refl _ _) _) _) _
  case round =>
    obtain ⟨j, hj, rfl, HO, HTr, HP, HB⟩ := hrel
    by_cases hlt : j < 5
    · obtain ⟨⟨r, s⟩, hrs⟩ : ∃ e, (els k)[j]? = some e := ⟨_, List.getElem?_eq_getElem (by rw [els_len]; exact hlt)⟩
      have hi5 := HIX.out j _ hrs
      simp only at hi5
      obtain ⟨S, hS⟩ : ∃ S : ByteArray, ⟨s.toArray⟩ = S := ⟨_, rfl⟩
      rw [hS] at hi5
      obtain ⟨X, hX⟩ : ∃ X, txt a b (r, s) = X := ⟨_, rfl⟩
      have HX := Lib.hid (show txts k a b (j + 1) = txts k a b j ++ X.toList from by rw [txts_succ k a b j _ hrs, hX])
      have HXX := Lib.hid hX
      have HRS := Lib.hid hS
      clear hrs hS hX
      have hlti : (j : Int) < 5 := by omega
      obtain ⟨n, hn⟩ : ∃ n, (txts k a b j).length = n := ⟨_, rfl⟩
      have hnj : n ≤ j := by rw [← hn]; exact txts_len k a b j
      obtain ⟨Xs, eXs⟩ : ∃ Xs : List Value, (txts k a b j).map Value.string = Xs := ⟨_, rfl⟩
      have HOk := Lib.hid (show wr.ownsRow w.heap.size 9 1 u5 n Xs from by have := HO.out; unfold OwnT at this; rw [hn, eXs] at this; exact this)
      have EXs := Lib.hid (And.intro eXs hn)
      clear eXs hn
      obtain ⟨i0, hi0, hz0, hz1, hz2⟩ := info_parts infoText
      have hk8 : n + 1 ≤ maxLen := by unfold maxLen; omega
      have hkb : (n + 1) * 16 ≤ 140737488355328 := by omega
      by_cases q1 : r = 1
      · subst q1
        have HX1 := Lib.hid (show X = some S from by rw [← HXX.out, ← HRS.out]; rfl)
        go_wp2_with (at_builtin; refine wpList_append_own _ rfl (.tmp 17) (.tmp 20) 36 rfl w.heap.size 9 i0 (.string .empty) 1 16 Tryd.underlying36 hi0 hz0 hz1 hz2 rfl (by decide) u5 n Xs rfl ((HOk.out.alloc _).alloc _) ⟨wr.heap.size + 1, 0, none⟩ 1 1 [.string S] rfl rfl ?c1 ?c2 ?c3 ?c4 ?c5 ?_)
        case c1 =>
          intro i v hi
          have h := new_cell (wr.alloc (.cells #[.int .i64 ((1 : Nat) : Int), .string S] 44)) [.string S] 9 hi
          rw [size_alloc_] at h
          exact h
        case c2 => intro u hu; simp at hu; subst hu; rfl
        case c3 => exact hk8
        case c4 => exact hkb
        case c5 => have := HB.out.size; simp; omega
        intro v' w3 hown3 hgrow _
        have HO3 := Lib.hid (show OwnT w3 w.heap.size v' (txts k a b (j + 1)) from by
          unfold OwnT
          rw [HX.out, HX1.out, List.map_append, List.length_append, EXs.out.1, EXs.out.2]
          exact hown3)
        have HB3 := Lib.hid (show Below w.heap.size w w3 from by
          refine (below_more (below_more HB.out _) _).grown hgrow (by have := HB.out.size; simp; omega) ?_
          intro k' hk'
          exact (HOk.out.lt k' hk').1)
        have HP3 := Lib.hid (show Blk w3 (w.heap.size + 1) 24 #[.int .i64 (k : Int), .int .u64 (a : Int), .int .u64 (b : Int)] from
          ((HP.out.alloc _).alloc _).grown hgrow (own_blk_ne HOk.out HP.out (by decide)).symm)
        have HT3 := Lib.hid (show Tens w3 from tens_below HT.out HB3.out)
        clear hown3 hgrow hk8 hkb hi5
        go_wp2_with fail
        go_roundw
        case rel => exact ⟨j + 1, by omega, by go_num, HO3, HT3, HP3, HB3⟩
        case measure => simp [intOf]; omega
      · by_cases q2 : r = 2
        · subst q2
          have HX1 := Lib.hid (show X = some A from by rw [← HXX.out, ← HA.out]; rfl)
          have p0 := HP.out.cell 1
          have p1 := HP.out.cell 2
          have hlt2 := HP.out.lt
          simp only [List.getElem?_toArray, List.getElem?_cons_zero, List.getElem?_cons_succ] at p0 p1
          go_wp2_with fail
          refine (print_at a A HA.out ha _ (tens_alloc HTr.out _)).mono ?_
          rintro e w2 ⟨rfl, h2⟩
          have HO2 := Lib.hid (own_below (HOk.out.alloc (.cells #[.int .i64 ((2 : Nat) : Int), .string S] 44)) h2)
          have HP2 := Lib.hid (Blk.below (HP.out.alloc (.cells #[.int .i64 ((2 : Nat) : Int), .string S] 44)) h2 (HP.out.alloc _).lt)
          have HB2 := Lib.hid ((below_more HB.out (.cells #[.int .i64 ((2 : Nat) : Int), .string S] 44)).trans (h2.mono (below_more HB.out _).size))
          clear h2 p0 p1 hlt2
          go_wp2_with (at_builtin; refine wpList_append_own _ rfl (.tmp 24) (.tmp 28) 36 rfl w.heap.size 9 i0 (.string .empty) 1 16 Tryd.underlying36 hi0 hz0 hz1 hz2 rfl (by decide) u5 n Xs rfl (HO2.out.alloc _) ⟨w2.heap.size, 0, none⟩ 1 1 [.string A] rfl rfl ?c1 ?c2 ?c3 ?c4 ?c5 ?_)
          case c1 => intro i v hi; exact new_cell _ _ _ hi
          case c2 => intro u hu; simp at hu; subst hu; rfl
          case c3 => exact hk8
          case c4 => exact hkb
          case c5 => have := HB2.out.size; simp; omega
          intro v' w3 hown3 hgrow _
          have HO3 := Lib.hid (show OwnT w3 w.heap.size v' (txts k a b (j + 1)) from by
            unfold OwnT
            rw [HX.out, HX1.out, List.map_append, List.length_append, EXs.out.1, EXs.out.2]
            exact hown3)
          have HB3 := Lib.hid (show Below w.heap.size w w3 from by
            refine (below_more HB2.out _).grown hgrow (by have := HB2.out.size; simp; omega) ?_
            intro k' hk'
            exact (HO2.out.lt k' hk').1)
          have HP3 := Lib.hid (show Blk w3 (w.heap.size + 1) 24 #[.int .i64 (k : Int), .int .u64 (a : Int), .int .u64 (b : Int)] from
            (HP2.out.alloc _).grown hgrow (own_blk_ne HOk.out HP.out (by decide)).symm)
          have HT3 := Lib.hid (show Tens w3 from tens_below HT.out HB3.out)
          clear hown3 hgrow hk8 hkb hi5
          go_wp2_with fail
          go_roundw
          case rel => exact ⟨j + 1, by omega, by go_num, HO3, HT3, HP3, HB3⟩
          case measure => simp [intOf]; omega
        · by_cases q3 : r = 3
          · subst q3
            have HX1 := Lib.hid (show X = some B from by rw [← HXX.out, ← HB_.out]; rfl)
            have p0 := HP.out.cell 1
            have p1 := HP.out.cell 2
            have hlt2 := HP.out.lt
            simp only [List.getElem?_toArray, List.getElem?_cons_zero, List.getElem?_cons_succ] at p0 p1
            go_wp2_with fail
            refine (print_at b B HB_.out hb _ (tens_alloc HTr.out _)).mono ?_
            rintro e w2 ⟨rfl, h2⟩
            have HO2 := Lib.hid (own_below (HOk.out.alloc (.cells #[.int .i64 ((3 : Nat) : Int), .string S] 44)) h2)
            have HP2 := Lib.hid (Blk.below (HP.out.alloc (.cells #[.int .i64 ((3 : Nat) : Int), .string S] 44)) h2 (HP.out.alloc _).lt)
            have HB2 := Lib.hid ((below_more HB.out (.cells #[.int .i64 ((3 : Nat) : Int), .string S] 44)).trans (h2.mono (below_more HB.out _).size))
            clear h2 p0 p1 hlt2
            go_wp2_with (at_builtin; refine wpList_append_own _ rfl (.tmp 32) (.tmp 36) 36 rfl w.heap.size 9 i0 (.string .empty) 1 16 Tryd.underlying36 hi0 hz0 hz1 hz2 rfl (by decide) u5 n Xs rfl (HO2.out.alloc _) ⟨w2.heap.size, 0, none⟩ 1 1 [.string B] rfl rfl ?c1 ?c2 ?c3 ?c4 ?c5 ?_)
            case c1 => intro i v hi; exact new_cell _ _ _ hi
            case c2 => intro u hu; simp at hu; subst hu; rfl
            case c3 => exact hk8
            case c4 => exact hkb
            case c5 => have := HB2.out.size; simp; omega
            intro v' w3 hown3 hgrow _
            have HO3 := Lib.hid (show OwnT w3 w.heap.size v' (txts k a b (j + 1)) from by
              unfold OwnT
              rw [HX.out, HX1.out, List.map_append, List.length_append, EXs.out.1, EXs.out.2]
              exact hown3)
            have HB3 := Lib.hid (show Below w.heap.size w w3 from by
              refine (below_more HB2.out _).grown hgrow (by have := HB2.out.size; simp; omega) ?_
              intro k' hk'
              exact (HO2.out.lt k' hk').1)
            have HP3 := Lib.hid (show Blk w3 (w.heap.size + 1) 24 #[.int .i64 (k : Int), .int .u64 (a : Int), .int .u64 (b : Int)] from
              (HP2.out.alloc _).grown hgrow (own_blk_ne HOk.out HP.out (by decide)).symm)
            have HT3 := Lib.hid (show Tens w3 from tens_below HT.out HB3.out)
            clear hown3 hgrow hk8 hkb hi5
            go_wp2_with fail
            go_roundw
            case rel => exact ⟨j + 1, by omega, by go_num, HO3, HT3, HP3, HB3⟩
            case measure => simp [intOf]; omega
          · have z1 : ((r : Int) == 1) = false := by rw [beq_eq_false_iff_ne]; omega
            have z2 : ((r : Int) == 2) = false := by rw [beq_eq_false_iff_ne]; omega
            have z3 : ((r : Int) == 3) = false := by rw [beq_eq_false_iff_ne]; omega
            have HX1 := Lib.hid (show X = none from by rw [← HXX.out]; unfold txt; rw [if_neg q1, if_neg q2, if_neg q3])
            have HO3 := Lib.hid (show OwnT (wr.alloc (.cells #[.int .i64 (r : Int), .string S] 44)) w.heap.size u5 (txts k a b (j + 1)) from by
              rw [HX.out, HX1.out, Option.toList_none, List.append_nil]
              exact HO.out.alloc _)
            clear q1 q2 q3 hk8 hkb
            go_wp2_with fail
            go_roundw
            case rel => exact ⟨j + 1, by omega, by go_num, HO3, Lib.hid (tens_alloc HTr.out _), Lib.hid (HP.out.alloc _), Lib.hid (below_more HB.out _)⟩
            case measure => simp [intOf]; omega
    · have hlti : ¬ (j : Int) < 5 := by omega
      obtain rfl : j = 5 := by omega
      obtain ⟨hjt, hpos⟩ := join_txts k a b h1 h8
      have hlen := ptext_len k a b ha hb
      have HJ := Lib.hid hjt
      obtain ⟨g, c, rfl, _, hg, hc, hcells⟩ := HO.out.slice hpos
      have HC := Lib.hid hcells
      obtain ⟨n, hn⟩ : ∃ n, (txts k a b 5).length = n := ⟨_, rfl⟩
      have hn5 : n ≤ 5 := by rw [← hn]; exact txts_len k a b 5
      rw [hn] at hc ⊢
      have HN := Lib.hid hn
      have HH := Lib.hid (And.intro hg hc)
      obtain ⟨sep, hsep⟩ : ∃ sep : ByteArray, sep = ⟨#[47]⟩ := ⟨_, rfl⟩
      clear hcells hn hpos hjt hg hc
      go_wp2_with fail
      refine (join_any g c n (txts k a b 5) ⟨#[47]⟩ wr HN.out HC.out HH.out.1 (by omega) HH.out.2 (by rw [show (⟨#[47]⟩ : ByteArray).data.toList = [47] from rfl, HJ.out]; omega)).mono ?_
      rintro e w2 ⟨rfl, h2⟩
      have HB2 := Lib.hid (HB.out.trans (h2.mono HB.out.size))
      clear h2
      go_wp2_with fail
      go_ret
      exact ⟨rfl, HB2.out⟩
end Go.Proofs.YtakfplkdjapooaaDoor.Sp
