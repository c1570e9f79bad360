/- The walk of PathShape. -/
import Derived.Test.YtakfplkdjapooaaDoorPthBackW
namespace Go.Proofs.YtakfplkdjapooaaDoor.Sp
open Go Go.RowKit

def slashes (l : List UInt8) : Nat := (l.filter (· == 47)).length
def slashN : Nat → Nat
  | 1 => 2 | 2 => 3 | 3 => 1 | 4 => 2 | 5 => 4 | 6 => 4 | 7 => 4 | 8 => 2 | _ => 0
theorem slashes_app (l m : List UInt8) : slashes (l ++ m) = slashes l + slashes m := by simp [slashes]
theorem slashes_dig (l : List UInt8) (h : ∀ b ∈ l, isDig b) : slashes l = 0 := by
  unfold slashes
  rw [List.length_eq_zero_iff, List.filter_eq_nil_iff]
  intro b hb
  have := h b hb
  intro e
  rw [beq_iff_eq] at e
  subst e
  exact slash_no this
theorem slashes_text (k a b : Nat) (h1 : 1 ≤ k) (h8 : k ≤ 8) : slashes (ptext k a b) = slashN k := by
  unfold ptext
  rw [slashes_app, slashes_app, slashes_app, slashes_dig _ (dec_dig a)]
  have h : slashes (if two k then dec b else []) = 0 := by
    split
    · exact slashes_dig _ (dec_dig b)
    · rfl
  rw [h]
  have key : ∀ m : Fin 9, 1 ≤ m.val → slashes (wA m.val) + (0 + (slashes (wB m.val) + 0)) = slashN m.val := by decide
  exact key ⟨k, by omega⟩ h1

def wordVs : Array Value := #[.string ⟨#[99, 108, 105, 101, 110, 116, 115, 47]⟩, .string ⟨#[99, 108, 105, 101, 110, 116, 115, 47]⟩, .string ⟨#[99, 111, 110, 110, 101, 99, 116, 105, 111, 110, 115, 47]⟩, .string ⟨#[99, 104, 97, 110, 110, 101, 108, 69, 110, 100, 115, 47, 99, 104, 97, 110, 110, 101, 108, 115, 47]⟩, .string ⟨#[99, 111, 109, 109, 105, 116, 109, 101, 110, 116, 115, 47, 99, 104, 97, 110, 110, 101, 108, 115, 47]⟩, .string ⟨#[114, 101, 99, 101, 105, 112, 116, 115, 47, 99, 104, 97, 110, 110, 101, 108, 115, 47]⟩, .string ⟨#[97, 99, 107, 115, 47, 99, 104, 97, 110, 110, 101, 108, 115, 47]⟩, .string ⟨#[110, 101, 120, 116, 83, 101, 113, 117, 101, 110, 99, 101, 82, 101, 99, 118, 47, 99, 104, 97, 110, 110, 101, 108, 115, 47]⟩]
theorem word_at (m : Nat) (h : m < 8) : wordVs[m]? = some (.string ⟨(wA (m + 1)).toArray⟩) := by
  match m, h with
  | 0, _ | 1, _ | 2, _ | 3, _ | 4, _ | 5, _ | 6, _ | 7, _ => rfl
theorem count_at (m : Nat) (h : m < 8) : ([.int .i64 2, .int .i64 3, .int .i64 1, .int .i64 2, .int .i64 4, .int .i64 4, .int .i64 4, .int .i64 2] : List Value)[m]? = some (.int .i64 ((slashN (m + 1) : Nat) : Int)) := by
  match m, h with
  | 0, _ | 1, _ | 2, _ | 3, _ | 4, _ | 5, _ | 6, _ | 7, _ => rfl

set_option maxRecDepth 100000 in
set_option maxHeartbeats 4000000 in
theorem shape_law (K1 : Int) (a1 b1 : Nat) (hK1 : -9223372036854775808 ≤ K1 ∧ K1 ≤ 9223372036854775807) (ha1 : a1 < 18446744073709551616) (hb1 : b1 < 18446744073709551616) (w : World) (hT : Tens w) :
    Calls Tryd.prog 7 #[pathV K1 a1 b1] w fun e w' => e = .returned (.bool true) ∧ Below w.heap.size w w' := by
  have HT := Lib.hid (tens_alloc hT (.cells #[.int .i64 K1, .int .u64 (a1 : Int), .int .u64 (b1 : Int)] 24))
  have HA := Lib.hid ((Below.refl w.heap.size w).alloc (Nat.le_refl _) (.cells #[.int .i64 K1, .int .u64 (a1 : Int), .int .u64 (b1 : Int)] 24))
  have HP := Lib.hid (Blk.new w 24 #[.int .i64 K1, .int .u64 (a1 : Int), .int .u64 (b1 : Int)])
  clear hT
  unfold pathV
  go_enter Tryd.func7, Tryd.ntmps7
  go_wp2_with fail
  refine (awake_any _ HT.out).mono ?_
  rintro e w1 ⟨rfl, h1⟩
  have T1 := Lib.hid (tens_below HT.out h1)
  have B1 := Lib.hid (HA.out.trans (h1.mono HA.out.size))
  have P1 := Lib.hid (HP.out.below h1 HP.out.lt)
  clear h1 HP HT HA
  obtain ⟨c0, c1, c2⟩ := cells3 P1.out
  go_wp2_with fail
  refine (fit_any K1 a1 b1 hK1.1 hK1.2 ha1 hb1 w1).mono ?_
  rintro e w2 ⟨k, a, b, hv, rfl, h2⟩
  unfold pathV
  have T2 := Lib.hid (tens_alloc (tens_below T1.out h2) (.cells #[.int .i64 (k : Int), .int .u64 (a : Int), .int .u64 (b : Int)] 24))
  have B2 := Lib.hid ((B1.out.trans (h2.mono B1.out.size)).alloc (Nat.le_trans B1.out.size h2.size) (.cells #[.int .i64 (k : Int), .int .u64 (a : Int), .int .u64 (b : Int)] 24))
  have P2 := Lib.hid (Blk.new w2 24 #[.int .i64 (k : Int), .int .u64 (a : Int), .int .u64 (b : Int)])
  clear h2 c0 c1 c2 P1 T1
  obtain ⟨S, hS⟩ : ∃ S : ByteArray, ⟨(ptext k a b).toArray⟩ = S := ⟨_, rfl⟩
  have HS := Lib.hid hS
  have HV := Lib.hid hv
  clear hS hv
  go_wp2_with fail
  refine (pr_at (k : Int) a b S 0 (shown_of HV.out S HS.out) HV.out.2.2.1 HV.out.2.2.2.1 _ T2.out).mono ?_
  rintro e w3 ⟨rfl, h3⟩
  have T3 := Lib.hid (tens_below T2.out h3)
  have B3 := Lib.hid (B2.out.trans (h3.mono B2.out.size))
  have P3 := Lib.hid (P2.out.below h3 P2.out.lt)
  obtain ⟨g, hg⟩ : ∃ g, w2.heap.size = g := ⟨_, rfl⟩
  rw [hg] at P3
  clear h3 T2 B2 P2
  obtain ⟨c0, c1, c2⟩ := cells3 P3.out
  have gl := P3.out.lt
  obtain ⟨m, hm⟩ : ∃ m, k = m + 1 := ⟨k - 1, by have := HV.out.1; omega⟩
  have hm8 : m < 8 := by have := HV.out.2.1; omega
  have hkm : (k : Int) - 1 = (m : Int) := by omega
  have hm8i : (m : Int) < 8 := by omega
  have hm0i : (0 : Int) ≤ (m : Int) := by omega
  obtain ⟨W, hW⟩ : ∃ W : ByteArray, ⟨(wA k).toArray⟩ = W := ⟨_, rfl⟩
  have hwm := word_at m hm8
  have hcm := count_at m hm8
  rw [← hm, hW] at hwm
  rw [← hm] at hcm
  obtain ⟨C, hC⟩ : ∃ C, slashN k = C := ⟨_, rfl⟩
  rw [hC] at hcm
  unfold wordVs at hwm
  have HW := Lib.hid (And.intro hW hC)
  have HCL := Lib.hid (show ∀ h : m < ([.int .i64 2, .int .i64 3, .int .i64 1, .int .i64 2, .int .i64 4, .int .i64 4, .int .i64 4, .int .i64 2] : List Value).length, ([.int .i64 2, .int .i64 3, .int .i64 1, .int .i64 2, .int .i64 4, .int .i64 4, .int .i64 4, .int .i64 2] : List Value)[m]'h = .int .i64 (C : Int) from fun h =>
    Option.some.inj ((List.getElem?_eq_getElem h).symm.trans hcm))
  have Hkm := Lib.hid hkm
  clear hm hm8 hW hC hcm
  obtain ⟨Y, hY⟩ : ∃ Y : ByteArray, ⟨(dec a).toArray⟩ = Y := ⟨_, rfl⟩
  have HY := Lib.hid hY
  clear hY
  go_wp2_with fail
  clear hwm hm0i hkm
  refine (qprint_at a Y HY.out HV.out.2.2.1 _).mono ?_
  rintro e w4 ⟨rfl, h4⟩
  have P4 := Lib.hid (Blk.below (P3.out.alloc (.cells wordVs 9)) h4 (by have := P3.out.lt; simp; omega))
  have B4 := Lib.hid ((B3.out.alloc B3.out.size (.cells wordVs 9)).trans (h4.mono (by have := B3.out.size; simp; omega)))
  have hml : m < 8 := by omega
  clear hm8i
  clear h4 c0 c1 c2
  have lW : W.data.toList = wA k := by rw [← HW.out.1]
  have lY : Y.data.toList = dec a := by rw [← HY.out]
  have lS : S.data.toList = W.data.toList ++ (Y.data.toList ++ (wB k ++ if two k then dec b else [])) := by rw [← HS.out, lW, lY]; rfl
  have HSl := Lib.hid (show slashes S.data.toList = C from by
    rw [← HS.out]; exact (slashes_text k a b HV.out.1 HV.out.2.1).trans HW.out.2)
  obtain ⟨q, hq⟩ : ∃ q : Nat, W.size + Y.size = q := ⟨_, rfl⟩
  have hSs : S.size = q + (wB k ++ if two k then dec b else []).length := by
    rw [← size_list S, lS, List.length_append, List.length_append, size_list, size_list]; omega
  have hqS : (q : Int) ≤ (S.size : Int) := by omega
  have hqn : ¬ (S.size : Int) < (q : Int) := by omega
  have hWq : (W.size : Int) ≤ (q : Int) := by omega
  have hWS : (W.size : Int) ≤ (S.size : Int) := by omega
  have hqi : (W.size : Int) + (Y.size : Int) = (q : Int) := by omega
  have hSm : S.size ≤ 83 := text_size HV.out S HS.out
  have hcw : IntKind.i64.wrap ((W.size : Int) + (Y.size : Int)) = (q : Int) := by rw [IntKind.wrap_i64]; omega
  have e1 : ((S.extract 0 W.size).toList == W.toList) = true := by
    rw [beq_iff_eq, ByteArray.toList_eq, ByteArray.toList_eq, extract_list, List.drop_zero, lS]
    exact List.take_left' (size_list W)
  have e2 : ((S.extract W.size q).toList == Y.toList) = true := by
    rw [beq_iff_eq, ByteArray.toList_eq, ByteArray.toList_eq, extract_list, lS, ← hq, ← List.take_drop, List.drop_left' (size_list W)]
    exact List.take_left' (size_list Y)
  have Hlen := Lib.hid (size_list S)
  clear lW lY lS hq hSs
  go_wp2_with fail
  clear e1 e2 hcw hqi hWS hWq hqn hqS
  go_loop [9, 10] (fun v i => ∃ j n : Nat, j ≤ S.size ∧ n ≤ j ∧ v = .int .i64 (n : Int) ∧ i = .int .i64 (j : Int) ∧ Hid (n = slashes (S.data.toList.take j))) (fun _ i => S.size - (intOf i).toNat)
  case atStart => exact ⟨0, 0, Nat.zero_le _, Nat.zero_le _, rfl, rfl, rfl⟩
  case round =>
    obtain ⟨j, n, hj, hn, rfl, rfl, HN⟩ := hrel
    by_cases hlt : j < S.size
    · have hji : (j : Int) < (S.size : Int) := by omega
      have hj0 : (0 : Int) ≤ (j : Int) := by omega
      have hnext : slashes (S.data.toList.take (j + 1)) = n + if S[j] == 47 then 1 else 0 := by
        rw [byte_ S j hlt, slashes_app, HN.out]
        unfold slashes
        cases h : S[j] == 47 <;> simp [h]
      by_cases h47 : S[j].toNat = 47
      · have h47i : (S[j].toNat : Int) = 47 := by omega
        have hb : (S[j] == 47) = true := by rw [beq_iff_eq]; exact UInt8.toNat_inj.1 h47
        rw [hb, if_pos rfl] at hnext
        have HN2 := Lib.hid hnext.symm
        clear hnext h47 hb HN
        go_wp2_with fail
        go_round
        case rel => exact ⟨j + 1, n + 1, by omega, by omega, by go_num, by go_num, HN2⟩
        case measure => simp [intOf]; omega
      · have h47i : ¬ (S[j].toNat : Int) = 47 := by omega
        have hb : (S[j] == 47) = false := by
          rw [beq_eq_false_iff_ne]; intro e; exact h47 (by rw [e]; rfl)
        rw [hb, if_neg (by decide)] at hnext
        have HN2 := Lib.hid (show n = slashes (S.data.toList.take (j + 1)) from hnext.symm)
        clear hnext h47 hb HN
        go_wp2_with fail
        go_round
        case rel => exact ⟨j + 1, n, by omega, by omega, by go_num, by go_num, HN2⟩
        case measure => simp [intOf]; omega
    · have hji : ¬ (j : Int) < (S.size : Int) := by omega
      have hnC : n = C := by
        rw [HN.out, List.take_of_length_le (l := S.data.toList) (by rw [Hlen.out]; omega)]; exact HSl.out
      subst hnC
      have gl := P4.out.lt
      obtain ⟨c0, c1, c2⟩ := cells3 P4.out
      have hcl := HCL.out
      have hkm := Hkm.out
      have hm8i : (m : Int) < 8 := by omega
      have hm0i : (0 : Int) ≤ (m : Int) := by omega
      clear HN hlt hj
      go_wp2_with fail
      go_ret
      exact ⟨rfl, B4.out.alloc B4.out.size _⟩
end Go.Proofs.YtakfplkdjapooaaDoor.Sp
