/- The statement on inputs of two lists of parts: its walk. -/
import Derived.Test.YtchdnfhajcfdoaaDoorShaCutW
import Derived.Test.YtchdnfhajcfdoaaDoorReads
namespace Go.Proofs.YtchdnfhajcfdoaaDoor.Sp
open Go Go.RowKit

theorem ret_bool {a b : Bool} (h : a = b) : Ending.returned (.bool a) = .returned (.bool b) := by rw [h]
theorem cutB_size (s : ByteArray) : (cutB s).size = min s.size 100000 := by unfold cutB; rw [ByteArray.size_extract]; omega
theorem len2_cut (ss : List ByteArray) (k : Nat) : len2 (ss.map cutB) k ≤ len2 ss k := by
  unfold len2
  rw [← List.map_take]
  generalize ss.take k = l
  induction l with
  | nil => simp
  | cons x l ih => have := cutB_size x; simp only [List.map_cons, List.sum_cons] at ih ⊢; omega
theorem len2_append (a b : List ByteArray) : len2 (a ++ b) (a.length + b.length) + 1 = len2 a a.length + len2 b b.length := by
  unfold len2
  rw [← List.length_append, List.take_length, List.take_length, List.take_length, List.map_append, List.sum_append]; omega
theorem inB_append (d : UInt8) (a b : List ByteArray) : inB d (a ++ b) = inB d a ++ (inB d b).drop 1 := by unfold inB; simp
theorem Strs.reads {w : World} {a : Option Addr} {n : Nat} {ss : List ByteArray} (h : Strs w a n ss) : Reads w w.heap.size 1 a n (ss.map Value.string) := by
  refine ⟨by rw [List.length_map, h.1]; omega, fun hn => ?_⟩
  obtain ⟨b, off, e, hc⟩ := h.2 hn
  refine ⟨⟨b, off, none⟩, e, block_lt_of_cell (hc 0 hn), fun j u hu => ?_⟩
  rw [Go.WideShapes.add_plain]
  rw [List.getElem?_map] at hu
  obtain ⟨s, hs, rfl⟩ := Option.map_eq_some_iff.1 hu
  have hj : j < ss.length := (List.getElem?_eq_some_iff.1 hs).1
  rw [hc j (by rw [← h.1]; exact hj), List.getD_eq_getElem?_getD, hs]; rfl
theorem Strs.of_own {w : World} {base : Nat} {v : Value} {ss : List ByteArray} (h : OwnS w base v ss) : ∃ a c, v = .slice a ss.length c ∧ Strs w a ss.length ss := by
  rcases h.2 with ⟨h1, h2⟩ | ⟨g, cap, cur, h1, _⟩
  · exact ⟨none, 0, by rw [h1, h2], rfl, fun hp => by omega⟩
  · refine ⟨_, _, h1, rfl, fun hp => ⟨g, 0, rfl, fun j hj => ?_⟩⟩
    have hc := h.cells (g := g) (by rw [h1]; rfl) j (.string (ss.getD j ByteArray.empty)) (by
      rw [List.getElem?_map, List.getD_eq_getElem?_getD, List.getElem?_eq_getElem hj]; rfl)
    rw [show (⟨g, 0, none⟩ : Addr).add j = ⟨g, 0 + j, none⟩ from Go.WideShapes.add_plain _ _ _] at hc
    exact hc

theorem input_B (d : UInt8) (a : Option Addr) (n c : Nat) (ss : List ByteArray) (w : World) (h : Strs w a n ss) (hn : n ≤ 9223372036854775807) (hlen : len2 ss n ≤ 1099511627776) (I : ByteArray) (hI : I = ⟨(inB d ss).toArray⟩) :
    Calls Tryd.prog 20 #[.int .u8 (d.toNat : Int), .slice a n c] w fun e w' => e = .returned (.string I) ∧ Below w.heap.size w w' := by
  rw [hI]; exact input_any d a n c ss w h hn hlen
theorem inB_size (d : UInt8) (ss : List ByteArray) (I : ByteArray) (hI : I = ⟨(inB d ss).toArray⟩) : I.size = len2 ss ss.length := by
  rw [hI, ← inp_length d ss ss.length, inp_all]; show (inB d ss).toArray.size = _; rw [List.size_toArray]

set_option maxHeartbeats 2000000 in
theorem inputs_law (d : UInt8) (a1 a2 : Option Addr) (n1 c1 n2 c2 : Nat) (s1 s2 : List ByteArray) (w : World) (h1 : Strs w a1 n1 s1) (h2 : Strs w a2 n2 s2) (hT : Tab w)
    (hb1 : len2 s1 n1 ≤ 100000000) (hb2 : len2 s2 n2 ≤ 100000000) (hn1 : n1 ≤ 100000000) (hn2 : n2 ≤ 100000000) (hz1 : ∀ s ∈ s1, s.size ≤ 9223372036854775807) (hz2 : ∀ s ∈ s2, s.size ≤ 9223372036854775807) :
    Calls Tryd.prog 9 #[.int .u8 (d.toNat : Int), .slice a1 n1 c1, .slice a2 n2 c2] w fun e w' => e = .returned (.bool true) ∧ Below w.heap.size w w' := by
  obtain ⟨i0, hi0, hy0, hy1, hy2⟩ := info_parts infoText
  have HT := Lib.hid hT
  have H1 := Lib.hid h1
  have H2 := Lib.hid h2
  have Z1 := Lib.hid hz1
  have Z2 := Lib.hid hz2
  clear hT h1 h2 hz1 hz2
  go_enter Tryd.func9, Tryd.ntmps9
  go_wp2_with fail
  refine (awake_any _ HT.out).mono ?_
  rintro e w1 ⟨rfl, hb⟩
  have B1 := Lib.hid hb
  have S11 := Lib.hid (H1.out.below hb)
  have S21 := Lib.hid (H2.out.below hb)
  clear hb
  go_wp2_with fail
  refine (cut_any a1 n1 c1 s1 _ S11.out (by omega) Z1.out).mono ?_
  rintro e w2 ⟨a3, c3, rfl, hs3, hb⟩
  have hl1 : s1.length = n1 := H1.out.1
  rw [hl1] at hs3 ⊢
  have B2 := Lib.hid (B1.out.trans (hb.mono B1.out.size))
  have S22 := Lib.hid (S21.out.below hb)
  have S32 := Lib.hid hs3
  clear hb hs3
  go_wp2_with fail
  refine (cut_any a2 n2 c2 s2 _ S22.out (by omega) Z2.out).mono ?_
  rintro e w3 ⟨a4, c4, rfl, hs4, hb⟩
  have hl2 : s2.length = n2 := H2.out.1
  rw [hl2] at hs4 ⊢
  have B3 := Lib.hid (B2.out.trans (hb.mono B2.out.size))
  have S33 := Lib.hid (S32.out.below hb)
  have S43 := Lib.hid hs4
  clear hb hs4
  obtain ⟨A, eA⟩ : ∃ A, A = s1.map cutB := ⟨_, rfl⟩
  obtain ⟨B, eB⟩ : ∃ B, B = s2.map cutB := ⟨_, rfl⟩
  rw [← eA] at S33
  rw [← eB] at S43
  have hAl : A.length = n1 := by rw [eA, List.length_map, hl1]
  have hBl : B.length = n2 := by rw [eB, List.length_map, hl2]
  have hA2 : len2 A n1 ≤ 100000000 := by rw [eA]; exact Nat.le_trans (len2_cut s1 n1) hb1
  have hB2 : len2 B n2 ≤ 100000000 := by rw [eB]; exact Nat.le_trans (len2_cut s2 n2) hb2
  have HAl := Lib.hid hAl
  have HBl := Lib.hid hBl
  obtain ⟨X, eX⟩ : ∃ X : ByteArray, X = ⟨(inB d A).toArray⟩ := ⟨_, rfl⟩
  obtain ⟨Y, eY⟩ : ∃ Y : ByteArray, Y = ⟨(inB d B).toArray⟩ := ⟨_, rfl⟩
  obtain ⟨Z, eZ⟩ : ∃ Z : ByteArray, Z = ⟨(inB d (A ++ B)).toArray⟩ := ⟨_, rfl⟩
  have EX := Lib.hid eX
  have EY := Lib.hid eY
  have EZ := Lib.hid eZ
  clear eX eY eZ eA eB hAl hBl hl1 hl2
  go_wp2_with fail
  refine (input_B d a3 n1 c3 A _ S33.out (by omega) (by omega) X EX.out).mono ?_
  rintro e w4 ⟨rfl, hb⟩
  have B4 := Lib.hid (B3.out.trans (hb.mono B3.out.size))
  have S34 := Lib.hid (S33.out.below hb)
  have S44 := Lib.hid (S43.out.below hb)
  clear hb
  go_wp2_with fail
  refine (input_B d a4 n2 c4 B _ S44.out (by omega) (by omega) Y EY.out).mono ?_
  rintro e w5 ⟨rfl, hb⟩
  have B5 := Lib.hid (B4.out.trans (hb.mono B4.out.size))
  have S35 := Lib.hid (S34.out.below hb)
  have S45 := Lib.hid (S44.out.below hb)
  clear hb
  obtain ⟨LA, eLA⟩ : ∃ LA : List Value, LA = A.map Value.string := ⟨_, rfl⟩
  obtain ⟨LB, eLB⟩ : ∃ LB : List Value, LB = B.map Value.string := ⟨_, rfl⟩
  have R3 := Lib.hid S35.out.reads
  have R4 := Lib.hid S45.out.reads
  rw [← eLA] at R3
  rw [← eLB] at R4
  have oA : ∀ u ∈ LA, u.oneCell' = true := by rw [eLA]; intro u hu; obtain ⟨s, _, rfl⟩ := List.mem_map.1 hu; rfl
  have oB : ∀ u ∈ LB, u.oneCell' = true := by rw [eLB]; intro u hu; obtain ⟨s, _, rfl⟩ := List.mem_map.1 hu; rfl
  have OA := Lib.hid oA
  have OB := Lib.hid oB
  have ELA := Lib.hid eLA
  have ELB := Lib.hid eLB
  have hsz5 := B5.out.size
  clear eLA eLB oA oB
  go_wp2_with (first
    | (at_builtin; refine wpList_append_any _ rfl (.const (.slice none 0 0)) (.tmp 27) _ rfl w.heap.size 9 i0 _ 1 16 Tryd.underlying22 hi0 hy0 hy1 hy2 rfl (by omega) (.slice none 0 0) 0 [] rfl ⟨by simp, .inl ⟨rfl, rfl⟩⟩ w5.heap.size a3 n1 c3 LA rfl R3.out OA.out (by unfold maxLen; omega) (by omega) hsz5 ?_; intro v1 w6 hown1 hg1 hat1; simp only [Nat.zero_add, List.nil_append] at hown1; have O1 := Lib.hid hown1; have B6 := Lib.hid ((Below.refl w5.heap.size w5).grown hg1 (Nat.le_refl _) (by simp [Value.ownBlock])); have HAT := Lib.hid hat1; clear hown1 hg1 hat1)
    | (at_builtin; refine wpList_append_any _ rfl (.tmp 28) (.tmp 29) _ rfl w.heap.size 9 i0 _ 1 16 Tryd.underlying22 hi0 hy0 hy1 hy2 rfl (by omega) v1 n1 LA rfl O1.out w5.heap.size a4 n2 c4 LB rfl (R4.out.below B6.out) OB.out (by unfold maxLen; omega) (by omega) (Nat.le_trans hsz5 B6.out.size) ?_; intro v2 w7 hown2 hg2 hat2))
  have HO2 : OwnS w7 w.heap.size v2 (A ++ B) := by
    unfold OwnS
    rw [List.map_append, List.length_append, HAl.out, HBl.out, ← ELA.out, ← ELB.out]
    exact hown2
  have B7 := Lib.hid ((B5.out.trans (B6.out.mono hsz5)).grown hg2 (Nat.le_trans hsz5 B6.out.size) (fun k' hk' => (O1.out.lt k' hk').1))
  obtain ⟨a5, c5, hv2, hs5⟩ := Strs.of_own HO2
  have hABl : (A ++ B).length = n1 + n2 := by rw [List.length_append, HAl.out, HBl.out]
  rw [hABl] at hv2 hs5
  have hsum := len2_append A B
  rw [HAl.out, HBl.out] at hsum
  have S57 := Lib.hid hs5
  have HABl := Lib.hid hABl
  have HT7 := Lib.hid (HT.out.below B7.out HT.out.lt)
  have B67 := Lib.hid ((Below.refl w5.heap.size w6).grown hg2 B6.out.size (fun k' hk' => by
    rcases HAT.out with e | e <;> rw [e] at hk' <;> simp [Value.ownBlock] at hk'
    omega))
  clear hown2 hg2 hat2 HO2 hs5 hABl
  rw [hv2]
  clear hv2
  go_wp2_with fail
  refine (input_B d a5 (n1 + n2) c5 (A ++ B) _ S57.out (by omega) (by omega) Z EZ.out).mono ?_
  rintro e w8 ⟨rfl, hb⟩
  have B8 := Lib.hid (B7.out.trans (hb.mono B7.out.size))
  have S38 := Lib.hid (S35.out.below ((B6.out.trans B67.out).trans (hb.mono (Nat.le_trans B6.out.size B67.out.size))))
  clear hb
  have hXs := inB_size d A X EX.out
  have hYs := inB_size d B Y EY.out
  rw [HAl.out] at hXs
  rw [HBl.out] at hYs
  have hX1 : 1 ≤ X.size := by rw [hXs]; exact Nat.le_add_right 1 _
  have hY1 : 1 ≤ Y.size := by rw [hYs]; exact Nat.le_add_right 1 _
  have hX0 : 0 < X.size := hX1
  have x1 : (1 : Int) ≤ (Y.size : Int) := by omega
  have x2 : (((X[0]'hX0).toNat : Int) == (d.toNat : Int)) = true := by
    have e : X[0]'hX0 = d := by
      rw [← getD_data X 0 0 rfl hX0, EX.out]; rfl
    rw [e]; simp
  have hadd : ¬ 9223372036854775807 < X.size + (Y.size - 1) := by omega
  have hZ : Z.toList = (X ++ Y.extract 1 Y.size).toList := by
    rw [Lib.toList_data, Lib.toList_data, ByteArray.data_append, Array.toList_append, Lib.extract_to_end, EX.out, EY.out, EZ.out]
    exact inB_append d A B
  have HZ := Lib.hid hZ
  have HXS := Lib.hid hXs
  clear hXs hYs hZ
  go_wp2_with fail
  go_loop [13, 14] (fun v i => ∃ k : Nat, k ≤ n1 ∧ v = .int .i64 ((len2 A k : Nat) : Int) ∧ i = .int .i64 (k : Int)) (fun _ i => n1 - (intOf i).toNat)
  case atStart => exact ⟨0, Nat.zero_le _, rfl, rfl⟩
  case round =>
    obtain ⟨k, hk, rfl, rfl⟩ := hrel
    have hmono := len2_mono A k n1 hk
    by_cases hlt : k < n1
    · obtain ⟨b, off, rfl, hc⟩ := S38.out.2 (by omega)
      obtain ⟨T, eT⟩ : ∃ T, T = A.getD k ByteArray.empty := ⟨_, rfl⟩
      have hcell := hc k hlt
      rw [← eT] at hcell
      have hs2 : len2 A (k + 1) = len2 A k + 4 + T.size := by rw [eT, len2_succ A k (by rw [HAl.out]; exact hlt)]; omega
      have hm2 := len2_mono A (k + 1) n1 (by omega)
      have hts : T.size ≤ 100000000 := by omega
      have HS2 := Lib.hid hs2
      clear hs2 hm2 hc eT
      go_wp2_with fail
      go_round
      case rel => exact ⟨k + 1, by omega, by rw [HS2.out]; go_num, by go_num⟩
      case measure => simp [intOf]; omega
    · have hkn : k = n1 := by omega
      have x3 : ((X.size : Int) == ((len2 A k : Nat) : Int)) = true := by rw [hkn, ← HXS.out]; simp
      have hki : ¬ (k : Int) < (n1 : Int) := by omega
      clear hkn hmono
      go_wp2_with fail
      go_ret
      exact ⟨ret_bool (by rw [HZ.out]; simp), B8.out⟩

end Go.Proofs.YtchdnfhajcfdoaaDoor.Sp
