/- The walk of TreeRoots. -/
import Derived.Test.YtdkjlijmejleoaaDoorTreTellsW
import Derived.Test.YtdkjlijmejleoaaDoorReadsW
namespace Go.Proofs.YtdkjlijmejleoaaDoor.Sp
open Go Go.RowKit

theorem inpB_size (a b : ByteArray) : (inpB a b).size = 9 + a.size + b.size := by
  rw [← size_list]
  show (inB 5 [a, b]).length = _
  rw [← inp_all, inp_length]
  show len2 [a, b] 2 = _
  exact len2_two a b
theorem pairs_small : ∀ (l : List ByteArray), (∀ y ∈ l, y.size ≤ 32) → ∀ z ∈ pairsB l, z.size ≤ 73
  | [], _, z, hz => by cases hz
  | [_], _, z, hz => by cases hz
  | a :: b :: l, h, z, hz => by
    rw [pairsB] at hz
    rcases List.mem_cons.1 hz with rfl | hz
    · have h1 := h a (by simp)
      have h2 := h b (by simp)
      rw [inpB_size]; omega
    · exact pairs_small l (fun y hy => h y (by simp [hy])) z hz
theorem inputs_size : ∀ (h : Nat) (l : List ByteArray), (∀ y ∈ l, y.size ≤ 32) → ∀ z ∈ inputsUp h l, z.size ≤ 73
  | 0, _, _, z, hz => by cases hz
  | h + 1, l, hl, z, hz => by
    rw [inputsUp] at hz
    rcases List.mem_append.1 hz with hz | hz
    · exact pairs_small l hl z hz
    · exact inputs_size h (aboveB l) (fun y hy => by rw [above_size l y hy]; omega) z hz
theorem strs_reads {w : World} {a : Option Addr} {n : Nat} {ss : List ByteArray} (h : Strs w a n ss) : Reads w w.heap.size 1 a n (ss.map Value.string) := by
  refine ⟨by rw [List.length_map, h.1]; omega, fun hn => ?_⟩
  obtain ⟨b, off, e, hc⟩ := h.2 hn
  refine ⟨⟨b, off, none⟩, e, block_lt_of_cell (hc 0 hn), fun j u hu => ?_⟩
  rw [Go.WideShapes.add_plain]
  rw [List.getElem?_map] at hu
  obtain ⟨s, hs, rfl⟩ := Option.map_eq_some_iff.1 hu
  have hj : j < ss.length := (List.getElem?_eq_some_iff.1 hs).1
  rw [hc j (by rw [← h.1]; exact hj), List.getD_eq_getElem?_getD, hs]; rfl
theorem texts_ones (l : List ByteArray) : ∀ u ∈ l.map Value.string, u.oneCell' = true := by
  intro u hu
  obtain ⟨x, _, rfl⟩ := List.mem_map.1 hu
  rfl
theorem psum_any (b : ByteArray) (w : World) (h : b.size ≤ 9223372036854775000) (hT : Tab w) :
    Calls Tryd.prog 28 #[.string b] w fun e w' => e = .returned (.string (sumT b)) ∧ Below w.heap.size w w' := sum_any b h w hT
theorem pclash_any (l : List ByteArray) (a : Option Addr) (n cap : Nat) (hn : n ≤ 4294967296) (hM : ∀ x ∈ l, x.size ≤ 9223372036854775000) (S : Bool) (hS : S = true ↔ ClashIn l) (w : World) (hl : Strs w a n l) (hT : Tab w) :
    Calls Tryd.prog 27 #[.slice a n cap] w fun e w' => e = .returned (.bool S) ∧ Below w.heap.size w w' :=
  clash_any Tab (fun _ _ h => h) (fun _ _ h hb => tab_below h hb) (fun b w h ht => psum_any b w h ht) l a n cap hn hM S hS w hl hT

set_option maxRecDepth 100000 in
set_option maxHeartbeats 8000000 in
theorem roots_law (P : TreeP) (ra : List ByteArray) (a0 : Option Addr) (n0 c0 : Nat) (hn0 : n0 ≤ 9223372036854775807) (hs0 : ∀ x ∈ ra, x.size ≤ 9223372036854775807) (rb : List ByteArray) (a1 : Option Addr) (n1 c1 : Nat) (hn1 : n1 ≤ 9223372036854775807) (hs1 : ∀ x ∈ rb, x.size ≤ 9223372036854775807)
    (H : Int) (hH : -9223372036854775808 ≤ H ∧ H ≤ 9223372036854775807) (w : World) (hl0 : Strs w a0 n0 ra) (hl1 : Strs w a1 n1 rb) (hT : Tab w) :
    Calls Tryd.prog 7 #[.slice a0 n0 c0, .slice a1 n1 c1, .int .i64 H] w fun e w' => e = .returned (.bool true) ∧ Below w.heap.size w w' := by
  obtain ⟨r, hr, hp⟩ := height_any H hH
  obtain ⟨A, hA⟩ : ∃ L, leavesTo ra (2 ^ r) = L := ⟨_, rfl⟩
  obtain ⟨B, hB⟩ : ∃ L, leavesTo rb (2 ^ r) = L := ⟨_, rfl⟩
  obtain ⟨N, hN⟩ : ∃ N, 2 ^ r = N := ⟨_, rfl⟩
  have hN16 : N ≤ 16 := by rw [← hN]; exact pow16 r hr
  have hAl : A.length = N := by rw [← hA, leavesTo_len, hN]
  have hBl : B.length = N := by rw [← hB, leavesTo_len, hN]
  have hA32 : ∀ y ∈ A, y.size = 32 := by rw [← hA]; exact leavesTo_size _ _
  have hB32 : ∀ y ∈ B, y.size = 32 := by rw [← hB]; exact leavesTo_size _ _
  have hsA := small32 (fun y hy => Nat.le_of_eq (hA32 y hy))
  have hsB := small32 (fun y hy => Nat.le_of_eq (hB32 y hy))
  obtain ⟨RA, hRA⟩ : ∃ R, rootB A = R := ⟨_, rfl⟩
  obtain ⟨RB, hRB⟩ : ∃ R, rootB B = R := ⟨_, rfl⟩
  obtain ⟨I, hI⟩ : ∃ I, inputsB A = I := ⟨_, rfl⟩
  obtain ⟨J, hJ⟩ : ∃ I, inputsB B = I := ⟨_, rfl⟩
  have hIe : I = inputsUp r A := by rw [← hI]; exact inputs_pow A r (by omega) (by rw [hAl, hN])
  have hJe : J = inputsUp r B := by rw [← hJ]; exact inputs_pow B r (by omega) (by rw [hBl, hN])
  have hIl : I.length = N - 1 := by rw [hIe, inputs_len r A (by rw [hAl, hN]), hN]
  have hJl : J.length = N - 1 := by rw [hJe, inputs_len r B (by rw [hBl, hN]), hN]
  have hroots : RA = RB → A = B ∨ ClashIn (I ++ J) := fun e => by
    rw [hIe, hJe]
    refine roots_up r A B (by rw [hAl, hN]) (by rw [hBl, hN]) hA32 hB32 ?_
    rw [← root_pow A r (by omega) (by rw [hAl, hN]), ← root_pow B r (by omega) (by rw [hBl, hN]), hRA, hRB, e]
  have hIJ : ∀ x ∈ I ++ J, x.size ≤ 9223372036854775000 := fun x hx => by
    rcases List.mem_append.1 hx with h | h
    · rw [hIe] at h
      exact Nat.le_trans (inputs_size r A (fun y hy => Nat.le_of_eq (hA32 y hy)) x h) (by omega)
    · rw [hJe] at h
      exact Nat.le_trans (inputs_size r B (fun y hy => Nat.le_of_eq (hB32 y hy)) x h) (by omega)
  have hN1 : ClashIn (I ++ J) → 1 < N := fun ⟨u, _, hu, _⟩ => by
    have : 0 < (I ++ J).length := List.length_pos_of_mem hu
    rw [List.length_append, hIl, hJl] at this; omega
  have hABR : A = B → RA = RB := fun e => by rw [← hRA, ← hRB, e]
  have HLA := Lib.hid (fun w hl => leaves_any ra a0 n0 c0 hn0 hs0 H r hr hp w hl)
  have HLB := Lib.hid (fun w hl => leaves_any rb a1 n1 c1 hn1 hs1 H r hr hp w hl)
  rw [hA] at HLA
  rw [hB] at HLB
  have R1 := Lib.hid (fun p c W hs ht => P.root A p N c W (by omega) hsA hs ht)
  have R2 := Lib.hid (fun p c W hs ht => P.root B p N c W (by omega) hsB hs ht)
  rw [hRA] at R1
  rw [hRB] at R2
  have I1 := Lib.hid (fun p c W hs ht => P.inputs A p N c W (by omega) hsA hs ht)
  have I2 := Lib.hid (fun p c W hs ht => P.inputs B p N c W (by omega) hsB hs ht)
  rw [hI] at I1
  rw [hJ] at I2
  have HIl := Lib.hid (And.intro hIl hJl)
  have HIJ := Lib.hid hIJ
  have HN1 := Lib.hid hN1
  have HABl := Lib.hid (And.intro hAl hBl)
  have HL := Lib.hid (And.intro hl0 hl1)
  have HT := Lib.hid hT
  have HRt := Lib.hid hroots
  have HAB := Lib.hid hABR
  clear hp hA hB hN hAl hBl hA32 hB32 hsA hsB hRA hRB hI hJ hIe hJe hIl hJl hroots hIJ hN1 hABR hl0 hl1 hT hs0 hs1 hH
  go_enter Tryd.func7, Tryd.ntmps7
  go_wp2_with fail
  refine (awake_any P w HT.out).mono ?_
  rintro e w1 ⟨rfl, h1⟩
  have T1 := Lib.hid (tab_below HT.out h1)
  have L1 := Lib.hid (And.intro (HL.out.1.below h1) (HL.out.2.below h1))
  have B1 := Lib.hid h1
  clear h1
  go_wp2_with fail
  refine (HLA.out w1 L1.out.1).mono ?_
  rintro e w2 ⟨a2, c2, rfl, hs2, h2, _⟩
  rw [HABl.out.1] at hs2 ⊢
  have T2 := Lib.hid (tab_below T1.out h2)
  have S2 := Lib.hid hs2
  have L2 := Lib.hid (L1.out.2.below h2)
  have B2 := Lib.hid (B1.out.trans (h2.mono B1.out.size))
  clear hs2 h2
  go_wp2_with fail
  refine (HLB.out w2 L2.out).mono ?_
  rintro e w3 ⟨a3, c3, rfl, hs3, h3, _⟩
  rw [HABl.out.2] at hs3 ⊢
  have T3 := Lib.hid (tab_below T2.out h3)
  have S3 := Lib.hid (And.intro (S2.out.below h3) hs3)
  have B3 := Lib.hid (B2.out.trans (h3.mono B2.out.size))
  clear hs3 h3
  obtain ⟨S, hS⟩ : ∃ S : Bool, S = true ↔ A = B := ⟨decide (A = B), decide_eq_true_iff⟩
  go_wp2_with fail
  refine (texts_any A B a2 a3 N N c2 c3 w3 S3.out.1 S3.out.2 (by omega) S hS).mono ?_
  rintro e w4 ⟨rfl, h4⟩
  have T4 := Lib.hid (tab_below T3.out h4)
  have S4 := Lib.hid (And.intro (S3.out.1.below h4) (S3.out.2.below h4))
  have B4 := Lib.hid (B3.out.trans (h4.mono B3.out.size))
  have HS := Lib.hid hS
  clear h4 hS
  go_wp2_with fail
  refine (R1.out _ _ _ S4.out.1 T4.out).mono ?_
  rintro e w5 ⟨rfl, h5⟩
  have T5 := Lib.hid (tab_below T4.out h5)
  have S5 := Lib.hid (And.intro (S4.out.1.below h5) (S4.out.2.below h5))
  have B5 := Lib.hid (B4.out.trans (h5.mono B4.out.size))
  clear h5
  go_wp2_with fail
  refine (R2.out _ _ _ S5.out.2 T5.out).mono ?_
  rintro e w6 ⟨rfl, h6⟩
  have T6 := Lib.hid (tab_below T5.out h6)
  have S6 := Lib.hid (And.intro (S5.out.1.below h6) (S5.out.2.below h6))
  have B6 := Lib.hid (B5.out.trans (h6.mono B5.out.size))
  clear h6
  by_cases hAB : A = B
  · have hSt : S = true := HS.out.2 hAB
    have hself : (RA.toList == RB.toList) = true := by rw [HAB.out hAB]; exact text_self _
    subst hSt
    clear hAB
    go_wp2_with fail
    go_ret
    exact ⟨rfl, B6.out⟩
  · have hSf : S = false := by cases h : S with
      | false => rfl
      | true => exact absurd (HS.out.1 h) hAB
    subst hSf
    by_cases hR : RA = RB
    · have hself : (RA.toList == RB.toList) = true := by rw [hR]; exact text_self _
      have hcl := (HRt.out hR).resolve_left hAB
      have HC := Lib.hid hcl
      have hN2 := HN1.out hcl
      have HS2 := Lib.hid (show (false = true) ↔ A = B from ⟨fun h => (Bool.false_ne_true h).elim, fun h => absurd h hAB⟩)
      clear hAB hR hcl
      go_wp2_with fail
      refine (texts_any A B a2 a3 N N c2 c3 w6 S6.out.1 S6.out.2 (by omega) false HS2.out).mono ?_
      rintro e w7 ⟨rfl, h7⟩
      have T7 := Lib.hid (tab_below T6.out h7)
      have S7 := Lib.hid (And.intro (S6.out.1.below h7) (S6.out.2.below h7))
      have B7 := Lib.hid (B6.out.trans (h7.mono B6.out.size))
      clear h7
      go_wp2_with fail
      refine (I1.out _ _ _ S7.out.1 T7.out).mono ?_
      rintro e w8 ⟨a8, c8, rfl, hs8, h8, _⟩
      have T8 := Lib.hid (tab_below T7.out h8)
      have S8 := Lib.hid (S7.out.2.below h8)
      have B8 := Lib.hid (B7.out.trans (h8.mono B7.out.size))
      have I8 := Lib.hid hs8
      obtain ⟨i0, hi0, hz0, hz1, hz2⟩ := info_parts infoText
      have hb1 : 0 + I.length ≤ maxLen := by rw [HIl.out.1]; unfold maxLen; omega
      have hb2 : (0 + I.length) * 16 ≤ 140737488355328 := by rw [HIl.out.1]; omega
      have hb3 : I.length + J.length ≤ maxLen := by rw [HIl.out.1, HIl.out.2]; unfold maxLen; omega
      have hb4 : (I.length + J.length) * 16 ≤ 140737488355328 := by rw [HIl.out.1, HIl.out.2]; omega
      clear h8 hs8
      go_wp2_with (refine wpList_append_when _ (by rfl) (.const (.slice none 0 0)) (.tmp 35) 22 (by rfl) w8.heap.size 9 i0 (.string .empty) 1 16 Tryd.underlying22 hi0 hz0 hz1 hz2 (by rfl) (by decide) (.slice none 0 0) 0 [] (by rfl) (World.ownsRow_nil _ _ _ _) w8.heap.size a8 I.length c8 (I.map Value.string) (by rfl) (strs_reads I8.out) (texts_ones I) hb1 hb2 (Nat.le_refl _) ?_)
      intro v9 w9 hown9 hg9 _
      have O9 := Lib.hid (show OwnT w9 w8.heap.size v9 I from hown9)
      have W9 := Lib.hid (show Below w8.heap.size w8 w9 from (Below.refl _ _).grown hg9 (Nat.le_refl _) (fun k hk => by cases hk))
      have T9 := Lib.hid (tab_below T8.out W9.out)
      have S9 := Lib.hid (S8.out.below W9.out)
      have B9 := Lib.hid (B8.out.trans (W9.out.mono B8.out.size))
      clear hown9 hg9
      go_wp2_with fail
      refine (I2.out _ _ _ S9.out T9.out).mono ?_
      rintro e w10 ⟨a10, c10, rfl, hs10, h10, _⟩
      have T10 := Lib.hid (tab_below T9.out h10)
      have B10 := Lib.hid (B9.out.trans (h10.mono B9.out.size))
      have W10 := Lib.hid (W9.out.trans (h10.mono W9.out.size))
      have O10 := Lib.hid (own_below O9.out h10)
      have I10 := Lib.hid hs10
      clear h10 hs10
      go_wp2_with (refine wpList_append_when _ (by rfl) (.tmp 36) (.tmp 38) 22 (by rfl) w8.heap.size 9 i0 (.string .empty) 1 16 Tryd.underlying22 hi0 hz0 hz1 hz2 (by rfl) (by decide) v9 I.length (I.map Value.string) (by rfl) O10.out w10.heap.size a10 J.length c10 (J.map Value.string) (by rfl) (strs_reads I10.out) (texts_ones J) hb3 hb4 W10.out.size ?_)
      intro v11 w11 hown11 hg11 _
      have hO11 : OwnT w11 w8.heap.size v11 (I ++ J) := by
        unfold OwnT
        rw [List.map_append, List.length_append]
        exact hown11
      have W11 := Lib.hid (show Below w8.heap.size w8 w11 from W10.out.grown hg11 W10.out.size (fun k hk => (O10.out.lt k hk).1))
      have B11 := Lib.hid (B8.out.trans (W11.out.mono B8.out.size))
      have T11 := Lib.hid (tab_below HT.out B11.out)
      obtain ⟨a11, c11, hv11, hs11⟩ := hO11.strs
      have hlen : (I ++ J).length ≤ 4294967296 := by rw [List.length_append, HIl.out.1, HIl.out.2]; omega
      have hcl2 := pclash_any (I ++ J) a11 (I ++ J).length c11 hlen HIJ.out true ⟨fun _ => HC.out, fun _ => rfl⟩ w11 hs11 T11.out
      obtain ⟨m, hm⟩ : ∃ m, (I ++ J).length = m := ⟨_, rfl⟩
      rw [hm] at hv11 hcl2
      have HCl := Lib.hid hcl2
      subst hv11
      clear hown11 hg11 hO11 hs11 hb1 hb2 hb3 hb4 hlen hcl2 hm
      go_wp2_with fail
      refine HCl.out.mono ?_
      rintro e w12 ⟨rfl, h12⟩
      have B12 := Lib.hid (B11.out.trans (h12.mono B11.out.size))
      clear h12
      go_wp2_with fail
      go_ret
      exact ⟨rfl, B12.out⟩
    · have hself : (RA.toList == RB.toList) = false := text_ne _ _ hR
      clear hAB hR
      go_wp2_with fail
      go_ret
      exact ⟨rfl, B6.out⟩
end Go.Proofs.YtdkjlijmejleoaaDoor.Sp
