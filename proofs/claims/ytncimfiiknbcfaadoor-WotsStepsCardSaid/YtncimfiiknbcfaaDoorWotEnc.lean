/- Package wots: the encoding of a number, a Tag's value, Step, secret. -/
import Derived.Test.YtncimfiiknbcfaaDoorWotPure
import Derived.Test.YtncimfiiknbcfaaDoorCodWn
import Derived.Test.YtncimfiiknbcfaaDoorShaTagP
namespace Go.Proofs.YtncimfiiknbcfaaDoor.Sp
open Go Go.RowKit
set_option maxRecDepth 100000

theorem tab_below {w w' : World} (h : Tab w) (hb : Below w.heap.size w w') : Tab w' := h.below hb h.lt
theorem tab_alloc {w : World} (h : Tab w) (o : Obj) : Tab (w.alloc o) := tab_below h ((Below.refl _ _).alloc (Nat.le_refl _) o)
theorem tab_drew_ {w : World} (h : Tab w) : Tab w.drew := h
/-- A block of texts, as Tag takes it. -/
theorem strs_of_blk {w : World} {g : Nat} {t : TypeId} {ss : List ByteArray} {n : Nat} (h : Blk w g t (ss.map Value.string).toArray) (hn : ss.length = n) : Strs w (some ⟨g, 0, none⟩) n ss := by
  refine ⟨hn, fun _ => ⟨g, 0, rfl, fun j hj => ?_⟩⟩
  have hj' : j < ss.length := by omega
  rw [h.cell]
  simp [List.getD, hj']
theorem wtag_of (d : Nat) (hd : d < 256) (a : Option Addr) (n c : Nat) (ss : List ByteArray) (w : World) (h : Strs w a n ss) (hn : n ≤ 9223372036854775807) (hlen : len2 ss n ≤ 140737488351300) (hT : Tab w) (R : ByteArray) (hR : R = ⟨(sum (inB (UInt8.ofNat d) ss)).toArray⟩) :
    Calls Tryd.prog 25 #[.int .u8 (d : Int), .slice a n c] w fun e w' => e = .returned (.string R) ∧ Below w.heap.size w w' := by
  have h1 := tag_any (UInt8.ofNat d) a n c ss w h hn hlen hT
  have e : ((UInt8.ofNat d).toNat : Int) = (d : Int) := by rw [UInt8.toNat_ofNat']; omega
  rw [e, ← hR] at h1
  exact h1
theorem len2_tri (a b c : ByteArray) : len2 [a, b, c] 3 = 13 + a.size + b.size + c.size := by simp [len2]; omega

set_option maxHeartbeats 1000000 in
theorem encoding_any (n : Int) (h0 : -9223372036854775808 ≤ n) (h1 : n ≤ 9223372036854775807) (w : World) :
    Calls Tryd.prog 32 #[.int .i64 n] w fun e w' => e = .returned (.string (numB n)) ∧ Below w.heap.size w w' := by
  obtain ⟨N, hN⟩ : ∃ N, encN n = N := ⟨_, rfl⟩
  have hNl : N < 18446744073709551616 := by rw [← hN]; exact encN_lt n
  obtain ⟨R, hR⟩ : ∃ R, numB n = R := ⟨_, rfl⟩
  have HR := Lib.hid (show R = ⟨([] ++ be 8 N).toArray⟩ from by rw [← hR, ← hN]; rfl)
  rw [hR]
  have HN := Lib.hid hN
  clear hR hN
  have num_ := fun (w2 : World) (hq : Wr w2 w.heap.size w.heap.size []) => wnum_any w.heap.size w.heap.size N [] hNl w2 hq (by simp)
  have Hnum := Lib.hid num_
  clear num_
  have bytes_ := fun (w2 : World) (hq : Wr w2 w.heap.size w.heap.size ([] ++ be 8 N)) => bytes_any w.heap.size w.heap.size ([] ++ be 8 N) w2 hq
  rw [← HR.out] at bytes_
  have Hbytes := Lib.hid bytes_
  clear bytes_
  by_cases hn : n < 0
  · have hN0 : N = 0 := by rw [← HN.out, encN, if_pos (.inl hn)]
    subst hN0
    clear h0 h1
    go_enter Tryd.func32, Tryd.ntmps32
    go_wp2_with fail
    refine (newWriter_any w).mono ?_
    rintro e w2 ⟨rfl, h2⟩
    have Q2 := Lib.hid (show Wr w2 w.heap.size w.heap.size [] from by rw [h2]; exact ⟨Nat.le_refl _, _, Blk.new _ _ _, World.ownsRow_nil _ _ _ _⟩)
    have B2 := Lib.hid (show Below w.heap.size w w2 from by rw [h2]; exact (Below.refl _ _).alloc (Nat.le_refl _) _)
    clear h2
    go_wp2_with fail
    refine (Hnum.out w2 Q2.out).mono ?_
    rintro e w3 ⟨rfl, h3, o3⟩
    have B3 := Lib.hid (B2.out.trans o3)
    have Q3 := Lib.hid h3
    clear h3 o3
    go_wp2_with fail
    refine (Hbytes.out w3 Q3.out).mono ?_
    rintro e w4 ⟨rfl, rfl⟩
    go_wp2_with fail
    go_ret
    exact ⟨rfl, B3.out⟩
  · by_cases hb : 4294967296 < n
    · have hN0 : N = 0 := by rw [← HN.out, encN, if_pos (.inr hb)]
      subst hN0
      clear h0 h1
      go_enter Tryd.func32, Tryd.ntmps32
      go_wp2_with fail
      refine (newWriter_any w).mono ?_
      rintro e w2 ⟨rfl, h2⟩
      have Q2 := Lib.hid (show Wr w2 w.heap.size w.heap.size [] from by rw [h2]; exact ⟨Nat.le_refl _, _, Blk.new _ _ _, World.ownsRow_nil _ _ _ _⟩)
      have B2 := Lib.hid (show Below w.heap.size w w2 from by rw [h2]; exact (Below.refl _ _).alloc (Nat.le_refl _) _)
      clear h2
      go_wp2_with fail
      refine (Hnum.out w2 Q2.out).mono ?_
      rintro e w3 ⟨rfl, h3, o3⟩
      have B3 := Lib.hid (B2.out.trans o3)
      have Q3 := Lib.hid h3
      clear h3 o3
      go_wp2_with fail
      refine (Hbytes.out w3 Q3.out).mono ?_
      rintro e w4 ⟨rfl, rfl⟩
      go_wp2_with fail
      go_ret
      exact ⟨rfl, B3.out⟩
    · have hN0 : n = (N : Int) := by
        rw [← HN.out, encN, if_neg (by omega)]; omega
      subst hN0
      have hw : IntKind.u64.wrap (N : Int) = (N : Int) := by rw [IntKind.wrap_u64]; omega
      clear h0 h1
      go_enter Tryd.func32, Tryd.ntmps32
      go_wp2_with fail
      refine (newWriter_any w).mono ?_
      rintro e w2 ⟨rfl, h2⟩
      have Q2 := Lib.hid (show Wr w2 w.heap.size w.heap.size [] from by rw [h2]; exact ⟨Nat.le_refl _, _, Blk.new _ _ _, World.ownsRow_nil _ _ _ _⟩)
      have B2 := Lib.hid (show Below w.heap.size w w2 from by rw [h2]; exact (Below.refl _ _).alloc (Nat.le_refl _) _)
      clear h2
      go_wp2_with fail
      refine (Hnum.out w2 Q2.out).mono ?_
      rintro e w3 ⟨rfl, h3, o3⟩
      have B3 := Lib.hid (B2.out.trans o3)
      have Q3 := Lib.hid h3
      clear h3 o3
      go_wp2_with fail
      refine (Hbytes.out w3 Q3.out).mono ?_
      rintro e w4 ⟨rfl, rfl⟩
      go_wp2_with fail
      go_ret
      exact ⟨rfl, B3.out⟩

/-- The value of the Tag of some texts. -/
theorem valueOf_any (d : Nat) (hd : d < 256) (a : Option Addr) (n c : Nat) (ss : List ByteArray) (w : World) (h : Strs w a n ss) (hn : n ≤ 9223372036854775807) (hlen : len2 ss n ≤ 140737488351300) (hT : Tab w) (Z : ByteArray) (hZ : Z = cut16 (sum (inB (UInt8.ofNat d) ss))) :
    Calls Tryd.prog 31 #[.int .u8 (d : Int), .slice a n c] w fun e w' => e = .returned (.string Z) ∧ Below w.heap.size w w' := by
  obtain ⟨R, hR⟩ : ∃ R : ByteArray, R = ⟨(sum (inB (UInt8.ofNat d) ss)).toArray⟩ := ⟨_, rfl⟩
  have hRs : R.size = 32 := by rw [← size_list, hR]; exact sum_length _
  have hx : R.extract 0 16 = Z := by
    apply list_inj
    rw [extract_list, List.drop_zero, hR, hZ]
    rfl
  have hRi : (16 : Int) ≤ (R.size : Int) := by omega
  have HV := Lib.hid (wtag_of d hd a n c ss w h hn hlen hT R hR)
  clear h hlen hT hR hZ hRs hn
  go_enter Tryd.func31, Tryd.ntmps31
  go_wp2_with fail
  refine HV.out.mono ?_
  rintro e w1 ⟨rfl, h1⟩
  have B1 := Lib.hid h1
  clear h1
  go_wp2_with fail
  go_ret
  exact ⟨rfl, B1.out⟩

set_option maxHeartbeats 1000000 in
theorem wstep_any (c i : Int) (v : ByteArray) (hc : -9223372036854775808 ≤ c ∧ c ≤ 9223372036854775807) (hi : -9223372036854775808 ≤ i ∧ i ≤ 9223372036854775807) (hv : v.size ≤ 140737488351232) (w : World) (hT : Tab w) :
    Calls Tryd.prog 20 #[.int .i64 c, .int .i64 i, .string v] w fun e w' => e = .returned (.string (stepB c i v)) ∧ Below w.heap.size w w' := by
  obtain ⟨C, hC⟩ : ∃ C, numB c = C := ⟨_, rfl⟩
  obtain ⟨I, hI⟩ : ∃ I, numB i = I := ⟨_, rfl⟩
  obtain ⟨Z, hZ⟩ : ∃ Z, stepB c i v = Z := ⟨_, rfl⟩
  have HZ := Lib.hid (show Z = cut16 (sum (inB (UInt8.ofNat 2) [C, I, v])) from by rw [← hZ, ← hC, ← hI]; rfl)
  have hlen : len2 [C, I, v] 3 ≤ 140737488351300 := by
    rw [len2_tri, ← hC, ← hI, numB_size, numB_size]; omega
  have HL := Lib.hid hlen
  have HC := Lib.hid (encoding_any c hc.1 hc.2)
  have HI := Lib.hid (encoding_any i hi.1 hi.2)
  rw [hC] at HC
  rw [hI] at HI
  have HT := Lib.hid hT
  rw [hZ]
  clear hlen hC hI hT hZ
  go_enter Tryd.func20, Tryd.ntmps20
  go_wp2_with fail
  refine (HC.out w).mono ?_
  rintro e w1 ⟨rfl, h1⟩
  have T1 := Lib.hid (tab_below HT.out h1)
  have B1 := Lib.hid h1
  clear h1
  go_wp2_with fail
  refine (HI.out w1).mono ?_
  rintro e w2 ⟨rfl, h2⟩
  have T2 := Lib.hid (tab_below T1.out h2)
  have B2 := Lib.hid (B1.out.trans (h2.mono B1.out.size))
  clear h2
  go_wp2_with fail
  refine (valueOf_any 2 (by omega) (some ⟨w2.heap.size, 0, none⟩) 3 3 [C, I, v] _ (strs_of_blk (Blk.new w2 9 _) rfl) (by omega) HL.out (tab_alloc T2.out _) Z HZ.out).mono ?_
  rintro e w3 ⟨rfl, h3⟩
  have B3 := Lib.hid ((B2.out.alloc B2.out.size (.cells #[.string C, .string I, .string v] 9)).trans (h3.mono (by have := B2.out.size; simp; omega)))
  clear h3
  go_wp2_with fail
  go_ret
  exact ⟨rfl, B3.out⟩

set_option maxHeartbeats 1000000 in
theorem secret_any (seed : ByteArray) (l c : Int) (hl : -9223372036854775808 ≤ l ∧ l ≤ 9223372036854775807) (hc : -9223372036854775808 ≤ c ∧ c ≤ 9223372036854775807) (hv : seed.size ≤ 140737488351232) (w : World) (hT : Tab w) :
    Calls Tryd.prog 28 #[.string seed, .int .i64 l, .int .i64 c] w fun e w' => e = .returned (.string (secretB seed l c)) ∧ Below w.heap.size w w' := by
  obtain ⟨C, hC⟩ : ∃ C, numB l = C := ⟨_, rfl⟩
  obtain ⟨I, hI⟩ : ∃ I, numB c = I := ⟨_, rfl⟩
  obtain ⟨Z, hZ⟩ : ∃ Z, secretB seed l c = Z := ⟨_, rfl⟩
  have HZ := Lib.hid (show Z = cut16 (sum (inB (UInt8.ofNat 3) [seed, C, I])) from by rw [← hZ, ← hC, ← hI]; rfl)
  have hlen : len2 [seed, C, I] 3 ≤ 140737488351300 := by
    rw [len2_tri, ← hC, ← hI, numB_size, numB_size]; omega
  have HL := Lib.hid hlen
  have HC := Lib.hid (encoding_any l hl.1 hl.2)
  have HI := Lib.hid (encoding_any c hc.1 hc.2)
  rw [hC] at HC
  rw [hI] at HI
  have HT := Lib.hid hT
  rw [hZ]
  clear hlen hC hI hT hZ
  go_enter Tryd.func28, Tryd.ntmps28
  go_wp2_with fail
  refine (HC.out w).mono ?_
  rintro e w1 ⟨rfl, h1⟩
  have T1 := Lib.hid (tab_below HT.out h1)
  have B1 := Lib.hid h1
  clear h1
  go_wp2_with fail
  refine (HI.out w1).mono ?_
  rintro e w2 ⟨rfl, h2⟩
  have T2 := Lib.hid (tab_below T1.out h2)
  have B2 := Lib.hid (B1.out.trans (h2.mono B1.out.size))
  clear h2
  go_wp2_with fail
  refine (valueOf_any 3 (by omega) (some ⟨w2.heap.size, 0, none⟩) 3 3 [seed, C, I] _ (strs_of_blk (Blk.new w2 9 _) rfl) (by omega) HL.out (tab_alloc T2.out _) Z HZ.out).mono ?_
  rintro e w3 ⟨rfl, h3⟩
  have B3 := Lib.hid ((B2.out.alloc B2.out.size (.cells #[.string seed, .string C, .string I] 9)).trans (h3.mono (by have := B2.out.size; simp; omega)))
  clear h3
  go_wp2_with fail
  go_ret
  exact ⟨rfl, B3.out⟩
end Go.Proofs.YtncimfiiknbcfaaDoor.Sp
