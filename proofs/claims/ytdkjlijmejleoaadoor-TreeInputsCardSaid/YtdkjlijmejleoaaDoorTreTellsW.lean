/- The walks of TreeTells and TreeGrows. -/
import Derived.Test.YtdkjlijmejleoaaDoorTreClimb
import Derived.Test.YtdkjlijmejleoaaDoorTreSibsW
namespace Go.Proofs.YtdkjlijmejleoaaDoor.Sp
open Go Go.RowKit

theorem q_root (l : List ByteArray) (a : Option Addr) (n cap : Nat) (w : World) (hn : n ≤ 9223372036854775807) (hM : ∀ x ∈ l, ∀ y ∈ l, x.size + y.size ≤ TM) (hl : Strs w a n l) (hT : Tabs w) :
    Calls Tryd.prog 14 #[.slice a n cap] w fun e w' => e = .returned (.string (rootB l)) ∧ Below w.heap.size w w' :=
  qroot_of Tabs (fun _ h => h.drew_) (fun _ _ h hb => h.below hb) TM (by decide) (fun a b w h ht => qnode_any a b w h ht) l a n cap hn hM w hl hT
theorem q_path (l : List ByteArray) (a : Option Addr) (n cap : Nat) (i : Int) (w : World) (hn : n ≤ 9223372036854775807) (hM : ∀ x ∈ l, ∀ y ∈ l, x.size + y.size ≤ TM) (hl : Strs w a n l) (hT : Tabs w) :
    Calls Tryd.prog 17 #[.slice a n cap, .int .i64 i] w (TextsTo (pathB l i) w) :=
  qpath_of Tabs (fun _ h => h.drew_) (fun _ _ h hb => h.below hb) TM (by decide) (fun a b w h ht => qnode_any a b w h ht) l a n cap hn i hM w hl hT
theorem q_inputs (l : List ByteArray) (a : Option Addr) (n cap : Nat) (w : World) (hn : n ≤ 9223372036854775807) (hM : ∀ x ∈ l, ∀ y ∈ l, x.size + y.size ≤ TM) (hl : Strs w a n l) (hT : Tabs w) :
    Calls Tryd.prog 19 #[.slice a n cap] w (TextsTo (inputsB l) w) :=
  qinputs_of Tabs (fun _ h => h.drew_) (fun _ _ h hb => h.below hb) TM (by decide) (fun a b w h ht => qnode_any a b w h ht) (fun a b g c w hs h => qinp_any a b g c w hs h) l a n cap hn hM w hl hT
theorem q_climb (x : ByteArray) (i : Int) (l : List ByteArray) (a : Option Addr) (n cap : Nat) (w : World) (hn : n ≤ 4294967296) (hi : -9223372036854775808 ≤ i ∧ i ≤ 9223372036854775807) (hM : ∀ y ∈ l, x.size + y.size ≤ TM ∧ 32 + y.size ≤ TM) (hl : Strs w a n l) (hT : Tabs w) :
    Calls Tryd.prog 21 #[.string x, .int .i64 i, .slice a n cap] w fun e w' => e = .returned (.string (climbI x i l)) ∧ Below w.heap.size w w' :=
  qclimb_of Tabs (fun _ h => h.drew_) (fun _ _ h hb => h.below hb) TM (fun a b w h ht => qnode_any a b w h ht) x i hi l a n cap (by omega) hM w hl hT
theorem q_climbed (x : ByteArray) (i : Int) (l : List ByteArray) (a : Option Addr) (n cap : Nat) (w : World) (hn : n ≤ 4294967296) (hi : -9223372036854775808 ≤ i ∧ i ≤ 9223372036854775807) (hM : ∀ y ∈ l, x.size + y.size ≤ TM ∧ 32 + y.size ≤ TM) (hl : Strs w a n l) (hT : Tabs w) :
    Calls Tryd.prog 23 #[.string x, .int .i64 i, .slice a n cap] w (TextsTo (climbedI x i l) w) :=
  qclimbed_of Tabs (fun _ _ h hb => h.below hb) TM (fun a b w h ht => qnode_any a b w h ht) (fun a b g c w hs h => qinp_any a b g c w hs h) x i hi l a n cap hn hM w hl hT

/-- The first texts of a list. -/
theorem first_any (a : Option Addr) (n c k : Nat) (hk : k ≤ c) : ∃ p : Option Addr, (∀ W : World, (Instr.slice 22 (.slice a n c) none (some (.int .i64 (k : Int))) none).run Tryd.prog W = .ok (.slice p k c) W) ∧
    ∀ (W : World) (l : List ByteArray), k ≤ n → Strs W a n l → Strs W p k (l.take k) := by
  refine ⟨a.map fun p => p.add 0, fun W => ?_, fun W l hkn h => ⟨by have := h.1; rw [List.length_take]; omega, fun hp => ?_⟩⟩
  · have h := run_slice_h (P := Tryd.prog) W 22 a n c Tryd.underlying22 .i64 (k : Int) (by omega) (by omega)
    rw [h]
    have hz : (sizeOf (Tryd.prog.elem 22)).run Tryd.prog W = .ok 1 W := Tryd.sizeOf9 W
    rw [hz]
    simp only [Result.andThen_ok, sliced]
    congr 2
    by_cases hc1 : c = 0
    · subst hc1; cases a <;> simp [Addr.add]
    · simp [hc1]
  · obtain ⟨b, off, e, hc⟩ := h.2 (by omega)
    subst e
    refine ⟨b, off, by simp [Addr.add], fun j hj => ?_⟩
    have h3 := hc j (by omega)
    rw [h3]
    congr 2
    simp [List.getD, hj]

theorem last_getD (l : List ByteArray) (_h : 0 < l.length) : l.getD (l.length - 1) .empty = l.getLastD .empty := by
  rw [List.getLastD_eq_getLast?, List.getLast?_eq_getElem?, List.getD_eq_getElem?_getD]
theorem pathB_len (l : List ByteArray) (i : Int) : (pathB l i).length ≤ 7 := by
  unfold pathB
  split
  · rename_i h
    obtain ⟨⟨k, h7, e⟩, _⟩ := h
    rw [path_len, e, hOf_pow]; exact h7
  · exact Nat.zero_le _
theorem inputsB_len (l : List ByteArray) : (inputsB l).length ≤ 128 := by
  unfold inputsB
  split
  · rename_i h
    obtain ⟨k, h7, e⟩ := h
    rw [e, hOf_pow, inputs_len k l e]
    have : 2 ^ k ≤ 2 ^ 7 := Nat.pow_le_pow_right (by omega) h7
    omega
  · exact Nat.zero_le _
theorem min_forms (n m k : Nat) (h : Nat.min n m = k) : (if (m : Int) < (n : Int) then (m : Int) else (n : Int)) = (k : Int) ∧ (if (n : Int) < (m : Int) then (n : Int) else (m : Int)) = (k : Int) ∧ (if (n : Int) ≤ (m : Int) then (n : Int) else (m : Int)) = (k : Int) ∧ (if (m : Int) ≤ (n : Int) then (m : Int) else (n : Int)) = (k : Int) ∧ k ≤ n ∧ k ≤ m := by
  have h1 : k = if n ≤ m then n else m := by rw [← h]; rfl
  refine ⟨?_, ?_, ?_, ?_, ?_, ?_⟩ <;> split at h1 <;> (try split) <;> omega

set_option maxRecDepth 100000 in
set_option maxHeartbeats 8000000 in
theorem tells_law (P : TreeP) (l0 : List ByteArray) (a0 : Option Addr) (n0 c0 : Nat) (i : Int) (x : ByteArray) (l1 : List ByteArray) (a1 : Option Addr) (n1 c1 : Nat) (hi : -9223372036854775808 ≤ i ∧ i ≤ 9223372036854775807) (hc0 : n0 ≤ c0) (hc1 : n1 ≤ c1)
    (hM0 : ∀ x ∈ l0, ∀ y ∈ l0, x.size + y.size ≤ TM) (hxs : x.size ≤ 140737488355328) (hM1 : ∀ y ∈ l1, x.size + y.size ≤ TM ∧ 32 + y.size ≤ TM) (w : World) (hl0 : Strs w a0 n0 l0) (hl1 : Strs w a1 n1 l1) (hT : Tab w) (hQ : Tabs w) :
    Calls Tryd.prog 3 #[.slice a0 n0 c0, .int .i64 i, .string x, .slice a1 n1 c1] w fun e w' => e = .returned (.bool true) ∧ Below w.heap.size w w' := by
  obtain ⟨k0, hk0⟩ : ∃ k, Nat.min n0 200 = k := ⟨_, rfl⟩
  obtain ⟨k1, hk1⟩ : ∃ k, Nat.min n1 50 = k := ⟨_, rfl⟩
  obtain ⟨m1, m2, m3, m4, m5, m6⟩ := min_forms n0 200 k0 hk0
  obtain ⟨m7, m8, m9, m10, m11, m12⟩ := min_forms n1 50 k1 hk1
  simp only [Int.cast_ofNat_Int] at m1 m2 m3 m4 m7 m8 m9 m10
  obtain ⟨p0, e0, f0⟩ := first_any a0 n0 c0 k0 (by omega)
  obtain ⟨p1, e1, f1⟩ := first_any a1 n1 c1 k1 (by omega)
  obtain ⟨L, hL⟩ : ∃ L, l0.take k0 = L := ⟨_, rfl⟩
  obtain ⟨Q, hQe⟩ : ∃ Q, l1.take k1 = Q := ⟨_, rfl⟩
  have hML : ∀ x ∈ L, ∀ y ∈ L, x.size + y.size ≤ TM := fun x hx y hy => hM0 x (by rw [← hL] at hx; exact List.mem_of_mem_take hx) y (by rw [← hL] at hy; exact List.mem_of_mem_take hy)
  have hMQ : ∀ y ∈ Q, x.size + y.size ≤ TM ∧ 32 + y.size ≤ TM := fun y hy => hM1 y (by rw [← hQe] at hy; exact List.mem_of_mem_take hy)
  have FL := Lib.hid (fun W h => show Strs W p0 k0 L from hL ▸ f0 W l0 m5 h)
  have FQ := Lib.hid (fun W h => show Strs W p1 k1 Q from hQe ▸ f1 W l1 m11 h)
  obtain ⟨R, hR⟩ : ∃ R, rootB L = R := ⟨_, rfl⟩
  obtain ⟨A, hA⟩ : ∃ A, pathB L i = A := ⟨_, rfl⟩
  obtain ⟨I, hI⟩ : ∃ I, inputsB L = I := ⟨_, rfl⟩
  obtain ⟨C, hC⟩ : ∃ C, climbI x i Q = C := ⟨_, rfl⟩
  obtain ⟨D, hD⟩ : ∃ D, climbedI x i Q = D := ⟨_, rfl⟩
  have R1 := Lib.hid (fun W hs ht => P.root L p0 k0 c0 W (by omega) hML hs ht)
  have R2 := Lib.hid (fun W hs ht => q_root L p0 k0 c0 W (by omega) hML hs ht)
  have A1 := Lib.hid (fun W hs ht => P.path L p0 k0 c0 i W (by omega) hi hML hs ht)
  have A2 := Lib.hid (fun W hs ht => q_path L p0 k0 c0 i W (by omega) hML hs ht)
  have I1 := Lib.hid (fun W hs ht => P.inputs L p0 k0 c0 W (by omega) hML hs ht)
  have I2 := Lib.hid (fun W hs ht => q_inputs L p0 k0 c0 W (by omega) hML hs ht)
  have C1 := Lib.hid (fun W hs ht => P.climb x i Q p1 k1 c1 W (by omega) hi hxs hMQ hs ht)
  have C2 := Lib.hid (fun W hs ht => q_climb x i Q p1 k1 c1 W (by omega) hi hMQ hs ht)
  have D1 := Lib.hid (fun W hs ht => P.climbed x i Q p1 k1 c1 W (by omega) hi hMQ hs ht)
  have D2 := Lib.hid (fun W hs ht => q_climbed x i Q p1 k1 c1 W (by omega) hi hMQ hs ht)
  rw [hR] at R1 R2
  rw [hA] at A1 A2
  rw [hI] at I1 I2
  rw [hC] at C1 C2
  rw [hD] at D1 D2
  have hsR := text_self R
  have hsC := text_self C
  have HAl := Lib.hid (show A.length ≤ 9223372036854775807 from by rw [← hA]; exact Nat.le_trans (pathB_len L i) (by omega))
  have HIl := Lib.hid (show I.length ≤ 9223372036854775807 from by rw [← hI]; exact Nat.le_trans (inputsB_len L) (by omega))
  have HDl := Lib.hid (show D.length ≤ 9223372036854775807 from by
    rw [← hD]; unfold climbedI; rw [climbed_len, ← hQe, List.length_take]; omega)
  have HT := Lib.hid (And.intro hT hQ)
  have HL0 := Lib.hid (And.intro hl0 hl1)
  clear hL hQe hML hMQ hR hA hI hC hD hT hQ hl0 hl1 hM0 hM1 f0 f1 hk0 hk1 hi
  go_enter Tryd.func3, Tryd.ntmps3
  go_wp2_with fail
  refine (awake_any P w HT.out.1).mono ?_
  rintro e w1 ⟨rfl, h1⟩
  have T1 := Lib.hid (And.intro (tab_below HT.out.1 h1) (HT.out.2.below h1))
  have L1 := Lib.hid (And.intro (FL.out _ (HL0.out.1.below h1)) (FQ.out _ (HL0.out.2.below h1)))
  have B1 := Lib.hid h1
  clear h1
  go_wp2_with fail
  refine (R1.out w1 L1.out.1 T1.out.1).mono ?_
  rintro e w2 ⟨rfl, h2⟩
  have T2 := Lib.hid (And.intro (tab_below T1.out.1 h2) (T1.out.2.below h2))
  have L2 := Lib.hid (And.intro (L1.out.1.below h2) (L1.out.2.below h2))
  have B2 := Lib.hid (B1.out.trans (h2.mono B1.out.size))
  clear h2
  go_wp2_with fail
  refine (R2.out w2 L2.out.1 T2.out.2).mono ?_
  rintro e w3 ⟨rfl, h3⟩
  have T3 := Lib.hid (And.intro (tab_below T2.out.1 h3) (T2.out.2.below h3))
  have L3 := Lib.hid (And.intro (L2.out.1.below h3) (L2.out.2.below h3))
  have B3 := Lib.hid (B2.out.trans (h3.mono B2.out.size))
  clear h3
  go_wp2_with fail
  refine (A1.out w3 L3.out.1 T3.out.1).mono ?_
  rintro e w4 ⟨a4, q4, rfl, hs4, h4, _⟩
  have T4 := Lib.hid (And.intro (tab_below T3.out.1 h4) (T3.out.2.below h4))
  have L4 := Lib.hid (And.intro (L3.out.1.below h4) (L3.out.2.below h4))
  have B4 := Lib.hid (B3.out.trans (h4.mono B3.out.size))
  have S4 := Lib.hid hs4
  clear hs4 h4
  go_wp2_with fail
  refine (A2.out w4 L4.out.1 T4.out.2).mono ?_
  rintro e w5 ⟨a5, q5, rfl, hs5, h5, _⟩
  have T5 := Lib.hid (And.intro (tab_below T4.out.1 h5) (T4.out.2.below h5))
  have L5 := Lib.hid (And.intro (L4.out.1.below h5) (L4.out.2.below h5))
  have B5 := Lib.hid (B4.out.trans (h5.mono B4.out.size))
  have S5 := Lib.hid hs5
  have S4b := Lib.hid (S4.out.below h5)
  clear hs5 h5
  go_wp2_with fail
  refine (texts_any A A a4 a5 A.length A.length q4 q5 w5 S4b.out S5.out HAl.out true ⟨fun _ => rfl, fun _ => rfl⟩).mono ?_
  rintro e w6 ⟨rfl, h6⟩
  have T6 := Lib.hid (And.intro (tab_below T5.out.1 h6) (T5.out.2.below h6))
  have L6 := Lib.hid (And.intro (L5.out.1.below h6) (L5.out.2.below h6))
  have B6 := Lib.hid (B5.out.trans (h6.mono B5.out.size))
  clear h6
  go_wp2_with fail
  refine (I1.out w6 L6.out.1 T6.out.1).mono ?_
  rintro e w7 ⟨a7, q7, rfl, hs7, h7, _⟩
  have T7 := Lib.hid (And.intro (tab_below T6.out.1 h7) (T6.out.2.below h7))
  have L7 := Lib.hid (And.intro (L6.out.1.below h7) (L6.out.2.below h7))
  have B7 := Lib.hid (B6.out.trans (h7.mono B6.out.size))
  have S7 := Lib.hid hs7
  clear hs7 h7
  go_wp2_with fail
  refine (I2.out w7 L7.out.1 T7.out.2).mono ?_
  rintro e w8 ⟨a8, q8, rfl, hs8, h8, _⟩
  have T8 := Lib.hid (And.intro (tab_below T7.out.1 h8) (T7.out.2.below h8))
  have L8 := Lib.hid (And.intro (L7.out.1.below h8) (L7.out.2.below h8))
  have B8 := Lib.hid (B7.out.trans (h8.mono B7.out.size))
  have S8 := Lib.hid hs8
  have S7b := Lib.hid (S7.out.below h8)
  clear hs8 h8
  go_wp2_with fail
  refine (texts_any I I a7 a8 I.length I.length q7 q8 w8 S7b.out S8.out HIl.out true ⟨fun _ => rfl, fun _ => rfl⟩).mono ?_
  rintro e w9 ⟨rfl, h9⟩
  have T9 := Lib.hid (And.intro (tab_below T8.out.1 h9) (T8.out.2.below h9))
  have L9 := Lib.hid (And.intro (L8.out.1.below h9) (L8.out.2.below h9))
  have B9 := Lib.hid (B8.out.trans (h9.mono B8.out.size))
  clear h9
  go_wp2_with fail
  refine (C1.out w9 L9.out.2 T9.out.1).mono ?_
  rintro e w10 ⟨rfl, h10⟩
  have T10 := Lib.hid (And.intro (tab_below T9.out.1 h10) (T9.out.2.below h10))
  have L10 := Lib.hid (And.intro (L9.out.1.below h10) (L9.out.2.below h10))
  have B10 := Lib.hid (B9.out.trans (h10.mono B9.out.size))
  clear h10
  go_wp2_with fail
  refine (C2.out w10 L10.out.2 T10.out.2).mono ?_
  rintro e w11 ⟨rfl, h11⟩
  have T11 := Lib.hid (And.intro (tab_below T10.out.1 h11) (T10.out.2.below h11))
  have L11 := Lib.hid (And.intro (L10.out.1.below h11) (L10.out.2.below h11))
  have B11 := Lib.hid (B10.out.trans (h11.mono B10.out.size))
  clear h11
  go_wp2_with fail
  refine (D1.out w11 L11.out.2 T11.out.1).mono ?_
  rintro e w12 ⟨a12, q12, rfl, hs12, h12, _⟩
  have T12 := Lib.hid (And.intro (tab_below T11.out.1 h12) (T11.out.2.below h12))
  have L12 := Lib.hid (And.intro (L11.out.1.below h12) (L11.out.2.below h12))
  have B12 := Lib.hid (B11.out.trans (h12.mono B11.out.size))
  have S12 := Lib.hid hs12
  clear hs12 h12
  go_wp2_with fail
  refine (D2.out w12 L12.out.2 T12.out.2).mono ?_
  rintro e w13 ⟨a13, q13, rfl, hs13, h13, _⟩
  have T13 := Lib.hid (And.intro (tab_below T12.out.1 h13) (T12.out.2.below h13))
  have L13 := Lib.hid (And.intro (L12.out.1.below h13) (L12.out.2.below h13))
  have B13 := Lib.hid (B12.out.trans (h13.mono B12.out.size))
  have S13 := Lib.hid hs13
  have S12b := Lib.hid (S12.out.below h13)
  clear hs13 h13
  go_wp2_with fail
  refine (texts_any D D a12 a13 D.length D.length q12 q13 w13 S12b.out S13.out HDl.out true ⟨fun _ => rfl, fun _ => rfl⟩).mono ?_
  rintro e w14 ⟨rfl, h14⟩
  have T14 := Lib.hid (And.intro (tab_below T13.out.1 h14) (T13.out.2.below h14))
  have L14 := Lib.hid (And.intro (L13.out.1.below h14) (L13.out.2.below h14))
  have B14 := Lib.hid (B13.out.trans (h14.mono B13.out.size))
  clear h14
  go_wp2_with fail
  go_ret
  exact ⟨rfl, B14.out⟩
end Go.Proofs.YtdkjlijmejleoaaDoor.Sp
