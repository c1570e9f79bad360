/- The statement on unlike inputs: its walk. -/
import Derived.Test.YtchdnfhajcfdoaaDoorShaInputsW
import Derived.Deep.QuietTactic
import Derived.BigQuiet
namespace Go.Proofs.YtchdnfhajcfdoaaDoor.Sp
open Go Go.RowKit

theorem bytes4_inj (x y : W) (h : bytes4 x = bytes4 y) : x = y := by
  unfold bytes4 at h
  injection h with h1 h
  injection h with h2 h
  injection h with h3 h
  injection h with h4 _
  rw [← word_bytes4 x, ← word_bytes4 y, h1, h2, h3, h4]
theorem partB_inj (s t : ByteArray) (r q : List UInt8) (hs : s.size < 4294967296) (ht : t.size < 4294967296) (h : partB s ++ r = partB t ++ q) : s = t ∧ r = q := by
  unfold partB at h
  rw [List.append_assoc, List.append_assoc] at h
  obtain ⟨h1, h2⟩ := List.append_inj h (by rw [bytes4_length, bytes4_length])
  have h3 := congrArg BitVec.toNat (bytes4_inj _ _ h1)
  rw [BitVec.toNat_ofNat, BitVec.toNat_ofNat] at h3
  obtain ⟨h4, h5⟩ := List.append_inj h2 (by rw [size_list, size_list]; omega)
  refine ⟨?_, h5⟩
  have h6 : s.data = t.data := Array.toList_inj.1 h4
  cases s; cases t; simp only at h6; rw [h6]
theorem flat_inj : ∀ (a b : List ByteArray), (∀ s ∈ a, s.size < 4294967296) → (∀ s ∈ b, s.size < 4294967296) → a.flatMap partB = b.flatMap partB → a = b
  | [], [], _, _, _ => rfl
  | [], t :: b, _, _, h => by
    exfalso
    have := congrArg List.length h
    simp [List.flatMap_cons, partB, bytes4_length] at this
    omega
  | s :: a, [], _, _, h => by
    exfalso
    have := congrArg List.length h
    simp [List.flatMap_cons, partB, bytes4_length] at this
  | s :: a, t :: b, h1, h2, h => by
    rw [List.flatMap_cons, List.flatMap_cons] at h
    obtain ⟨e1, e2⟩ := partB_inj s t _ _ (h1 s (by simp)) (h2 t (by simp)) h
    rw [e1, flat_inj a b (fun x hx => h1 x (by simp [hx])) (fun x hx => h2 x (by simp [hx])) e2]
theorem inB_inj (d e : UInt8) (a b : List ByteArray) (h1 : ∀ s ∈ a, s.size < 4294967296) (h2 : ∀ s ∈ b, s.size < 4294967296) (h : inB d a = inB e b) : d = e ∧ a = b := by
  unfold inB at h
  injection h with h3 h4
  exact ⟨h3, flat_inj a b h1 h2 h4⟩
theorem cut_small (ss : List ByteArray) : ∀ s ∈ ss.map cutB, s.size < 4294967296 := by
  intro s hs
  obtain ⟨t, _, rfl⟩ := List.mem_map.1 hs
  rw [cutB_size]; omega

/-- How far two lists of parts have been seen to agree. -/
def Agree (d e : UInt8) (A B : List ByteArray) (k : Nat) (sb : Bool) : Prop :=
  (sb = true → d = e ∧ A.length = B.length ∧ ∀ j, j < k → A.getD j ByteArray.empty = B.getD j ByteArray.empty) ∧ (sb = false → ¬ (d = e ∧ A = B))
theorem Agree.next {d e : UInt8} {A B : List ByteArray} {k : Nat} (h : Agree d e A B k true) :
    Agree d e A B (k + 1) ((A.getD k ByteArray.empty).toList == (B.getD k ByteArray.empty).toList) := by
  obtain ⟨h1, h2, h3⟩ := h.1 rfl
  refine ⟨fun ht => ⟨h1, h2, fun j hj => ?_⟩, fun hf ⟨_, hAB⟩ => ?_⟩
  · by_cases hk : j < k
    · exact h3 j hk
    · obtain rfl : j = k := by omega
      have e := eq_of_beq ht
      rw [Lib.toList_data, Lib.toList_data] at e
      have h6 := Array.toList_inj.1 e
      generalize A.getD j ByteArray.empty = s at *
      generalize B.getD j ByteArray.empty = t at *
      cases s; cases t; simp only at h6; rw [h6]
  · rw [hAB] at hf; simp at hf
theorem Agree.zero (d e : UInt8) (A B : List ByteArray) (n m : Nat) (hA : A.length = n) (hB : B.length = m) {sb : Bool} (h : sb = (((d.toNat : Int) == (e.toNat : Int)) && ((n : Int) == (m : Int)))) : Agree d e A B 0 sb := by
  refine ⟨fun ht => ?_, fun hf hx => ?_⟩
  · rw [ht] at h
    have h2 := (Bool.and_eq_true_iff.1 h.symm)
    have g1 : (d.toNat : Int) = (e.toNat : Int) := eq_of_beq h2.1
    have g2 : (n : Int) = (m : Int) := eq_of_beq h2.2
    exact ⟨UInt8.toNat_inj.1 (by omega), by omega, fun j hj => by omega⟩
  · obtain ⟨rfl, rfl⟩ := hx
    have : n = m := by omega
    rw [hf, this] at h
    simp at h
theorem Agree.done {d e : UInt8} {A B : List ByteArray} {k : Nat} {sb : Bool} (h : Agree d e A B k sb) (hk : A.length ≤ k ∨ sb = false) (X Y : ByteArray) (hX : X = ⟨(inB d A).toArray⟩) (hY : Y = ⟨(inB e B).toArray⟩)
    (h1 : ∀ s ∈ A, s.size < 4294967296) (h2 : ∀ s ∈ B, s.size < 4294967296) : (X.toList == Y.toList) = sb := by
  have eq : X.toList = inB d A := by rw [Lib.toList_data, hX]
  have eq2 : Y.toList = inB e B := by rw [Lib.toList_data, hY]
  rw [eq, eq2]
  cases sb with
  | false =>
    rw [beq_eq_false_iff_ne]
    intro hh
    exact h.2 rfl (inB_inj d e A B h1 h2 hh)
  | true =>
    obtain ⟨g1, g2, g3⟩ := h.1 rfl
    have hA : A.length ≤ k := by rcases hk with hk | hk; exact hk; cases hk
    have : A = B := by
      apply List.ext_getElem g2
      intro i hi1 hi2
      have := g3 i (by omega)
      rw [List.getD_eq_getElem?_getD, List.getD_eq_getElem?_getD, List.getElem?_eq_getElem hi1, List.getElem?_eq_getElem hi2] at this
      exact this
    rw [g1, this]; simp

theorem tag_B (d : UInt8) (a : Option Addr) (n c : Nat) (ss : List ByteArray) (w : World) (h : Strs w a n ss) (hn : n ≤ 9223372036854775807) (hlen : len2 ss n ≤ 1099511627776) (hT : Tab w) (R : ByteArray) (hR : R = ⟨(sum (inB d ss)).toArray⟩) :
    Calls Tryd.prog 22 #[.int .u8 (d.toNat : Int), .slice a n c] w fun e w' => e = .returned (.string R) ∧ Below w.heap.size w w' := by
  rw [hR]; exact tag_any d a n c ss w h hn hlen hT

set_option maxHeartbeats 2000000 in
theorem apart_law (d f : UInt8) (a1 a2 : Option Addr) (n1 c1 n2 c2 : Nat) (s1 s2 : List ByteArray) (w : World) (h1 : Strs w a1 n1 s1) (h2 : Strs w a2 n2 s2) (hT : Tab w)
    (hb1 : len2 s1 n1 ≤ 100000000) (hb2 : len2 s2 n2 ≤ 100000000) (hn1 : n1 ≤ 100000000) (hn2 : n2 ≤ 100000000) (hz1 : ∀ s ∈ s1, s.size ≤ 9223372036854775807) (hz2 : ∀ s ∈ s2, s.size ≤ 9223372036854775807) :
    Calls Tryd.prog 7 #[.int .u8 (d.toNat : Int), .slice a1 n1 c1, .int .u8 (f.toNat : Int), .slice a2 n2 c2] w fun e w' => e = .returned (.bool true) ∧ Below w.heap.size w w' := by
  have HT := Lib.hid hT
  have H1 := Lib.hid h1
  have H2 := Lib.hid h2
  have Z1 := Lib.hid hz1
  have Z2 := Lib.hid hz2
  clear hT h1 h2 hz1 hz2
  -- what the two first tests say
  obtain ⟨sb0, hsb⟩ : ∃ sb0 : Bool, sb0 = (((d.toNat : Int) == (f.toNat : Int)) && ((n1 : Int) == (n2 : Int))) := ⟨_, rfl⟩
  have cases3 : (((d.toNat : Int) == (f.toNat : Int)) = false ∧ sb0 = false) ∨ (((d.toNat : Int) == (f.toNat : Int)) = true ∧ ((n1 : Int) == (n2 : Int)) = sb0) := by
    cases hd : ((d.toNat : Int) == (f.toNat : Int)) <;> rw [hd] at hsb <;> simp [hsb]
  have HSB := Lib.hid hsb
  clear hsb
  rcases cases3 with ⟨t1, rfl⟩ | ⟨t1, t2⟩
  all_goals
    go_enter Tryd.func7, Tryd.ntmps7
    go_wp2_with fail
    refine (awake_any _ HT.out).mono ?_
    rintro e w1 ⟨rfl, hb⟩
    have B1 := Lib.hid hb
    have S11 := Lib.hid (H1.out.below hb)
    have S21 := Lib.hid (H2.out.below hb)
    clear hb
    go_wp2_with fail
    refine (cut_any a1 n1 c1 s1 _ S11.out (by omega) Z1.out).mono ?_
    rintro e w2 ⟨a3, c3, rfl, hs3, hb⟩
    have hl1 : s1.length = n1 := H1.out.1
    rw [hl1] at hs3 ⊢
    have B2 := Lib.hid (B1.out.trans (hb.mono B1.out.size))
    have S22 := Lib.hid (S21.out.below hb)
    have S32 := Lib.hid hs3
    clear hb hs3
    go_wp2_with fail
    refine (cut_any a2 n2 c2 s2 _ S22.out (by omega) Z2.out).mono ?_
    rintro e w3 ⟨a4, c4, rfl, hs4, hb⟩
    have hl2 : s2.length = n2 := H2.out.1
    rw [hl2] at hs4 ⊢
    have B3 := Lib.hid (B2.out.trans (hb.mono B2.out.size))
    have S33 := Lib.hid (S32.out.below hb)
    have S43 := Lib.hid hs4
    clear hb hs4
    go_wp2_with fail
    obtain ⟨A, eA⟩ : ∃ A, A = s1.map cutB := ⟨_, rfl⟩
    obtain ⟨B, eB⟩ : ∃ B, B = s2.map cutB := ⟨_, rfl⟩
    rw [← eA] at S33
    rw [← eB] at S43
    have hAl : A.length = n1 := by rw [eA, List.length_map, hl1]
    have hBl : B.length = n2 := by rw [eB, List.length_map, hl2]
    have hA2 : len2 A n1 ≤ 100000000 := by rw [eA]; exact Nat.le_trans (len2_cut s1 n1) hb1
    have hB2 : len2 B n2 ≤ 100000000 := by rw [eB]; exact Nat.le_trans (len2_cut s2 n2) hb2
    have AS := Lib.hid (show ∀ s ∈ A, s.size < 4294967296 from by rw [eA]; exact cut_small s1)
    have BS := Lib.hid (show ∀ s ∈ B, s.size < 4294967296 from by rw [eB]; exact cut_small s2)
    have AG := Lib.hid (Agree.zero d f A B n1 n2 hAl hBl HSB.out)
    have HAl := Lib.hid hAl
    have HBl := Lib.hid hBl
    clear eA eB hAl hBl hl1 hl2
    go_loopw [12, 13] (fun v i wr => ∃ (k : Nat) (sb : Bool), k ≤ n1 ∧ v = .bool sb ∧ i = .int .i64 (k : Int) ∧ Agree d f A B k sb ∧ ∃ n, wr = w3.drewN n) (fun _ i _ => n1 - (intOf i).toNat)
    case atStart => exact ⟨0, _, Nat.zero_le _, rfl, rfl, AG.out, 0, rfl⟩
    case round =>
      obtain ⟨k, sb, hk, rfl, rfl, hag, n, hw⟩ := hrel
      have HAG := Lib.hid hag
      have S3r := Lib.hid (show Strs wr a3 n1 A from by rw [hw]; exact S33.out)
      have S4r := Lib.hid (show Strs wr a4 n2 B from by rw [hw]; exact S43.out)
      have Br := Lib.hid (show Below w.heap.size w wr from by rw [hw]; exact below_drewN B3.out n)
      have HW := Lib.hid hw
      clear hag hw
      by_cases hcont : k < n1 ∧ sb = true
      · obtain ⟨hlt, rfl⟩ := hcont
        have hn12 : n1 = n2 := by have := (HAG.out.1 rfl).2.1; rw [HAl.out, HBl.out] at this; exact this
        obtain ⟨b3, o3, rfl, hc3⟩ := S3r.out.2 (by omega)
        obtain ⟨b4, o4, rfl, hc4⟩ := S4r.out.2 (by omega)
        obtain ⟨T3, e3⟩ : ∃ T, T = A.getD k ByteArray.empty := ⟨_, rfl⟩
        obtain ⟨T4, e4⟩ : ∃ T, T = B.getD k ByteArray.empty := ⟨_, rfl⟩
        have q3 := hc3 k hlt
        have q4 := hc4 k (by omega)
        rw [← e3] at q3
        rw [← e4] at q4
        have hki : (k : Int) < (n1 : Int) := by omega
        have hki2 : (k : Int) < (n2 : Int) := by omega
        have hk0 : (0 : Int) ≤ (k : Int) := by omega
        have NX := Lib.hid (show Agree d f A B (k + 1) (T3.toList == T4.toList) from by rw [e3, e4]; exact HAG.out.next)
        clear hc3 hc4 e3 e4 hn12
        go_wp2_with fail
        go_quiet (fail)
        go_wp2_with fail
        go_roundw
        case rel => exact ⟨k + 1, _, by omega, rfl, by go_num, NX.out, n + nq, by rw [HW.out, World.drewN_drewN]⟩
        case measure => simp [intOf]; omega
      · obtain ⟨X, eX⟩ : ∃ X : ByteArray, X = ⟨(inB d A).toArray⟩ := ⟨_, rfl⟩
        obtain ⟨Y, eY⟩ : ∃ Y : ByteArray, Y = ⟨(inB f B).toArray⟩ := ⟨_, rfl⟩
        have hXs := inB_size d A X eX
        rw [HAl.out] at hXs
        have hX9 : X.size ≤ 9223372036854775000 := by omega
        have xs : (X.toList == Y.toList) = sb := HAG.out.done (by rw [HAl.out]; cases sb <;> simp at hcont ⊢; omega) X Y eX eY AS.out BS.out
        obtain ⟨R, eR⟩ : ∃ R : ByteArray, R = ⟨(sum (inB d A)).toArray⟩ := ⟨_, rfl⟩
        have ER := Lib.hid eR
        have ER2 := Lib.hid (show R = ⟨(sum X.data.toList).toArray⟩ from by rw [eR, eX])
        have EX := Lib.hid eX
        have EY := Lib.hid eY
        have HTr := Lib.hid (HT.out.below Br.out HT.out.lt)
        have hcase : (¬ (k : Int) < (n1 : Int)) ∨ ((k : Int) < (n1 : Int) ∧ sb = false) := by
          by_cases hk1 : k < n1
          · right; refine ⟨by omega, ?_⟩; cases sb; rfl; exact absurd ⟨hk1, rfl⟩ hcont
          · left; omega
        clear eX eY eR hXs hcont
        rcases hcase with hk1 | ⟨hk1, rfl⟩
        all_goals
          go_wp2_with fail
          refine (input_B d a3 n1 c3 A _ S3r.out (by omega) (by omega) X EX.out).mono ?_
          rintro e w4 ⟨rfl, hb⟩
          have B4 := Lib.hid (Br.out.trans (hb.mono Br.out.size))
          have S34 := Lib.hid (S3r.out.below hb)
          have S44 := Lib.hid (S4r.out.below hb)
          have HT4 := Lib.hid (HTr.out.below hb HTr.out.lt)
          clear hb
          go_wp2_with fail
          refine (input_B f a4 n2 c4 B _ S44.out (by omega) (by omega) Y EY.out).mono ?_
          rintro e w5 ⟨rfl, hb⟩
          have B5 := Lib.hid (B4.out.trans (hb.mono B4.out.size))
          have S35 := Lib.hid (S34.out.below hb)
          have HT5 := Lib.hid (HT4.out.below hb HT4.out.lt)
          clear hb
          go_wp2_with fail
          refine (tag_B d a3 n1 c3 A _ S35.out (by omega) (by omega) HT5.out R ER.out).mono ?_
          rintro e w6 ⟨rfl, hb⟩
          have B6 := Lib.hid (B5.out.trans (hb.mono B5.out.size))
          have S36 := Lib.hid (S35.out.below hb)
          have HT6 := Lib.hid (HT5.out.below hb HT5.out.lt)
          clear hb
          go_wp2_with fail
          refine (input_B d a3 n1 c3 A _ S36.out (by omega) (by omega) X EX.out).mono ?_
          rintro e w7 ⟨rfl, hb⟩
          have B7 := Lib.hid (B6.out.trans (hb.mono B6.out.size))
          have HT7 := Lib.hid (HT6.out.below hb HT6.out.lt)
          clear hb
          go_wp2_with fail
          refine (sumA X hX9 _ HT7.out R ER2.out).mono ?_
          rintro e w8 ⟨rfl, hb⟩
          have B8 := Lib.hid (B7.out.trans (hb.mono B7.out.size))
          clear hb
          go_wp2_with fail
          go_ret
          exact ⟨rfl, B8.out⟩

end Go.Proofs.YtchdnfhajcfdoaaDoor.Sp
