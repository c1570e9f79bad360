/- The document's own answer for package codec: its Reader. -/
import Derived.Test.YtnbaoihamjdjdaaGreatDoorCodR
import Derived.Test.YtnbaoihamjdjdaaGreatDoorCodRefT
namespace Go.Proofs.YtnbaoihamjdjdaaGreatDoor.Sp
open Go Go.RowKit
set_option maxRecDepth 100000

/-- A Reader of the document's own. -/
def QR (w : World) (g : Nat) (S : ByteArray) (b : Bool) : Prop := Blk w g 92 #[.string S, .bool b]

theorem qnewReader_any (s : ByteArray) (w : World) :
    Calls Tryz.prog 42 #[.string s] w fun e w' => e = .returned (.pointer (some ⟨w.heap.size, 0, none⟩)) ∧ w' = w.alloc (.cells #[.string s, .bool false] 92) := by
  go_enter Tryz.func42, Tryz.ntmps42
  go_wp2
  go_ret
  exact ⟨rfl, rfl⟩

theorem qend_any (g : Nat) (S : ByteArray) (b : Bool) (w : World) (hR : QR w g S b) :
    Calls Tryz.prog 45 #[.pointer (some ⟨g, 0, none⟩)] w fun e w' => e = .returned (.bool (!b && decide (S.size = 0))) ∧ w = w' := by
  have h0 : w.cell? ⟨g, 0, none⟩ = some (.string S) := hR.cell 0
  have h1 : w.cell? ⟨g, 1, none⟩ = some (.bool b) := hR.cell 1
  clear hR
  cases b
  · go_enter Tryz.func45, Tryz.ntmps45
    go_wp2_with fail
    go_ret
    exact ⟨ret_bool (empty_text S), rfl⟩
  · go_enter Tryz.func45, Tryz.ntmps45
    go_wp2_with fail
    go_ret
    exact ⟨rfl, rfl⟩

/-- take where there is enough. -/
theorem qtake_ok (g n : Nat) (S : ByteArray) (w : World) (hR : QR w g S false) (hn : n ≤ S.size) (hn8 : n ≤ 8) (hs : S.size ≤ 9223372036854775807) :
    Calls Tryz.prog 70 #[.pointer (some ⟨g, 0, none⟩), .int .i64 (n : Int)] w fun e w' => e = .returned (.int .u64 ((num (S.data.toList.take n) : Nat) : Int)) ∧ QR w' g (S.extract n S.size) false ∧ Only g w w' := by
  have HR := Lib.hid hR
  have h0 : w.cell? ⟨g, 0, none⟩ = some (.string S) := hR.cell 0
  have h1 : w.cell? ⟨g, 1, none⟩ = some (.bool false) := hR.cell 1
  have f0 := hR.frozen 0
  have hni : (n : Int) ≤ (S.size : Int) := by omega
  have hnb : ¬ (S.size : Int) < (n : Int) := by omega
  have HNI := Lib.hid hni
  clear hR hni
  go_enter Tryz.func70, Tryz.ntmps70
  go_wp2_with fail
  go_loop [5, 6] (fun v i => ∃ (k a : Nat), k ≤ n ∧ i = .int .i64 (k : Int) ∧ v = .int .u64 (a : Int) ∧ Hid (a = num (S.data.toList.take k))) (fun _ i => n - (intOf i).toNat)
  case atStart => exact ⟨0, 0, Nat.zero_le _, rfl, rfl, rfl⟩
  case round =>
    obtain ⟨k, a, hk, rfl, rfl, HA⟩ := hrel
    by_cases hlt : k < n
    · have hki : (k : Int) < (n : Int) := by omega
      have hkS : (k : Int) < (S.size : Int) := by omega
      have hkS' : k < S.size := by omega
      have hlt1 : a * 256 + 255 < 18446744073709551616 := by
        have h := num_lt (S.data.toList.take k)
        rw [← HA.out] at h
        have h2 : (S.data.toList.take k).length ≤ 7 := by rw [List.length_take]; omega
        have h3 : 256 ^ (S.data.toList.take k).length ≤ 256 ^ 7 := Nat.pow_le_pow_right (by omega) h2
        have h4 : (256 : Nat) ^ 7 = 72057594037927936 := by decide
        omega
      have hb := S[k].toNat_lt
      have hlti : 256 * (a : Int) < 18446744073709551616 := by omega
      have hlti2 : 256 * (a : Int) + (S[k].toNat : Int) < 18446744073709551616 := by omega
      go_wp2_with fail
      refine ⟨⟨k + 1, a * 256 + S[k].toNat, by omega, by go_num, ?_, ?_⟩, by simp [intOf]; omega⟩
      · exact u64_eq (by omega)
      · show _ = _
        rw [take_byte S k hkS', num_snoc, HA.out]
    · have HK := Lib.hid (show k = n by omega)
      have hki : ¬ (k : Int) < (n : Int) := by omega
      have hni := HNI.out
      clear hk hlt hnb
      go_wp2_with fail
      go_ret
      exact ⟨ret_u64 (by rw [HA.out, HK.out]), HR.out.set_ 0 _, (Only.refl g w).set_ 0 _⟩

/-- take where there is not, or the Reader is bad. -/
theorem qtake_no (g n : Nat) (S : ByteArray) (b : Bool) (w : World) (hR : QR w g S b) (hn : b = true ∨ S.size < n) (_hs : S.size ≤ 9223372036854775807) :
    Calls Tryz.prog 70 #[.pointer (some ⟨g, 0, none⟩), .int .i64 (n : Int)] w fun e w' => e = .returned (.int .u64 0) ∧ QR w' g S true ∧ Only g w w' := by
  have HR := Lib.hid hR
  have h0 : w.cell? ⟨g, 0, none⟩ = some (.string S) := hR.cell 0
  have h1 : w.cell? ⟨g, 1, none⟩ = some (.bool b) := hR.cell 1
  have f1 := hR.frozen 1
  clear hR
  cases b
  · have hni : (S.size : Int) < (n : Int) := by rcases hn with h | h; cases h; omega
    clear hn
    go_enter Tryz.func70, Tryz.ntmps70
    go_wp2_with fail
    go_ret
    exact ⟨rfl, HR.out.set_ 1 _, (Only.refl g w).set_ 1 _⟩
  · clear hn
    go_enter Tryz.func70, Tryz.ntmps70
    go_wp2_with fail
    go_ret
    exact ⟨rfl, HR.out.set_ 1 _, (Only.refl g w).set_ 1 _⟩

/-- What the document's Reader's Num answers, and leaves. -/
def qnOk (S : ByteArray) (b : Bool) : Prop := b = false ∧ 8 ≤ S.size
instance (S : ByteArray) (b : Bool) : Decidable (qnOk S b) := by unfold qnOk; infer_instance
def qnN (S : ByteArray) (b : Bool) : Nat := if qnOk S b then num (S.data.toList.take 8) else 0
def qnS (S : ByteArray) (b : Bool) : ByteArray := if qnOk S b then S.extract 8 S.size else S
def qnB (S : ByteArray) (b : Bool) : Bool := if qnOk S b then false else true

theorem qrnum_any (g : Nat) (S : ByteArray) (b : Bool) (w : World) (hR : QR w g S b) (hs : S.size ≤ 9223372036854775807) :
    Calls Tryz.prog 43 #[.pointer (some ⟨g, 0, none⟩)] w fun e w' => e = .returned (.int .u64 ((qnN S b : Nat) : Int)) ∧ QR w' g (qnS S b) (qnB S b) ∧ Only g w w' := by
  have HR := Lib.hid hR
  clear hR
  by_cases h : qnOk S b
  · have e1 : qnN S b = num (S.data.toList.take 8) := if_pos h
    have e2 : qnS S b = S.extract 8 S.size := if_pos h
    have e3 : qnB S b = false := if_pos h
    rw [e1, e2, e3]
    obtain ⟨rfl, h8⟩ := h
    clear e1 e2 e3
    go_enter Tryz.func43, Tryz.ntmps43
    go_wp2_with fail
    refine (qtake_ok g 8 S _ HR.out h8 (by omega) hs).mono ?_
    rintro e w1 ⟨rfl, h1, h2⟩
    have H1 := Lib.hid h1
    have H2 := Lib.hid h2
    clear h1 h2
    go_wp2_with fail
    go_ret
    exact ⟨rfl, H1.out, H2.out⟩
  · have e1 : qnN S b = 0 := if_neg h
    have e2 : qnS S b = S := if_neg h
    have e3 : qnB S b = true := if_neg h
    rw [e1, e2, e3]
    have hno : b = true ∨ S.size < 8 := by
      rcases b with _ | _
      · exact .inr (by have h' : ¬ 8 ≤ S.size := fun h8 => h ⟨rfl, h8⟩
                       omega)
      · exact .inl rfl
    have HNO := Lib.hid hno
    clear e1 e2 e3 h hno
    go_enter Tryz.func43, Tryz.ntmps43
    go_wp2_with fail
    refine (qtake_no g 8 S b _ HR.out HNO.out hs).mono ?_
    rintro e w1 ⟨rfl, h1, h2⟩
    have H1 := Lib.hid h1
    have H2 := Lib.hid h2
    clear h1 h2
    go_wp2_with fail
    go_ret
    exact ⟨rfl, H1.out, H2.out⟩

/-- What the document's Reader's Text answers, and leaves. -/
def qtOk (S : ByteArray) (most : Int) (b : Bool) : Prop := b = false ∧ rtOk S most
instance (S : ByteArray) (most : Int) (b : Bool) : Decidable (qtOk S most b) := by unfold qtOk; infer_instance
def qtT (S : ByteArray) (most : Int) (b : Bool) : ByteArray := if qtOk S most b then (S.extract 4 S.size).extract 0 (rtN S) else .empty
def qtS (S : ByteArray) (most : Int) (b : Bool) : ByteArray := if qtOk S most b then (S.extract 4 S.size).extract (rtN S) (S.extract 4 S.size).size else if b = false ∧ 4 ≤ S.size then S.extract 4 S.size else S
def qtB (S : ByteArray) (most : Int) (b : Bool) : Bool := if qtOk S most b then false else true

set_option maxHeartbeats 1000000 in
theorem qrtext_any (g : Nat) (S : ByteArray) (b : Bool) (most : Int) (_hm0 : -9223372036854775808 ≤ most) (_hm1 : most ≤ 9223372036854775807) (w : World) (hR : QR w g S b) (hs : S.size ≤ 140737488355328) :
    Calls Tryz.prog 44 #[.pointer (some ⟨g, 0, none⟩), .int .i64 most] w fun e w' => e = .returned (.string (qtT S most b)) ∧ QR w' g (qtS S most b) (qtB S most b) ∧ Only g w w' := by
  have HR := Lib.hid hR
  clear hR
  by_cases h4 : b = false ∧ 4 ≤ S.size
  · obtain ⟨rfl, h4⟩ := h4
    have hNl := rtN_lt S
    have hd := dr_size S 4
    obtain ⟨N, eN⟩ : ∃ N, N = rtN S := ⟨_, rfl⟩
    have hNe := Lib.hid (show num (S.data.toList.take 4) = N from eN.symm)
    obtain ⟨D, eD⟩ : ∃ D, D = S.extract 4 S.size := ⟨_, rfl⟩
    have hok : qtOk S most false ↔ (N : Int) ≤ most ∧ N ≤ D.size := by
      unfold qtOk rtOk
      rw [← eN, eD, hd]
      constructor
      · rintro ⟨_, _, h2, h3⟩; exact ⟨h2, by omega⟩
      · rintro ⟨h2, h3⟩; exact ⟨rfl, h4, h2, by omega⟩
    have ht : qtT S most false = if qtOk S most false then D.extract 0 N else .empty := by unfold qtT; rw [← eN, ← eD]
    have hS' : qtS S most false = if qtOk S most false then D.extract N D.size else D := by unfold qtS; rw [← eN, ← eD]; rw [if_pos (show false = false ∧ 4 ≤ S.size from ⟨rfl, h4⟩)]
    have hB' : qtB S most false = if qtOk S most false then false else true := rfl
    rw [ht, hS', hB']
    clear ht hS' hB'
    rw [← eN] at hNl
    rw [← eD] at hd
    have hDl : D.size ≤ 140737488355328 := by omega
    have hNi : (N : Int) < 4294967296 := by omega
    have ED := Lib.hid eD
    clear eN eD hd
    by_cases hc1 : (N : Int) ≤ most
    · have hcb : decide (most < (N : Int)) = false := by rw [decide_eq_false_iff_not]; omega
      by_cases hc2 : N ≤ D.size
      · have hk : qtOk S most false := hok.2 ⟨hc1, hc2⟩
        rw [if_pos hk, if_pos hk, if_pos hk]
        have hcc : decide (D.size < N) = false := by rw [decide_eq_false_iff_not]; omega
        have hci : (N : Int) ≤ (D.size : Int) := by omega
        clear hok hk hc1
        go_enter Tryz.func44, Tryz.ntmps44
        go_wp2_with fail
        refine (qtake_ok g 4 S _ HR.out h4 (by omega) (by omega)).mono ?_
        rintro e w1 ⟨rfl, h1, h2⟩
        rw [← ED.out] at h1
        rw [hNe.out]
        have c0 : w1.cell? ⟨g, 0, none⟩ = some (.string D) := h1.cell 0
        have c1 : w1.cell? ⟨g, 1, none⟩ = some (.bool false) := h1.cell 1
        have f0 := h1.frozen 0
        have H1 := Lib.hid h1
        have H2 := Lib.hid h2
        clear h1 h2
        go_wp2_with fail
        go_ret
        exact ⟨rfl, H1.out.set_ 0 _, H2.out.set_ 0 _⟩
      · have hk : ¬ qtOk S most false := fun h => hc2 (hok.1 h).2
        rw [if_neg hk, if_neg hk, if_neg hk]
        have hcc : decide (D.size < N) = true := by rw [decide_eq_true_iff]; omega
        have hci : (D.size : Int) < (N : Int) := by omega
        clear hok hk hc2 hc1
        go_enter Tryz.func44, Tryz.ntmps44
        go_wp2_with fail
        refine (qtake_ok g 4 S _ HR.out h4 (by omega) (by omega)).mono ?_
        rintro e w1 ⟨rfl, h1, h2⟩
        rw [← ED.out] at h1
        rw [hNe.out]
        have c0 : w1.cell? ⟨g, 0, none⟩ = some (.string D) := h1.cell 0
        have c1 : w1.cell? ⟨g, 1, none⟩ = some (.bool false) := h1.cell 1
        have f1 := h1.frozen 1
        have H1 := Lib.hid h1
        have H2 := Lib.hid h2
        clear h1 h2
        go_wp2_with fail
        go_ret
        exact ⟨rfl, H1.out.set_ 1 _, H2.out.set_ 1 _⟩
    · have hk : ¬ qtOk S most false := fun h => hc1 (hok.1 h).1
      rw [if_neg hk, if_neg hk, if_neg hk]
      have hc3 : most < (N : Int) := by omega
      have hcb : decide (most < (N : Int)) = true := by rw [decide_eq_true_iff]; omega
      clear hok hk hc1
      go_enter Tryz.func44, Tryz.ntmps44
      go_wp2_with fail
      refine (qtake_ok g 4 S _ HR.out h4 (by omega) (by omega)).mono ?_
      rintro e w1 ⟨rfl, h1, h2⟩
      rw [← ED.out] at h1
      rw [hNe.out]
      have c1 : w1.cell? ⟨g, 1, none⟩ = some (.bool false) := h1.cell 1
      have f1 := h1.frozen 1
      have H1 := Lib.hid h1
      have H2 := Lib.hid h2
      clear h1 h2
      go_wp2_with fail
      go_ret
      exact ⟨rfl, H1.out.set_ 1 _, H2.out.set_ 1 _⟩
  · have hk : ¬ qtOk S most b := fun h => h4 ⟨h.1, h.2.1⟩
    have e1 : qtT S most b = .empty := if_neg hk
    have e2 : qtS S most b = S := by unfold qtS; rw [if_neg hk, if_neg h4]
    have e3 : qtB S most b = true := if_neg hk
    rw [e1, e2, e3]
    have hno : b = true ∨ S.size < 4 := by
      rcases b with _ | _
      · exact .inr (by have h' : ¬ 4 ≤ S.size := fun h8 => h4 ⟨rfl, h8⟩
                       omega)
      · exact .inl rfl
    have HNO := Lib.hid hno
    clear e1 e2 e3 hk h4 hno
    go_enter Tryz.func44, Tryz.ntmps44
    go_wp2_with fail
    refine (qtake_no g 4 S b _ HR.out HNO.out (by omega)).mono ?_
    rintro e w1 ⟨rfl, h1, h2⟩
    have c1 : w1.cell? ⟨g, 1, none⟩ = some (.bool true) := h1.cell 1
    have f1 := h1.frozen 1
    have H1 := Lib.hid h1
    have H2 := Lib.hid h2
    clear h1 h2
    go_wp2_with fail
    go_ret
    exact ⟨rfl, H1.out.set_ 1 _, H2.out.set_ 1 _⟩

end Go.Proofs.YtnbaoihamjdjdaaGreatDoor.Sp
