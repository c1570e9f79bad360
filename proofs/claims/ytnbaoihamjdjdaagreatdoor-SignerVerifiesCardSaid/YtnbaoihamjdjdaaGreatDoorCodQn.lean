/- The document's own Writer, handed numbers alone. -/
import Derived.Test.YtnbaoihamjdjdaaGreatDoorCodWn
import Derived.ScopeJumps
import Derived.WalkMore
namespace Go.Proofs.YtnbaoihamjdjdaaGreatDoor.Sp
open Go Go.RowKit

theorem rem_byte (m : Nat) : ((m : Nat) : Int) % 256 = ((UInt8.ofNat m).toNat : Int) := by
  rw [UInt8.toNat_ofNat']; omega

set_option maxHeartbeats 1000000 in
theorem qnumber_any (n many : Nat) (hn : n < 18446744073709551616) (hm1 : 1 ≤ many) (hm8 : many ≤ 8) (w : World) :
    Calls Tryz.prog 62 #[.int .u64 (n : Int), .int .i64 (many : Int)] w fun e w' => e = .returned (.string ⟨(be many n).toArray⟩) ∧ Below w.heap.size w w' := by
  have hmk : ∀ W : World, (Instr.makeSlice 68 (.int .i64 (many : Int)) (.int .i64 (many : Int))).run Tryz.prog W = .ok (.slice (some ⟨W.heap.size, 0, none⟩) many many) (W.alloc (.cells (gapB many []) 5)) := fun W => by
    obtain ⟨i0, hi, hz0, hz1, hz2⟩ := info_parts infoByte
    have h := run_make (P := Tryz.prog) W 68 5 i0 (.int .u8 0) Tryz.underlying68 hi hz0 .i64 .i64 (many : Int) (many : Int) (by omega) (by omega) (by rw [hz2]; omega) (by omega)
    rw [← gapB_made]
    simpa [hz1, Value.cells] using h
  go_enter Tryz.func62, Tryz.ntmps62
  go_wp2_with fail
  clear hmk
  go_loopw [0, 6] (fun v i wr => ∃ j r : Nat, j + r = many ∧ i = .int .i64 ((r : Int) - 1) ∧ v = .int .u64 ((n / 256 ^ j : Nat) : Int) ∧ Blk wr w.heap.size 5 (gapB r (be j n)) ∧ Below w.heap.size w wr) (fun _ i _ => (intOf i + 1).toNat)
  case atStart => exact ⟨0, many, Nat.zero_add _, rfl, by simp, Blk.new w _ _, (Below.refl _ _).alloc (Nat.le_refl _) _⟩
  case round =>
    obtain ⟨j, r, hj, rfl, rfl, hb, hbel⟩ := hrel
    have HJ := Lib.hid hj
    have HB := Lib.hid hb
    have HBel := Lib.hid hbel
    rcases r with _ | i
    · have HJ2 := Lib.hid (show j = many by omega)
      have hconv := run_text_of_blk (cap := many) (n := many) (by rw [← gapB_zero]; exact hb) (by rw [be_length]; omega)
      clear hj hb hbel
      go_wp2_with fail
      go_ret
      exact ⟨ret_string (by rw [HJ2.out]), HBel.out⟩
    · have e : ((i + 1 : Nat) : Int) - 1 = (i : Int) := by omega
      rw [e]
      obtain ⟨m, em⟩ : ∃ m : Nat, m = n / 256 ^ j := ⟨_, rfl⟩
      have hmn : m ≤ n := by rw [em]; exact Nat.div_le_self _ _
      have hml : (m : Int) < 18446744073709551616 := by omega
      rw [← em]
      have EM := Lib.hid em
      have hi0 : (0 : Int) ≤ (i : Int) := by omega
      have hil : (i : Int) < (many : Int) := by omega
      have hcell : wr.cell? ⟨w.heap.size, i, none⟩ = some (.int .u8 0) := (hb.cell i).trans (gapB_get i _)
      have hfro := hb.frozen i
      clear hj hb hbel e em
      go_wp2_with fail
      refine ⟨⟨j + 1, i, by have := HJ.out; omega, rfl, ?_, ?_, HBel.out.setCell (p := ⟨w.heap.size, i, none⟩) (Nat.le_refl _) _⟩, by simp [intOf]⟩
      · rw [EM.out, Nat.pow_succ, ← Nat.div_div_eq_div_mul]; rfl
      · have h := HB.out.set_ i (.int .u8 ((UInt8.ofNat m).toNat : Int))
        rw [gapB_set] at h
        rw [rem_byte, be, ← EM.out]
        exact h

/-- A Writer of the document's own that holds S. -/
def QW (w : World) (g : Nat) (S : ByteArray) : Prop := Blk w g 79 #[.string S]

theorem qnewWriter_any (w : World) :
    Calls Tryz.prog 26 #[] w fun e w' => e = .returned (.pointer (some ⟨w.heap.size, 0, none⟩)) ∧ w' = w.alloc (.cells #[.string .empty] 79) := by
  go_enter Tryz.func26, Tryz.ntmps26
  go_wp2
  go_ret
  exact ⟨rfl, rfl⟩

set_option maxHeartbeats 1000000 in
theorem qwnum_any (g n : Nat) (S R : ByteArray) (hn : n < 18446744073709551616) (w : World) (hW : QW w g S) (hS : S.size ≤ 9223372036854775000) (hR : R = S ++ ⟨(be 8 n).toArray⟩) :
    Calls Tryz.prog 27 #[.pointer (some ⟨g, 0, none⟩), .int .u64 (n : Int)] w fun e w' => e = .returned (.tuple #[]) ∧ QW w' g R ∧ Only g w w' := by
  have HW := Lib.hid hW
  have h0 : w.cell? ⟨g, 0, none⟩ = some (.string S) := hW.cell 0
  have f0 := hW.frozen 0
  have hgl := hW.lt
  obtain ⟨B, eB⟩ : ∃ B : ByteArray, B = ⟨(be 8 n).toArray⟩ := ⟨_, rfl⟩
  have hBs : B.size = 8 := by rw [eB]; show (be 8 n).toArray.size = 8; simp [be_length]
  have hadd : ¬ 9223372036854775807 < S.size + B.size := by omega
  have EB := Lib.hid eB
  rw [← eB] at hR
  have HR := Lib.hid hR
  have hq : ∀ W, Calls Tryz.prog 62 #[.int .u64 (n : Int), .int .i64 8] W fun e w' => e = .returned (.string B) ∧ Below W.heap.size W w' := by
    intro W; rw [eB]; exact qnumber_any n 8 hn (by omega) (by omega) W
  have HQ := Lib.hid hq
  clear hW hR eB hBs hq
  go_enter Tryz.func27, Tryz.ntmps27
  go_wp2_with fail
  go_region_law ((go_simp; go_at_call 62; refine (HQ.out _).mono ?_; rintro e w1 ⟨rfl, hb1⟩; have hc1 : w1.cell? ⟨g, 0, none⟩ = some (.string S) := (hb1.cell (p := ⟨g, 0, none⟩) hgl).trans h0; have hf1 : w1.frozen? ⟨g, 0, none⟩ = false := (hb1.frozen (p := ⟨g, 0, none⟩) hgl).trans f0; have HB1 := Lib.hid hb1; clear hb1))
  all_goals
    have HB2 := Lib.hid (((Below.refl w.heap.size w).drew).trans HB1.out)
    rw [← HR.out]
    clear hc1 hf1 h0 f0 hadd
    go_wp2_with fail
    go_end0
    exact ⟨rfl, (Blk.below HW.out HB2.out hgl).set_ 0 _, (Only.of_below g HB2.out).set_ 0 _⟩

theorem qbytes_any (g : Nat) (S : ByteArray) (w : World) (hW : QW w g S) :
    Calls Tryz.prog 31 #[.pointer (some ⟨g, 0, none⟩)] w fun e w' => e = .returned (.string S) ∧ w = w' := by
  have h0 : w.cell? ⟨g, 0, none⟩ = some (.string S) := hW.cell 0
  clear hW
  go_enter Tryz.func31, Tryz.ntmps31
  go_wp2_with fail
  go_ret
  exact ⟨rfl, rfl⟩

end Go.Proofs.YtnbaoihamjdjdaaGreatDoor.Sp
