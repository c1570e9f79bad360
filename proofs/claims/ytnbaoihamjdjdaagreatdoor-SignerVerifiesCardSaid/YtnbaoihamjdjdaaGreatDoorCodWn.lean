/- Package codec: the contracts of a Writer that is handed numbers alone. -/
import Derived.Test.YtnbaoihamjdjdaaGreatDoorMem
import Derived.Test.YtnbaoihamjdjdaaGreatDoorCodPure
import Derived.Deep.RegionHeld3
import Derived.Deep.RegionLaw
import Derived.Deep.AppendLies
import Derived.WalkLawsBesides
namespace Go.Proofs.YtnbaoihamjdjdaaGreatDoor.Sp
open Go Go.RowKit
set_option maxRecDepth 100000

/-- A Writer that holds the bytes l: its block, and its row, from block base on. -/
def Wr (w : World) (base g : Nat) (l : List UInt8) : Prop := base ≤ g ∧ ∃ v, Blk w g 70 #[v] ∧ Own w base v l

theorem newWriter_any (w : World) :
    Calls Tryz.prog 20 #[] w fun e w' => e = .returned (.pointer (some ⟨w.heap.size, 0, none⟩)) ∧ w' = w.alloc (.cells #[.slice none 0 0] 70) := by
  go_enter Tryz.func20, Tryz.ntmps20
  go_wp2
  go_ret
  exact ⟨rfl, rfl⟩

theorem shr_byte (n i : Nat) : IntKind.u8.wrap ((n : Int) / 2 ^ (8 * i)) = ((UInt8.ofNat (n / 256 ^ i)).toNat : Int) := by
  have e : ((n : Int) / 2 ^ (8 * i)) = ((n / 256 ^ i : Nat) : Int) := by
    rw [show (256 : Nat) = 2 ^ 8 from rfl, ← Nat.pow_mul, Int.natCast_ediv, Int.natCast_pow]; rfl
  rw [e, IntKind.wrap_u8', UInt8.toNat_ofNat']; omega
theorem put_own {w1 : World} {base gg cap : Nat} {l b : List UInt8} {n i : Nat}
    (h : w1.ownsRow base 5 1 (.slice (some ⟨gg, 0, none⟩) ((l ++ b).length + 1) cap) ((l ++ b).length + 1) (byteVs (l ++ b) ++ #[Value.int IntKind.u8 (IntKind.u8.wrap ((n : Int) / 2 ^ (8 * i)))].toList)) :
    Own w1 base (.slice (some ⟨gg, 0, none⟩) (l.length + b.length + 1) cap) (l ++ (b ++ [UInt8.ofNat (n / 256 ^ i)])) := by
  unfold Own
  rw [shr_byte] at h
  rw [← List.append_assoc, byteVs_append, List.length_append, List.length_singleton]
  rw [List.length_append] at h ⊢
  exact h

set_option maxHeartbeats 1000000 in
theorem put_any (base g n size : Nat) (l : List UInt8) (_hn : n < 18446744073709551616) (hs : size ≤ 8) (w : World) (hW : Wr w base g l) (hl : l.length + size ≤ 140737488355328) :
    Calls Tryz.prog 55 #[.pointer (some ⟨g, 0, none⟩), .int .u64 (n : Int), .int .i64 (size : Int)] w fun e w' => e = .returned (.tuple #[]) ∧ Wr w' base g (l ++ be size n) ∧ Below base w w' := by
  obtain ⟨i0, hi, hz0, hz1, hz2⟩ := info_parts infoByte
  have HW := Lib.hid hW
  clear hW
  go_enter Tryz.func55, Tryz.ntmps55
  go_wp2_with fail
  go_loopw [6] (fun i wr => ∃ j r : Nat, j + r = size ∧ i = .int .i64 ((r : Int) - 1) ∧ Wr wr base g (l ++ beTop size n j) ∧ Below base w wr) (fun i _ => (intOf i + 1).toNat)
  case atStart => exact ⟨0, size, Nat.zero_add _, rfl, by rw [beTop_zero, List.append_nil]; exact HW.out, Below.refl _ _⟩
  case round =>
    obtain ⟨j, r, hj, rfl, ⟨hbg, v, hb, ho⟩, hbel⟩ := hrel
    have HJ := Lib.hid hj
    have HB := Lib.hid hb
    have HO := Lib.hid ho
    have HBel := Lib.hid hbel
    have hlj : (l ++ beTop size n j).length = l.length + j := by rw [List.length_append]; unfold beTop; rw [List.length_take, be_length]; omega
    have hcell : wr.cell? ⟨g, 0, none⟩ = some v := hb.cell 0
    have hfro := hb.frozen 0
    have hgl := hb.lt
    have hbz : base ≤ wr.heap.size := by omega
    clear hb ho hbel
    rcases r with _ | i
    · have HJ2 := Lib.hid (show j = size by omega)
      clear hj hcell hfro hlj
      go_wp2_with fail
      go_end0
      exact ⟨rfl, ⟨hbg, v, HB.out, by have h := HO.out; rw [HJ2.out, beTop_all] at h; exact h⟩, HBel.out⟩
    · have e : ((i + 1 : Nat) : Int) - 1 = (i : Int) := by omega
      rw [e]
      have hi0' : (0 : Int) ≤ (i : Int) := by omega
      have hi8 : (i : Int) ≤ 7 := by omega
      have h8 : IntKind.i64.wrap (8 * (i : Int)) = 8 * (i : Int) := by rw [IntKind.wrap_i64]; omega
      have h80 : (0 : Int) ≤ 8 * (i : Int) := by omega
      have h8n : (8 * (i : Int)).toNat = 8 * i := by omega
      have hA : (l ++ beTop size n j).length + 1 ≤ maxLen := by unfold maxLen; omega
      have hB : ((l ++ beTop size n j).length + 1) * 1 ≤ 140737488355328 := by omega
      have HLJ := Lib.hid hlj
      have hne := Lib.hid (own_blk_ne HO.out HB.out (by decide))
      clear hj e hlj
      go_wp2_with fail
      go_region_law ((refine step_append_lies _ (by rfl) _ _ _ (by rfl) base 5 i0 _ 1 1 Tryz.underlying68 hi hz0 hz1 hz2 rfl (by omega) v (l ++ beTop size n j).length (byteVs (l ++ beTop size n j)) (by rfl) ((World.ownsRow.alloc HO.out _).drew) ⟨wr.heap.size, 0, none⟩ 1 1 _ (by rfl) (by rfl) (World.news_of_block (fr := (0, 0)) (heap_alloc_new wr _)) (by simp [Value.oneCell']) (by omega) hA hB (by simp; omega) (wr.heap.size + 1) (by simp) ?_; intro gg cap w1 hown1 hgrow hat hgl; have hB1 := HB.out.kept ((Below.refl _ _).alloc (Nat.le_refl _) _).drew hgrow hne.out; have hc1 := hB1.cell 0; have hf1 := hB1.frozen 0; have HB1 := Lib.hid hB1; have HO1 := Lib.hid hown1; have HG1 := Lib.hid hgrow; clear hB1 hown1 hgrow hat))
      all_goals
        have HO2 := Lib.hid (own_set (put_own HO1.out) HB1.out (by decide) 0 (.slice (some ⟨gg, 0, none⟩) (l.length + (beTop size n j).length + 1) cap))
        have HB2 := Lib.hid (HB1.out.set_ 0 (.slice (some ⟨gg, 0, none⟩) (l.length + (beTop size n j).length + 1) cap))
        have HL2 := Lib.hid (((HBel.out.alloc hbz _).drew.grown HG1.out (by simp; omega) (fun k hk => (HO.out.lt k hk).1)).setCell (p := ⟨g, 0, none⟩) hbg (.slice (some ⟨gg, 0, none⟩) (l.length + (beTop size n j).length + 1) cap))
        clear hcell hfro hc1 hf1 hA hB
        go_wp2_with fail
        go_roundw
        case rel =>
          refine ⟨j + 1, i, by have := HJ.out; omega, rfl, ⟨hbg, _, HB2.out, ?_⟩, HL2.out⟩
          rw [beTop_succ size n j (by have := HJ.out; omega), show size - 1 - j = i by have := HJ.out; omega]
          exact HO2.out
        case measure => simp [intOf]

theorem wnum_any (base g n : Nat) (l : List UInt8) (hn : n < 18446744073709551616) (w : World) (hW : Wr w base g l) (hl : l.length + 8 ≤ 140737488355328) :
    Calls Tryz.prog 21 #[.pointer (some ⟨g, 0, none⟩), .int .u64 (n : Int)] w fun e w' => e = .returned (.tuple #[]) ∧ Wr w' base g (l ++ be 8 n) ∧ Below base w w' := by
  have HW := Lib.hid hW
  clear hW
  go_enter Tryz.func21, Tryz.ntmps21
  go_wp2_with fail
  refine (put_any base g n 8 l hn (by omega) _ HW.out hl).mono ?_
  rintro e w1 ⟨rfl, hw1, hb1⟩
  have H1 := Lib.hid hw1
  have H2 := Lib.hid hb1
  clear hw1 hb1
  go_wp2_with fail
  go_end0
  exact ⟨rfl, H1.out, H2.out⟩

theorem bytes_any (base g : Nat) (l : List UInt8) (w : World) (hW : Wr w base g l) :
    Calls Tryz.prog 25 #[.pointer (some ⟨g, 0, none⟩)] w fun e w' => e = .returned (.string ⟨l.toArray⟩) ∧ w = w' := by
  obtain ⟨_, v, hb, ho⟩ := hW
  have hcell : w.cell? ⟨g, 0, none⟩ = some v := hb.cell 0
  have hconv := run_text_of_own ho
  clear hb ho
  go_enter Tryz.func25, Tryz.ntmps25
  go_wp2_with fail
  go_ret
  exact ⟨rfl, rfl⟩

end Go.Proofs.YtnbaoihamjdjdaaGreatDoor.Sp
