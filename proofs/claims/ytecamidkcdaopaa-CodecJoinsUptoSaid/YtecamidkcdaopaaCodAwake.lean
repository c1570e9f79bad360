/- The statements of package codec: their first calls. -/
import Derived.Test.YtecamidkcdaopaaCodR
import Derived.KernelRfl
import Derived.ScopeJumps
import Derived.WalkMore
namespace Go.Proofs.Ytecamidkcdaopaa.Sp
open Go Go.RowKit

def a14 : ByteArray := ⟨#[0, 0, 0, 0, 0, 0, 1, 2, 0, 0, 0, 2, 97, 98]⟩
def a6 : ByteArray := ⟨#[0, 0, 0, 2, 97, 98]⟩
def ab : ByteArray := ⟨#[97, 98]⟩
def aIts : List It := [⟨false, 258, .empty⟩, ⟨true, 0, ab⟩]
theorem a_laid : laid aIts = [0, 0, 0, 0, 0, 0, 1, 2, 0, 0, 0, 2, 97, 98] := by decide +kernel
theorem a_num : rnN a14 = 258 ∧ rnS a14 = a6 ∧ rnB a14 false = false := by decide +kernel
theorem a_text : rtT a6 2 = ab ∧ rtS a6 2 = .empty ∧ rtB a6 2 false = false := by decide +kernel
theorem a_last : rnN .empty = 0 ∧ rnS .empty = .empty ∧ rnB .empty false = true := by decide +kernel

theorem laid_a (w : World) (b c : Nat) (h : Blk w b 28 #[.bool false, .int .u64 258, .string .empty, .bool true, .int .u64 0, .string ⟨#[97, 98]⟩]) :
    Calls Try.prog 16 #[.slice (some ⟨b, 0, none⟩) 2 c] w fun e w' => e = .returned (.string ⟨#[0, 0, 0, 0, 0, 0, 1, 2, 0, 0, 0, 2, 97, 98]⟩) ∧ Below w.heap.size w w' := by
  have hI : Items w (some ⟨b, 0, none⟩) 2 aIts := by
    refine ⟨rfl, fun _ => ⟨b, 0, rfl, fun j hj k hk => ?_⟩⟩
    rw [h.cell]
    match j, k, hj, hk with
    | 0, 0, _, _ => rfl
    | 0, 1, _, _ => rfl
    | 0, 2, _, _ => rfl
    | 1, 0, _, _ => rfl
    | 1, 1, _, _ => rfl
    | 1, 2, _, _ => rfl
  refine (laid_any _ 2 c aIts (by intro x hx; simp [aIts] at hx; rcases hx with rfl | rfl <;> simp) w hI (by omega) (by rw [← laid_length, a_laid]; simp)).mono ?_
  rintro e w' ⟨rfl, hb⟩
  exact ⟨by rw [a_laid], hb⟩

set_option maxHeartbeats 1000000 in
theorem awake_any (w : World) :
    Calls Try.prog 12 #[] w fun e w' => e = .returned (.bool true) ∧ Below w.heap.size w w' := by
  go_enter Try.func12, Try.ntmps12
  go_wp2_with fail
  refine (laid_a _ w.heap.size _ (Blk.new w _ _)).mono ?_
  rintro e w1 ⟨rfl, h1⟩
  have H1 := Lib.hid (((Below.refl _ w).alloc (Nat.le_refl _) _).trans (h1.mono (by simp)))
  clear h1
  go_wp2_with fail
  refine (newReader_any a14 _).mono ?_
  rintro e w2 ⟨rfl, h2⟩
  obtain ⟨g, eg⟩ : ∃ g, g = w1.heap.size := ⟨_, rfl⟩
  have R2 := Lib.hid (show Rd w2 g a14 false from by rw [h2, eg]; exact Blk.new w1 _ _)
  have B2 := Lib.hid (show Below w.heap.size w w2 from by rw [h2]; exact H1.out.alloc H1.out.size _)
  have hgb : w.heap.size ≤ g := by rw [eg]; exact H1.out.size
  rw [← eg]
  clear h2 eg
  go_wp2_with fail
  refine (rnum_any g a14 false _ R2.out (by decide)).mono ?_
  rintro e w3 ⟨rfl, h3, o3⟩
  rw [a_num.2.1, a_num.2.2] at h3
  rw [a_num.1]
  have R3 := Lib.hid h3
  have B3 := Lib.hid (Only.below B2.out B2.out.size hgb o3)
  clear h3 o3
  go_wp2_with fail
  refine (rtext_any g a6 false 2 (by decide) (by decide) _ R3.out (by decide)).mono ?_
  rintro e w4 ⟨rfl, h4, o4⟩
  rw [a_text.2.1, a_text.2.2] at h4
  rw [a_text.1]
  have R4 := Lib.hid h4
  have B4 := Lib.hid (Only.below B3.out B3.out.size hgb o4)
  clear h4 o4
  go_wp2_with fail
  refine (end_any g .empty false _ R4.out).mono ?_
  rintro e w5 ⟨rfl, rfl⟩
  rw [show (!false && decide (ByteArray.empty.size = 0)) = true from rfl]
  go_wp2_with fail
  refine (rnum_any g .empty false _ R4.out (by decide)).mono ?_
  rintro e w5 ⟨rfl, h5, o5⟩
  rw [a_last.2.1, a_last.2.2] at h5
  rw [a_last.1]
  have R5 := Lib.hid h5
  have B5 := Lib.hid (Only.below B4.out B4.out.size hgb o5)
  clear h5 o5
  have eab : ab = ⟨#[97, 98]⟩ := rfl
  rw [eab]
  clear eab
  go_wp2_with fail
  refine (bad_any g .empty true _ R5.out).mono ?_
  rintro e w6 ⟨rfl, rfl⟩
  go_wp2_with fail
  refine (end_any g .empty true _ R5.out).mono ?_
  rintro e w6 ⟨rfl, rfl⟩
  go_wp2_with fail
  go_ret
  exact ⟨rfl, B5.out⟩
end Go.Proofs.Ytecamidkcdaopaa.Sp
