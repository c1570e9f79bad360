/- The statements of package tree: their first calls. -/
import Derived.Test.YtdkjlijmejleoaaDoorTreP
import Derived.Test.YtdkjlijmejleoaaDoorTreClash
import Derived.Test.YtdkjlijmejleoaaDoorTreLeaves
namespace Go.Proofs.YtdkjlijmejleoaaDoor.Sp
open Go Go.RowKit

theorem tab_below {w w' : World} (h : Tab w) (hb : Below w.heap.size w w') : Tab w' := h.below hb h.lt
theorem tab_alloc {w : World} (h : Tab w) (o : Obj) : Tab (w.alloc o) := tab_below h ((Below.refl _ _).alloc (Nat.le_refl _) o)

theorem strs_pre {w : World} {g : Nat} {t : TypeId} {ss : List ByteArray} {n : Nat} (h : Blk w g t (ss.map Value.string).toArray) (hn : n ≤ ss.length) : Strs w (some ⟨g, 0, none⟩) n (ss.take n) := by
  refine ⟨by rw [List.length_take]; omega, fun _ => ⟨g, 0, rfl, fun j hj => ?_⟩⟩
  have hj' : j < ss.length := by omega
  rw [h.cell]
  simp [List.getD, hj', hj]
theorem not_may3 : ¬ mayN 3 := by decide
theorem root_four (a b c d : ByteArray) : rootB [a, b, c, d] = nodeB (nodeB a b) (nodeB c d) := by rw [root_pow [a, b, c, d] 2 (by omega) rfl]; rfl
theorem root_one (a : ByteArray) : rootB [a] = a := by rw [root_pow [a] 0 (by omega) rfl]; rfl
theorem root_three (a b c : ByteArray) : rootB [a, b, c] = .empty := by unfold rootB; exact if_neg not_may3
theorem path_four (a b c d : ByteArray) : pathB [a, b, c, d] 2 = [d, nodeB a b] := by
  have h := path_pow [a, b, c, d] 2 2 (by omega) rfl (by simp)
  exact h
theorem inputs_four (a b c d : ByteArray) : (inputsB [a, b, c, d]).length = 3 := by
  rw [inputs_pow [a, b, c, d] 2 (by omega) rfl, inputs_len 2 _ rfl]

set_option maxRecDepth 100000 in
set_option maxHeartbeats 8000000 in
theorem awake_any (P : TreeP) (w : World) (hT : Tab w) :
    Calls Tryd.prog 12 #[] w fun e w' => e = .returned (.bool true) ∧ Below w.heap.size w w' := by
  have HT := Lib.hid hT
  clear hT
  obtain ⟨X, hX⟩ : ∃ X, nodeB ⟨#[97]⟩ ⟨#[98]⟩ = X := ⟨_, rfl⟩
  obtain ⟨Y, hY⟩ : ∃ Y, nodeB ⟨#[99]⟩ ⟨#[100]⟩ = Y := ⟨_, rfl⟩
  obtain ⟨Z, hZ⟩ : ∃ Z, nodeB X Y = Z := ⟨_, rfl⟩
  have hXs : X.size = 32 := by rw [← hX]; exact nodeB_size _ _
  have hYs : Y.size = 32 := by rw [← hY]; exact nodeB_size _ _
  have HN1 := Lib.hid (fun w => P.node ⟨#[97]⟩ ⟨#[98]⟩ w (by decide))
  have HN2 := Lib.hid (fun w => P.node ⟨#[99]⟩ ⟨#[100]⟩ w (by decide))
  have HN3 := Lib.hid (fun w => P.node X Y w (by rw [hXs, hYs]; decide))
  rw [hX] at HN1
  rw [hY] at HN2
  rw [hZ] at HN3
  obtain ⟨L, hL⟩ : ∃ L : List ByteArray, [⟨#[97]⟩, ⟨#[98]⟩, ⟨#[99]⟩, ⟨#[100]⟩] = L := ⟨_, rfl⟩
  have hsm : ∀ x ∈ L, x.size = 1 := by rw [← hL]; decide
  have Hsm : ∀ n, ∀ x ∈ L.take n, ∀ y ∈ L.take n, x.size + y.size ≤ TM := fun n x hx y hy => by
    rw [hsm x (List.mem_of_mem_take hx), hsm y (List.mem_of_mem_take hy)]; decide
  have HR : ∀ (n : Nat) (R : ByteArray), rootB (L.take n) = R → n ≤ 4 → ∀ W, Blk W w.heap.size 9 #[.string ⟨#[97]⟩, .string ⟨#[98]⟩, .string ⟨#[99]⟩, .string ⟨#[100]⟩] → Tab W → Calls Tryd.prog 13 #[.slice (some ⟨w.heap.size, 0, none⟩) n 4] W fun e w' => e = .returned (.string R) ∧ Below W.heap.size W w' := fun n R hR hn W hb ht => by
    rw [← hR]
    refine P.root (L.take n) _ n 4 W (by omega) (Hsm n) (strs_pre (ss := L) (t := 9) (by rw [← hL]; exact hb) (by rw [← hL]; exact hn)) ht
  have HR1 := Lib.hid (HR 1 ⟨#[97]⟩ (by rw [← hL]; exact root_one _) (by omega))
  have HR3 := Lib.hid (HR 3 .empty (by rw [← hL]; exact root_three _ _ _) (by omega))
  have HR4 := Lib.hid (HR 4 Z (by rw [← hL]; show rootB [_, _, _, _] = Z; rw [root_four, hX, hY, hZ]) (by omega))
  have HP4 := Lib.hid (fun W (hb : Blk W w.heap.size 9 #[.string ⟨#[97]⟩, .string ⟨#[98]⟩, .string ⟨#[99]⟩, .string ⟨#[100]⟩]) (ht : Tab W) => P.path (L.take 4) (some ⟨w.heap.size, 0, none⟩) 4 4 2 W (by omega) (by omega) (Hsm 4) (strs_pre (ss := L) (t := 9) (by rw [← hL]; exact hb) (by rw [← hL]; decide)) ht)
  have HI4 := Lib.hid (fun W (hb : Blk W w.heap.size 9 #[.string ⟨#[97]⟩, .string ⟨#[98]⟩, .string ⟨#[99]⟩, .string ⟨#[100]⟩]) (ht : Tab W) => P.inputs (L.take 4) (some ⟨w.heap.size, 0, none⟩) 4 4 W (by omega) (Hsm 4) (strs_pre (ss := L) (t := 9) (by rw [← hL]; exact hb) (by rw [← hL]; decide)) ht)
  have hp4 : pathB (L.take 4) 2 = [⟨#[100]⟩, X] := by rw [← hL, ← hX]; exact path_four _ _ _ _
  have hi4 : (inputsB (L.take 4)).length = 3 := by rw [← hL]; exact inputs_four _ _ _ _
  rw [hp4] at HP4
  have Hi4 := Lib.hid hi4
  have HXs := Lib.hid hXs
  clear hX hY hZ hL hsm Hsm HR hp4 hi4 hYs
  go_enter Tryd.func12, Tryd.ntmps12
  go_wp2_with fail
  have HT0 := Lib.hid (tab_alloc HT.out (.cells #[.string ⟨#[97]⟩, .string ⟨#[98]⟩, .string ⟨#[99]⟩, .string ⟨#[100]⟩] 9))
  have HK0 := Lib.hid (Blk.new w 9 #[.string ⟨#[97]⟩, .string ⟨#[98]⟩, .string ⟨#[99]⟩, .string ⟨#[100]⟩])
  have HB0 := Lib.hid ((Below.refl w.heap.size w).alloc (Nat.le_refl _) (.cells #[.string ⟨#[97]⟩, .string ⟨#[98]⟩, .string ⟨#[99]⟩, .string ⟨#[100]⟩] 9))
  refine (HN1.out _ HT0.out).mono ?_
  rintro e w1 ⟨rfl, h1⟩
  have HT1 := Lib.hid (tab_below HT0.out h1)
  have HK1 := Lib.hid (HK0.out.below h1 HK0.out.lt)
  have HB1 := Lib.hid (HB0.out.trans (h1.mono HB0.out.size))
  clear h1
  go_wp2_with fail
  refine (HR1.out _ HK1.out HT1.out).mono ?_
  rintro e w2 ⟨rfl, h2⟩
  have HT2 := Lib.hid (tab_below HT1.out h2)
  have HK2 := Lib.hid (HK1.out.below h2 HK1.out.lt)
  have HB2 := Lib.hid (HB1.out.trans (h2.mono HB1.out.size))
  clear h2
  go_wp2_with fail
  refine (HR4.out _ HK2.out HT2.out).mono ?_
  rintro e w3 ⟨rfl, h3⟩
  have HT3 := Lib.hid (tab_below HT2.out h3)
  have HK3 := Lib.hid (HK2.out.below h3 HK2.out.lt)
  have HB3 := Lib.hid (HB2.out.trans (h3.mono HB2.out.size))
  clear h3
  go_wp2_with fail
  refine (HN2.out _ HT3.out).mono ?_
  rintro e w4 ⟨rfl, h4⟩
  have HT4 := Lib.hid (tab_below HT3.out h4)
  have HK4 := Lib.hid (HK3.out.below h4 HK3.out.lt)
  have HB4 := Lib.hid (HB3.out.trans (h4.mono HB3.out.size))
  clear h4
  go_wp2_with fail
  refine (HN3.out _ HT4.out).mono ?_
  rintro e w5 ⟨rfl, h5⟩
  have HT5 := Lib.hid (tab_below HT4.out h5)
  have HK5 := Lib.hid (HK4.out.below h5 HK4.out.lt)
  have HB5 := Lib.hid (HB4.out.trans (h5.mono HB4.out.size))
  clear h5
  go_wp2_with fail
  refine (HP4.out _ HK5.out HT5.out).mono ?_
  rintro e w6 ⟨a6, c6, rfl, hs6, h6, _⟩
  have HT6 := Lib.hid (tab_below HT5.out h6)
  have HK6 := Lib.hid (HK5.out.below h6 HK5.out.lt)
  have HB6 := Lib.hid (HB5.out.trans (h6.mono HB5.out.size))
  have HS6 := Lib.hid (show Strs (w6.alloc (.cells #[.string ⟨#[100]⟩, .string X] 9)) a6 2 [⟨#[100]⟩, X] from hs6.below ((Below.refl _ _).alloc (Nat.le_refl _) _))
  have HS7 := Lib.hid (strs_blk (ss := [⟨#[100]⟩, X]) (Blk.new w6 9 #[.string ⟨#[100]⟩, .string X]) rfl)
  have HT7 := Lib.hid (tab_alloc HT6.out (.cells #[.string ⟨#[100]⟩, .string X] 9))
  have HK7 := Lib.hid (HK6.out.alloc (.cells #[.string ⟨#[100]⟩, .string X] 9))
  have HB7 := Lib.hid (HB6.out.alloc HB6.out.size (.cells #[.string ⟨#[100]⟩, .string X] 9))
  have Htx := Lib.hid (fun c => texts_any [⟨#[100]⟩, X] [⟨#[100]⟩, X] a6 (some ⟨w6.heap.size, 0, none⟩) 2 2 c 2 _ HS6.out HS7.out (by omega) true ⟨fun _ => rfl, fun _ => rfl⟩)
  clear hs6 h6
  simp only [List.length_cons, List.length_nil, Nat.zero_add]
  go_wp2_with fail
  refine (Htx.out c6).mono ?_
  rintro e w8 ⟨rfl, h8⟩
  have HT8 := Lib.hid (tab_below HT7.out h8)
  have HK8 := Lib.hid (HK7.out.below h8 HK7.out.lt)
  have HB8 := Lib.hid (HB7.out.trans (h8.mono HB7.out.size))
  clear h8
  go_wp2_with fail
  refine (HR3.out _ HK8.out HT8.out).mono ?_
  rintro e w9 ⟨rfl, h9⟩
  have HT9 := Lib.hid (tab_below HT8.out h9)
  have HK9 := Lib.hid (HK8.out.below h9 HK8.out.lt)
  have HB9 := Lib.hid (HB8.out.trans (h9.mono HB8.out.size))
  clear h9
  go_wp2_with fail
  refine (HI4.out _ HK9.out HT9.out).mono ?_
  rintro e w10 ⟨a10, c10, rfl, _, h10, _⟩
  rw [Hi4.out]
  have HB10 := Lib.hid (HB9.out.trans (h10.mono HB9.out.size))
  have hx32 := HXs.out
  clear h10
  go_wp2_with fail
  go_ret
  exact ⟨rfl, HB10.out⟩
end Go.Proofs.YtdkjlijmejleoaaDoor.Sp
