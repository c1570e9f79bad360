/- Package tree: the element above two, with its text; elements in memory. -/
import Derived.Test.YtdkjlijmejleoaaDoorTrgA
namespace Go.Proofs.YtdkjlijmejleoaaDoor.Sp
open Go Go.RowKit
set_option maxRecDepth 100000

/-- An element: its value, and the text that was hashed for it. -/
def ndV (v t : ByteArray) : Value := .agg #[.string v, .string t]

theorem nodeTwo : (Tryd.prog.info? 48).map (·.size) = some 2 := by kernel_rfl
set_option maxHeartbeats 1000000 in
theorem over_any (a s b t : ByteArray) (w : World) (h : a.size + b.size ≤ 281474976710647) (hT : Tab w) :
    Calls Tryd.prog 38 #[ndV a s, ndV b t] w fun e w' => e = .returned (ndV (nodeB a b) (inpB a b)) ∧ Below w.heap.size w w' := by
  have HL := Lib.hid (show len2 [a, b] 2 ≤ 281474976710656 from by rw [len2_two_]; omega)
  have HT := Lib.hid hT
  unfold ndV
  obtain ⟨I, hI⟩ : ∃ I, inpB a b = I := ⟨_, rfl⟩
  obtain ⟨R, hR⟩ : ∃ R, nodeB a b = R := ⟨_, rfl⟩
  have HI := Lib.hid hI
  have HR := Lib.hid (show R = ⟨(sum I.data.toList).toArray⟩ from by rw [← hR, node_sum, hI]; rfl)
  have hIs : I.size ≤ 9223372036854775000 := by rw [← hI, inpB_size]; omega
  rw [hI, hR]
  clear hT h hI hR
  go_enter Tryd.func38, Tryd.ntmps38
  go_wp2_with fail
  obtain ⟨W4, hW4⟩ : ∃ W4, ((((w.alloc (.cells #[.string a, .string s] 48)).alloc (.cells #[.string b, .string t] 48)).alloc (.cells #[.string { data := #[] }, .string { data := #[] }] 48)).alloc (.cells #[.string a, .string b] 9)) = W4 := ⟨_, rfl⟩
  have B4 := Lib.hid (show Below w.heap.size w W4 from by
    rw [← hW4]; exact ((((Below.refl _ _).alloc (Nat.le_refl _) _).alloc (by simp) _).alloc (by simp; omega) _).alloc (by simp; omega) _)
  have T4 := Lib.hid (HT.out.below B4.out HT.out.lt)
  have R4 := Lib.hid (show Blk W4 (w.heap.size + 1 + 1) 48 #[.string { data := #[] }, .string { data := #[] }] from by
    have h9 := (Blk.new ((w.alloc (.cells #[.string a, .string s] 48)).alloc (.cells #[.string b, .string t] 48)) 48 #[.string { data := #[] }, .string { data := #[] }]).alloc (.cells #[.string a, .string b] 9)
    rw [World.size_alloc, World.size_alloc] at h9; rw [← hW4]; exact h9)
  have S4 := Lib.hid (show Strs W4 (some ⟨w.heap.size + 1 + 1 + 1, 0, none⟩) 2 [a, b] from by
    have h9 := strs_of_blk_ (ss := [a, b]) (n := 2) (Blk.new (((w.alloc (.cells #[.string a, .string s] 48)).alloc (.cells #[.string b, .string t] 48)).alloc (.cells #[.string { data := #[] }, .string { data := #[] }] 48)) 9 _) rfl
    rw [World.size_alloc, World.size_alloc, World.size_alloc] at h9; rw [← hW4]; exact h9)
  rw [hW4]
  clear hW4
  refine (input_any 5 _ 2 2 [a, b] _ S4.out (by omega) HL.out).mono ?_
  rintro e w5 ⟨rfl, h5⟩
  rw [show (⟨(inB 5 [a, b]).toArray⟩ : ByteArray) = I from HI.out]
  have B5 := Lib.hid (B4.out.trans (h5.mono B4.out.size))
  have T5 := Lib.hid (T4.out.below h5 T4.out.lt)
  have R5 := Lib.hid (R4.out.below h5 R4.out.lt)
  clear h5
  go_wp2_with fail
  refine (sum_any I hIs _ T5.out).mono ?_
  rintro e w6 ⟨rfl, h6⟩
  rw [← HR.out]
  have B6 := Lib.hid (B5.out.trans (h6.mono B5.out.size))
  have r6 := R5.out.below h6 R5.out.lt
  have R6 := Lib.hid r6
  have c0 := r6.cell 0
  have c1 := r6.cell 1
  have f0 := r6.frozen 0
  have f1 := r6.frozen 1
  simp only [List.getElem?_toArray, List.getElem?_cons_zero, List.getElem?_cons_succ] at c0 c1
  clear h6 r6
  go_wp2_with fail
  refine ret_agg rfl (w.heap.size + 1 + 1) 48 #[.string R, .string I] _ rfl ((R6.out.set_ 0 _).set_ 1 _) rfl Tryd.underlying48 rfl nodeTwo ⟨rfl, ?_⟩
  exact (B6.out.setCell (p := ⟨w.heap.size + 1 + 1, 0, none⟩) (by simp; omega) _).setCell (p := ⟨w.heap.size + 1 + 1, 1, none⟩) (by simp; omega) _
end Go.Proofs.YtdkjlijmejleoaaDoor.Sp
