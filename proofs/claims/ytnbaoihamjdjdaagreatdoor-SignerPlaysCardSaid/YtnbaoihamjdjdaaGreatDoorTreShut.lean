/- Slices of texts as arguments: what is known of them, and what the bound on the bulk says. -/
import Derived.Test.YtnbaoihamjdjdaaGreatDoorShut
import Derived.Test.YtnbaoihamjdjdaaGreatDoorShaPb
import Derived.SliceStrings
import Derived.SizedLaws
import Derived.Carry
namespace Go.Proofs.YtnbaoihamjdjdaaGreatDoor.Sp
open Go Go.ChangeShapes Go.WideShapes Go.ChangeAt Go.RowKit
set_option maxRecDepth 100000

theorem cellsOfText : Tryz.prog.cellsOf 9 = 1 := by kernel_rfl

section
variable {H : Type}
theorem bulk_texts (l : List ByteArray) : (∀ s ∈ l, s.size ≤ Rows.uptoBulkAll (strs (H := H) l)) ∧ l.length ≤ Rows.uptoBulkAll (strs (H := H) l) := by
  induction l with
  | nil => exact ⟨(fun s hs => by cases hs), Nat.zero_le _⟩
  | cons s l ih =>
    have hs : s.data.toList.length = s.size := by simp
    simp only [strs, List.map_cons, Rows.uptoBulkAll, Rows.uptoBulk, List.length_cons] at ih ⊢
    rw [hs]
    refine ⟨fun x hx => ?_, by omega⟩
    rcases List.mem_cons.1 hx with rfl | hx
    · omega
    · have := ih.1 x hx; omega
theorem weights_texts : ∀ (l : List ByteArray) (s : ByteArray), s ∈ l → s.data.toList.length ∈ DataW.weightsAll Tryz.prog 9 (strs (H := H) l)
  | [], s, h => by cases h
  | x :: l, s, h => by
    show _ ∈ DataW.weights Tryz.prog 9 (.lit (.string x.data.toList)) ++ DataW.weightsAll Tryz.prog 9 (strs (H := H) l)
    rcases List.mem_cons.1 h with rfl | h
    · exact List.mem_append_left _ (by simp [DataW.weights])
    · exact List.mem_append_right _ (weights_texts l s h)
theorem sized_texts {ts : List TypeId} {ds : List (DataW H)} (h : (DataW.weightsEach Tryz.prog ts ds).all (· ≤ reachBytes) = true) {j : Nat} {t : TypeId} {d : DataW H} (ht : ts[j]? = some t) (hd : ds[j]? = some d) {ss : List ByteArray}
    (hs : ∀ s ∈ ss, s.data.toList.length ∈ d.weights Tryz.prog t) : ∀ s ∈ ss, s.size ≤ 140737488351232 := fun s h1 => by
  have h9 := List.all_eq_true.1 h _ (DataW.weights_mem_each ht hd _ (hs s h1))
  have h8 : s.data.toList.length ≤ reachBytes := by simpa using h9
  rw [size_list] at h8
  exact h8
theorem open_texts {enc : TypeId × Value → H} {W : World} {base : Nat} {v : Value} {d : DataW H} {ps : List MemPlace} (hval : Value.okWide Tryz.prog W .any base 22 v)
    (h : DataW.Trod enc Tryz.prog W 0 (fun _ => true) true 22 v d ps) :
    ∃ a n c ss, v = .slice a n c ∧ Strs W a n ss ∧ n ≤ c ∧ n ≤ 9223372036854775807 ∧ (∀ s ∈ ss, s.size ≤ 9223372036854775807) ∧ (∀ s ∈ ss, s.size ≤ Rows.uptoBulk d) ∧ n ≤ Rows.uptoBulk d ∧ (∀ s ∈ ss, s.data.toList.length ∈ d.weights Tryz.prog 22) := by
  obtain ⟨a0, len, cap, rfl⟩ := okWide_slice Tryz.underlying22 hval
  obtain ⟨fuel, hf⟩ := h
  rcases open_strings Tryz.underlying22 Tryz.underlying9 cellsOfText hf with ⟨hcs, hx⟩ | ⟨a, len', cap', ss, hcs, _, hl, hm, hz, hx, hcell, hws⟩
  · simp [Value.cells] at hcs
    obtain ⟨rfl, rfl, rfl⟩ := hcs
    exact ⟨none, 0, 0, [], rfl, ⟨rfl, fun h => by omega⟩, Nat.le_refl _, by omega, (fun s hs => by cases hs), (fun s hs => by cases hs), Nat.zero_le _, (fun s hs => by cases hs)⟩
  · simp [Value.cells] at hcs
    obtain ⟨rfl, rfl, rfl⟩ := hcs
    simp only [Prod.mk.injEq] at hx
    obtain ⟨rfl, _⟩ := hx
    simp only [if_true] at hz
    have hb := bulk_texts (H := H) (ss.take len)
    have hl2 : (ss.take len).length = len := by rw [List.length_take]; omega
    refine ⟨some a, len, cap, ss.take len, rfl, ⟨hl2, fun hp => ?_⟩, hl, by unfold maxLen at hm; omega, fun s hs => ?_, fun s hs => ?_, ?_, fun s hs => ?_⟩
    · obtain ⟨b, off, spot⟩ := a
      have hspot : spot = none := by simpa [Addr.add] using World.cell?_spot (hcell 0 (by omega))
      subst hspot
      refine ⟨b, off, rfl, fun j hj => ?_⟩
      rw [← Go.WideShapes.add_plain, hcell j (by omega), List.getD_eq_getElem?_getD, List.getD_eq_getElem?_getD, List.getElem?_take, if_pos hj]
    · have := hws s (List.mem_of_mem_take hs); unfold maxLen at this; omega
    · have := hb.1 s hs
      simp only [Rows.uptoBulk]; omega
    · simp only [Rows.uptoBulk]; omega
    · rw [DataW.weights, Tryz.underlying22]
      exact List.mem_cons_of_mem _ (List.mem_append_left _ (weights_texts _ s hs))
end
end Go.Proofs.YtnbaoihamjdjdaaGreatDoor.Sp
