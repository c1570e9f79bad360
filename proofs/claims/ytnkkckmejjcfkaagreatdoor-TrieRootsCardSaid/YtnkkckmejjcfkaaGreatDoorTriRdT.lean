/- Texts as what is read. -/
import Derived.Test.YtnkkckmejjcfkaaGreatDoorGzI
namespace Go.Proofs.YtnkkckmejjcfkaaGreatDoor.Sp
open Go Go.RowKit

theorem strs_reads_ {w : World} {a : Option Addr} {n : Nat} {ss : List ByteArray} (h : Strs w a n ss) : Reads w w.heap.size 1 a n (ss.map Value.string) := by
  refine ⟨by rw [List.length_map, h.1, Nat.mul_one], fun hn => ?_⟩
  obtain ⟨b, off, rfl, hc⟩ := h.2 hn
  refine ⟨⟨b, off, none⟩, rfl, block_lt_of_cell (hc 0 hn), fun j u hu => ?_⟩
  rw [List.getElem?_map, Option.map_eq_some_iff] at hu
  obtain ⟨t, ht, rfl⟩ := hu
  have hj := (List.getElem?_eq_some_iff.1 ht).1
  rw [show (⟨b, off, none⟩ : Addr).add j = ⟨b, off + j, none⟩ from by unfold Addr.add; split <;> simp_all, hc j (by have := h.1; omega), List.getD_eq_getElem?_getD, ht]; rfl
end Go.Proofs.YtnkkckmejjcfkaaGreatDoor.Sp
