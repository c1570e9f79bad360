/- Package sha: the tables of the document's own answer, and its Tag at any list of texts; texts in a block. -/
import Derived.Test.YtnbaoihamjdjdaaGreatDoorShaQ
namespace Go.Proofs.YtnbaoihamjdjdaaGreatDoor.Sp
open Go Go.RowKit

theorem strs_blk {w : World} {g : Nat} {t : TypeId} {ss : List ByteArray} {n : Nat} (h : Blk w g t (ss.map Value.string).toArray) (hn : ss.length = n) : Strs w (some ⟨g, 0, none⟩) n ss := by
  refine ⟨hn, fun _ => ⟨g, 0, rfl, fun j hj => ?_⟩⟩
  have hj' : j < ss.length := by omega
  rw [h.cell]
  simp [List.getD, hj']
/-- The tables of the document's own answer. -/
def Tabs (w : World) : Prop := KTab w ∧ FTab w
theorem Tabs.below {w w' : World} (h : Tabs w) (hb : Below w.heap.size w w') : Tabs w' := ⟨h.1.below hb h.1.lt, h.2.below hb h.2.lt⟩
theorem Tabs.alloc {w : World} (h : Tabs w) (o : Obj) : Tabs (w.alloc o) := h.below ((Below.refl _ _).alloc (Nat.le_refl _) o)

theorem qtag_any (d : Nat) (hd : d < 256) (g : Nat) (n c : Nat) (ss : List ByteArray) (w : World) (h : Strs w (some ⟨g, 0, none⟩) n ss) (hn : n ≤ 9223372036854775807) (hlen : len2 ss n ≤ 281474976710656) (hT : Tabs w) (R : ByteArray) (hR : R = ⟨(sum (inB (UInt8.ofNat d) ss)).toArray⟩) :
    Calls Tryz.prog 54 #[.int .u8 (d : Int), .slice (some ⟨g, 0, none⟩) n c] w fun e w' => e = .returned (.string R) ∧ Below w.heap.size w w' := by
  have h1 := rtag_any (UInt8.ofNat d) (some ⟨g, 0, none⟩) n c ss w h hn hlen hT.1 hT.2 R hR
  have e : ((UInt8.ofNat d).toNat : Int) = (d : Int) := by rw [UInt8.toNat_ofNat']; omega
  rw [e] at h1
  exact h1

theorem qtag_of (d : Nat) (hd : d < 256) (a : Option Addr) (n c : Nat) (ss : List ByteArray) (w : World) (h : Strs w a n ss) (hn : n ≤ 9223372036854775807) (hlen : len2 ss n ≤ 281474976710656) (hT : Tabs w) (R : ByteArray) (hR : R = ⟨(sum (inB (UInt8.ofNat d) ss)).toArray⟩) :
    Calls Tryz.prog 54 #[.int .u8 (d : Int), .slice a n c] w fun e w' => e = .returned (.string R) ∧ Below w.heap.size w w' := by
  have h1 := rtag_any (UInt8.ofNat d) a n c ss w h hn hlen hT.1 hT.2 R hR
  have e : ((UInt8.ofNat d).toNat : Int) = (d : Int) := by rw [UInt8.toNat_ofNat']; omega
  rw [e] at h1
  exact h1
theorem Tabs.drew_ {w : World} (h : Tabs w) : Tabs w.drew := h
end Go.Proofs.YtnbaoihamjdjdaaGreatDoor.Sp
