/- Package path: what an element makes of a text. -/
import Derived.Test.YtakfplkdjapooaaDoorPthCut
namespace Go.Proofs.YtakfplkdjapooaaDoor.Sp
open Go Go.RowKit

theorem store3 {w : World} {g : Nat} {t : TypeId} {v0 v1 v2 : Value} (h : Blk w g t #[v0, v1, v2]) (u0 u1 u2 : Value) :
    Blk (((w.setCell ⟨g, 0, none⟩ u0).setCell ⟨g, 1, none⟩ u1).setCell ⟨g, 2, none⟩ u2) g t #[u0, u1, u2] := ((h.set_ 0 u0).set_ 1 u1).set_ 2 u2
theorem below3 {B g : Nat} {w w' : World} {u0 u1 u2 : Value} (h : Below B w w') (hg : B ≤ g) : Below B w (((w'.setCell ⟨g, 0, none⟩ u0).setCell ⟨g, 1, none⟩ u1).setCell ⟨g, 2, none⟩ u2) :=
  ((h.setCell (p := ⟨g, 0, none⟩) hg u0).setCell (p := ⟨g, 1, none⟩) hg u1).setCell (p := ⟨g, 2, none⟩) hg u2
theorem par_lt (l : List UInt8) : parN l < 18446744073709551616 := by
  unfold parN valN
  split
  · split
    · rename_i h; exact h
    · decide
  · decide
/-- What Parse comes to at a text. -/
def PFound (s : ByteArray) (w : World) (e : Ending) (w' : World) : Prop :=
  ∃ (k a b : Nat) (E : Int), e = .returned (.tuple #[pathV k a b, .int .i64 E]) ∧ Found s.data.toList k a b E ∧ Below w.heap.size w w'
theorem parse_at (t : ByteArray) (N : Nat) (E : Int) (h : parN t.data.toList = N ∧ parE t.data.toList = E) (ht : t.size ≤ 9223372036854775807) (w : World) :
    Calls Tryd.prog 36 #[.string t] w fun e w' => e = .returned (.tuple #[.int .u64 (N : Int), .int .i64 E]) ∧ w = w' := by
  obtain ⟨rfl, rfl⟩ := h
  exact parse_any t ht w

set_option maxHeartbeats 1000000 in
theorem elp_word (S t : ByteArray) (p : Value) (w : World) :
    Calls Tryd.prog 28 #[.agg #[.int .i64 1, .string S], .string t, p] w fun e w' => e = .returned (.bool (t.toList == S.toList)) ∧ Below w.heap.size w w' := by
  have HB := Lib.hid (below_more (Below.refl w.heap.size w) (.cells #[.int .i64 1, .string S] 44))
  go_enter Tryd.func28, Tryd.ntmps28
  go_wp2_with fail
  go_ret
  exact ⟨rfl, HB.out⟩
theorem Only.more {g : Nat} {w w' : World} (h : Only g w w') (o : Obj) : Only g w (w'.alloc o) := h.trans (Only.of_below g (below_more (Below.refl _ _) o))

set_option maxHeartbeats 1000000 in
theorem elp_A (S t : ByteArray) (ht : t.size ≤ 9223372036854775807) (g : Nat) (K : Int) (a b : Int) (w : World) (hg : Blk w g 24 #[.int .i64 K, .int .u64 a, .int .u64 b]) :
    Calls Tryd.prog 28 #[.agg #[.int .i64 2, .string S], .string t, .pointer (some ⟨g, 0, none⟩)] w fun e w' => e = .returned (.bool (parE t.data.toList == 0)) ∧ Blk w' g 24 #[.int .i64 K, .int .u64 (parN t.data.toList : Int), .int .u64 b] ∧ Only g w w' := by
  have HG := Lib.hid hg
  clear hg
  obtain ⟨N, hN⟩ : ∃ N, parN t.data.toList = N := ⟨_, rfl⟩
  obtain ⟨E, hE⟩ : ∃ E, parE t.data.toList = E := ⟨_, rfl⟩
  have HP := Lib.hid (parse_at t N E ⟨hN, hE⟩ ht)
  rw [hN, hE]
  clear hN hE
  have hlt := HG.out.lt
  have c0 := HG.out.cell 0
  have c1 := HG.out.cell 1
  have c2 := HG.out.cell 2
  have f1 := HG.out.frozen 1
  simp only [List.getElem?_toArray, List.getElem?_cons_zero, List.getElem?_cons_succ] at c0 c1 c2
  go_enter Tryd.func28, Tryd.ntmps28
  go_wp2_with fail
  refine (HP.out _).mono ?_
  rintro e w1 ⟨rfl, rfl⟩
  go_wp2_with fail
  go_ret
  exact ⟨rfl, (HG.out.set_ 1 _).alloc _, ((Only.refl g w).set_ 1 _).more _⟩

set_option maxHeartbeats 1000000 in
theorem elp_B (S t : ByteArray) (ht : t.size ≤ 9223372036854775807) (g : Nat) (K : Int) (a b : Int) (w : World) (hg : Blk w g 24 #[.int .i64 K, .int .u64 a, .int .u64 b]) :
    Calls Tryd.prog 28 #[.agg #[.int .i64 3, .string S], .string t, .pointer (some ⟨g, 0, none⟩)] w fun e w' => e = .returned (.bool (parE t.data.toList == 0)) ∧ Blk w' g 24 #[.int .i64 K, .int .u64 a, .int .u64 (parN t.data.toList : Int)] ∧ Only g w w' := by
  have HG := Lib.hid hg
  clear hg
  obtain ⟨N, hN⟩ : ∃ N, parN t.data.toList = N := ⟨_, rfl⟩
  obtain ⟨E, hE⟩ : ∃ E, parE t.data.toList = E := ⟨_, rfl⟩
  have HP := Lib.hid (parse_at t N E ⟨hN, hE⟩ ht)
  rw [hN, hE]
  clear hN hE
  have hlt := HG.out.lt
  have c0 := HG.out.cell 0
  have c1 := HG.out.cell 1
  have c2 := HG.out.cell 2
  have f2 := HG.out.frozen 2
  simp only [List.getElem?_toArray, List.getElem?_cons_zero, List.getElem?_cons_succ] at c0 c1 c2
  go_enter Tryd.func28, Tryd.ntmps28
  go_wp2_with fail
  refine (HP.out _).mono ?_
  rintro e w1 ⟨rfl, rfl⟩
  go_wp2_with fail
  go_ret
  exact ⟨rfl, (HG.out.set_ 2 _).alloc _, ((Only.refl g w).set_ 2 _).more _⟩
end Go.Proofs.YtakfplkdjapooaaDoor.Sp
