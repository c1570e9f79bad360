/- Package path's own Print and Parse, as the statements' walks want them. -/
import Derived.Test.YtakfplkdjapooaaDoorPthPr
import Derived.Test.YtakfplkdjapooaaDoorPthGo
namespace Go.Proofs.YtakfplkdjapooaaDoor.Sp
open Go Go.RowKit

set_option maxHeartbeats 2000000 in
theorem pa_any (s : ByteArray) (hs : s.size ≤ 9223372036854775807) (w : World) (_hT : Tens w) :
    Calls Tryd.prog 12 #[.string s] w (PFound s w) := by
  have HS := Lib.hid hs
  clear hs
  have HZ0 := Lib.hid (Blk.new w 24 #[.int .i64 0, .int .u64 0, .int .u64 0])
  have HB0 := Lib.hid (below_more (Below.refl w.heap.size w) (.cells #[.int .i64 0, .int .u64 0, .int .u64 0] 24))
  go_enter Tryd.func12, Tryd.ntmps12
  go_wp2_with fail
  go_loopw [4, 5, 6] (fun K _ _ wr => ∃ k : Nat, 1 ≤ k ∧ k ≤ 9 ∧ K = .int .i64 (k : Int) ∧ Hid (Blk wr w.heap.size 24 #[.int .i64 0, .int .u64 0, .int .u64 0]) ∧ Hid (Below w.heap.size w wr) ∧ Hid (∀ k' a b, Valid k' a b → ptext k' a b = s.data.toList → k ≤ k')) (fun K _ _ _ => 9 - (intOf K).toNat)
  case atStart => exact ⟨1, by omega, by omega, rfl, HZ0, HB0, Lib.hid fun k' a b hv _ => hv.1⟩
  case round =>
    obtain ⟨k, h1, h9, rfl, HZ, HB, HA⟩ := hrel
    have hlz := HZ.out.lt
    by_cases h8 : k ≤ 8
    · have h8i : (k : Int) ≤ 8 := by omega
      have HQ := Lib.hid (pas_any k s h1 h8 HS.out)
      have HI := Lib.hid (fun a b => go_iff k a b s.data.toList h1 h8)
      go_wp2_with fail
      refine (HQ.out _).mono ?_
      rintro e w2 ⟨K, a, b, ok, rfl, hb2, hor⟩
      have HZ2 := Lib.hid (HZ.out.below hb2 HZ.out.lt)
      have HB2 := Lib.hid (HB.out.trans (hb2.mono HB.out.size))
      have hlz2 := HZ2.out.lt
      clear hb2
      unfold pathV
      rcases hor with ⟨rfl, rfl, hgo⟩ | ⟨rfl, hgo⟩
      · have HF := Lib.hid (show Found s.data.toList k a b 0 from by
          obtain ⟨hv, e⟩ := (HI.out a b).1 hgo
          exact .inl ⟨rfl, hv, e⟩)
        clear hgo h8 h9
        obtain ⟨d0, d1, d2⟩ : w2.cell? ⟨w.heap.size, 0, none⟩ = some (.int .i64 0) ∧ w2.cell? ⟨w.heap.size, 1, none⟩ = some (.int .u64 0) ∧ w2.cell? ⟨w.heap.size, 2, none⟩ = some (.int .u64 0) := ⟨HZ2.out.cell 0, HZ2.out.cell 1, HZ2.out.cell 2⟩
        have f0 := HZ2.out.frozen 0
        have f1 := HZ2.out.frozen 1
        have f2 := HZ2.out.frozen 2
        go_wp2_with fail
        refine ret_agg_tmp rfl w.heap.size 24 #[.int .i64 (k : Int), .int .u64 (a : Int), .int .u64 (b : Int)] _ rfl ((store3 HZ2.out _ _ _).alloc _) rfl Tryd.underlying24 rfl (by kernel_rfl) ?_
        exact ⟨k, a, b, 0, rfl, HF.out, below_more (below3 HB2.out (Nat.le_refl _)) _⟩
      · have HA2 := Lib.hid (show ∀ k' a b, Valid k' a b → ptext k' a b = s.data.toList → k + 1 ≤ k' from fun k' a b hv e => by
          have h := HA.out k' a b hv e
          rcases Nat.lt_or_ge k k' with h2 | h2
          · exact h2
          · obtain rfl : k = k' := by omega
            exact absurd ((HI.out a b).2 ⟨hv, e⟩) (hgo a b))
        clear hgo
        go_wp2_with fail
        go_roundw
        case rel => exact ⟨k + 1, by omega, by omega, by go_num, Lib.hid (HZ2.out.alloc _), Lib.hid (below_more HB2.out _), HA2⟩
        case measure => simp [intOf]; omega
    · have h8i : ¬ (k : Int) ≤ 8 := by omega
      have HF := Lib.hid (show Found s.data.toList 0 0 0 40 from .inr ⟨rfl, rfl, rfl, rfl, fun k' a b hv e => by
        have := HA.out k' a b hv e; have := hv.2.1; omega⟩)
      obtain ⟨d0, d1, d2⟩ : wr.cell? ⟨w.heap.size, 0, none⟩ = some (.int .i64 0) ∧ wr.cell? ⟨w.heap.size, 1, none⟩ = some (.int .u64 0) ∧ wr.cell? ⟨w.heap.size, 2, none⟩ = some (.int .u64 0) := ⟨HZ.out.cell 0, HZ.out.cell 1, HZ.out.cell 2⟩
      have f0 := HZ.out.frozen 0
      have f1 := HZ.out.frozen 1
      have f2 := HZ.out.frozen 2
      clear h8 h9 h1
      go_wp2_with fail
      refine ret_agg_tmp rfl w.heap.size 24 #[.int .i64 0, .int .u64 0, .int .u64 0] _ rfl (store3 HZ.out _ _ _) rfl Tryd.underlying24 rfl (by kernel_rfl) ?_
      exact ⟨0, 0, 0, 40, rfl, HF.out, below3 HB.out (Nat.le_refl _)⟩
end Go.Proofs.YtakfplkdjapooaaDoor.Sp
