/- The statements of package trie: one of nine keys. -/
import Derived.Test.YtnkkckmejjcfkaaDoorTriPick
import Derived.Lib.BufferWrite
namespace Go.Proofs.YtnkkckmejjcfkaaDoor.Sp
open Go Go.RowKit
set_option maxRecDepth 100000

theorem key_any (c : Int) (h0 : -9223372036854775808 ≤ c) (h1 : c ≤ 9223372036854775807) (w : World) :
    Calls Tryd.prog 24 #[.int .i64 c] w fun e w' => e = .returned (.string (keyOf c)) ∧ Below w.heap.size w w' := by
  have HP := Lib.hid (tpick_any c 9 (by omega) (by omega) h0 h1)
  have hq := pickN_lt c 9 (by omega)
  unfold keyOf
  obtain ⟨q, eq⟩ : ∃ q, pickN c 9 = q := ⟨_, rfl⟩
  rw [eq] at HP hq ⊢
  obtain ⟨r, hr⟩ : ∃ r : Nat, 97 + q = r := ⟨_, rfl⟩
  have hri : (97 : Int) + (q : Int) = (r : Int) := by omega
  have hrw : IntKind.i64.wrap (r : Int) = (r : Int) := by rw [IntKind.wrap_i64]; omega
  have hru : IntKind.u8.wrap (r : Int) = (r : Int) := by rw [IntKind.wrap_u8']; omega
  have hu : (UInt8.ofNat r).toNat = r := by rw [UInt8.toNat_ofNat']; omega
  have hv : byteVs [UInt8.ofNat r] = [.int .u8 (r : Int)] := by show [byteV _] = _; unfold byteV; rw [hu]
  have hb : Blk (w.alloc (.cells #[.int .u8 (r : Int)] 5)) w.heap.size 5 (byteVs [UInt8.ofNat r]).toArray := by rw [hv]; exact Blk.new _ _ _
  have hca := run_text_of_blk (n := 1) (cap := 1) hb rfl
  have HB := Lib.hid ((Below.refl w.heap.size w).alloc (Nat.le_refl _) (.cells #[.int .u8 (r : Int)] 5))
  have HR := Lib.hid (show keyC q = ⟨[UInt8.ofNat r].toArray⟩ from by rw [← hr]; rfl)
  rw [HR.out]
  clear eq hr hu hv hb
  go_enter Tryd.func24, Tryd.ntmps24
  go_wp2_with fail
  refine (HP.out w).mono ?_
  rintro e w1 ⟨rfl, rfl⟩
  go_wp2_with fail
  go_ret
  exact ⟨rfl, HB.out⟩
end Go.Proofs.YtnkkckmejjcfkaaDoor.Sp
