/- The statements of package tree: Fill. -/
import Derived.Test.YtdkjlijmejleoaaDoorTreLaw
import Derived.Test.YtdkjlijmejleoaaDoorTreB
import Derived.Lib.BufferWrite
namespace Go.Proofs.YtdkjlijmejleoaaDoor.Sp
open Go Go.RowKit

/-- 'copy(dst, s)' from a string of any length over a whole row. -/
theorem run_copy_cut {P : Program} (w : World) (dT sT ty elem : TypeId) (g dLen dCap : Nat) (s : ByteArray) (cur : Array Value) (t : TypeId)
    (hu : P.underlying dT = some (.slice elem)) (hs : (P.info? elem).map (·.size) = some 1) (hg : w.heap[g]? = some (.cells cur t (0, 0))) (hd : cur.size = dLen) :
    (Builtin.copy_ #[dT, sT] ty #[.slice (some ⟨g, 0, none⟩) dLen dCap, .string s]).run P w =
      .ok (goInt (Nat.min s.size dLen)) (w.setRow g (byteVs (s.data.toList.take (Nat.min s.size dLen)) ++ cur.toList.drop (Nat.min s.size dLen)).toArray) := by
  obtain ⟨m, hm⟩ : ∃ m, m = Nat.min s.size dLen := ⟨_, rfl⟩
  have hm1 : m ≤ s.size := by rw [hm]; exact Nat.min_le_left _ _
  have hm2 : m ≤ dLen := by rw [hm]; exact Nat.min_le_right _ _
  have hlen : (byteVs (s.data.toList.take m)).length = m := by
    rw [byteVs_length, List.length_take, size_list]; omega
  have hone : ∀ v ∈ byteVs (s.data.toList.take m), v.oneCell' = true := by
    intro v hv
    simp only [byteVs, List.mem_map] at hv
    obtain ⟨b, _, rfl⟩ := hv
    rfl
  have hst := run_storeCells_at P g 0 t (byteVs (s.data.toList.take m)) 0 cur w hg (by rw [hlen]; omega) hone
  have htk : List.take m (List.map (fun b : UInt8 => Value.int IntKind.u8 (b.toNat : Int)) s.data.toList) = byteVs (s.data.toList.take m) := by
    rw [← List.map_take]; rfl
  rw [hlen] at hst
  simp only [Nat.add_zero, Nat.zero_add, List.take_zero, List.nil_append] at hst
  rw [← hm]
  cases hq : P.info? elem with
  | none => simp [hq] at hs
  | some i =>
    simp [Builtin.copy_, run_underlying hu, Builtin.lenOf, Builtin.firstCells, sizeOf, typeInfo, hq, ← hm]
    rw [htk, hst]
    simp [Result.andThen]

/-- A text, cut or filled with noughts to n bytes. -/
def fill (s : ByteArray) (n : Nat) : List UInt8 := s.data.toList.take (Nat.min s.size n) ++ List.replicate (n - Nat.min s.size n) 0
def fillB (s : ByteArray) (n : Nat) : ByteArray := ⟨(fill s n).toArray⟩
theorem fill_length (s : ByteArray) (n : Nat) : (fill s n).length = n := by
  have h1 := Nat.min_le_left s.size n
  have h2 := Nat.min_le_right s.size n
  unfold fill
  rw [List.length_append, List.length_take, List.length_replicate, size_list]
  simp only [Nat.min_def] at *
  split <;> split <;> omega
theorem fill_cells (s : ByteArray) (n : Nat) : byteVs (s.data.toList.take (Nat.min s.size n)) ++ (madeCells #[.int .u8 0] n).toList.drop (Nat.min s.size n) = byteVs (fill s n) := by
  unfold fill
  rw [byteVs_append, madeCells_toList]
  congr 1
  simp [byteVs, byteV, List.map_replicate, List.drop_replicate]

theorem run_make_n (c : Nat) (hc : c ≤ 1000) (u : World) : (Instr.makeSlice 54 (.int .i64 (c : Int)) (.int .i64 (c : Int))).run Tryd.prog u =
    .ok (.slice (some ⟨u.heap.size, 0, none⟩) c c) (u.alloc (.cells (madeCells #[.int .u8 0] c) 5)) := by
  obtain ⟨i0, hi, hz0, hz1, hz2⟩ := info_parts infoByte
  have h := run_make (P := Tryd.prog) u 54 5 i0 (.int .u8 0) Tryd.underlying54 hi hz0 .i64 .i64 (c : Int) (c : Int) (by omega) (by omega) (by rw [hz2]; omega) (by omega)
  have e2 : ((c : Int)).toNat = c := by omega
  rw [e2] at h
  simpa [hz1, Value.cells] using h

theorem byteOne : (Tryd.prog.info? 5).map (·.size) = some 1 := by kernel_rfl

theorem fillB_size (s : ByteArray) (n : Nat) : (fillB s n).size = n := by
  unfold fillB; show (fill s n).toArray.size = n; rw [List.size_toArray]; exact fill_length s n

set_option maxHeartbeats 1000000 in
theorem fill_any (s : ByteArray) (_hs : s.size ≤ 9223372036854775807) (w : World) :
    Calls Tryd.prog 26 #[.string s] w fun e w' => e = .returned (.string (fillB s 32)) ∧ Below w.heap.size w w' := by
  have hmk1 := run_make_n 32 (by omega)
  simp only [Int.cast_ofNat_Int] at hmk1
  go_enter Tryd.func26, Tryd.ntmps26
  go_upto_region 2 with fail
  have A1 := Lib.hid (Blk.new w 5 (madeCells #[.int .u8 0] 32))
  have A3 := Lib.hid ((Below.refl w.heap.size w).alloc (Nat.le_refl _) (.cells (madeCells #[.int .u8 0] 32) 5))
  generalize w.alloc (.cells (madeCells #[.int .u8 0] 32) 5) = w2 at *
  have hr1 := run_copy_cut (P := Tryd.prog) w2 54 9 3 5 w.heap.size 32 32 s _ 5 Tryd.underlying54 byteOne A1.out (size_madeCells _ _)
  rw [fill_cells] at hr1
  go_upto_region 3 with (at_builtin; refine Lib.wpList_copy_run _ rfl _ _ 54 9 rfl _ _ rfl rfl hr1 ?_)
  have C1 := Lib.hid (A1.out.row (byteVs (fill s 32)).toArray)
  have C3 := Lib.hid (below_setRow A3.out (Nat.le_refl _) (byteVs (fill s 32)).toArray)
  clear hr1 A1 A3 hmk1
  generalize w2.setRow w.heap.size (byteVs (fill s 32)).toArray = w3 at *
  have hca := run_text_of_blk (cap := 32) C1.out (fill_length s 32)
  go_wp2_with fail
  go_ret
  exact ⟨rfl, C3.out⟩
end Go.Proofs.YtdkjlijmejleoaaDoor.Sp
