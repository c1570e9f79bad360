/- The statement on states and blocks of the right length: its walk. -/
import Derived.Test.YtchdnfhajcfdoaaDoorShaRefB
import Derived.Lib.BufferWrite
import Derived.Lib.SlBuf
namespace Go.Proofs.YtchdnfhajcfdoaaDoor.Sp
open Go Go.RowKit

/-- 'copy(dst, s)' from a string of any length over a whole row. -/
theorem run_copy_cut {P : Program} (w : World) (dT sT ty elem : TypeId) (g dLen dCap : Nat) (s : ByteArray) (cur : Array Value) (t : TypeId)
    (hu : P.underlying dT = some (.slice elem)) (hs : (P.info? elem).map (·.size) = some 1) (hg : w.heap[g]? = some (.cells cur t (0, 0))) (hd : cur.size = dLen) :
    (Builtin.copy_ #[dT, sT] ty #[.slice (some ⟨g, 0, none⟩) dLen dCap, .string s]).run P w =
      .ok (goInt (Nat.min s.size dLen)) (w.setRow g (byteVs (s.data.toList.take (Nat.min s.size dLen)) ++ cur.toList.drop (Nat.min s.size dLen)).toArray) := by
  obtain ⟨m, hm⟩ : ∃ m, m = Nat.min s.size dLen := ⟨_, rfl⟩
  have hm1 : m ≤ s.size := by rw [hm]; exact Nat.min_le_left _ _
  have hm2 : m ≤ dLen := by rw [hm]; exact Nat.min_le_right _ _
  have hlen : (byteVs (s.data.toList.take m)).length = m := by
    rw [byteVs_length, List.length_take, size_list]; omega
  have hone : ∀ v ∈ byteVs (s.data.toList.take m), v.oneCell' = true := by
    intro v hv
    simp only [byteVs, List.mem_map] at hv
    obtain ⟨b, _, rfl⟩ := hv
    rfl
  have hst := run_storeCells_at P g 0 t (byteVs (s.data.toList.take m)) 0 cur w hg (by rw [hlen]; omega) hone
  have htk : List.take m (List.map (fun b : UInt8 => Value.int IntKind.u8 (b.toNat : Int)) s.data.toList) = byteVs (s.data.toList.take m) := by
    rw [← List.map_take]; rfl
  rw [hlen] at hst
  simp only [Nat.add_zero, Nat.zero_add, List.take_zero, List.nil_append] at hst
  rw [← hm]
  cases hq : P.info? elem with
  | none => simp [hq] at hs
  | some i =>
    simp [Builtin.copy_, run_underlying hu, Builtin.lenOf, Builtin.firstCells, sizeOf, typeInfo, hq, ← hm]
    rw [htk, hst]
    simp [Result.andThen]

/-- A text, cut or filled with noughts to n bytes. -/
def fill (s : ByteArray) (n : Nat) : List UInt8 := s.data.toList.take (Nat.min s.size n) ++ List.replicate (n - Nat.min s.size n) 0
def fillB (s : ByteArray) (n : Nat) : ByteArray := ⟨(fill s n).toArray⟩
theorem fill_length (s : ByteArray) (n : Nat) : (fill s n).length = n := by
  have h1 := Nat.min_le_left s.size n
  have h2 := Nat.min_le_right s.size n
  unfold fill
  rw [List.length_append, List.length_take, List.length_replicate, size_list]
  simp only [Nat.min_def] at *
  split <;> split <;> omega
theorem fill_cells (s : ByteArray) (n : Nat) : byteVs (s.data.toList.take (Nat.min s.size n)) ++ (madeCells #[.int .u8 0] n).toList.drop (Nat.min s.size n) = byteVs (fill s n) := by
  unfold fill
  rw [byteVs_append, madeCells_toList]
  congr 1
  simp [byteVs, byteV, List.map_replicate, List.drop_replicate]

theorem run_make_n (c : Nat) (hc : c ≤ 1000) (u : World) : (Instr.makeSlice 30 (.int .i64 (c : Int)) (.int .i64 (c : Int))).run Tryd.prog u =
    .ok (.slice (some ⟨u.heap.size, 0, none⟩) c c) (u.alloc (.cells (madeCells #[.int .u8 0] c) 5)) := by
  obtain ⟨i0, hi, hz0, hz1, hz2⟩ := info_parts infoByte
  have h := run_make (P := Tryd.prog) u 30 5 i0 (.int .u8 0) Tryd.underlying30 hi hz0 .i64 .i64 (c : Int) (c : Int) (by omega) (by omega) (by rw [hz2]; omega) (by omega)
  have e2 : ((c : Int)).toNat = c := by omega
  rw [e2] at h
  simpa [hz1, Value.cells] using h

theorem byteOne : (Tryd.prog.info? 5).map (·.size) = some 1 := by kernel_rfl

theorem run_text_of_blk {w : World} {g n cap : Nat} {l : List UInt8} (h : Blk w g 5 (byteVs l).toArray) (hn : l.length = n) :
    (convert 30 9 (.slice (some ⟨g, 0, none⟩) n cap)).run Tryd.prog w = .ok (.string ⟨l.toArray⟩) w := by
  subst hn
  refine run_convert_bytes_back w _ _ _ ⟨g, 0, none⟩ cap l Tryd.underlying30 Tryd.underlying5 Tryd.underlying9 ?_
  intro j hj
  have e : (⟨g, 0, none⟩ : Addr).add j = ⟨g, j, none⟩ := by unfold Addr.add; split <;> simp_all
  rw [e, h.cell j]
  simp [byteVs, byteV, hj]

end Go.Proofs.YtchdnfhajcfdoaaDoor.Sp
