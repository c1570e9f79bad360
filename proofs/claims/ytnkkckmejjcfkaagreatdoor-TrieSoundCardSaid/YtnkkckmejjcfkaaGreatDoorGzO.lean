/- Package trie: paths as arrays of 32 bytes: placeOf, path, bit, agree. -/
import Derived.Test.YtnkkckmejjcfkaaGreatDoorGzN
import Derived.Test.YtnkkckmejjcfkaaGreatDoorGzB
import Derived.Lib.BufferWrite
import Derived.Lib.SlBuf
import Derived.Deep.MidRow
import Derived.Deep.WholeRow
import Derived.Deep.RegionHeld3
import Derived.Shelf.SlSortCmp.WholeK
import Derived.Shelf.SlMaps.Clone
import Derived.Shelf.SlicesE.IndexFunc
import Derived.Shelf.SlSorted.Search
import Derived.Test.YtnkkckmejjcfkaaGreatDoorGzA
namespace Go.Proofs.YtnkkckmejjcfkaaGreatDoor.Sp
open Go Go.RowKit
set_option maxRecDepth 100000

/-- A path lies in block b from offset o on. -/
def At (w : World) (b o : Nat) (p : ByteArray) : Prop := w.rangeAt b o (byteVs p.data.toList)
theorem cell_below {B : Nat} {w w' : World} (hb : Below B w w') {a : Addr} (ha : a.block < B) : w'.cell? a = w.cell? a := by
  unfold World.cell?
  rw [hb.block a.block ha]
theorem At.below {w w' : World} {b o : Nat} {p : ByteArray} (h : At w b o p) {B : Nat} (hb : Below B w w') (hB : b < B) : At w' b o p := fun j v hv => by
  rw [cell_below hb (a := ⟨b, o + j, none⟩) hB]; exact h j v hv
theorem At.of_blk {w : World} {g : Nat} {t : TypeId} {p : ByteArray} (h : Blk w g t (byteVs p.data.toList).toArray) : At w g 0 p := fun j v hv => by
  rw [h.cell, Nat.zero_add, List.getElem?_toArray]; exact hv
theorem At.new (w : World) (t : TypeId) (p : ByteArray) : At (w.alloc (.cells (byteVs p.data.toList).toArray t)) w.heap.size 0 p := At.of_blk (Blk.new w t _)
theorem cells32 : (Tryz.prog.info? 67).map (·.size) = some 32 := by kernel_rfl
theorem len32 {p : ByteArray} (h : p.size = 32) : (byteVs p.data.toList).length = 32 := by rw [byteVs_length, size_list]; exact h
theorem info32 {p : ByteArray} (h : p.size = 32) : (Tryz.prog.info? 67).map (·.size) = some (byteVs p.data.toList).length := by rw [len32 h]; exact cells32
theorem bytes_one (l : List UInt8) : ((byteVs l).toArray).all (·.oneCell') = true := by
  rw [Array.all_eq_true_iff_forall_mem]
  intro x hx
  rw [List.mem_toArray] at hx
  unfold byteVs at hx
  obtain ⟨b, _, rfl⟩ := List.mem_map.1 hx
  rfl

/-- An array's 32 cells, written out. -/
theorem lit32 (cs : Array Value) (h : cs.size = 32) : (#[cs[0]'(by omega), cs[1]'(by omega), cs[2]'(by omega), cs[3]'(by omega), cs[4]'(by omega), cs[5]'(by omega), cs[6]'(by omega), cs[7]'(by omega), cs[8]'(by omega), cs[9]'(by omega), cs[10]'(by omega), cs[11]'(by omega), cs[12]'(by omega), cs[13]'(by omega), cs[14]'(by omega), cs[15]'(by omega), cs[16]'(by omega), cs[17]'(by omega), cs[18]'(by omega), cs[19]'(by omega), cs[20]'(by omega), cs[21]'(by omega), cs[22]'(by omega), cs[23]'(by omega), cs[24]'(by omega), cs[25]'(by omega), cs[26]'(by omega), cs[27]'(by omega), cs[28]'(by omega), cs[29]'(by omega), cs[30]'(by omega), cs[31]'(by omega)] : Array Value) = cs := by
  apply Array.ext
  · exact h.symm
  · intro i h1 h2
    have hi : i < 32 := by rw [← h]; exact h2
    match i, hi with
    | 0, _ => rfl
    | 1, _ => rfl
    | 2, _ => rfl
    | 3, _ => rfl
    | 4, _ => rfl
    | 5, _ => rfl
    | 6, _ => rfl
    | 7, _ => rfl
    | 8, _ => rfl
    | 9, _ => rfl
    | 10, _ => rfl
    | 11, _ => rfl
    | 12, _ => rfl
    | 13, _ => rfl
    | 14, _ => rfl
    | 15, _ => rfl
    | 16, _ => rfl
    | 17, _ => rfl
    | 18, _ => rfl
    | 19, _ => rfl
    | 20, _ => rfl
    | 21, _ => rfl
    | 22, _ => rfl
    | 23, _ => rfl
    | 24, _ => rfl
    | 25, _ => rfl
    | 26, _ => rfl
    | 27, _ => rfl
    | 28, _ => rfl
    | 29, _ => rfl
    | 30, _ => rfl
    | 31, _ => rfl
    | i + 32, hi => omega
/-- A text, cut or filled with noughts to 32 bytes. -/
def cutP (s : ByteArray) : ByteArray := ⟨(s.data.toList.take (Nat.min s.size 32) ++ List.replicate (32 - Nat.min s.size 32) 0).toArray⟩
theorem cutP_size (s : ByteArray) : (cutP s).size = 32 := by
  show (s.data.toList.take (Nat.min s.size 32) ++ List.replicate (32 - Nat.min s.size 32) 0).toArray.size = 32
  have h1 := Nat.min_le_left s.size 32
  have h2 := Nat.min_le_right s.size 32
  rw [List.size_toArray, List.length_append, List.length_take, List.length_replicate, size_list]
  simp only [Nat.min_def] at *
  split <;> split <;> omega
theorem cutP_same {s : ByteArray} (h : s.size = 32) : cutP s = s := by
  apply list_inj
  show s.data.toList.take (Nat.min s.size 32) ++ List.replicate (32 - Nat.min s.size 32) 0 = s.data.toList
  rw [h, show Nat.min 32 32 = 32 from rfl, List.take_of_length_le (by rw [size_list]; omega)]
  simp
theorem Blk.far_rowp {w : World} {g g' : Nat} {t : TypeId} {cs : Array Value} (h : Blk w g t cs) (hg : g ≠ g') (cs' : Array Value) : Blk (w.setRow g' cs') g t cs := by
  unfold Blk at h ⊢
  simp only [World.setRow, Array.getElem?_modify]; rw [if_neg (by omega)]; exact h
theorem byteOneP : (Tryz.prog.info? 5).map (·.size) = some 1 := by kernel_rfl
/-- 'copy(dst, s)' from a string of any length over a row of 32 noughts. -/
theorem run_copy_cutp (w : World) (ty : TypeId) (g : Nat) (s : ByteArray) (t : TypeId) (hg : w.heap[g]? = some (.cells (byteVs (List.replicate 32 0)).toArray t (0, 0))) :
    (Builtin.copy_ #[62, 9] ty #[.slice (some ⟨g, 0, none⟩) 32 32, .string s]).run Tryz.prog w =
      .ok (goInt (Nat.min s.size 32)) (w.setRow g (byteVs (cutP s).data.toList).toArray) := by
  obtain ⟨m, hm⟩ : ∃ m, m = Nat.min s.size 32 := ⟨_, rfl⟩
  have hm1 : m ≤ s.size := by rw [hm]; exact Nat.min_le_left _ _
  have hm2 : m ≤ 32 := by rw [hm]; exact Nat.min_le_right _ _
  have hlen : (byteVs (s.data.toList.take m)).length = m := by
    rw [byteVs_length, List.length_take, size_list]; omega
  have hone : ∀ v ∈ byteVs (s.data.toList.take m), v.oneCell' = true := by
    intro v hv
    simp only [byteVs, List.mem_map] at hv
    obtain ⟨b, _, rfl⟩ := hv
    rfl
  have hst := run_storeCells_at Tryz.prog g 0 t (byteVs (s.data.toList.take m)) 0 _ w hg (by rw [hlen, List.size_toArray, byteVs_length, List.length_replicate]; omega) hone
  have htk : List.take m (List.map (fun b : UInt8 => Value.int IntKind.u8 (b.toNat : Int)) s.data.toList) = byteVs (s.data.toList.take m) := by
    rw [← List.map_take]; rfl
  rw [hlen] at hst
  simp only [Nat.add_zero, Nat.zero_add, List.take_zero, List.nil_append] at hst
  have hrow : (byteVs (s.data.toList.take m) ++ (byteVs (List.replicate 32 0)).drop m).toArray = (byteVs (cutP s).data.toList).toArray := by
    congr 1
    unfold cutP
    rw [← hm]
    show _ = byteVs (s.data.toList.take m ++ List.replicate (32 - m) 0)
    rw [byteVs_append]
    congr 1
    unfold byteVs
    rw [← List.map_drop, List.drop_replicate]
  rw [← hm]
  cases hq : Tryz.prog.info? 5 with
  | none => have := byteOneP; simp [hq] at this
  | some i =>
    simp [Builtin.copy_, run_underlying Tryz.underlying62, Builtin.lenOf, Builtin.firstCells, sizeOf, typeInfo, hq, ← hm]
    rw [htk, hst]
    simp only [Result.andThen]
    rw [← hrow]

theorem zero32 : (#[.int .u8 0, .int .u8 0, .int .u8 0, .int .u8 0, .int .u8 0, .int .u8 0, .int .u8 0, .int .u8 0, .int .u8 0, .int .u8 0, .int .u8 0, .int .u8 0, .int .u8 0, .int .u8 0, .int .u8 0, .int .u8 0, .int .u8 0, .int .u8 0, .int .u8 0, .int .u8 0, .int .u8 0, .int .u8 0, .int .u8 0, .int .u8 0, .int .u8 0, .int .u8 0, .int .u8 0, .int .u8 0, .int .u8 0, .int .u8 0, .int .u8 0, .int .u8 0] : Array Value) = (byteVs (List.replicate 32 0)).toArray := by rfl

set_option maxHeartbeats 2000000 in
theorem place_any (s : ByteArray) (w : World) :
    Calls Tryz.prog 38 #[.string s] w fun e w' => e = .returned (keyV (cutP s)) ∧ Below w.heap.size w w' := by
  obtain ⟨R, hR⟩ : ∃ R, R = keyV (cutP s) := ⟨_, rfl⟩
  have HR := Lib.hid hR
  rw [← hR]
  clear hR
  go_enter Tryz.func38, Tryz.ntmps38
  go_upto_region 2 with fail
  simp only [zero32]
  obtain ⟨Z, hZ⟩ : ∃ Z, (byteVs (List.replicate 32 0)).toArray = Z := ⟨_, rfl⟩
  rw [hZ]
  have A0 := Lib.hid ((Blk.new w 67 Z).alloc (.cells Z 67))
  have A1 := Lib.hid (by have h := Blk.new (w.alloc (.cells Z 67)) 67 Z; rw [World.size_alloc] at h; exact h)
  have A3 := Lib.hid (((Below.refl w.heap.size w).alloc (Nat.le_refl _) (.cells Z 67)).alloc (by simp) (.cells Z 67))
  generalize (w.alloc (.cells Z 67)).alloc (.cells Z 67) = w2 at *
  have hr1 := run_copy_cutp w2 3 (w.heap.size + 1) s 67 (by rw [hZ]; exact A1.out)
  go_upto_region 3 with (at_builtin; refine Lib.wpList_copy_run _ rfl _ _ 62 9 rfl _ _ rfl rfl hr1 ?_)
  have C0 := Lib.hid (A0.out.far_rowp (show w.heap.size ≠ w.heap.size + 1 by omega) (byteVs (cutP s).data.toList).toArray)
  have C1 := Lib.hid (A1.out.row (byteVs (cutP s).data.toList).toArray)
  have C3 := Lib.hid (below_setRow A3.out (show w.heap.size ≤ w.heap.size + 1 by omega) (byteVs (cutP s).data.toList).toArray)
  obtain ⟨cs, hcs⟩ : ∃ cs, (byteVs (cutP s).data.toList).toArray = cs := ⟨_, rfl⟩
  have hsz : (Tryz.prog.info? 67).map (·.size) = some cs.size := by rw [← hcs, List.size_toArray, len32 (cutP_size s)]; exact cells32
  have hzs : Z.size = cs.size := by rw [← hcs, ← hZ, List.size_toArray, List.size_toArray, len32 (cutP_size s), byteVs_length, List.length_replicate]
  have hone : cs.all (·.oneCell') = true := by rw [← hcs]; exact bytes_one _
  have HQ := Lib.hid (show R = .agg cs from by rw [← hcs, HR.out]; rfl)
  rw [hcs] at C0 C1 C3 ⊢
  clear hr1 A1 A3 A0 hZ hcs
  generalize w2.setRow (w.heap.size + 1) cs = w3 at *
  go_wp2_with (first
    | (refine wpList_load_row rfl 67 (.tmp 3) rfl _ rfl 67 _ (0, 0) _ C1.out Tryz.underlying67 rfl hsz ?_)
    | (refine wpList_store_row rfl 67 (.tmp 2) (.tmp 7) rfl w.heap.size cs rfl rfl 67 _ C0.out hsz hzs hone ?_))
  exact ret_agg rfl w.heap.size _ _ _ rfl (C0.out.row _) rfl Tryz.underlying67 rfl hsz ⟨by rw [HQ.out], below_setRow C3.out (Nat.le_refl _) _⟩

set_option maxHeartbeats 1000000 in
theorem ppath_any (p : ByteArray) (hp : p.size = 32) (w : World) :
    Calls Tryz.prog 47 #[keyV p] w fun e w' => e = .returned (.string p) ∧ w' = w.alloc (.cells (byteVs p.data.toList).toArray 67) := by
  have hcv : (convert 62 9 (.slice (some ⟨w.heap.size, 0, none⟩) 32 32)).run Tryz.prog (w.alloc (.cells (byteVs p.data.toList).toArray 67)) = .ok (.string p) (w.alloc (.cells (byteVs p.data.toList).toArray 67)) := by
    have h2 := run_convert_bytes_back (P := Tryz.prog) (w.alloc (.cells (byteVs p.data.toList).toArray 67)) _ _ _ ⟨w.heap.size, 0, none⟩ 32 p.data.toList Tryz.underlying62 Tryz.underlying5 Tryz.underlying9 (by
      intro j hj
      rw [Addr.add_mid]
      exact At.new w _ p j _ (by unfold byteVs; rw [List.getElem?_map, List.getElem?_eq_getElem hj]; rfl))
    rw [size_list, hp] at h2
    exact h2
  unfold keyV
  obtain ⟨cs, hcs⟩ : ∃ cs, (byteVs p.data.toList).toArray = cs := ⟨_, rfl⟩
  rw [hcs] at hcv ⊢
  clear hcs
  go_enter Tryz.func47, Tryz.ntmps47
  go_wp2_with fail
  go_ret
  exact ⟨rfl, rfl⟩

set_option maxHeartbeats 1000000 in
theorem bit_any (p : ByteArray) (hp : p.size = 32) (d : Nat) (hd : d < 256) (w : World) :
    Calls Tryz.prog 46 #[keyV p, .int .i64 (d : Int)] w fun e w' => e = .returned (.int .u8 (bitN p d : Int)) ∧ w' = w.alloc (.cells (byteVs p.data.toList).toArray 67) := by
  obtain ⟨q, hq⟩ : ∃ q, d / 8 = q := ⟨_, rfl⟩
  obtain ⟨r, hr⟩ : ∃ r, d % 8 = r := ⟨_, rfl⟩
  obtain ⟨s, hs⟩ : ∃ s, 7 - r = s := ⟨_, rfl⟩
  have hqn : q < p.size := by omega
  obtain ⟨b, hb⟩ : ∃ b, p[q].toNat = b := ⟨_, rfl⟩
  have hb256 : b < 256 := by rw [← hb]; exact p[q].toNat_lt
  obtain ⟨x, hx⟩ : ∃ x, b / 2 ^ s = x := ⟨_, rfl⟩
  obtain ⟨y, hy⟩ : ∃ y, x % 2 = y := ⟨_, rfl⟩
  have hbit : bitN p d = y := by
    unfold bitN
    rw [hq, hr, hs, getD_data p q q rfl hqn, hb, hx, hy]
  have hx256 : x < 256 := by rw [← hx]; exact Nat.lt_of_le_of_lt (Nat.div_le_self _ _) hb256
  have hdq : (d : Int).tdiv 8 = (q : Int) := by rw [Int.tdiv_eq_ediv_of_nonneg (by omega)]; omega
  have hdr : (d : Int).tmod 8 = (r : Int) := by rw [Int.tmod_eq_emod_of_nonneg (by omega)]; omega
  have hwq : IntKind.i64.wrap (q : Int) = (q : Int) := by rw [IntKind.wrap_i64]; omega
  have hwr : IntKind.i64.wrap (r : Int) = (r : Int) := by rw [IntKind.wrap_i64]; omega
  have h7 : (7 : Int) - (r : Int) = (s : Int) := by omega
  have hws : IntKind.i64.wrap (s : Int) = (s : Int) := by rw [IntKind.wrap_i64]; omega
  have hwx : IntKind.u8.wrap (x : Int) = (x : Int) := by rw [u8_wrap]; omega
  have hqi : (q : Int) < 32 := by omega
  have hq0 : (0 : Int) ≤ (q : Int) := by omega
  have hs0 : ¬ (s : Int) < 0 := by omega
  have hs8 : (s : Int) < 8 := by omega
  have c0 : (w.alloc (.cells (byteVs p.data.toList).toArray 67)).cell? ⟨w.heap.size, q, none⟩ = some (.int .u8 (b : Int)) := by
    have h := At.new w 67 p q (byteV p[q]) (by
      unfold byteVs
      rw [List.getElem?_map, List.getElem?_eq_getElem (by rw [size_list]; exact hqn)]
      rfl)
    rw [Nat.zero_add] at h
    rw [h, ← hb]; rfl
  have HA := Lib.hid (u8_and_one x hx256)
  rw [hbit]
  unfold keyV
  obtain ⟨cs, hcs⟩ : ∃ cs, (byteVs p.data.toList).toArray = cs := ⟨_, rfl⟩
  rw [hcs] at c0 ⊢
  have HX := Lib.hid hx
  have HY := Lib.hid hy
  clear hx hy hq hr hs hbit hcs hb
  go_enter Tryz.func46, Tryz.ntmps46
  go_wp2_with fail
  go_ret
  refine ⟨?_, rfl⟩
  have e : (b : Int) / 2 ^ s = (x : Int) := by rw [← HX.out]; simp
  first
    | (rw [e, HA.out, HY.out]; done)
    | (show Ending.returned (.int .u8 (bits .and .u8 ((b : Int) / 2 ^ s) 1)) = _; rw [e, HA.out, HY.out])
end Go.Proofs.YtnkkckmejjcfkaaGreatDoor.Sp

/- The library's functions that a trie calls, at this program: the numbers under which their functions, types and variables stand, so that the shelf's contracts speak of them: slices.SortFunc, maps.Clone, slices.ContainsFunc, sort.Search. -/
namespace Go.Proofs.YtnkkckmejjcfkaaGreatDoor.Sp
open Go Go.Shelf Go.RowKit
def sortPl_ren : Go.Shelf.Ren := ⟨fun | 6 => 82 | 15 => 93 | 14 => 92 | 28 => 107 | 29 => 108 | 20 => 99 | 21 => 100 | 22 => 101 | 23 => 102 | 24 => 103 | 25 => 104 | 26 => 105 | 27 => 106 | 46 => 116 | 47 => 117 | 48 => 118 | 49 => 119 | 50 => 120 | 57 => 122 | n => n, fun | 22 => 72 | 24 => 67 | 25 => 93 | 3 => 3 | 39 => 86 | 0 => 0 | 53 => 100 | 55 => 111 | 4 => 4 | 46 => 124 | 45 => 123 | 50 => 128 | 5 => 5 | 9 => 9 | 66 => 135 | 70 => 139 | 76 => 141 | 77 => 142 | n => n, fun | n => n⟩
theorem sortPl : Go.Proofs.SlLaysF0.n6 Tryz.prog sortPl_ren := {
  mixed := by kernel_rfl
  f6 := ⟨Tryz.f82.name, by decide, Tryz.func82.trans (congrArg some (by kernel_rfl))⟩
  f14 := ⟨Tryz.f92.name, by decide, Tryz.func92.trans (congrArg some (by kernel_rfl))⟩
  f15 := Tryz.func93.trans (congrArg some (by kernel_rfl))
  f20 := ⟨Tryz.f99.name, by decide, Tryz.func99.trans (congrArg some (by kernel_rfl))⟩
  f21 := ⟨Tryz.f100.name, by decide, Tryz.func100.trans (congrArg some (by kernel_rfl))⟩
  f22 := ⟨Tryz.f101.name, by decide, Tryz.func101.trans (congrArg some (by kernel_rfl))⟩
  f23 := ⟨Tryz.f102.name, by decide, Tryz.func102.trans (congrArg some (by kernel_rfl))⟩
  f24 := ⟨Tryz.f103.name, by decide, Tryz.func103.trans (congrArg some (by kernel_rfl))⟩
  f25 := ⟨Tryz.f104.name, by decide, Tryz.func104.trans (congrArg some (by kernel_rfl))⟩
  f26 := ⟨Tryz.f105.name, by decide, Tryz.func105.trans (congrArg some (by kernel_rfl))⟩
  f27 := ⟨Tryz.f106.name, by decide, Tryz.func106.trans (congrArg some (by kernel_rfl))⟩
  f28 := Tryz.func107.trans (congrArg some (by kernel_rfl))
  f29 := Tryz.func108.trans (congrArg some (by kernel_rfl))
  f46 := ⟨Tryz.f116.name, by decide, Tryz.func116.trans (congrArg some (by kernel_rfl))⟩
  f47 := Tryz.func117.trans (congrArg some (by kernel_rfl))
  f48 := Tryz.func118.trans (congrArg some (by kernel_rfl))
  f49 := ⟨Tryz.f119.name, by decide, Tryz.func119.trans (congrArg some (by kernel_rfl))⟩
  f50 := ⟨Tryz.f120.name, by decide, Tryz.func120.trans (congrArg some (by kernel_rfl))⟩
  f57 := ⟨Tryz.f122.name, by decide, Tryz.func122.trans (congrArg some (by kernel_rfl))⟩
  t0 := Tryz.underlying0
  a0 := Tryz.isAgg0
  z0 := Tryz.sizeOf0
  v0 := Tryz.zeroValue0
  t3 := Tryz.underlying3
  a3 := Tryz.isAgg3
  z3 := Tryz.sizeOf3
  v3 := Tryz.zeroValue3
  t4 := Tryz.underlying4
  a4 := Tryz.isAgg4
  z4 := Tryz.sizeOf4
  v4 := Tryz.zeroValue4
  t5 := Tryz.underlying5
  a5 := Tryz.isAgg5
  z5 := Tryz.sizeOf5
  v5 := Tryz.zeroValue5
  t9 := Tryz.underlying9
  a9 := Tryz.isAgg9
  z9 := Tryz.sizeOf9
  v9 := Tryz.zeroValue9
  t22 := Tryz.underlying72
  a22 := Tryz.isAgg72
  z22 := Tryz.sizeOf72
  v22 := Tryz.zeroValue72
  t25 := Tryz.underlying93
  a25 := Tryz.isAgg93
  z25 := Tryz.sizeOf93
  v25 := Tryz.zeroValue93
  t39 := Tryz.underlying86
  a39 := Tryz.isAgg86
  z39 := Tryz.sizeOf86
  v39 := Tryz.zeroValue86
  t45 := Tryz.underlying123
  a45 := Tryz.isAgg123
  z45 := Tryz.sizeOf123
  v45 := Tryz.zeroValue123
  t46 := Tryz.underlying124
  a46 := Tryz.isAgg124
  z46 := Tryz.sizeOf124
  v46 := Tryz.zeroValue124
  t50 := Tryz.underlying128
  a50 := Tryz.isAgg128
  z50 := Tryz.sizeOf128
  v50 := Tryz.zeroValue128
  t53 := Tryz.underlying100
  a53 := Tryz.isAgg100
  z53 := Tryz.sizeOf100
  v53 := Tryz.zeroValue100
  t55 := Tryz.underlying111
  a55 := Tryz.isAgg111
  z55 := Tryz.sizeOf111
  v55 := Tryz.zeroValue111
  t66 := Tryz.underlying135
  a66 := Tryz.isAgg135
  z66 := Tryz.sizeOf135
  v66 := Tryz.zeroValue135
  t70 := Tryz.underlying139
  a70 := Tryz.isAgg139
  z70 := Tryz.sizeOf139
  v70 := Tryz.zeroValue139
  t76 := Tryz.underlying141
  a76 := Tryz.isAgg141
  z76 := Tryz.sizeOf141
  v76 := Tryz.zeroValue141
  t77 := Tryz.underlying142
  a77 := Tryz.isAgg142
  z77 := Tryz.sizeOf142
  v77 := Tryz.zeroValue142 }
def clonePl_ren : Go.Shelf.Ren := ⟨fun | 5 => 50 | 7 => 71 | n => n, fun | 23 => 55 | 25 => 67 | 3 => 64 | 4 => 4 | 20 => 20 | n => n, fun | n => n⟩
theorem clonePl : Go.Proofs.SlLaysW.n5 Tryz.prog clonePl_ren := {
  mixed := by kernel_rfl
  f5 := ⟨Tryz.f50.name, by decide, Tryz.func50.trans (congrArg some (by kernel_rfl))⟩
  f7 := Tryz.func71.trans (congrArg some (by kernel_rfl))
  t4 := Tryz.underlying4
  a4 := Tryz.isAgg4
  z4 := Tryz.sizeOf4
  v4 := Tryz.zeroValue4
  t20 := Tryz.underlying20
  a20 := Tryz.isAgg20
  z20 := Tryz.sizeOf20
  v20 := Tryz.zeroValue20
  t23 := Tryz.underlying55
  a23 := Tryz.isAgg55
  z23 := Tryz.sizeOf55
  v23 := Tryz.zeroValue55 }
def containsPl_ren : Go.Shelf.Ren := ⟨fun | 8 => 72 | 6 => 85 | n => n, fun | 22 => 37 | 23 => 9 | 25 => 98 | 4 => 4 | 3 => 3 | 0 => 0 | n => n, fun | n => n⟩
theorem containsPl : Go.Proofs.SlLaysH.n8 Tryz.prog containsPl_ren := {
  mixed := by kernel_rfl
  f6 := ⟨Tryz.f85.name, by decide, Tryz.func85.trans (congrArg some (by kernel_rfl))⟩
  f8 := ⟨Tryz.f72.name, by decide, Tryz.func72.trans (congrArg some (by kernel_rfl))⟩
  t0 := Tryz.underlying0
  a0 := Tryz.isAgg0
  z0 := Tryz.sizeOf0
  v0 := Tryz.zeroValue0
  t3 := Tryz.underlying3
  a3 := Tryz.isAgg3
  z3 := Tryz.sizeOf3
  v3 := Tryz.zeroValue3
  t4 := Tryz.underlying4
  a4 := Tryz.isAgg4
  z4 := Tryz.sizeOf4
  v4 := Tryz.zeroValue4
  t22 := Tryz.underlying37
  a22 := Tryz.isAgg37
  z22 := Tryz.sizeOf37
  v22 := Tryz.zeroValue37
  a23 := Tryz.isAgg9
  z23 := Tryz.sizeOf9
  t25 := Tryz.underlying98
  a25 := Tryz.isAgg98
  z25 := Tryz.sizeOf98
  v25 := Tryz.zeroValue98 }
def searchPl_ren : Go.Shelf.Ren := ⟨fun | 16 => 69 | n => n, fun | 3 => 3 | 35 => 95 | 4 => 4 | 38 => 86 | n => n, fun | n => n⟩
theorem searchPl : Go.Proofs.SlLaysO.n16 Tryz.prog searchPl_ren := {
  mixed := by kernel_rfl
  f16 := Tryz.func69.trans (congrArg some (by kernel_rfl))
  t3 := Tryz.underlying3
  a3 := Tryz.isAgg3
  z3 := Tryz.sizeOf3
  v3 := Tryz.zeroValue3
  t4 := Tryz.underlying4
  a4 := Tryz.isAgg4
  z4 := Tryz.sizeOf4
  v4 := Tryz.zeroValue4
  t35 := Tryz.underlying95
  a35 := Tryz.isAgg95
  z35 := Tryz.sizeOf95
  v35 := Tryz.zeroValue95
  t38 := Tryz.underlying86
  a38 := Tryz.isAgg86
  z38 := Tryz.sizeOf86
  v38 := Tryz.zeroValue86 }
end Go.Proofs.YtnkkckmejjcfkaaGreatDoor.Sp
