/- Package trie: paths as arrays of 32 bytes: placeOf, path, bit, agree. -/
import Derived.Test.YtnkkckmejjcfkaaDoorGdN
import Derived.Test.YtnkkckmejjcfkaaDoorGdB
import Derived.Lib.BufferWrite
import Derived.Lib.SlBuf
import Derived.Deep.MidRow
import Derived.Deep.WholeRow
import Derived.Deep.RegionHeld3
import Derived.Shelf.SlSortCmp.WholeK
import Derived.Shelf.SlMaps.Clone
import Derived.Shelf.SlicesE.IndexFunc
import Derived.Shelf.SlSorted.Search
import Derived.Test.YtnkkckmejjcfkaaDoorGdA
namespace Go.Proofs.YtnkkckmejjcfkaaDoor.Sp
open Go Go.RowKit
set_option maxRecDepth 100000

/-- A path lies in block b from offset o on. -/
def At (w : World) (b o : Nat) (p : ByteArray) : Prop := w.rangeAt b o (byteVs p.data.toList)
theorem cell_below {B : Nat} {w w' : World} (hb : Below B w w') {a : Addr} (ha : a.block < B) : w'.cell? a = w.cell? a := by
  unfold World.cell?
  rw [hb.block a.block ha]
theorem At.below {w w' : World} {b o : Nat} {p : ByteArray} (h : At w b o p) {B : Nat} (hb : Below B w w') (hB : b < B) : At w' b o p := fun j v hv => by
  rw [cell_below hb (a := ⟨b, o + j, none⟩) hB]; exact h j v hv
theorem At.of_blk {w : World} {g : Nat} {t : TypeId} {p : ByteArray} (h : Blk w g t (byteVs p.data.toList).toArray) : At w g 0 p := fun j v hv => by
  rw [h.cell, Nat.zero_add, List.getElem?_toArray]; exact hv
theorem At.new (w : World) (t : TypeId) (p : ByteArray) : At (w.alloc (.cells (byteVs p.data.toList).toArray t)) w.heap.size 0 p := At.of_blk (Blk.new w t _)
theorem cells32 : (Tryd.prog.info? 72).map (·.size) = some 32 := by kernel_rfl
theorem len32 {p : ByteArray} (h : p.size = 32) : (byteVs p.data.toList).length = 32 := by rw [byteVs_length, size_list]; exact h
theorem info32 {p : ByteArray} (h : p.size = 32) : (Tryd.prog.info? 72).map (·.size) = some (byteVs p.data.toList).length := by rw [len32 h]; exact cells32
theorem bytes_one (l : List UInt8) : ((byteVs l).toArray).all (·.oneCell') = true := by
  rw [Array.all_eq_true_iff_forall_mem]
  intro x hx
  rw [List.mem_toArray] at hx
  unfold byteVs at hx
  obtain ⟨b, _, rfl⟩ := List.mem_map.1 hx
  rfl

/-- An array's 32 cells, written out. -/
theorem lit32 (cs : Array Value) (h : cs.size = 32) : (#[cs[0]'(by omega), cs[1]'(by omega), cs[2]'(by omega), cs[3]'(by omega), cs[4]'(by omega), cs[5]'(by omega), cs[6]'(by omega), cs[7]'(by omega), cs[8]'(by omega), cs[9]'(by omega), cs[10]'(by omega), cs[11]'(by omega), cs[12]'(by omega), cs[13]'(by omega), cs[14]'(by omega), cs[15]'(by omega), cs[16]'(by omega), cs[17]'(by omega), cs[18]'(by omega), cs[19]'(by omega), cs[20]'(by omega), cs[21]'(by omega), cs[22]'(by omega), cs[23]'(by omega), cs[24]'(by omega), cs[25]'(by omega), cs[26]'(by omega), cs[27]'(by omega), cs[28]'(by omega), cs[29]'(by omega), cs[30]'(by omega), cs[31]'(by omega)] : Array Value) = cs := by
  apply Array.ext
  · exact h.symm
  · intro i h1 h2
    have hi : i < 32 := by rw [← h]; exact h2
    match i, hi with
    | 0, _ => rfl
    | 1, _ => rfl
    | 2, _ => rfl
    | 3, _ => rfl
    | 4, _ => rfl
    | 5, _ => rfl
    | 6, _ => rfl
    | 7, _ => rfl
    | 8, _ => rfl
    | 9, _ => rfl
    | 10, _ => rfl
    | 11, _ => rfl
    | 12, _ => rfl
    | 13, _ => rfl
    | 14, _ => rfl
    | 15, _ => rfl
    | 16, _ => rfl
    | 17, _ => rfl
    | 18, _ => rfl
    | 19, _ => rfl
    | 20, _ => rfl
    | 21, _ => rfl
    | 22, _ => rfl
    | 23, _ => rfl
    | 24, _ => rfl
    | 25, _ => rfl
    | 26, _ => rfl
    | 27, _ => rfl
    | 28, _ => rfl
    | 29, _ => rfl
    | 30, _ => rfl
    | 31, _ => rfl
    | i + 32, hi => omega
/-- A text, cut or filled with noughts to 32 bytes. -/
def cutP (s : ByteArray) : ByteArray := ⟨(s.data.toList.take (Nat.min s.size 32) ++ List.replicate (32 - Nat.min s.size 32) 0).toArray⟩
theorem cutP_size (s : ByteArray) : (cutP s).size = 32 := by
  show (s.data.toList.take (Nat.min s.size 32) ++ List.replicate (32 - Nat.min s.size 32) 0).toArray.size = 32
  have h1 := Nat.min_le_left s.size 32
  have h2 := Nat.min_le_right s.size 32
  rw [List.size_toArray, List.length_append, List.length_take, List.length_replicate, size_list]
  simp only [Nat.min_def] at *
  split <;> split <;> omega
theorem cutP_same {s : ByteArray} (h : s.size = 32) : cutP s = s := by
  apply list_inj
  show s.data.toList.take (Nat.min s.size 32) ++ List.replicate (32 - Nat.min s.size 32) 0 = s.data.toList
  rw [h, show Nat.min 32 32 = 32 from rfl, List.take_of_length_le (by rw [size_list]; omega)]
  simp
theorem Blk.far_rowp {w : World} {g g' : Nat} {t : TypeId} {cs : Array Value} (h : Blk w g t cs) (hg : g ≠ g') (cs' : Array Value) : Blk (w.setRow g' cs') g t cs := by
  unfold Blk at h ⊢
  simp only [World.setRow, Array.getElem?_modify]; rw [if_neg (by omega)]; exact h
theorem byteOneP : (Tryd.prog.info? 5).map (·.size) = some 1 := by kernel_rfl
/-- 'copy(dst, s)' from a string of any length over a row of 32 noughts. -/
theorem run_copy_cutp (w : World) (ty : TypeId) (g : Nat) (s : ByteArray) (t : TypeId) (hg : w.heap[g]? = some (.cells (byteVs (List.replicate 32 0)).toArray t (0, 0))) :
    (Builtin.copy_ #[67, 9] ty #[.slice (some ⟨g, 0, none⟩) 32 32, .string s]).run Tryd.prog w =
      .ok (goInt (Nat.min s.size 32)) (w.setRow g (byteVs (cutP s).data.toList).toArray) := by
  obtain ⟨m, hm⟩ : ∃ m, m = Nat.min s.size 32 := ⟨_, rfl⟩
  have hm1 : m ≤ s.size := by rw [hm]; exact Nat.min_le_left _ _
  have hm2 : m ≤ 32 := by rw [hm]; exact Nat.min_le_right _ _
  have hlen : (byteVs (s.data.toList.take m)).length = m := by
    rw [byteVs_length, List.length_take, size_list]; omega
  have hone : ∀ v ∈ byteVs (s.data.toList.take m), v.oneCell' = true := by
    intro v hv
    simp only [byteVs, List.mem_map] at hv
    obtain ⟨b, _, rfl⟩ := hv
    rfl
  have hst := run_storeCells_at Tryd.prog g 0 t (byteVs (s.data.toList.take m)) 0 _ w hg (by rw [hlen, List.size_toArray, byteVs_length, List.length_replicate]; omega) hone
  have htk : List.take m (List.map (fun b : UInt8 => Value.int IntKind.u8 (b.toNat : Int)) s.data.toList) = byteVs (s.data.toList.take m) := by
    rw [← List.map_take]; rfl
  rw [hlen] at hst
  simp only [Nat.add_zero, Nat.zero_add, List.take_zero, List.nil_append] at hst
  have hrow : (byteVs (s.data.toList.take m) ++ (byteVs (List.replicate 32 0)).drop m).toArray = (byteVs (cutP s).data.toList).toArray := by
    congr 1
    unfold cutP
    rw [← hm]
    show _ = byteVs (s.data.toList.take m ++ List.replicate (32 - m) 0)
    rw [byteVs_append]
    congr 1
    unfold byteVs
    rw [← List.map_drop, List.drop_replicate]
  rw [← hm]
  cases hq : Tryd.prog.info? 5 with
  | none => have := byteOneP; simp [hq] at this
  | some i =>
    simp [Builtin.copy_, run_underlying Tryd.underlying67, Builtin.lenOf, Builtin.firstCells, sizeOf, typeInfo, hq, ← hm]
    rw [htk, hst]
    simp only [Result.andThen]
    rw [← hrow]

theorem zero32 : (#[.int .u8 0, .int .u8 0, .int .u8 0, .int .u8 0, .int .u8 0, .int .u8 0, .int .u8 0, .int .u8 0, .int .u8 0, .int .u8 0, .int .u8 0, .int .u8 0, .int .u8 0, .int .u8 0, .int .u8 0, .int .u8 0, .int .u8 0, .int .u8 0, .int .u8 0, .int .u8 0, .int .u8 0, .int .u8 0, .int .u8 0, .int .u8 0, .int .u8 0, .int .u8 0, .int .u8 0, .int .u8 0, .int .u8 0, .int .u8 0, .int .u8 0, .int .u8 0] : Array Value) = (byteVs (List.replicate 32 0)).toArray := by rfl

set_option maxHeartbeats 2000000 in
theorem place_any (s : ByteArray) (w : World) :
    Calls Tryd.prog 42 #[.string s] w fun e w' => e = .returned (keyV (cutP s)) ∧ Below w.heap.size w w' := by
  obtain ⟨R, hR⟩ : ∃ R, R = keyV (cutP s) := ⟨_, rfl⟩
  have HR := Lib.hid hR
  rw [← hR]
  clear hR
  go_enter Tryd.func42, Tryd.ntmps42
  go_upto_region 2 with fail
  simp only [zero32]
  obtain ⟨Z, hZ⟩ : ∃ Z, (byteVs (List.replicate 32 0)).toArray = Z := ⟨_, rfl⟩
  rw [hZ]
  have A0 := Lib.hid ((Blk.new w 72 Z).alloc (.cells Z 72))
  have A1 := Lib.hid (by have h := Blk.new (w.alloc (.cells Z 72)) 72 Z; rw [World.size_alloc] at h; exact h)
  have A3 := Lib.hid (((Below.refl w.heap.size w).alloc (Nat.le_refl _) (.cells Z 72)).alloc (by simp) (.cells Z 72))
  generalize (w.alloc (.cells Z 72)).alloc (.cells Z 72) = w2 at *
  have hr1 := run_copy_cutp w2 3 (w.heap.size + 1) s 72 (by rw [hZ]; exact A1.out)
  go_upto_region 3 with (at_builtin; refine Lib.wpList_copy_run _ rfl _ _ 67 9 rfl _ _ rfl rfl hr1 ?_)
  have C0 := Lib.hid (A0.out.far_rowp (show w.heap.size ≠ w.heap.size + 1 by omega) (byteVs (cutP s).data.toList).toArray)
  have C1 := Lib.hid (A1.out.row (byteVs (cutP s).data.toList).toArray)
  have C3 := Lib.hid (below_setRow A3.out (show w.heap.size ≤ w.heap.size + 1 by omega) (byteVs (cutP s).data.toList).toArray)
  obtain ⟨cs, hcs⟩ : ∃ cs, (byteVs (cutP s).data.toList).toArray = cs := ⟨_, rfl⟩
  have hsz : (Tryd.prog.info? 72).map (·.size) = some cs.size := by rw [← hcs, List.size_toArray, len32 (cutP_size s)]; exact cells32
  have hzs : Z.size = cs.size := by rw [← hcs, ← hZ, List.size_toArray, List.size_toArray, len32 (cutP_size s), byteVs_length, List.length_replicate]
  have hone : cs.all (·.oneCell') = true := by rw [← hcs]; exact bytes_one _
  have HQ := Lib.hid (show R = .agg cs from by rw [← hcs, HR.out]; rfl)
  rw [hcs] at C0 C1 C3 ⊢
  clear hr1 A1 A3 A0 hZ hcs
  generalize w2.setRow (w.heap.size + 1) cs = w3 at *
  go_wp2_with (first
    | (refine wpList_load_row rfl 72 (.tmp 3) rfl _ rfl 72 _ (0, 0) _ C1.out Tryd.underlying72 rfl hsz ?_)
    | (refine wpList_store_row rfl 72 (.tmp 2) (.tmp 7) rfl w.heap.size cs rfl rfl 72 _ C0.out hsz hzs hone ?_))
  exact ret_agg rfl w.heap.size _ _ _ rfl (C0.out.row _) rfl Tryd.underlying72 rfl hsz ⟨by rw [HQ.out], below_setRow C3.out (Nat.le_refl _) _⟩

set_option maxHeartbeats 1000000 in
theorem ppath_any (p : ByteArray) (hp : p.size = 32) (w : World) :
    Calls Tryd.prog 46 #[keyV p] w fun e w' => e = .returned (.string p) ∧ w' = w.alloc (.cells (byteVs p.data.toList).toArray 72) := by
  have hcv : (convert 67 9 (.slice (some ⟨w.heap.size, 0, none⟩) 32 32)).run Tryd.prog (w.alloc (.cells (byteVs p.data.toList).toArray 72)) = .ok (.string p) (w.alloc (.cells (byteVs p.data.toList).toArray 72)) := by
    have h2 := run_convert_bytes_back (P := Tryd.prog) (w.alloc (.cells (byteVs p.data.toList).toArray 72)) _ _ _ ⟨w.heap.size, 0, none⟩ 32 p.data.toList Tryd.underlying67 Tryd.underlying5 Tryd.underlying9 (by
      intro j hj
      rw [Addr.add_mid]
      exact At.new w _ p j _ (by unfold byteVs; rw [List.getElem?_map, List.getElem?_eq_getElem hj]; rfl))
    rw [size_list, hp] at h2
    exact h2
  unfold keyV
  obtain ⟨cs, hcs⟩ : ∃ cs, (byteVs p.data.toList).toArray = cs := ⟨_, rfl⟩
  rw [hcs] at hcv ⊢
  clear hcs
  go_enter Tryd.func46, Tryd.ntmps46
  go_wp2_with fail
  go_ret
  exact ⟨rfl, rfl⟩

set_option maxHeartbeats 1000000 in
theorem bit_any (p : ByteArray) (hp : p.size = 32) (d : Nat) (hd : d < 256) (w : World) :
    Calls Tryd.prog 45 #[keyV p, .int .i64 (d : Int)] w fun e w' => e = .returned (.int .u8 (bitN p d : Int)) ∧ w' = w.alloc (.cells (byteVs p.data.toList).toArray 72) := by
  obtain ⟨q, hq⟩ : ∃ q, d / 8 = q := ⟨_, rfl⟩
  obtain ⟨r, hr⟩ : ∃ r, d % 8 = r := ⟨_, rfl⟩
  obtain ⟨s, hs⟩ : ∃ s, 7 - r = s := ⟨_, rfl⟩
  have hqn : q < p.size := by omega
  obtain ⟨b, hb⟩ : ∃ b, p[q].toNat = b := ⟨_, rfl⟩
  have hb256 : b < 256 := by rw [← hb]; exact p[q].toNat_lt
  obtain ⟨x, hx⟩ : ∃ x, b / 2 ^ s = x := ⟨_, rfl⟩
  obtain ⟨y, hy⟩ : ∃ y, x % 2 = y := ⟨_, rfl⟩
  have hbit : bitN p d = y := by
    unfold bitN
    rw [hq, hr, hs, getD_data p q q rfl hqn, hb, hx, hy]
  have hx256 : x < 256 := by rw [← hx]; exact Nat.lt_of_le_of_lt (Nat.div_le_self _ _) hb256
  have hdq : (d : Int).tdiv 8 = (q : Int) := by rw [Int.tdiv_eq_ediv_of_nonneg (by omega)]; omega
  have hdr : (d : Int).tmod 8 = (r : Int) := by rw [Int.tmod_eq_emod_of_nonneg (by omega)]; omega
  have hwq : IntKind.i64.wrap (q : Int) = (q : Int) := by rw [IntKind.wrap_i64]; omega
  have hwr : IntKind.i64.wrap (r : Int) = (r : Int) := by rw [IntKind.wrap_i64]; omega
  have h7 : (7 : Int) - (r : Int) = (s : Int) := by omega
  have hws : IntKind.i64.wrap (s : Int) = (s : Int) := by rw [IntKind.wrap_i64]; omega
  have hwx : IntKind.u8.wrap (x : Int) = (x : Int) := by rw [u8_wrap]; omega
  have hqi : (q : Int) < 32 := by omega
  have hq0 : (0 : Int) ≤ (q : Int) := by omega
  have hs0 : ¬ (s : Int) < 0 := by omega
  have hs8 : (s : Int) < 8 := by omega
  have c0 : (w.alloc (.cells (byteVs p.data.toList).toArray 72)).cell? ⟨w.heap.size, q, none⟩ = some (.int .u8 (b : Int)) := by
    have h := At.new w 72 p q (byteV p[q]) (by
      unfold byteVs
      rw [List.getElem?_map, List.getElem?_eq_getElem (by rw [size_list]; exact hqn)]
      rfl)
    rw [Nat.zero_add] at h
    rw [h, ← hb]; rfl
  have HA := Lib.hid (u8_and_one x hx256)
  rw [hbit]
  unfold keyV
  obtain ⟨cs, hcs⟩ : ∃ cs, (byteVs p.data.toList).toArray = cs := ⟨_, rfl⟩
  rw [hcs] at c0 ⊢
  have HX := Lib.hid hx
  have HY := Lib.hid hy
  clear hx hy hq hr hs hbit hcs hb
  go_enter Tryd.func45, Tryd.ntmps45
  go_wp2_with fail
  go_ret
  refine ⟨?_, rfl⟩
  have e : (b : Int) / 2 ^ s = (x : Int) := by rw [← HX.out]; simp
  first
    | (rw [e, HA.out, HY.out]; done)
    | (show Ending.returned (.int .u8 (bits .and .u8 ((b : Int) / 2 ^ s) 1)) = _; rw [e, HA.out, HY.out])
end Go.Proofs.YtnkkckmejjcfkaaDoor.Sp

/- The library's functions that a trie calls, at this program: the numbers under which their functions, types and variables stand, so that the shelf's contracts speak of them: slices.SortFunc, maps.Clone, slices.ContainsFunc, sort.Search. -/
namespace Go.Proofs.YtnkkckmejjcfkaaDoor.Sp
open Go Go.Shelf Go.RowKit
def sortPl_ren : Go.Shelf.Ren := ⟨fun | 6 => 75 | 15 => 85 | 14 => 84 | 28 => 96 | 29 => 97 | 20 => 88 | 21 => 89 | 22 => 90 | 23 => 91 | 24 => 92 | 25 => 93 | 26 => 94 | 27 => 95 | 46 => 105 | 47 => 106 | 48 => 107 | 49 => 108 | 50 => 109 | 57 => 111 | n => n, fun | 22 => 65 | 24 => 72 | 25 => 87 | 3 => 3 | 39 => 79 | 0 => 0 | 53 => 93 | 55 => 107 | 4 => 4 | 46 => 120 | 45 => 119 | 50 => 124 | 5 => 5 | 9 => 9 | 66 => 131 | 70 => 135 | 76 => 137 | 77 => 138 | n => n, fun | n => n⟩
theorem sortPl : Go.Proofs.SlLaysF0.n6 Tryd.prog sortPl_ren := {
  mixed := by kernel_rfl
  f6 := ⟨Tryd.f75.name, by decide, Tryd.func75.trans (congrArg some (by kernel_rfl))⟩
  f14 := ⟨Tryd.f84.name, by decide, Tryd.func84.trans (congrArg some (by kernel_rfl))⟩
  f15 := Tryd.func85.trans (congrArg some (by kernel_rfl))
  f20 := ⟨Tryd.f88.name, by decide, Tryd.func88.trans (congrArg some (by kernel_rfl))⟩
  f21 := ⟨Tryd.f89.name, by decide, Tryd.func89.trans (congrArg some (by kernel_rfl))⟩
  f22 := ⟨Tryd.f90.name, by decide, Tryd.func90.trans (congrArg some (by kernel_rfl))⟩
  f23 := ⟨Tryd.f91.name, by decide, Tryd.func91.trans (congrArg some (by kernel_rfl))⟩
  f24 := ⟨Tryd.f92.name, by decide, Tryd.func92.trans (congrArg some (by kernel_rfl))⟩
  f25 := ⟨Tryd.f93.name, by decide, Tryd.func93.trans (congrArg some (by kernel_rfl))⟩
  f26 := ⟨Tryd.f94.name, by decide, Tryd.func94.trans (congrArg some (by kernel_rfl))⟩
  f27 := ⟨Tryd.f95.name, by decide, Tryd.func95.trans (congrArg some (by kernel_rfl))⟩
  f28 := Tryd.func96.trans (congrArg some (by kernel_rfl))
  f29 := Tryd.func97.trans (congrArg some (by kernel_rfl))
  f46 := ⟨Tryd.f105.name, by decide, Tryd.func105.trans (congrArg some (by kernel_rfl))⟩
  f47 := Tryd.func106.trans (congrArg some (by kernel_rfl))
  f48 := Tryd.func107.trans (congrArg some (by kernel_rfl))
  f49 := ⟨Tryd.f108.name, by decide, Tryd.func108.trans (congrArg some (by kernel_rfl))⟩
  f50 := ⟨Tryd.f109.name, by decide, Tryd.func109.trans (congrArg some (by kernel_rfl))⟩
  f57 := ⟨Tryd.f111.name, by decide, Tryd.func111.trans (congrArg some (by kernel_rfl))⟩
  t0 := Tryd.underlying0
  a0 := Tryd.isAgg0
  z0 := Tryd.sizeOf0
  v0 := Tryd.zeroValue0
  t3 := Tryd.underlying3
  a3 := Tryd.isAgg3
  z3 := Tryd.sizeOf3
  v3 := Tryd.zeroValue3
  t4 := Tryd.underlying4
  a4 := Tryd.isAgg4
  z4 := Tryd.sizeOf4
  v4 := Tryd.zeroValue4
  t5 := Tryd.underlying5
  a5 := Tryd.isAgg5
  z5 := Tryd.sizeOf5
  v5 := Tryd.zeroValue5
  t9 := Tryd.underlying9
  a9 := Tryd.isAgg9
  z9 := Tryd.sizeOf9
  v9 := Tryd.zeroValue9
  t22 := Tryd.underlying65
  a22 := Tryd.isAgg65
  z22 := Tryd.sizeOf65
  v22 := Tryd.zeroValue65
  t25 := Tryd.underlying87
  a25 := Tryd.isAgg87
  z25 := Tryd.sizeOf87
  v25 := Tryd.zeroValue87
  t39 := Tryd.underlying79
  a39 := Tryd.isAgg79
  z39 := Tryd.sizeOf79
  v39 := Tryd.zeroValue79
  t45 := Tryd.underlying119
  a45 := Tryd.isAgg119
  z45 := Tryd.sizeOf119
  v45 := Tryd.zeroValue119
  t46 := Tryd.underlying120
  a46 := Tryd.isAgg120
  z46 := Tryd.sizeOf120
  v46 := Tryd.zeroValue120
  t50 := Tryd.underlying124
  a50 := Tryd.isAgg124
  z50 := Tryd.sizeOf124
  v50 := Tryd.zeroValue124
  t53 := Tryd.underlying93
  a53 := Tryd.isAgg93
  z53 := Tryd.sizeOf93
  v53 := Tryd.zeroValue93
  t55 := Tryd.underlying107
  a55 := Tryd.isAgg107
  z55 := Tryd.sizeOf107
  v55 := Tryd.zeroValue107
  t66 := Tryd.underlying131
  a66 := Tryd.isAgg131
  z66 := Tryd.sizeOf131
  v66 := Tryd.zeroValue131
  t70 := Tryd.underlying135
  a70 := Tryd.isAgg135
  z70 := Tryd.sizeOf135
  v70 := Tryd.zeroValue135
  t76 := Tryd.underlying137
  a76 := Tryd.isAgg137
  z76 := Tryd.sizeOf137
  v76 := Tryd.zeroValue137
  t77 := Tryd.underlying138
  a77 := Tryd.isAgg138
  z77 := Tryd.sizeOf138
  v77 := Tryd.zeroValue138 }
def clonePl_ren : Go.Shelf.Ren := ⟨fun | 5 => 51 | 7 => 69 | n => n, fun | 23 => 58 | 25 => 72 | 3 => 69 | 4 => 4 | 20 => 20 | n => n, fun | n => n⟩
theorem clonePl : Go.Proofs.SlLaysW.n5 Tryd.prog clonePl_ren := {
  mixed := by kernel_rfl
  f5 := ⟨Tryd.f51.name, by decide, Tryd.func51.trans (congrArg some (by kernel_rfl))⟩
  f7 := Tryd.func69.trans (congrArg some (by kernel_rfl))
  t4 := Tryd.underlying4
  a4 := Tryd.isAgg4
  z4 := Tryd.sizeOf4
  v4 := Tryd.zeroValue4
  t20 := Tryd.underlying20
  a20 := Tryd.isAgg20
  z20 := Tryd.sizeOf20
  v20 := Tryd.zeroValue20
  t23 := Tryd.underlying58
  a23 := Tryd.isAgg58
  z23 := Tryd.sizeOf58
  v23 := Tryd.zeroValue58 }
def containsPl_ren : Go.Shelf.Ren := ⟨fun | 8 => 62 | 6 => 78 | n => n, fun | 22 => 36 | 23 => 9 | 25 => 91 | 4 => 4 | 3 => 3 | 0 => 0 | n => n, fun | n => n⟩
theorem containsPl : Go.Proofs.SlLaysH.n8 Tryd.prog containsPl_ren := {
  mixed := by kernel_rfl
  f6 := ⟨Tryd.f78.name, by decide, Tryd.func78.trans (congrArg some (by kernel_rfl))⟩
  f8 := ⟨Tryd.f62.name, by decide, Tryd.func62.trans (congrArg some (by kernel_rfl))⟩
  t0 := Tryd.underlying0
  a0 := Tryd.isAgg0
  z0 := Tryd.sizeOf0
  v0 := Tryd.zeroValue0
  t3 := Tryd.underlying3
  a3 := Tryd.isAgg3
  z3 := Tryd.sizeOf3
  v3 := Tryd.zeroValue3
  t4 := Tryd.underlying4
  a4 := Tryd.isAgg4
  z4 := Tryd.sizeOf4
  v4 := Tryd.zeroValue4
  t22 := Tryd.underlying36
  a22 := Tryd.isAgg36
  z22 := Tryd.sizeOf36
  v22 := Tryd.zeroValue36
  a23 := Tryd.isAgg9
  z23 := Tryd.sizeOf9
  t25 := Tryd.underlying91
  a25 := Tryd.isAgg91
  z25 := Tryd.sizeOf91
  v25 := Tryd.zeroValue91 }
def searchPl_ren : Go.Shelf.Ren := ⟨fun | 16 => 60 | n => n, fun | 3 => 3 | 35 => 89 | 4 => 4 | 38 => 79 | n => n, fun | n => n⟩
theorem searchPl : Go.Proofs.SlLaysO.n16 Tryd.prog searchPl_ren := {
  mixed := by kernel_rfl
  f16 := Tryd.func60.trans (congrArg some (by kernel_rfl))
  t3 := Tryd.underlying3
  a3 := Tryd.isAgg3
  z3 := Tryd.sizeOf3
  v3 := Tryd.zeroValue3
  t4 := Tryd.underlying4
  a4 := Tryd.isAgg4
  z4 := Tryd.sizeOf4
  v4 := Tryd.zeroValue4
  t35 := Tryd.underlying89
  a35 := Tryd.isAgg89
  z35 := Tryd.sizeOf89
  v35 := Tryd.zeroValue89
  t38 := Tryd.underlying79
  a38 := Tryd.isAgg79
  z38 := Tryd.sizeOf79
  v38 := Tryd.zeroValue79 }
end Go.Proofs.YtnkkckmejjcfkaaDoor.Sp
