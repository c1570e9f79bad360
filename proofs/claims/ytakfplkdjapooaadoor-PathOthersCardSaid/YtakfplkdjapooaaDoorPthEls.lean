/- Package path: the elements of a kind's strings: fixed, elementsOf. -/
import Derived.Test.YtakfplkdjapooaaDoorMem
import Derived.Test.YtakfplkdjapooaaDoorPthPure
import Derived.Deep.RegionHeld3
import Derived.Deep.RegionLaw
import Derived.WalkLawsBesides
namespace Go.Proofs.YtakfplkdjapooaaDoor.Sp
open Go Go.RowKit

/-- A path as a value. -/
def pathV (K : Int) (a b : Nat) : Value := .agg #[.int .i64 K, .int .u64 (a : Int), .int .u64 (b : Int)]

theorem fixed_any (s : ByteArray) (w : World) :
    Calls Tryd.prog 23 #[.string s] w fun e w' => e = .returned (.agg #[.int .i64 1, .string s]) ∧ w' = w.alloc (.cells #[.int .i64 1, .string s] 44) := by
  go_enter Tryd.func23, Tryd.ntmps23
  go_wp2_with fail
  exact ret_agg rfl w.heap.size 44 #[.int .i64 1, .string s] _ rfl (Blk.new w _ _) rfl Tryd.underlying44 rfl (by kernel_rfl) ⟨rfl, rfl⟩

/-- The elements of the strings of a kind: what each is (1 a word, 2 the first number, 3 the second, 0 nothing), and its word. -/
def els : Nat → List (Nat × List UInt8)
  | 1 => [(1, [99, 108, 105, 101, 110, 116, 115]), (2, []), (1, [99, 108, 105, 101, 110, 116, 83, 116, 97, 116, 101]), (0, []), (0, [])]
  | 2 => [(1, [99, 108, 105, 101, 110, 116, 115]), (2, []), (1, [99, 111, 110, 115, 101, 110, 115, 117, 115, 83, 116, 97, 116, 101, 115]), (3, []), (0, [])]
  | 3 => [(1, [99, 111, 110, 110, 101, 99, 116, 105, 111, 110, 115]), (2, []), (0, []), (0, []), (0, [])]
  | 4 => [(1, [99, 104, 97, 110, 110, 101, 108, 69, 110, 100, 115]), (1, [99, 104, 97, 110, 110, 101, 108, 115]), (2, []), (0, []), (0, [])]
  | 5 => [(1, [99, 111, 109, 109, 105, 116, 109, 101, 110, 116, 115]), (1, [99, 104, 97, 110, 110, 101, 108, 115]), (2, []), (1, [115, 101, 113, 117, 101, 110, 99, 101, 115]), (3, [])]
  | 6 => [(1, [114, 101, 99, 101, 105, 112, 116, 115]), (1, [99, 104, 97, 110, 110, 101, 108, 115]), (2, []), (1, [115, 101, 113, 117, 101, 110, 99, 101, 115]), (3, [])]
  | 7 => [(1, [97, 99, 107, 115]), (1, [99, 104, 97, 110, 110, 101, 108, 115]), (2, []), (1, [115, 101, 113, 117, 101, 110, 99, 101, 115]), (3, [])]
  | 8 => [(1, [110, 101, 120, 116, 83, 101, 113, 117, 101, 110, 99, 101, 82, 101, 99, 118]), (1, [99, 104, 97, 110, 110, 101, 108, 115]), (2, []), (0, []), (0, [])]
  | _ => [(0, []), (0, []), (0, []), (0, []), (0, [])]
def elV (e : Nat × List UInt8) : List Value := [.int .i64 (e.1 : Int), .string ⟨e.2.toArray⟩]
def elsV (k : Nat) : Array Value := ((els k).flatMap elV).toArray

theorem size_alloc_ (w : World) (o : Obj) : (w.alloc o).heap.size = w.heap.size + 1 := by simp
theorem below_drew {B : Nat} {a w : World} (h : Below B a w) : Below B a w.drew := ⟨h.os, h.tape, h.output, h.size, h.block⟩
theorem below_more {a w : World} (h : Below a.heap.size a w) (o : Obj) : Below a.heap.size a (w.alloc o) := h.alloc h.size o
set_option maxHeartbeats 2000000 in
theorem elements_1 (w : World) :
    Calls Tryd.prog 17 #[.int .i64 1] w fun e w' => e = .returned (.agg (elsV 1)) ∧ Below w.heap.size w w' := by
  go_enter Tryd.func17, Tryd.ntmps17
  go_wp2_with fail
  go_region_held3 (fun w' => w'.cell? ⟨w.heap.size + 1, 0, none⟩ = some (.int .i64 2) ∧ w'.cell? ⟨w.heap.size + 1, 1, none⟩ = some (.string ⟨#[]⟩) ∧ w'.cell? ⟨w.heap.size + 1 + 1, 0, none⟩ = some (.int .i64 3) ∧ w'.cell? ⟨w.heap.size + 1 + 1, 1, none⟩ = some (.string ⟨#[]⟩)) ((refine ⟨?_, ?_, ?_, ?_⟩ <;> go_simp)) ((go_at_call 23; refine (fixed_any _ _).mono ?_; rintro e w' ⟨rfl, rfl⟩))
  go_wp2_with fail
  refine ret_agg rfl w.heap.size 46 (elsV 1) _ rfl ?_ rfl Tryd.underlying46 rfl (by kernel_rfl) ?_
  · repeat (first | exact Blk.new w _ _ | refine Blk.drew ?_ | refine Blk.alloc ?_ _)
  · exact ⟨rfl, by repeat (first | exact Below.refl _ _ | refine below_drew ?_ | refine below_more ?_ _)⟩
set_option maxHeartbeats 2000000 in
theorem elements_2 (w : World) :
    Calls Tryd.prog 17 #[.int .i64 2] w fun e w' => e = .returned (.agg (elsV 2)) ∧ Below w.heap.size w w' := by
  go_enter Tryd.func17, Tryd.ntmps17
  go_wp2_with fail
  go_region_held3 (fun w' => w'.cell? ⟨w.heap.size + 1, 0, none⟩ = some (.int .i64 2) ∧ w'.cell? ⟨w.heap.size + 1, 1, none⟩ = some (.string ⟨#[]⟩) ∧ w'.cell? ⟨w.heap.size + 1 + 1, 0, none⟩ = some (.int .i64 3) ∧ w'.cell? ⟨w.heap.size + 1 + 1, 1, none⟩ = some (.string ⟨#[]⟩)) ((refine ⟨?_, ?_, ?_, ?_⟩ <;> go_simp)) ((go_at_call 23; refine (fixed_any _ _).mono ?_; rintro e w' ⟨rfl, rfl⟩))
  go_wp2_with fail
  refine ret_agg rfl w.heap.size 46 (elsV 2) _ rfl ?_ rfl Tryd.underlying46 rfl (by kernel_rfl) ?_
  · repeat (first | exact Blk.new w _ _ | refine Blk.drew ?_ | refine Blk.alloc ?_ _)
  · exact ⟨rfl, by repeat (first | exact Below.refl _ _ | refine below_drew ?_ | refine below_more ?_ _)⟩
set_option maxHeartbeats 2000000 in
theorem elements_3 (w : World) :
    Calls Tryd.prog 17 #[.int .i64 3] w fun e w' => e = .returned (.agg (elsV 3)) ∧ Below w.heap.size w w' := by
  go_enter Tryd.func17, Tryd.ntmps17
  go_wp2_with fail
  go_region_held3 (fun w' => w'.cell? ⟨w.heap.size + 1, 0, none⟩ = some (.int .i64 2) ∧ w'.cell? ⟨w.heap.size + 1, 1, none⟩ = some (.string ⟨#[]⟩) ∧ w'.cell? ⟨w.heap.size + 1 + 1, 0, none⟩ = some (.int .i64 3) ∧ w'.cell? ⟨w.heap.size + 1 + 1, 1, none⟩ = some (.string ⟨#[]⟩)) ((refine ⟨?_, ?_, ?_, ?_⟩ <;> go_simp)) ((go_at_call 23; refine (fixed_any _ _).mono ?_; rintro e w' ⟨rfl, rfl⟩))
  go_wp2_with fail
  refine ret_agg rfl w.heap.size 46 (elsV 3) _ rfl ?_ rfl Tryd.underlying46 rfl (by kernel_rfl) ?_
  · repeat (first | exact Blk.new w _ _ | refine Blk.drew ?_ | refine Blk.alloc ?_ _)
  · exact ⟨rfl, by repeat (first | exact Below.refl _ _ | refine below_drew ?_ | refine below_more ?_ _)⟩
set_option maxHeartbeats 2000000 in
theorem elements_4 (w : World) :
    Calls Tryd.prog 17 #[.int .i64 4] w fun e w' => e = .returned (.agg (elsV 4)) ∧ Below w.heap.size w w' := by
  go_enter Tryd.func17, Tryd.ntmps17
  go_wp2_with fail
  go_region_held3 (fun w' => w'.cell? ⟨w.heap.size + 1, 0, none⟩ = some (.int .i64 2) ∧ w'.cell? ⟨w.heap.size + 1, 1, none⟩ = some (.string ⟨#[]⟩) ∧ w'.cell? ⟨w.heap.size + 1 + 1, 0, none⟩ = some (.int .i64 3) ∧ w'.cell? ⟨w.heap.size + 1 + 1, 1, none⟩ = some (.string ⟨#[]⟩)) ((refine ⟨?_, ?_, ?_, ?_⟩ <;> go_simp)) ((go_at_call 23; refine (fixed_any _ _).mono ?_; rintro e w' ⟨rfl, rfl⟩))
  go_wp2_with fail
  refine ret_agg rfl w.heap.size 46 (elsV 4) _ rfl ?_ rfl Tryd.underlying46 rfl (by kernel_rfl) ?_
  · repeat (first | exact Blk.new w _ _ | refine Blk.drew ?_ | refine Blk.alloc ?_ _)
  · exact ⟨rfl, by repeat (first | exact Below.refl _ _ | refine below_drew ?_ | refine below_more ?_ _)⟩
set_option maxHeartbeats 2000000 in
theorem elements_5 (w : World) :
    Calls Tryd.prog 17 #[.int .i64 5] w fun e w' => e = .returned (.agg (elsV 5)) ∧ Below w.heap.size w w' := by
  go_enter Tryd.func17, Tryd.ntmps17
  go_wp2_with fail
  go_region_held3 (fun w' => w'.cell? ⟨w.heap.size + 1, 0, none⟩ = some (.int .i64 2) ∧ w'.cell? ⟨w.heap.size + 1, 1, none⟩ = some (.string ⟨#[]⟩) ∧ w'.cell? ⟨w.heap.size + 1 + 1, 0, none⟩ = some (.int .i64 3) ∧ w'.cell? ⟨w.heap.size + 1 + 1, 1, none⟩ = some (.string ⟨#[]⟩)) ((refine ⟨?_, ?_, ?_, ?_⟩ <;> go_simp)) ((go_at_call 23; refine (fixed_any _ _).mono ?_; rintro e w' ⟨rfl, rfl⟩))
  go_wp2_with fail
  refine ret_agg rfl w.heap.size 46 (elsV 5) _ rfl ?_ rfl Tryd.underlying46 rfl (by kernel_rfl) ?_
  · repeat (first | exact Blk.new w _ _ | refine Blk.drew ?_ | refine Blk.alloc ?_ _)
  · exact ⟨rfl, by repeat (first | exact Below.refl _ _ | refine below_drew ?_ | refine below_more ?_ _)⟩
set_option maxHeartbeats 2000000 in
theorem elements_6 (w : World) :
    Calls Tryd.prog 17 #[.int .i64 6] w fun e w' => e = .returned (.agg (elsV 6)) ∧ Below w.heap.size w w' := by
  go_enter Tryd.func17, Tryd.ntmps17
  go_wp2_with fail
  go_region_held3 (fun w' => w'.cell? ⟨w.heap.size + 1, 0, none⟩ = some (.int .i64 2) ∧ w'.cell? ⟨w.heap.size + 1, 1, none⟩ = some (.string ⟨#[]⟩) ∧ w'.cell? ⟨w.heap.size + 1 + 1, 0, none⟩ = some (.int .i64 3) ∧ w'.cell? ⟨w.heap.size + 1 + 1, 1, none⟩ = some (.string ⟨#[]⟩)) ((refine ⟨?_, ?_, ?_, ?_⟩ <;> go_simp)) ((go_at_call 23; refine (fixed_any _ _).mono ?_; rintro e w' ⟨rfl, rfl⟩))
  go_wp2_with fail
  refine ret_agg rfl w.heap.size 46 (elsV 6) _ rfl ?_ rfl Tryd.underlying46 rfl (by kernel_rfl) ?_
  · repeat (first | exact Blk.new w _ _ | refine Blk.drew ?_ | refine Blk.alloc ?_ _)
  · exact ⟨rfl, by repeat (first | exact Below.refl _ _ | refine below_drew ?_ | refine below_more ?_ _)⟩
set_option maxHeartbeats 2000000 in
theorem elements_7 (w : World) :
    Calls Tryd.prog 17 #[.int .i64 7] w fun e w' => e = .returned (.agg (elsV 7)) ∧ Below w.heap.size w w' := by
  go_enter Tryd.func17, Tryd.ntmps17
  go_wp2_with fail
  go_region_held3 (fun w' => w'.cell? ⟨w.heap.size + 1, 0, none⟩ = some (.int .i64 2) ∧ w'.cell? ⟨w.heap.size + 1, 1, none⟩ = some (.string ⟨#[]⟩) ∧ w'.cell? ⟨w.heap.size + 1 + 1, 0, none⟩ = some (.int .i64 3) ∧ w'.cell? ⟨w.heap.size + 1 + 1, 1, none⟩ = some (.string ⟨#[]⟩)) ((refine ⟨?_, ?_, ?_, ?_⟩ <;> go_simp)) ((go_at_call 23; refine (fixed_any _ _).mono ?_; rintro e w' ⟨rfl, rfl⟩))
  go_wp2_with fail
  refine ret_agg rfl w.heap.size 46 (elsV 7) _ rfl ?_ rfl Tryd.underlying46 rfl (by kernel_rfl) ?_
  · repeat (first | exact Blk.new w _ _ | refine Blk.drew ?_ | refine Blk.alloc ?_ _)
  · exact ⟨rfl, by repeat (first | exact Below.refl _ _ | refine below_drew ?_ | refine below_more ?_ _)⟩
set_option maxHeartbeats 2000000 in
theorem elements_8 (w : World) :
    Calls Tryd.prog 17 #[.int .i64 8] w fun e w' => e = .returned (.agg (elsV 8)) ∧ Below w.heap.size w w' := by
  go_enter Tryd.func17, Tryd.ntmps17
  go_wp2_with fail
  go_region_held3 (fun w' => w'.cell? ⟨w.heap.size + 1, 0, none⟩ = some (.int .i64 2) ∧ w'.cell? ⟨w.heap.size + 1, 1, none⟩ = some (.string ⟨#[]⟩) ∧ w'.cell? ⟨w.heap.size + 1 + 1, 0, none⟩ = some (.int .i64 3) ∧ w'.cell? ⟨w.heap.size + 1 + 1, 1, none⟩ = some (.string ⟨#[]⟩)) ((refine ⟨?_, ?_, ?_, ?_⟩ <;> go_simp)) ((go_at_call 23; refine (fixed_any _ _).mono ?_; rintro e w' ⟨rfl, rfl⟩))
  go_wp2_with fail
  refine ret_agg rfl w.heap.size 46 (elsV 8) _ rfl ?_ rfl Tryd.underlying46 rfl (by kernel_rfl) ?_
  · repeat (first | exact Blk.new w _ _ | refine Blk.drew ?_ | refine Blk.alloc ?_ _)
  · exact ⟨rfl, by repeat (first | exact Below.refl _ _ | refine below_drew ?_ | refine below_more ?_ _)⟩
theorem elements_any (k : Nat) (h1 : 1 ≤ k) (h8 : k ≤ 8) (w : World) :
    Calls Tryd.prog 17 #[.int .i64 (k : Int)] w fun e w' => e = .returned (.agg (elsV k)) ∧ Below w.heap.size w w' := by
  match k, h1, h8 with
  | 1, _, _ => exact elements_1 w
  | 2, _, _ => exact elements_2 w
  | 3, _, _ => exact elements_3 w
  | 4, _, _ => exact elements_4 w
  | 5, _, _ => exact elements_5 w
  | 6, _, _ => exact elements_6 w
  | 7, _, _ => exact elements_7 w
  | 8, _, _ => exact elements_8 w
set_option maxHeartbeats 2000000 in
theorem elements_no (K : Int) (h : ¬ (1 ≤ K ∧ K ≤ 8)) (w : World) :
    Calls Tryd.prog 17 #[.int .i64 K] w fun e w' => e = .returned (.agg (elsV 0)) ∧ Below w.heap.size w w' := by
  have n1 : ¬ K = 1 := by omega
  have n2 : ¬ K = 2 := by omega
  have n3 : ¬ K = 3 := by omega
  have n4 : ¬ K = 4 := by omega
  have n5 : ¬ K = 5 := by omega
  have n6 : ¬ K = 6 := by omega
  have n7 : ¬ K = 7 := by omega
  have n8 : ¬ K = 8 := by omega
  clear h
  go_enter Tryd.func17, Tryd.ntmps17
  go_wp2_with fail
  refine ret_agg rfl w.heap.size 46 (elsV 0) _ rfl ?_ rfl Tryd.underlying46 rfl (by kernel_rfl) ?_
  · repeat (first | exact Blk.new w _ _ | refine Blk.drew ?_ | refine Blk.alloc ?_ _)
  · exact ⟨rfl, by repeat (first | exact Below.refl _ _ | refine below_drew ?_ | refine below_more ?_ _)⟩
end Go.Proofs.YtakfplkdjapooaaDoor.Sp
