/- Package wots: the iterator over the positions at which a walk steps: whatever the loop's body is, it is handed each position from the first to the last, in order. -/
import Derived.RangeFuncNested
import Derived.RangeFuncBound
import Derived.RangeFuncCalls
import Derived.RangeFuncLeaves
import Derived.Shelf.Abstract
import Derived.Shelf.RegionOpen
import Derived.WalkKit
import Derived.OwnWalkIn
import Derived.TacticsInMore
import Derived.LoopNIn
import Derived.LoopIn
import Derived.Test.YtncimfiiknbcfaaDoorWotEnc
namespace Go.Proofs.YtncimfiiknbcfaaDoor.Sp
open Go Go.RowKit Go.Shelf
attribute [local go_sem] Oper.semAt_some
set_option maxRecDepth 100000

/-- A number that an int holds. -/
abbrev I64 := { x : Int // -9223372036854775808 ≤ x ∧ x ≤ 9223372036854775807 }
/-- What a round that goes on leaves as it was: the box of the last position. -/
def KeepsBox (B : Nat) (j : Int) (W W' : World) : Prop := Blk W B 3 #[.int .i64 j] → Blk W' B 3 #[.int .i64 j]
theorem Blk.own_ {β : Type} {g : Nat} {t : TypeId} (cs : β → Array Value) : Go.Own (fun (s : β) W => Blk W g t (cs s)) := fun s W W' row hs hg hr => hs.grown hg (by
  intro e
  obtain ⟨o, ho, hc⟩ := hr g e.symm
  rw [show W.heap[g]? = _ from hs] at ho
  cases ho
  cases hc)
theorem upto_next {α : Type} (f : Nat → α) (k : Nat) : (List.range (k + 1)).map f = (List.range k).map f ++ [f k] := by simp [List.range_succ]

set_option maxHeartbeats 2000000 in
/-- positions: both ends are boxed; the function captures the boxes. -/
theorem positions_any (i j : Int) (w : World) :
    Calls Tryd.prog 34 #[.int .i64 i, .int .i64 j] w fun e w' => e = .returned (.func (.func 48) #[] #[.pointer (some ⟨w.heap.size, 0, none⟩), .pointer (some ⟨w.heap.size + 1, 0, none⟩)]) ∧ w' = (w.alloc (.cells #[.int .i64 i] 3)).alloc (.cells #[.int .i64 j] 3) := by
  go_enter Tryd.func34, Tryd.ntmps34
  go_wp2_with fail
  go_ret
  exact ⟨rfl, rfl⟩

set_option maxHeartbeats 2000000 in
/-- Where a walk would go back before the first position or leave the chain: no round. -/
theorem positions_none (F : Fence) (n : Nat) (hF : F.fn 48) (hro : F.round = none) (l Bi Bj : Nat) (i j : Int) (hij : i < 0 ∨ 15 < j) (J : List I64 → World → Prop) (W : World) (hBi : Blk W Bi 3 #[.int .i64 i]) (hBj : Blk W Bj 3 #[.int .i64 j]) (h0 : J [] W) :
    CallsIn F n Tryd.prog 48 #[.func (.yield l) #[] #[], .pointer (some ⟨Bi, 0, none⟩), .pointer (some ⟨Bj, 0, none⟩)] W fun e W' => (∃ v, e = .returned v) ∧ J [] W' := by
  have c1 := hBi.cell 0
  have c2 := hBj.cell 0
  simp only [List.getElem?_toArray, List.getElem?_cons_zero] at c1 c2
  by_cases hi : i < 0
  · refine callsIn_of_wp Tryd.func48 rfl hF ?_ hro
    simp only [Tryd.ntmps48, List.size_toArray, List.length_cons, List.length_nil, Nat.reduceAdd, Nat.reduceSub, Array.replicate_succ, Array.replicate_zero, List.push_toArray, List.append_toArray, List.nil_append, List.cons_append]
    gi_wp2
    refine bodyPost_ret (results_none rfl _ _ _) rfl ?_
    exact ⟨⟨_, rfl⟩, h0⟩
  · have hj : 15 < j := by omega
    refine callsIn_of_wp Tryd.func48 rfl hF ?_ hro
    simp only [Tryd.ntmps48, List.size_toArray, List.length_cons, List.length_nil, Nat.reduceAdd, Nat.reduceSub, Array.replicate_succ, Array.replicate_zero, List.push_toArray, List.append_toArray, List.nil_append, List.cons_append]
    gi_wp2
    refine bodyPost_ret (results_none rfl _ _ _) rfl ?_
    exact ⟨⟨_, rfl⟩, h0⟩

set_option maxHeartbeats 4000000 in
/-- Else: each position from the first on, whatever the body does. -/
theorem positions_some (F : Fence) (n : Nat) (hF : F.fn 48) (hro : F.round = none) (hn : 1 ≤ n) (l Bi Bj : Nat) (i j : Int) (hi : ¬ i < 0) (hj : ¬ 15 < j) (K : Nat) (hK : (j - i).toNat = K) (f : Nat → I64) (hf : ∀ k, k < K → (f k).1 = i + k)
    (J Jx : List I64 → World → Prop)
    (hY : ∀ pre (x : I64) W, J pre W → pre.length < K → YieldAt F (n - 1) Tryd.prog l #[.int .i64 x.1] W fun e W' =>
      (e = .returned (.bool true) ∧ J (pre ++ [x]) W' ∧ KeepsBox Bj j W W') ∨ (e = .returned (.bool false) ∧ Jx (pre ++ [x]) W'))
    (W : World) (hBi : Blk W Bi 3 #[.int .i64 i]) (hBj : Blk W Bj 3 #[.int .i64 j]) (h0 : J [] W) :
    CallsIn F n Tryd.prog 48 #[.func (.yield l) #[] #[], .pointer (some ⟨Bi, 0, none⟩), .pointer (some ⟨Bj, 0, none⟩)] W fun e W' => (∃ v, e = .returned v) ∧
      ((∃ ys, ys = (List.range K).map f ∧ J ys W') ∨ (∃ pre, Jx pre W')) := by
  have HJ0 := Lib.hid h0
  have HB0 := Lib.hid hBj
  have c1 := hBi.cell 0
  have c2 := hBj.cell 0
  simp only [List.getElem?_toArray, List.getElem?_cons_zero] at c1 c2
  have HK := Lib.hid hK
  clear hBi hBj h0 hK
  refine callsIn_of_wp Tryd.func48 rfl hF ?_ hro
  simp only [Tryd.ntmps48, List.size_toArray, List.length_cons, List.length_nil, Nat.reduceAdd, Nat.reduceSub, Array.replicate_succ, Array.replicate_zero, List.push_toArray, List.append_toArray, List.nil_append, List.cons_append]
  gi_wp2
  gi_loopw [4] (fun x wr => ∃ k : Nat, k ≤ K ∧ x = .int .i64 (i + (k : Int)) ∧ J ((List.range k).map f) wr ∧ Blk wr Bj 3 #[.int .i64 j]) (fun x _ => (j - intOf x).toNat)
  case atStart => exact ⟨0, Nat.zero_le _, by simp, HJ0.out, HB0.out⟩
  case round =>
    obtain ⟨k, hk, rfl, hJs, hb⟩ := hrel
    have HB := Lib.hid hb
    have c3 := hb.cell 0
    simp only [List.getElem?_toArray, List.getElem?_cons_zero] at c3
    have hKo := HK.out
    clear hb c1 c2
    obtain ⟨p, hp⟩ : ∃ p : Int, i + (k : Int) = p := ⟨_, rfl⟩
    rw [hp]
    by_cases hlt : k < K
    · have hpj : p < j := by omega
      have hpw : IntKind.i64.wrap (p + 1) = p + 1 := by rw [IntKind.wrap_i64]; omega
      obtain ⟨x, hx⟩ : ∃ x : I64, f k = x := ⟨_, rfl⟩
      have hxp : x.1 = p := by rw [← hx, hf k hlt, hp]
      obtain ⟨fn, tmps, assign, body, hy, hR⟩ := hY _ x wr hJs (by simp; exact hlt)
      rw [hxp] at hy
      gi_wp2
      refine hR.mono ?_
      rintro e W3 (⟨rfl, hJ3, hk3⟩ | ⟨rfl, hJx3⟩)
      · have HB3 := Lib.hid (hk3 HB.out)
        gi_wp2
        go_roundw
        case rel => exact ⟨k + 1, hlt, by congr 1; omega, by rw [upto_next, hx]; exact hJ3, HB3.out⟩
        case measure => simp [intOf]; omega
      · gi_wp2
        refine bodyPost_ret (results_none rfl _ _ _) rfl ?_
        exact ⟨⟨_, rfl⟩, .inr ⟨_, hJx3⟩⟩
    · obtain rfl : k = K := by omega
      have hpj : ¬ p < j := by omega
      gi_wp2
      go_end0
      first
        | exact ⟨⟨_, rfl⟩, .inl ⟨_, rfl, hJs⟩⟩
        | exact ⟨⟨_, rfl⟩, .inl hJs⟩
end Go.Proofs.YtncimfiiknbcfaaDoor.Sp
