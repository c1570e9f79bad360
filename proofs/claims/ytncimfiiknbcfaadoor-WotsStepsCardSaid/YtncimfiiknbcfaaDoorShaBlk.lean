/- Blocks that are known whole, and quiet calls: small words on memory. -/
import Derived.Test.YtncimfiiknbcfaaDoorShaEncode
import Derived.Deep.Draws
namespace Go.Proofs.YtncimfiiknbcfaaDoor.Sp
open Go Go.RowKit

section
variable {w w' : World} {g : Nat} {t : TypeId} {cs : Array Value}
end
theorem quiet_left {P : Program} {f : FuncId} {args : Array Value} {w : World} {n : Nat} {v : Value}
    (h : Calls P f args (w.drewN n) fun e w' => e = .returned v ∧ w.drewN n = w') : Calls P f args (w.drewN n) fun e w' => e = .returned v ∧ ∃ m, w' = w.drewN m :=
  h.mono fun _ _ ⟨he, hw⟩ => ⟨he, n, hw.symm⟩

theorem below_setRow {B g : Nat} {a w : World} (h : Below B a w) (hg : B ≤ g) (cs : Array Value) : Below B a (w.setRow g cs) :=
  h.trans ⟨rfl, rfl, rfl, by simp [World.setRow], fun k hk => by simp only [World.setRow, Array.getElem?_modify]; rw [if_neg (by omega)]⟩
theorem Blk.row {w : World} {g : Nat} {t : TypeId} {cs : Array Value} (h : Blk w g t cs) (cs' : Array Value) : Blk (w.setRow g cs') g t cs' := setRow_heap w g cs cs' t (0, 0) h

/-- An array whose first words are known, the others still zero. -/
def part (l : List W) (n : Nat) : Array Value := arr (l ++ List.replicate (n - l.length) 0)
theorem part_set (l : List W) (x : W) (n : Nat) (h : l.length < n) : (part l n).setIfInBounds l.length (.int .u32 (U x)) = part (l ++ [x]) n := by
  unfold part arr
  obtain ⟨m, hm⟩ : ∃ m, n - l.length = m + 1 := ⟨n - l.length - 1, by omega⟩
  have hm2 : n - (l ++ [x]).length = m := by simp; omega
  rw [hm, hm2, List.setIfInBounds_toArray]
  congr 1
  rw [List.replicate_succ, List.map_append, List.map_cons, List.set_append_right _ _ (by simp)]
  simp [wordV]
theorem part_full (l : List W) (n : Nat) (h : l.length = n) : part l n = arr l := by simp [part, h]
theorem part_get (l : List W) (n i : Nat) (h : i < n) (hl : l.length ≤ n) : (part l n)[i]? = some (.int .u32 (U (gW l i))) := by
  unfold part
  rw [arr_get _ _ (by simp; omega)]
  unfold gW
  congr 3
  rw [List.getD_eq_getElem?_getD, List.getD_eq_getElem?_getD]
  by_cases hi : i < l.length
  · rw [List.getElem?_append_left hi]
  · rw [List.getElem?_append_right (by omega), List.getElem?_eq_none (by omega : l.length ≤ i)]
    rcases h2 : (List.replicate (n - l.length) (0 : W))[i - l.length]? with _ | y
    · rfl
    · have := List.mem_of_getElem? h2
      simp at this; simp [this]
theorem part_size (l : List W) (n : Nat) (hl : l.length ≤ n) : (part l n).size = n := by unfold part; rw [arr_size]; simp; omega

theorem words_succ (l : List UInt8) (k : Nat) : words l (k + 1) = words l k ++ [word l k] := by simp [words, List.range_succ]
theorem words_length (l : List UInt8) (k : Nat) : (words l k).length = k := by simp [words]
theorem of_ws (l : List W) (h : l.length = 8) : (St.of l).ws = l := by
  match l, h with
  | [a, b, c, d, e, f, g, i], _ => rfl
theorem gap8 : #[Value.int IntKind.u32 0, Value.int IntKind.u32 0, Value.int IntKind.u32 0, Value.int IntKind.u32 0, Value.int IntKind.u32 0, Value.int IntKind.u32 0, Value.int IntKind.u32 0, Value.int IntKind.u32 0] = part [] 8 := by
  kernel_rfl
end Go.Proofs.YtncimfiiknbcfaaDoor.Sp
