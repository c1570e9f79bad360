/- A plain list of nine keys' values, beside a trie. No program is named here. -/
import Derived.Test.YtnkkckmejjcfkaaDoorTriLawP
import Derived.Test.YtnkkckmejjcfkaaDoorGdA
namespace Go.Proofs.YtnkkckmejjcfkaaDoor.Sp
open Go Go.RowKit

abbrev Mdl := Nat → Option ByteArray
def noneM : Mdl := fun _ => none
def hasV (m : Mdl) : Array Value := ((List.range 9).map fun j => Value.bool (m j).isSome).toArray
def mvalV (m : Mdl) : Array Value := ((List.range 9).map fun j => Value.string ((m j).getD .empty)).toArray
theorem hasV_none : hasV noneM = #[.bool false, .bool false, .bool false, .bool false, .bool false, .bool false, .bool false, .bool false, .bool false] := rfl
theorem mvalV_none : mvalV noneM = #[.string ⟨#[]⟩, .string ⟨#[]⟩, .string ⟨#[]⟩, .string ⟨#[]⟩, .string ⟨#[]⟩, .string ⟨#[]⟩, .string ⟨#[]⟩, .string ⟨#[]⟩, .string ⟨#[]⟩] := rfl
theorem hasV_get (m : Mdl) (j : Nat) (h : j < 9) : (hasV m)[j]? = some (.bool (m j).isSome) := by simp [hasV, h]
theorem mvalV_get (m : Mdl) (j : Nat) (h : j < 9) : (mvalV m)[j]? = some (.string ((m j).getD .empty)) := by simp [mvalV, h]
theorem nine_set (f f' : Nat → Value) (k : Nat) (v : Value) (hk : f' k = v) (ho : ∀ j, j ≠ k → f' j = f j) : (((List.range 9).map f).toArray).setIfInBounds k v = ((List.range 9).map f').toArray := by
  apply Array.toList_inj.1
  rw [Array.toList_setIfInBounds]
  apply List.ext_getElem
  · simp
  · intro j h1 h2
    simp only [List.getElem_set, List.getElem_map, List.getElem_range]
    by_cases e : k = j
    · rw [if_pos e, ← e, hk]
    · rw [if_neg e, ho j (fun h => e h.symm)]
theorem hasV_step (m : Mdl) (x : Act) : (hasV m).setIfInBounds (pickN x.key 9) (.bool (decide (pickN x.what 5 < 4))) = hasV (modelF m x) := by
  refine nine_set _ _ _ _ ?_ ?_
  · show Value.bool (modelF m x (pickN x.key 9)).isSome = _
    unfold modelF
    rw [if_pos rfl]
    by_cases h : pickN x.what 5 < 4
    · rw [if_pos h, decide_eq_true h]; rfl
    · rw [if_neg h, decide_eq_false h]; rfl
  · intro j hj
    show Value.bool (modelF m x j).isSome = Value.bool (m j).isSome
    unfold modelF
    rw [if_neg hj]
theorem mvalV_gone (m : Mdl) (x : Act) (h : ¬ pickN x.what 5 < 4) : (mvalV m).setIfInBounds (pickN x.key 9) (.string .empty) = mvalV (modelF m x) := by
  refine nine_set _ _ _ _ ?_ ?_
  · show Value.string ((modelF m x (pickN x.key 9)).getD .empty) = _
    unfold modelF
    rw [if_pos rfl, if_neg h]; rfl
  · intro j hj
    show Value.string ((modelF m x j).getD .empty) = Value.string ((m j).getD .empty)
    unfold modelF
    rw [if_neg hj]
theorem mvalV_put (m : Mdl) (x : Act) (h : pickN x.what 5 < 4) : ((mvalV m).setIfInBounds (pickN x.key 9) (.string .empty)).setIfInBounds (pickN x.key 9) (.string x.value) = mvalV (modelF m x) := by
  have e : (mvalV m).setIfInBounds (pickN x.key 9) (.string .empty) = ((List.range 9).map fun j => if j = pickN x.key 9 then Value.string .empty else Value.string ((m j).getD .empty)).toArray :=
    nine_set _ _ _ _ (by simp) (fun j hj => by simp [hj])
  rw [e]
  refine nine_set _ _ _ _ ?_ ?_
  · show Value.string ((modelF m x (pickN x.key 9)).getD .empty) = _
    unfold modelF
    rw [if_pos rfl, if_pos h]; rfl
  · intro j hj
    show Value.string ((modelF m x j).getD .empty) = _
    unfold modelF
    rw [if_neg hj, if_neg hj]
def cntF (m : Mdl) (k : Nat) : Nat := ((List.range k).filter fun j => (m j).isSome).length
theorem cntF_zero (m : Mdl) : cntF m 0 = 0 := rfl
theorem cntF_succ (m : Mdl) (k : Nat) : cntF m (k + 1) = cntF m k + if (m k).isSome then 1 else 0 := by
  unfold cntF
  rw [List.range_succ, List.filter_append, List.length_append]
  congr 1
  by_cases h : (m k).isSome
  · simp [h]
  · simp [h]
theorem cntF_le (m : Mdl) (k : Nat) : cntF m k ≤ k := by
  unfold cntF
  exact Nat.le_trans (List.length_filter_le _ _) (by simp)
def mdlF (acts : List Act) : Mdl := acts.foldl modelF noneM
theorem mdl_snoc (ts : List Act) (x : Act) : mdlF (ts ++ [x]) = modelF (mdlF ts) x := by simp [mdlF]
theorem model_acts (ha : Apart9) (acts : List Act) : ∀ k, k ≤ acts.length → ∀ j, j < 9 → getF (actsF [] (acts.take k)) (pathC j) = mdlF (acts.take k) j
  | 0, _, j, _ => by rw [List.take_zero]; rfl
  | k + 1, hk, j, hj => by
    have e : acts.take (k + 1) = acts.take k ++ [acts[k]] := by rw [List.take_succ_eq_append_getElem (by omega)]
    rw [e, actsF_snoc, mdl_snoc]
    exact model_step ha (acts_fit _ fitT_nil) (model_acts ha acts k (by omega)) _ j hj
theorem model_cnt (ha : Apart9) (acts : List Act) (k : Nat) (hk : k ≤ acts.length) : (actsF [] (acts.take k)).length = cntF (mdlF (acts.take k)) 9 :=
  model_len ha (acts_fit _ fitT_nil) (Nine.acts _ nine_nil) (model_acts ha acts k hk)
end Go.Proofs.YtnkkckmejjcfkaaDoor.Sp
