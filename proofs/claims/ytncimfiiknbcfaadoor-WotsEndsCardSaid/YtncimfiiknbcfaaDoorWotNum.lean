/- Digits of a message as a slice of numbers; the ends of chains as a list of texts (of no program's text yet). -/
import Derived.Test.YtncimfiiknbcfaaDoorWotPure
import Derived.Test.YtncimfiiknbcfaaDoorReads
import Derived.Deep.AppendLies
namespace Go.Proofs.YtncimfiiknbcfaaDoor.Sp
open Go Go.RowKit
set_option maxRecDepth 100000

def intV (d : Nat) : Value := .int .i64 (d : Int)
/-- A slice of ints of the call's own. -/
def OwnN (w : World) (base : Nat) (v : Value) (l : List Nat) : Prop := w.ownsRow base 3 1 v l.length (l.map intV)
theorem infoInt : (Tryd.prog.info? 3).map (fun i => (i.zero, i.size, i.bytes)) = some (some (.int .i64 0), 1, 8) := by kernel_rfl
/-- What owns ints reads as them. -/
theorem OwnN.cells_ {w : World} {base : Nat} {v : Value} {l : List Nat} (h : OwnN w base v l) : ∃ a c, v = .slice a l.length c ∧ Cells w a l.length (fun j => intV (l.getD j 0)) := by
  rcases h.2 with ⟨h1, h2⟩ | ⟨g, cap, cur, h1, _⟩
  · exact ⟨none, 0, by rw [h1, h2], fun hp => by omega⟩
  · refine ⟨_, _, h1, fun hp => ⟨g, 0, rfl, fun j hj => ?_⟩⟩
    have hc := World.ownsRow.cells h (g := g) (by rw [h1]; rfl) j (intV (l.getD j 0)) (by simp [List.getD, hj])
    rw [show (⟨g, 0, none⟩ : Addr).add j = ⟨g, 0 + j, none⟩ from by unfold Addr.add; split <;> simp_all] at hc
    exact hc
/-- What Digits hands back: ten ints. -/
def DigTo (msg : ByteArray) (w : World) (e : Ending) (w' : World) : Prop :=
  ∃ (a : Option Addr) (c : Nat), e = .returned (.slice a 10 c) ∧ Cells w' a 10 (fun j => intV ((digitsN msg).getD j 0)) ∧ Below w.heap.size w w'

theorem hexOf_snoc (l : List UInt8) (b : UInt8) : hexOf (l ++ [b]) = hexOf l ++ [b.toNat / 16, b.toNat % 16] := by simp [hexOf]
theorem hexOf_length (l : List UInt8) : (hexOf l).length = 2 * l.length := by
  induction l with
  | nil => rfl
  | cons x l ih => simp [hexOf, List.flatMap_cons] at ih ⊢; omega
theorem lacks_app (l m : List Nat) : lacks (l ++ m) = lacks l + lacks m := by simp [lacks]
theorem lacks_le (l : List Nat) : lacks l ≤ 15 * l.length := by
  induction l with
  | nil => simp [lacks]
  | cons x l ih => simp [lacks] at ih ⊢; omega

theorem len2_16 (l : List ByteArray) (h : ∀ x ∈ l, x.size = 16) : len2 l l.length = 1 + 20 * l.length := by
  unfold len2
  rw [List.take_length]
  induction l with
  | nil => rfl
  | cons x l ih =>
    have h1 := ih (fun y hy => h y (List.mem_cons_of_mem _ hy))
    have h2 := h x (List.mem_cons_self ..)
    simp only [List.map_cons, List.sum_cons, List.length_cons] at h1 ⊢
    omega

/-- The ends of the first k chains. -/
def endsTo (f : Nat → ByteArray) (k : Nat) : List ByteArray := (List.range k).map f
theorem endsTo_succ (f : Nat → ByteArray) (k : Nat) : endsTo f (k + 1) = endsTo f k ++ [f k] := by simp [endsTo, List.range_succ]
theorem endsTo_length (f : Nat → ByteArray) (k : Nat) : (endsTo f k).length = k := by simp [endsTo]
theorem endsTo_size (f : Nat → ByteArray) (hf : ∀ c, (f c).size = 16) (k : Nat) : ∀ x ∈ endsTo f k, x.size = 16 := by
  intro x hx
  simp only [endsTo, List.mem_map] at hx
  obtain ⟨c, _, rfl⟩ := hx
  exact hf c

theorem digits_le (msg : ByteArray) (j : Nat) : (digitsN msg).getD j 0 ≤ 15 := by
  have h : ∀ d ∈ digitsN msg, d ≤ 15 := by
    intro d hd
    unfold digitsN at hd
    simp only [List.mem_append, hexOf, List.mem_flatMap] at hd
    rcases hd with ⟨b, _, hb⟩ | hd
    · have := b.toNat_lt
      simp only [List.mem_cons, List.not_mem_nil, or_false] at hb
      rcases hb with rfl | rfl <;> omega
    · have h1 := lacks_le (hexOf ((sum (inB 1 [msg])).take 4))
      have h2 : (hexOf ((sum (inB 1 [msg])).take 4)).length ≤ 8 := by rw [hexOf_length, List.length_take]; omega
      simp only [hexOf] at h1 h2
      simp only [List.mem_cons, List.not_mem_nil, or_false] at hd
      rcases hd with rfl | rfl <;> omega
  rcases Nat.lt_or_ge j (digitsN msg).length with hj | hj
  · rw [List.getD_eq_getElem?_getD, List.getElem?_eq_getElem hj]
    exact h _ (List.getElem_mem hj)
  · rw [List.getD_eq_getElem?_getD, List.getElem?_eq_none hj]
    exact Nat.zero_le _
theorem signUpto_size (seed : ByteArray) (l : Int) (msg : ByteArray) (k : Nat) : (signUpto seed l msg k).size = 16 * k := by
  induction k with
  | zero => rfl
  | succ k ih => rw [signUpto, ByteArray.size_append, ih, walkB_size _ _ _ _ (secretB_size _ _ _)]; omega

end Go.Proofs.YtncimfiiknbcfaaDoor.Sp
