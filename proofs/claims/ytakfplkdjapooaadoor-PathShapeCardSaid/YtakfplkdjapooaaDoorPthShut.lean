/- Paths as arguments. -/
import Derived.Test.YtakfplkdjapooaaDoorShut
import Derived.Test.YtakfplkdjapooaaDoorPthQPr
import Derived.Lib.SmallJoins
namespace Go.Proofs.YtakfplkdjapooaaDoor.Sp
open Go Go.ChangeShapes Go.WideShapes Go.ChangeAt Go.RowKit Go.Joins

section
variable {H : Type}
theorem cellsPath : Tryd.prog.cellsOf 24 = 3 := by kernel_rfl
theorem open_path {enc : TypeId × Value → H} {W : World} {base : Nat} {v : Value} {d : DataW H} {ps : List MemPlace} (hval : Value.okWide Tryd.prog W .any base 24 v)
    (h : DataW.Trod enc Tryd.prog W 0 (fun _ => true) true 24 v d ps) :
    ∃ (K : Int) (a b : Nat), v = pathV K a b ∧ (-9223372036854775808 ≤ K ∧ K ≤ 9223372036854775807) ∧ a < 18446744073709551616 ∧ b < 18446744073709551616 := by
  obtain ⟨c0, c1, c2, y0, y1, y2, m, rfl, rfl, rfl, h0, h1, h2⟩ := open_agg3 Tryd.underlying24 (by kernel_rfl) cellsPath hval h
  obtain ⟨n0, e0, _, w0⟩ := DataW.trod_int Tryd.underlying3 h0
  obtain ⟨n1, e1, _, w1⟩ := DataW.trod_int Tryd.underlying22 h1
  obtain ⟨n2, e2, _, w2⟩ := DataW.trod_int Tryd.underlying22 h2
  simp only [List.cons.injEq, and_true] at e0 e1 e2
  subst e0; subst e1; subst e2
  have b0 := bounds_i64 w0
  have b1 := bounds_u64 w1
  have b2 := bounds_u64 w2
  obtain ⟨a, rfl⟩ : ∃ a : Nat, n1 = (a : Int) := ⟨n1.toNat, by omega⟩
  obtain ⟨b, rfl⟩ : ∃ b : Nat, n2 = (b : Int) := ⟨n2.toNat, by omega⟩
  exact ⟨n0, a, b, rfl, b0, by omega, by omega⟩
end
end Go.Proofs.YtakfplkdjapooaaDoor.Sp
