/-
  The statement CodecOrder: for every input the law returns true, and each argument reads afterwards as it read before.
  Conditions: none beside the form's own.
-/
import Derived.Test.YtecamidkcdaopaaCodOrderW
import Derived.Test.YtecamidkcdaopaaShut
namespace Go.Proofs.Ytecamidkcdaopaa.codecOrder
open Go Go.ChangeShapes Go.WideShapes Go.ChangeAt Go.RowKit Go.Proofs.Ytecamidkcdaopaa.Sp
open Go.ChangeMaps (open_string shut_string)

theorem contract (H : Type) (enc : TypeId × Value → H) (W : World) (base : Nat) (args : Array Value) (ds gs : List (DataW H)) (before : List MemPlace)
    (hval : ∀ (j : Nat) t v, Try.f11.params[j]? = some t → args[j]? = some v → Value.okWide Try.prog W .any base t v)
    (hW : DataW.Whole enc Try.prog Try.f11.params.toList Rows.codecOrderSpec.vars false W args.toList ds gs before)
    (hsz : (DataW.weightsEach Try.prog (Try.f11.params.toList ++ (OpenSpec.ofChange Rows.codecOrderSpec).bare.plain.varTypes Try.prog) (ds ++ gs)).all (· ≤ reachBytes) = true) :
    Calls Try.prog 11 args W fun e W' => ∃ v, e = .returned v ∧ Rows.codecOrderSpec.post enc Try.prog Try.f11 false true false false W args v W' := by
  have hW' := hW
  obtain ⟨p, q, hA0, hV, rfl, hfz, hnd⟩ := hW
  have hA : DataW.TrodAll enc Try.prog W 0 (fun _ => true) true Try.f11.params.toList args.toList ds p := hA0
  rw [Try.params11] at hA hval hsz
  obtain ⟨v0, vs0, d0, ds0, p0, q0, hargs, rfl, rfl, h0, r0⟩ := trodAll_cons hA
  obtain ⟨v1, vs1, d1, ds1, p1, q1, rfl, rfl, rfl, h1, r1⟩ := trodAll_cons r0
  obtain ⟨v2, vs2, d2, ds2, p2, q2, rfl, rfl, rfl, h2, r2⟩ := trodAll_cons r1
  obtain ⟨v3, vs3, d3, ds3, p3, q3, rfl, rfl, rfl, h3, r3⟩ := trodAll_cons r2
  obtain ⟨rfl, rfl, rfl⟩ := trodAll_nil r3
  obtain rfl : args = #[v0, v1, v2, v3] := by cases args; simp_all
  obtain ⟨rfl, rfl⟩ := trodVars_none hV
  have hlt : ∀ x ∈ p0 ++ p1 ++ p2 ++ p3, x.block < W.heap.size := fun x hx => hW'.lt x (by simpa using hx)
  have st0 : ∀ W' : World, Below W.heap.size W W' → ∀ sp : Nat → Bool, (∀ x ∈ p0, sp x.block = true) → DataW.Trod enc Try.prog W' 0 sp true 26 v0 d0 p0 := fun W' hb sp hsp => WideElems.Trod_stays laidOut (by kernel_rfl) (by decide +kernel) h0 (fun x hx => hb.same (hlt x (by first | (exact absurd hx (by simp; done)) | simp [hx]))) hsp
  have st1 : ∀ W' : World, Below W.heap.size W W' → ∀ sp : Nat → Bool, (∀ x ∈ p1, sp x.block = true) → DataW.Trod enc Try.prog W' 0 sp true 26 v1 d1 p1 := fun W' hb sp hsp => WideElems.Trod_stays laidOut (by kernel_rfl) (by decide +kernel) h1 (fun x hx => hb.same (hlt x (by first | (exact absurd hx (by simp; done)) | simp [hx]))) hsp
  have st2 : ∀ W' : World, Below W.heap.size W W' → ∀ sp : Nat → Bool, (∀ x ∈ p2, sp x.block = true) → DataW.Trod enc Try.prog W' 0 sp true 9 v2 d2 p2 := fun W' hb sp hsp => WideElems.Trod_stays laidOut (by kernel_rfl) (by decide +kernel) h2 (fun x hx => hb.same (hlt x (by first | (exact absurd hx (by simp; done)) | simp [hx]))) hsp
  have st3 : ∀ W' : World, Below W.heap.size W W' → ∀ sp : Nat → Bool, (∀ x ∈ p3, sp x.block = true) → DataW.Trod enc Try.prog W' 0 sp true 9 v3 d3 p3 := fun W' hb sp hsp => WideElems.Trod_stays laidOut (by kernel_rfl) (by decide +kernel) h3 (fun x hx => hb.same (hlt x (by first | (exact absurd hx (by simp; done)) | simp [hx]))) hsp
  obtain ⟨n0, rfl, rfl, rfl, hw0⟩ := open_int Try.underlying26 (hval 0 26 v0 rfl rfl) h0
  have hx0 := bounds_u64 hw0
  obtain ⟨k0, rfl⟩ : ∃ k : Nat, n0 = (k : Int) := ⟨n0.toNat, by omega⟩
  have hb0 : k0 < 18446744073709551616 := by omega
  obtain ⟨n1, rfl, rfl, rfl, hw1⟩ := open_int Try.underlying26 (hval 1 26 v1 rfl rfl) h1
  have hx1 := bounds_u64 hw1
  obtain ⟨k1, rfl⟩ : ∃ k : Nat, n1 = (k : Int) := ⟨n1.toNat, by omega⟩
  have hb1 : k1 < 18446744073709551616 := by omega
  obtain ⟨s2, rfl, rfl, rfl, hm2⟩ := open_string Try.underlying9 (hval 2 9 v2 rfl rfl) h2
  unfold maxLen at hm2
  obtain ⟨s3, rfl, rfl, rfl, hm3⟩ := open_string Try.underlying9 (hval 3 9 v3 rfl rfl) h3
  unfold maxLen at hm3
  clear hA0
  refine (order_law k0 k1 s2 s3 hb0 hb1 hm2 hm3 W).mono fun e W' ⟨he, hb⟩ => ?_
  subst he
  exact ⟨_, rfl, post_below (pv := []) hW' (fun _ _ _ => trodAll_cons_mk (shut_bool Try.underlying4 _) trodAll_mk0) (fun sp hsp => (trodAll_cons_mk (st0 W' hb sp (fun x hx => hsp x (by first | (exact absurd hx (by simp; done)) | simp [hx]))) (trodAll_cons_mk (st1 W' hb sp (fun x hx => hsp x (by first | (exact absurd hx (by simp; done)) | simp [hx]))) (trodAll_cons_mk (st2 W' hb sp (fun x hx => hsp x (by first | (exact absurd hx (by simp; done)) | simp [hx]))) (trodAll_cons_mk (st3 W' hb sp (fun x hx => hsp x (by first | (exact absurd hx (by simp; done)) | simp [hx]))) trodAll_mk0))))) (fun _ _ => rfl) rfl
    hb (ok_one (by kernel_rfl) rfl (okWide_bool_mk Try.underlying4 _))⟩

theorem laid_met (os : Os) : laidMet Try.prog Rows.codecOrderRow.laid (((World.holding Try.prog os ⟨#[], #[], []⟩).forCall (fun _ _ => 0) ⟨#[], #[(.int .u64 0 : Value), .int .u64 0, .string .empty, .string .empty], []⟩).memory) :=
  laidMet_of_run' 8 (by kernel_rfl) (by kernel_rfl)
theorem reads (os : Os) {H : Type} (enc : TypeId × Value → H) : ∃ places, DataW.whole enc Try.prog (((World.holding Try.prog os ⟨#[], #[], []⟩).forCall (fun _ _ => 0) ⟨#[], #[(.int .u64 0 : Value), .int .u64 0, .string .empty, .string .empty], []⟩).memory) Try.f11.params.toList Rows.codecOrderSpec.vars false #[(.int .u64 0 : Value), .int .u64 0, .string .empty, .string .empty].toList 8 = some ([.lit (.int .u64 0), .lit (.int .u64 0), .lit (.string []), .lit (.string [])], [], places) :=
  ⟨[], by kernel_rfl⟩

set_option maxRecDepth 100000 in
theorem lifted (os : Os) (started : os.Started) (H : Type) (enc : TypeId × Value → H) (F : Stop.Interp) :
    ReturnsInHanded {} Try.checked os 11 .any ((OpenSpec.ofChange Rows.codecOrderSpec).preRow enc Try.prog Try.f11 Rows.codecOrderRow.domain false Rows.codecOrderRow.laid) (((OpenSpec.ofChange Rows.codecOrderSpec).at F).post enc Try.prog Try.f11 false true false false) := by
  obtain ⟨places, hx⟩ := reads os enc
  refine returnsInHanded_of_row (C := Try.checked) (s := (OpenSpec.ofChange Rows.codecOrderSpec)) own started (by kernel_rfl) Try.func11
    (witness_row_at (enc := enc) (C := Try.checked) false (World.holding Try.prog os ⟨#[], #[], []⟩) #[(.int .u64 0 : Value), .int .u64 0, .string .empty, .string .empty] rfl (by kernel_rfl) (by kernel_rfl) (by kernel_rfl)
      (OpenSpec.preRow_of_cond 8 hx (by kernel_rfl) (fun k hk => by cases hk) (by kernel_rfl) (laid_met os))) ?_
  intro W base args ds gs before hval hW _ _ hsz _ _ _
  exact contract H enc W base args ds gs before hval hW hsz

theorem said : Rows.CodecOrderSaid :=
  OpenClaim.holds_of_cond 11 Try.f11 rfl rfl rfl rfl rfl rfl rfl ⟨rfl, rfl, rfl, rfl, rfl⟩ rfl rfl rfl rfl rfl (by kernel_rfl) Try.func11 (by kernel_rfl)
    (of_decide_eq_true (by kernel_rfl)) (by unfold Func.isWrapper; first | (rw [if_pos (by decide +kernel)]; kernel_rfl) | (rw [if_neg (by decide +kernel)]; exact ⟨rfl, rfl⟩))
    (fun os started H enc _ F => by rw [OpenClaim.pre_eq_preRow]; exact lifted os started H enc F)
#print axioms said
end Go.Proofs.Ytecamidkcdaopaa.codecOrder
