/-
  The statement TrieSound: for every input the law returns true, and each argument reads afterwards as it read before.
  Conditions: none beside the form's own.
-/
import Derived.Test.YtnkkckmejjcfkaaGreatDoorTriSoundW
import Derived.Test.YtnkkckmejjcfkaaGreatDoorGzM
import Derived.Test.YtnkkckmejjcfkaaGreatDoorGzL
import Derived.Test.YtnkkckmejjcfkaaGreatDoorTriProg
import Derived.Test.YtnkkckmejjcfkaaGreatDoorCards
import Derived.Test.YtnkkckmejjcfkaaGreatDoorTie
namespace Go.Proofs.YtnkkckmejjcfkaaGreatDoor.trieSound
open Go Go.ChangeShapes Go.WideShapes Go.ChangeAt Go.RowKit Go.Proofs.YtnkkckmejjcfkaaGreatDoor.Sp
open Go.ChangeMaps (open_string shut_string)
set_option maxRecDepth 100000

theorem contract (H : Type) (enc : TypeId × Value → H) (W : World) (base : Nat) (args : Array Value) (ds gs : List (DataW H)) (before : List MemPlace)
    (hval : ∀ (j : Nat) t v, Tryz.f5.params[j]? = some t → args[j]? = some v → Value.okWide Tryz.prog W .any base t v)
    (hW : DataW.Whole enc Tryz.prog Tryz.f5.params.toList Rows.trieSoundSpec.vars false W args.toList ds gs before)
    (hsz : (DataW.weightsEach Tryz.prog (Tryz.f5.params.toList ++ (OpenSpec.ofChange Rows.trieSoundSpec).bare.plain.varTypes Tryz.prog) (ds ++ gs)).all (· ≤ reachBytes) = true)
    (hL : laidMetH Tryz.prog Rows.trieSoundRow.laid W) :
    Calls Tryz.prog 5 args W fun e W' => ∃ v, e = .returned v ∧ Rows.trieSoundSpec.post enc Tryz.prog Tryz.f5 false true false false W args v W' := by
  have hT : Tab W := tab_of hL
  have hK : Tabs W := ⟨ktab_of hL, ftab_of hL⟩
  have hW' := hW
  obtain ⟨p, q, hA0, hV, rfl, hfz, hnd⟩ := hW
  have hA : DataW.TrodAll enc Tryz.prog W 0 (fun _ => true) true Tryz.f5.params.toList args.toList ds p := hA0
  rw [Tryz.params5] at hA hval hsz
  obtain ⟨v0, vs0, d0, ds0, p0, q0, hargs, rfl, rfl, h0, r0⟩ := trodAll_cons hA
  obtain ⟨v1, vs1, d1, ds1, p1, q1, rfl, rfl, rfl, h1, r1⟩ := trodAll_cons r0
  obtain ⟨v2, vs2, d2, ds2, p2, q2, rfl, rfl, rfl, h2, r2⟩ := trodAll_cons r1
  obtain ⟨v3, vs3, d3, ds3, p3, q3, rfl, rfl, rfl, h3, r3⟩ := trodAll_cons r2
  obtain ⟨v4, vs4, d4, ds4, p4, q4, rfl, rfl, rfl, h4, r4⟩ := trodAll_cons r3
  obtain ⟨rfl, rfl, rfl⟩ := trodAll_nil r4
  obtain rfl : args = #[v0, v1, v2, v3, v4] := by cases args; simp_all
  obtain ⟨rfl, rfl⟩ := trodVars_none hV
  have hlt : ∀ x ∈ p0 ++ p1 ++ p2 ++ p3 ++ p4, x.block < W.heap.size := fun x hx => hW'.lt x (by simpa using hx)
  have st0 : ∀ W' : World, Below W.heap.size W W' → ∀ sp : Nat → Bool, (∀ x ∈ p0, sp x.block = true) → DataW.Trod enc Tryz.prog W' 0 sp true 22 v0 d0 p0 := fun W' hb sp hsp => WideElems.Trod_stays laidOut (by kernel_rfl) (by decide +kernel) h0 (fun x hx => hb.same (hlt x (by first | (exact absurd hx (by simp; done)) | simp [hx]))) hsp
  have st1 : ∀ W' : World, Below W.heap.size W W' → ∀ sp : Nat → Bool, (∀ x ∈ p1, sp x.block = true) → DataW.Trod enc Tryz.prog W' 0 sp true 9 v1 d1 p1 := fun W' hb sp hsp => WideElems.Trod_stays laidOut (by kernel_rfl) (by decide +kernel) h1 (fun x hx => hb.same (hlt x (by first | (exact absurd hx (by simp; done)) | simp [hx]))) hsp
  have st2 : ∀ W' : World, Below W.heap.size W W' → ∀ sp : Nat → Bool, (∀ x ∈ p2, sp x.block = true) → DataW.Trod enc Tryz.prog W' 0 sp true 9 v2 d2 p2 := fun W' hb sp hsp => WideElems.Trod_stays laidOut (by kernel_rfl) (by decide +kernel) h2 (fun x hx => hb.same (hlt x (by first | (exact absurd hx (by simp; done)) | simp [hx]))) hsp
  have st3 : ∀ W' : World, Below W.heap.size W W' → ∀ sp : Nat → Bool, (∀ x ∈ p3, sp x.block = true) → DataW.Trod enc Tryz.prog W' 0 sp true 39 v3 d3 p3 := fun W' hb sp hsp => WideElems.Trod_stays laidOut (by kernel_rfl) (by decide +kernel) h3 (fun x hx => hb.same (hlt x (by first | (exact absurd hx (by simp; done)) | simp [hx]))) hsp
  have st4 : ∀ W' : World, Below W.heap.size W W' → ∀ sp : Nat → Bool, (∀ x ∈ p4, sp x.block = true) → DataW.Trod enc Tryz.prog W' 0 sp true 3 v4 d4 p4 := fun W' hb sp hsp => WideElems.Trod_stays laidOut (by kernel_rfl) (by decide +kernel) h4 (fun x hx => hb.same (hlt x (by first | (exact absurd hx (by simp; done)) | simp [hx]))) hsp
  obtain ⟨a0, m0, c0, l0, rfl, hS0, hc0, hn0, hz0, hZ0⟩ := open_acts (hval 0 22 v0 rfl rfl) h0
  have hR0 : ∀ x ∈ l0, ActOk x := acts_ok hsz (j := 0) rfl rfl hz0 hZ0
  obtain ⟨s1, rfl, rfl, rfl, hm1⟩ := open_string Tryz.underlying9 (hval 1 9 v1 rfl rfl) h1
  unfold maxLen at hm1
  have hr1 : s1.size ≤ 140737488351232 := by have h9 : s1.data.toList.length ≤ reachBytes := sized_string hsz (j := 1) rfl rfl; rw [size_list] at h9; exact h9
  obtain ⟨s2, rfl, rfl, rfl, hm2⟩ := open_string Tryz.underlying9 (hval 2 9 v2 rfl rfl) h2
  unfold maxLen at hm2
  have hr2 : s2.size ≤ 140737488351232 := by have h9 : s2.data.toList.length ≤ reachBytes := sized_string hsz (j := 2) rfl rfl; rw [size_list] at h9; exact h9
  obtain ⟨a3, m3, c3, q3, rfl, hS3, hc3, hn3, hz3, hZ3, hY3⟩ := open_proof (hval 3 39 v3 rfl rfl) h3
  have hR3 : (∀ s ∈ q3.beside, s.size ≤ 140737488351232) ∧ q3.path.size ≤ 140737488351232 ∧ q3.value.size ≤ 140737488351232 := ⟨fun s hs => sized_one hsz (j := 3) rfl rfl (hz3 s hs), sized_one hsz (j := 3) rfl rfl hZ3, sized_one hsz (j := 3) rfl rfl hY3⟩
  obtain ⟨n4, rfl, rfl, rfl, hw4⟩ := open_int Tryz.underlying3 (hval 4 3 v4 rfl rfl) h4
  have hb4 := bounds_i64 hw4
  clear hA0
  refine (tri_sound triR l0 a0 m0 c0 s1 s2 q3 a3 m3 c3 n4 hR0 hn0 hr1 hR3.2.1 hR3.2.2 hn3 hr2 hb4.1 hb4.2 W hS0 hS3 hT hK).mono fun e W' ⟨he, hb⟩ => ?_
  subst he
  exact ⟨_, rfl, post_below (pv := []) hW' (fun _ _ _ => trodAll_cons_mk (shut_bool Tryz.underlying4 _) trodAll_mk0) (fun sp hsp => (trodAll_cons_mk (st0 W' hb sp (fun x hx => hsp x (by first | (exact absurd hx (by simp; done)) | simp [hx]))) (trodAll_cons_mk (st1 W' hb sp (fun x hx => hsp x (by first | (exact absurd hx (by simp; done)) | simp [hx]))) (trodAll_cons_mk (st2 W' hb sp (fun x hx => hsp x (by first | (exact absurd hx (by simp; done)) | simp [hx]))) (trodAll_cons_mk (st3 W' hb sp (fun x hx => hsp x (by first | (exact absurd hx (by simp; done)) | simp [hx]))) (trodAll_cons_mk (st4 W' hb sp (fun x hx => hsp x (by first | (exact absurd hx (by simp; done)) | simp [hx]))) trodAll_mk0)))))) (fun _ _ => rfl) rfl
    hb (ok_one (by kernel_rfl) rfl (okWide_bool_mk Tryz.underlying4 _))⟩

theorem laid_met (os : Os) : laidMet Tryz.prog Rows.trieSoundRow.laid (((laidWorld3 os).forCall (fun _ _ => 0) ⟨#[], #[(.slice none 0 0 : Value), .string .empty, .string .empty, .agg #[.slice none 0 0, .bool false, .string .empty, .string .empty], .int .i64 0], []⟩).memory) :=
  laidMet_of_run' 8 (by kernel_rfl) (by kernel_rfl)
theorem reads (os : Os) {H : Type} (enc : TypeId × Value → H) : ∃ places, DataW.whole enc Tryz.prog (((laidWorld3 os).forCall (fun _ _ => 0) ⟨#[], #[(.slice none 0 0 : Value), .string .empty, .string .empty, .agg #[.slice none 0 0, .bool false, .string .empty, .string .empty], .int .i64 0], []⟩).memory) Tryz.f5.params.toList Rows.trieSoundSpec.vars false #[(.slice none 0 0 : Value), .string .empty, .string .empty, .agg #[.slice none 0 0, .bool false, .string .empty, .string .empty], .int .i64 0].toList 8 = some ([.nil, .lit (.string []), .lit (.string []), .agg [.nil, .lit (.bool false), .lit (.string []), .lit (.string [])], .lit (.int .i64 0)], [], places) :=
  ⟨[], by kernel_rfl⟩

set_option maxRecDepth 100000 in
theorem lifted (os : Os) (started : os.Started) (H : Type) (enc : TypeId × Value → H) (F : Stop.Interp) :
    ReturnsInHanded {} Tryz.checked os 5 .any ((OpenSpec.ofChange Rows.trieSoundSpec).preRow enc Tryz.prog Tryz.f5 Rows.trieSoundRow.domain false Rows.trieSoundRow.laid) (((OpenSpec.ofChange Rows.trieSoundSpec).at F).post enc Tryz.prog Tryz.f5 false true false false) := by
  obtain ⟨places, hx⟩ := reads os enc
  refine returnsInHanded_of_row (C := Tryz.checked) (s := (OpenSpec.ofChange Rows.trieSoundSpec)) own started (by kernel_rfl) Tryz.func5
    (witness_row_at (enc := enc) (C := Tryz.checked) false (laidWorld3 os) #[(.slice none 0 0 : Value), .string .empty, .string .empty, .agg #[.slice none 0 0, .bool false, .string .empty, .string .empty], .int .i64 0] rfl (by kernel_rfl) (by kernel_rfl) (by kernel_rfl)
      (OpenSpec.preRow_of_cond 8 hx (by kernel_rfl) (fun k hk => by cases hk) (by kernel_rfl) (laid_met os))) ?_
  intro W base args ds gs before hval hW _ _ hsz hL _ _
  exact contract H enc W base args ds gs before hval hW hsz hL

theorem said : Rows.TrieSoundSaid :=
  OpenClaim.holds_of_cond 5 Tryz.f5 rfl rfl rfl rfl rfl rfl rfl ⟨rfl, rfl, rfl, rfl, rfl⟩ rfl rfl rfl rfl rfl (by kernel_rfl) Tryz.func5 (by kernel_rfl)
    (of_decide_eq_true (by kernel_rfl)) (by unfold Func.isWrapper; first | (rw [if_pos (by decide +kernel)]; kernel_rfl) | (rw [if_neg (by decide +kernel)]; exact ⟨rfl, rfl⟩))
    (fun os started H enc _ F => by rw [OpenClaim.pre_eq_preRow]; exact lifted os started H enc F)

theorem plain {lk : Bool} (hlk : lk = Tryz.pinned.checked.prog.looks []) (f : FuncId) (fn : Func) (hf : Tryz.pinned.checked.prog.funcNamed "voussoir/voussoirlaw08.TrieSound" = some f) (hfn : Tryz.pinned.checked.prog.funcs[f]? = some fn) :
    lk = Tryz.pinned.checked.prog.looks [] ∧ ∀ (j : Nat) t, fn.params[j]? = some t → Tryz.pinned.checked.prog.wantsStandIn t = false := by
  obtain rfl : f = 5 := Option.some.inj ((show Tryz.prog.funcNamed "voussoir/voussoirlaw08.TrieSound" = some 5 by kernel_rfl).symm.trans hf) |>.symm
  obtain rfl : fn = Tryz.f5 := (Option.some.inj (Tryz.func5.symm.trans hfn)).symm
  refine ⟨hlk, fun j t ht => ?_⟩
  have all : Tryz.f5.params.all (fun t => !Tryz.prog.wantsStandIn t) = true := by kernel_rfl
  have := Array.all_eq_true_iff_forall_mem.1 all t (Array.mem_of_getElem? ht)
  exact (show Tryz.prog.wantsStandIn t = false by simpa using this)

/-- The card. -/
theorem card : Rows.TrieSoundCardSaid :=
  Claim7.holds_tied_plain_at .later [] _ _ _ _ said (fun _ h => by cases h) (by kernel_rfl) (fun _ h => by cases h) trieSound_row_tie rfl ⟨rfl, rfl⟩ (by kernel_rfl) rfl (plain (by kernel_rfl)) (by kernel_rfl)
#print axioms card
end Go.Proofs.YtnkkckmejjcfkaaGreatDoor.trieSound
