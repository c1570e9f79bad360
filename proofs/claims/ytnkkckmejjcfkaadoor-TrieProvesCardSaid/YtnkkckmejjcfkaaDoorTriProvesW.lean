/- The walk of TrieProves. -/
import Derived.Test.YtnkkckmejjcfkaaDoorTriOne
import Derived.Test.YtnkkckmejjcfkaaDoorTriProof
namespace Go.Proofs.YtnkkckmejjcfkaaDoor.Sp
open Go Go.RowKit
set_option maxRecDepth 100000

set_option maxHeartbeats 8000000 in
theorem tri_proves {Tg : World → (Nat → Prop) → Nat → List Ent → Prop} (R : TriR Tg) (acts : List Act) (a : Option Addr) (n c : Nat) (key : ByteArray) (hok : ∀ x ∈ acts, ActOk x) (hn : n ≤ 9223372036854775807) (hk : key.size ≤ 140737488351232) (w : World) (hA : Acts w a n acts) (hT : Tab w) (hQ : Tabs w) :
    Calls Tryd.prog 4 #[.slice a n c, .string key] w fun e w' => e = .returned (.bool true) ∧ Below w.heap.size w w' := by
  have HT := Lib.hid (And.intro hT hQ)
  have HR := Lib.hid R
  have HAw := Lib.hid (tawake_any R w hT)
  obtain ⟨L, Le⟩ : ∃ L, doesF [] acts = L := ⟨_, rfl⟩
  have HFit := Lib.hid (show FitT L from by rw [← Le]; exact does_fit _ fitT_nil)
  have HOk := Lib.hid (And.intro hok (And.intro hA Le))
  obtain ⟨Rt, hRt⟩ : ∃ Rt, rootF L = Rt := ⟨_, rfl⟩
  have HE := Lib.hid hRt
  have HKs := Lib.hid hk
  clear hT hQ R hok hA Le hRt hk
  go_enter Tryd.func4, Tryd.ntmps4
  go_wp2_with fail
  refine HAw.out.mono ?_
  rintro e w1 ⟨rfl, h1⟩
  have B1 := Lib.hid h1
  clear h1
  go_wp2_with fail
  refine (HR.out.new w1).mono ?_
  rintro e w2 ⟨g, F2, rfl, t2, bf2, b2⟩
  have S2 := Lib.hid (show One Tg w w2 F2 g [] from ⟨t2, B1.out.trans (b2.mono B1.out.size), fun k hk => Nat.le_trans B1.out.size (bf2 k hk)⟩)
  clear t2 bf2 b2
  go_wp2_with fail
  have Le := HOk.out.2.2
  refine (qtnew_any w2).mono ?_
  rintro e w3 ⟨hh3, G3, rfl, t3, bf3, b3⟩
  have D3 := Lib.hid (Two.fresh HR.out S2.out t3 bf3 b3)
  clear t3 bf3 b3
  go_wp2_with fail
  refine (does_any HR.out w w3 F2 G3 g hh3 [] [] acts a n c D3.out (by decide) HOk.out.1 HOk.out.2.1 hn HT.out.1 HT.out.2).mono ?_
  rintro e w4 ⟨F4, G4, rfl, s4, u4, n4, m4⟩
  have S4 := Lib.hid s4.one
  clear s4 u4 n4 m4
  rw [show doesF [] acts = L from Le] at S4
  go_wp2_with fail
  clear Le
  refine (HR.out.root w4 F4 g L  S4.out.t  (S4.out.tab HT.out.1)).mono ?_
  rintro e w5 ⟨F5, rfl, t5, u5, n5⟩
  rw [HE.out]
  have S5 := Lib.hid (S4.out.turn t5 u5 n5)
  clear t5 u5 n5
  go_wp2_with fail
  go_loopw [8] (fun y wr => ∃ (k : Nat) (F' : Nat → Prop), k ≤ 10 ∧ y = .int .i64 (k : Int) ∧ One Tg w wr F' g L) (fun y _ => 10 - (intOf y).toNat)
  case atStart => exact ⟨0, F5, by omega, rfl, S5.out⟩
  case round =>
    obtain ⟨k, F50, hk10, rfl, hs⟩ := hrel
    have S50 := Lib.hid hs
    clear hs
    by_cases hlt : k < 10
    · have hki : (k : Int) ≤ 9 := by omega
      have HKy := Lib.hid (fun w => key_any (k : Int) (by omega) (by omega) w)
      have hKs1 : (keyOf (k : Int)).size ≤ 140737488351232 := by show (1 : Nat) ≤ _; omega
      obtain ⟨K1, hK1⟩ : ∃ K1, keyOf (k : Int) = K1 := ⟨_, rfl⟩
      rw [hK1] at HKy hKs1
      have Hlt := Lib.hid hlt
      have HKs1 := Lib.hid hKs1
      clear hlt hK1 hKs1
      go_wp2_with fail
      refine (HKy.out wr).mono ?_
      rintro e w51 ⟨rfl, h51⟩
      have S51 := Lib.hid (S50.out.keep HR.out h51)
      clear h51
      by_cases h9 : k = 9
      · have h9i : (k : Int) = 9 := by omega
        obtain ⟨V, hV⟩ : ∃ V, getF L (keyP key) = V := ⟨_, rfl⟩
        obtain ⟨P, hP⟩ : ∃ P, proofF L (keyP key) = P := ⟨_, rfl⟩
        have hsay := proof_says HFit.out (keyP key)
        have hplen := (proof_len HFit.out (keyP key)).1
        have hpval := fun B hb => proof_value HFit.out (B := B) hb (keyP key)
        have hvs : (V.getD .empty).size ≤ 140737488351232 := by
          cases V with
          | none => exact Nat.zero_le _
          | some v => exact (HR.out.fit S51.out.t).2 _ ((get_some HFit.out).1 hV)
        rw [hP, HE.out, hV] at hsay
        rw [hP] at hplen hpval
        have hpv := hpval 140737488351232 (HR.out.fit S51.out.t).2
        have HV := Lib.hid (And.intro hV hP)
        obtain ⟨v0, hv0⟩ : ∃ v0, V.getD .empty = v0 := ⟨_, rfl⟩
        obtain ⟨is, his⟩ : ∃ is, V.isSome = is := ⟨_, rfl⟩
        rw [hv0] at hsay hvs
        rw [his] at hsay
        have HVi := Lib.hid (And.intro hv0 his)
        obtain ⟨bs, lf, pt, vl⟩ := P
        obtain ⟨m, hm⟩ : ∃ m, bs.length = m := ⟨_, rfl⟩
        have hm2 : m ≤ 9223372036854775807 := by have : bs.length ≤ 256 := hplen; omega
        have HHs := Lib.hid (fun (pa : Option Addr) (pc : Nat) (u : ByteArray) (hu : u.size ≤ 140737488355000) w (hs : Strs w pa m bs) ht => HR.out.has Rt key u ⟨bs, lf, pt, vl⟩ pa m pc w HKs.out hu hm2 hs ht)
        have HLk := Lib.hid (fun (pa : Option Addr) (pc : Nat) w (hs : Strs w pa m bs) ht => HR.out.lacks Rt key ⟨bs, lf, pt, vl⟩ pa m pc w HKs.out hpv hm2 hs ht)
        unfold prfV at HHs HLk
        have HSay := Lib.hid hsay
        have Hvs := Lib.hid hvs
        have hcat : ¬ 9223372036854775807 < v0.size + 1 := by omega
        have Hm := Lib.hid hm
        clear hV hP hsay hplen hpval hpv hvs hv0 his hm
        go_wp2_with fail
        refine (HR.out.get w51 F50 g L key S51.out.t HKs.out (S51.out.tab HT.out.1)).mono ?_
        rintro e w52 ⟨F52, rfl, t52, u52, n52⟩
        rw [HV.out.1, HVi.out.1, HVi.out.2]
        have S52 := Lib.hid (S51.out.turn t52 u52 n52)
        clear t52 u52 n52
        go_wp2_with fail
        refine (HR.out.prove w52 F52 g L key S52.out.t HKs.out (S52.out.tab HT.out.1)).mono ?_
        rintro e w53 ⟨F53, pa, pc, rfl, hs, hf, hc, t53, u53, n53⟩
        rw [HV.out.2] at hs hc ⊢
        simp only [Hm.out] at hs hc
        unfold prfV
        simp only [Hm.out]
        have S53 := Lib.hid (S52.out.turn t53 u53 n53)
        have Ps := Lib.hid hs
        clear t53 u53 n53 hs hf hc
        go_wp2_with fail
        obtain ⟨w54, hw54⟩ : ∃ w54, w53.alloc (.cells #[.slice pa m pc, .bool lf, .string pt, .string vl] 38) = w54 := ⟨_, rfl⟩
        have h54 : Below w53.heap.size w53 w54 := by rw [← hw54]; exact (Below.refl _ _).alloc (Nat.le_refl _) _
        obtain ⟨G, hG⟩ : ∃ G, w53.heap.size = G := ⟨_, rfl⟩
        have K54 := Lib.hid (show Blk w54 G 38 #[.slice pa m pc, .bool lf, .string pt, .string vl] from by rw [← hw54, ← hG]; exact Blk.new _ _ _)
        have S54 := Lib.hid (S53.out.keep HR.out h54)
        have P54 := Lib.hid (Ps.out.below h54)
        rw [hw54, hG]
        clear h54 hw54 hG
        have d0 := K54.out.cell 0
        have d1 := K54.out.cell 1
        have d2 := K54.out.cell 2
        have d3 := K54.out.cell 3
        simp only [List.getElem?_toArray, List.getElem?_cons_zero, List.getElem?_cons_succ] at d0 d1 d2 d3
        go_wp2_with fail
        refine (HHs.out pa pc v0 (by have := Hvs.out; omega) _ P54.out (S54.out.tab HT.out.1)).mono ?_
        rintro e w55 ⟨rfl, h55⟩
        rw [HSay.out.1]
        have S55 := Lib.hid (S54.out.keep HR.out h55)
        have K55 := Lib.hid (K54.out.below h55 K54.out.lt)
        have P55 := Lib.hid (P54.out.below h55)
        clear h55 d0 d1 d2 d3
        have d0 := K55.out.cell 0
        have d1 := K55.out.cell 1
        have d2 := K55.out.cell 2
        have d3 := K55.out.cell 3
        simp only [List.getElem?_toArray, List.getElem?_cons_zero, List.getElem?_cons_succ] at d0 d1 d2 d3
        have hiseq : (is == is) = true := by cases is <;> rfl
        cases is
        all_goals
          go_wp2_with fail
          refine (HLk.out pa pc _ P55.out (S55.out.tab HT.out.1)).mono ?_
          rintro e w56 ⟨rfl, h56⟩
          rw [HSay.out.2.1]
          have S56 := Lib.hid (S55.out.keep HR.out h56)
          have K56 := Lib.hid (K55.out.below h56 K55.out.lt)
          have P56 := Lib.hid (P55.out.below h56)
          clear h56 d0 d1 d2 d3
          have d0 := K56.out.cell 0
          have d1 := K56.out.cell 1
          have d2 := K56.out.cell 2
          have d3 := K56.out.cell 3
          simp only [List.getElem?_toArray, List.getElem?_cons_zero, List.getElem?_cons_succ] at d0 d1 d2 d3
          go_wp2_with fail
          refine (HHs.out pa pc _ (by have := Hvs.out; first | (simp; omega) | (rw [ByteArray.size_append]; show v0.size + 1 ≤ _; omega)) _ P56.out (S56.out.tab HT.out.1)).mono ?_
          rintro e w57 ⟨rfl, h57⟩
          rw [HSay.out.2.2 _ (by first | (simp; done) | (rw [ByteArray.size_append]; rfl))]
          have S57 := Lib.hid (S56.out.keep HR.out h57)
          clear h57 d0 d1 d2 d3
          go_wp2_with fail
          go_roundw
          case rel => exact ⟨k + 1, F53, Hlt.out, by go_num, S57.out⟩
          case measure => simp [intOf]; omega
      · have h9i : ¬ (k : Int) = 9 := by omega
        obtain ⟨V, hV⟩ : ∃ V, getF L (keyP K1) = V := ⟨_, rfl⟩
        obtain ⟨P, hP⟩ : ∃ P, proofF L (keyP K1) = P := ⟨_, rfl⟩
        have hsay := proof_says HFit.out (keyP K1)
        have hplen := (proof_len HFit.out (keyP K1)).1
        have hpval := fun B hb => proof_value HFit.out (B := B) hb (keyP K1)
        have hvs : (V.getD .empty).size ≤ 140737488351232 := by
          cases V with
          | none => exact Nat.zero_le _
          | some v => exact (HR.out.fit S51.out.t).2 _ ((get_some HFit.out).1 hV)
        rw [hP, HE.out, hV] at hsay
        rw [hP] at hplen hpval
        have hpv := hpval 140737488351232 (HR.out.fit S51.out.t).2
        have HV := Lib.hid (And.intro hV hP)
        obtain ⟨v0, hv0⟩ : ∃ v0, V.getD .empty = v0 := ⟨_, rfl⟩
        obtain ⟨is, his⟩ : ∃ is, V.isSome = is := ⟨_, rfl⟩
        rw [hv0] at hsay hvs
        rw [his] at hsay
        have HVi := Lib.hid (And.intro hv0 his)
        obtain ⟨bs, lf, pt, vl⟩ := P
        obtain ⟨m, hm⟩ : ∃ m, bs.length = m := ⟨_, rfl⟩
        have hm2 : m ≤ 9223372036854775807 := by have : bs.length ≤ 256 := hplen; omega
        have HHs := Lib.hid (fun (pa : Option Addr) (pc : Nat) (u : ByteArray) (hu : u.size ≤ 140737488355000) w (hs : Strs w pa m bs) ht => HR.out.has Rt K1 u ⟨bs, lf, pt, vl⟩ pa m pc w HKs1.out hu hm2 hs ht)
        have HLk := Lib.hid (fun (pa : Option Addr) (pc : Nat) w (hs : Strs w pa m bs) ht => HR.out.lacks Rt K1 ⟨bs, lf, pt, vl⟩ pa m pc w HKs1.out hpv hm2 hs ht)
        unfold prfV at HHs HLk
        have HSay := Lib.hid hsay
        have Hvs := Lib.hid hvs
        have hcat : ¬ 9223372036854775807 < v0.size + 1 := by omega
        have Hm := Lib.hid hm
        clear hV hP hsay hplen hpval hpv hvs hv0 his hm
        go_wp2_with fail
        refine (HR.out.get w51 F50 g L K1 S51.out.t HKs1.out (S51.out.tab HT.out.1)).mono ?_
        rintro e w52 ⟨F52, rfl, t52, u52, n52⟩
        rw [HV.out.1, HVi.out.1, HVi.out.2]
        have S52 := Lib.hid (S51.out.turn t52 u52 n52)
        clear t52 u52 n52
        go_wp2_with fail
        refine (HR.out.prove w52 F52 g L K1 S52.out.t HKs1.out (S52.out.tab HT.out.1)).mono ?_
        rintro e w53 ⟨F53, pa, pc, rfl, hs, hf, hc, t53, u53, n53⟩
        rw [HV.out.2] at hs hc ⊢
        simp only [Hm.out] at hs hc
        unfold prfV
        simp only [Hm.out]
        have S53 := Lib.hid (S52.out.turn t53 u53 n53)
        have Ps := Lib.hid hs
        clear t53 u53 n53 hs hf hc
        go_wp2_with fail
        obtain ⟨w54, hw54⟩ : ∃ w54, w53.alloc (.cells #[.slice pa m pc, .bool lf, .string pt, .string vl] 38) = w54 := ⟨_, rfl⟩
        have h54 : Below w53.heap.size w53 w54 := by rw [← hw54]; exact (Below.refl _ _).alloc (Nat.le_refl _) _
        obtain ⟨G, hG⟩ : ∃ G, w53.heap.size = G := ⟨_, rfl⟩
        have K54 := Lib.hid (show Blk w54 G 38 #[.slice pa m pc, .bool lf, .string pt, .string vl] from by rw [← hw54, ← hG]; exact Blk.new _ _ _)
        have S54 := Lib.hid (S53.out.keep HR.out h54)
        have P54 := Lib.hid (Ps.out.below h54)
        rw [hw54, hG]
        clear h54 hw54 hG
        have d0 := K54.out.cell 0
        have d1 := K54.out.cell 1
        have d2 := K54.out.cell 2
        have d3 := K54.out.cell 3
        simp only [List.getElem?_toArray, List.getElem?_cons_zero, List.getElem?_cons_succ] at d0 d1 d2 d3
        go_wp2_with fail
        refine (HHs.out pa pc v0 (by have := Hvs.out; omega) _ P54.out (S54.out.tab HT.out.1)).mono ?_
        rintro e w55 ⟨rfl, h55⟩
        rw [HSay.out.1]
        have S55 := Lib.hid (S54.out.keep HR.out h55)
        have K55 := Lib.hid (K54.out.below h55 K54.out.lt)
        have P55 := Lib.hid (P54.out.below h55)
        clear h55 d0 d1 d2 d3
        have d0 := K55.out.cell 0
        have d1 := K55.out.cell 1
        have d2 := K55.out.cell 2
        have d3 := K55.out.cell 3
        simp only [List.getElem?_toArray, List.getElem?_cons_zero, List.getElem?_cons_succ] at d0 d1 d2 d3
        have hiseq : (is == is) = true := by cases is <;> rfl
        cases is
        all_goals
          go_wp2_with fail
          refine (HLk.out pa pc _ P55.out (S55.out.tab HT.out.1)).mono ?_
          rintro e w56 ⟨rfl, h56⟩
          rw [HSay.out.2.1]
          have S56 := Lib.hid (S55.out.keep HR.out h56)
          have K56 := Lib.hid (K55.out.below h56 K55.out.lt)
          have P56 := Lib.hid (P55.out.below h56)
          clear h56 d0 d1 d2 d3
          have d0 := K56.out.cell 0
          have d1 := K56.out.cell 1
          have d2 := K56.out.cell 2
          have d3 := K56.out.cell 3
          simp only [List.getElem?_toArray, List.getElem?_cons_zero, List.getElem?_cons_succ] at d0 d1 d2 d3
          go_wp2_with fail
          refine (HHs.out pa pc _ (by have := Hvs.out; first | (simp; omega) | (rw [ByteArray.size_append]; show v0.size + 1 ≤ _; omega)) _ P56.out (S56.out.tab HT.out.1)).mono ?_
          rintro e w57 ⟨rfl, h57⟩
          rw [HSay.out.2.2 _ (by first | (simp; done) | (rw [ByteArray.size_append]; rfl))]
          have S57 := Lib.hid (S56.out.keep HR.out h57)
          clear h57 d0 d1 d2 d3
          go_wp2_with fail
          go_roundw
          case rel => exact ⟨k + 1, F53, Hlt.out, by go_num, S57.out⟩
          case measure => simp [intOf]; omega
    · have hki : ¬ (k : Int) ≤ 9 := by omega
      go_wp2_with fail
      go_ret
      exact ⟨rfl, S50.out.below⟩
end Go.Proofs.YtnkkckmejjcfkaaDoor.Sp
