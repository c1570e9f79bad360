/- The walk of TriePlays. -/
import Derived.Test.YtnkkckmejjcfkaaGreatDoorGzZ
import Derived.Test.YtnkkckmejjcfkaaGreatDoorTriProof
namespace Go.Proofs.YtnkkckmejjcfkaaGreatDoor.Sp
open Go Go.RowKit
set_option maxRecDepth 100000

set_option maxHeartbeats 8000000 in
theorem tri_plays {Tg : World → (Nat → Prop) → Nat → List Ent → Prop} (R : TriR Tg) (acts : List Act) (a : Option Addr) (n c : Nat) (key : ByteArray) (hok : ∀ x ∈ acts, ActOk x) (hn : n ≤ 9223372036854775807) (hnc : n ≤ c) (hk : key.size ≤ 140737488351232) (w : World) (hA : Acts w a n acts) (hT : Tab w) (hQ : Tabs w) :
    Calls Tryz.prog 3 #[.slice a n c, .string key] w fun e w' => e = .returned (.bool true) ∧ Below w.heap.size w w' := by
  have hlen := hA.1
  have HT := Lib.hid (And.intro hT hQ)
  have HR := Lib.hid R
  have HAw := Lib.hid (tawake_any R w hT)
  have HOk := Lib.hid hok
  have HA := Lib.hid hA
  have HKs := Lib.hid hk
  clear hT hQ R hok hA hk
  go_enter Tryz.func3, Tryz.ntmps3
  go_wp2_with fail
  refine HAw.out.mono ?_
  rintro e w1 ⟨rfl, h1⟩
  have B1 := Lib.hid h1
  clear h1
  go_wp2_with fail
  refine (HR.out.new w1).mono ?_
  rintro e w2 ⟨g, F2, rfl, t2, bf2, b2⟩
  have S2 := Lib.hid (show One Tg w w2 F2 g [] from ⟨t2, B1.out.trans (b2.mono B1.out.size), fun k hk => Nat.le_trans B1.out.size (bf2 k hk)⟩)
  clear t2 bf2 b2
  go_wp2_with fail
  refine (qtnew_any w2).mono ?_
  rintro e w3 ⟨h, G3, rfl, t3, bf3, b3⟩
  have T3 := Lib.hid (Two.fresh HR.out S2.out t3 bf3 b3)
  clear t3 bf3 b3
  go_wp2_with fail
  go_loopw [8] (fun y wr => ∃ (k : Nat) (F' G' : Nat → Prop), k ≤ n ∧ k ≤ 40 ∧ y = .int .i64 (k : Int) ∧ Two Tg w wr F' G' g h (actsF [] (acts.take k)) (actsF [] (acts.take k))) (fun y _ => 40 - (intOf y).toNat)
  case atStart => exact ⟨0, F2, G3, by omega, by omega, rfl, T3.out⟩
  case round =>
    obtain ⟨k, F50, G50, hkn, hk40, rfl, hs⟩ := hrel
    have T50 := Lib.hid hs
    clear hs
    obtain ⟨w50, rfl⟩ : ∃ w50, w50 = wr := ⟨_, rfl⟩
    have hL40 : (actsF [] (acts.take k)).length ≤ 40 := by
      have h1 := acts_len (acts.take k) []
      have h2 : (acts.take k).length ≤ 40 := by rw [List.length_take]; omega
      simp only [List.length_nil] at h1
      omega
    have hFit : FitT (actsF [] (acts.take k)) := acts_fit _ fitT_nil
    by_cases hlt : k < n ∧ k < 40
    · have hki : (k : Int) < (n : Int) := by omega
      have hk4 : (k : Int) < 40 := by omega
      have hk0 : (0 : Int) ≤ (k : Int) := by omega
      obtain ⟨b, off, rfl, c0, c1, c2⟩ := HA.out.at_ T50.out.below hlt.1
      have HA1 := Lib.hid (acts_one HA.out hlt.1)
      have hnext := acts_next [] acts k (by omega)
      have hokx := HOk.out _ (act_mem acts k (by omega))
      obtain ⟨x, hx⟩ : ∃ x, acts.getD k Act.none_ = x := ⟨_, rfl⟩
      rw [hx] at c0 c1 c2 hnext hokx HA1
      have HX := Lib.hid hx
      obtain ⟨L0, hL0⟩ : ∃ L0, actsF [] (acts.take k) = L0 := ⟨_, rfl⟩
      rw [hL0] at hnext hL40 hFit T50
      obtain ⟨L, hL⟩ : ∃ L, stepF L0 x = L := ⟨_, rfl⟩
      rw [hL] at hnext
      have hLl : L.length ≤ 1000000 := by
        have := step_len L0 x
        rw [hL] at this
        omega
      have hFitL : FitT L := by rw [← hL]; exact step_fit hFit x
      have HN := Lib.hid (And.intro hnext (And.intro hlt.1 hlt.2))
      have HL := Lib.hid hLl
      have HFit := Lib.hid hFitL
      have HD := Lib.hid (fun a n c hA hn => does_any HR.out w w50 F50 G50 g h L0 L0 [x] a n c T50.out ⟨by omega, by omega⟩ (fun z hz => by rw [List.mem_singleton.1 hz]; exact hokx) hA hn HT.out.1 HT.out.2)
      rw [does_one, hL] at HD
      obtain ⟨z, hz⟩ : ∃ z, IntKind.i64.wrap (x.key + 1) = z := ⟨_, rfl⟩
      have hz2 : -9223372036854775808 ≤ z ∧ z ≤ 9223372036854775807 := by
        rw [← hz, IntKind.wrap_i64]; omega
      have HKy := Lib.hid (fun w => key_any z hz2.1 hz2.2 w)
      have HKs1 := Lib.hid (show (keyOf z).size ≤ 140737488351232 from by show (1 : Nat) ≤ _; omega)
      obtain ⟨K1, hK1⟩ : ∃ K1, keyOf z = K1 := ⟨_, rfl⟩
      rw [hK1] at HKy HKs1
      clear hx hL0 hL hnext hLl hFit hFitL hL40 hokx hK1 hz2
      go_wp2_with fail
      refine (HD.out _ _ _ HA1.out (by omega)).mono ?_
      rintro e w51 ⟨F51, G51, rfl, s51, u51, n51, m51⟩
      have T51 := Lib.hid s51
      clear s51 u51 n51 m51 c0 c1 c2
      obtain ⟨_, _, e2, c0, c1, c2⟩ := HA.out.at_ T51.out.below HN.out.2.1
      injection e2 with e2
      injection e2 with e2a e2b
      subst e2a; subst e2b
      rw [HX.out] at c0 c1 c2
      clear hlt
      go_wp2_with fail
      refine (HKy.out w51).mono ?_
      rintro e w52 ⟨rfl, h52⟩
      have T52 := Lib.hid (T51.out.keep HR.out h52)
      clear h52 c0 c1 c2
      by_cases h3 : k % 3 = 0
      · have h3i : ((k : Int) % 3 == 0) = true := by
          exact beq_iff_eq.2 (by omega)
        obtain ⟨v0, hv0⟩ : ∃ v0, (getF L (keyP key)).getD .empty = v0 := ⟨_, rfl⟩
        obtain ⟨is, his⟩ : ∃ is, (getF L (keyP key)).isSome = is := ⟨_, rfl⟩
        obtain ⟨Ln, hLn⟩ : ∃ Ln, L.length = Ln := ⟨_, rfl⟩
        obtain ⟨Rt, hRt⟩ : ∃ Rt, rootF L = Rt := ⟨_, rfl⟩
        obtain ⟨Pf, hPf⟩ : ∃ Pf, proofF L (keyP key) = Pf := ⟨_, rfl⟩
        have hpl := (proof_len HFit.out (keyP key)).1
        rw [hPf] at hpl
        obtain ⟨m, hm⟩ : ∃ m, Pf.beside.length = m := ⟨_, rfl⟩
        rw [hm] at hpl
        have HV := Lib.hid (And.intro hv0 (And.intro his (And.intro hLn (And.intro hRt (And.intro hPf hm)))))
        have q1 := text_self v0
        have q2 := text_self Rt
        have q3 : (is == is) = true := beq_self_eq_true _
        have HSm := Lib.hid (fun pa pc pb pd w (hp : Strs w pa m Pf.beside) (hq : Strs w pb m Pf.beside) => same_any Pf Pf pa pb m m pc pd w hp hq (by omega) true ⟨fun _ => rfl, fun _ => rfl⟩)
        clear hv0 his hLn hRt hPf hm h3
        go_wp2_with fail
        refine (HR.out.get w52 F51 g L key T52.out.t HKs.out (T52.out.one.tab HT.out.1)).mono ?_
        rintro e w53 ⟨F53, rfl, t53, u53, n53⟩
        rw [HV.out.1, HV.out.2.1]
        have T53 := Lib.hid (T52.out.first t53 u53 n53)
        clear t53 u53 n53
        go_wp2_with fail
        refine (qget_any w53 G51 h L key T53.out.u HKs.out HL.out (HT.out.2.below T53.out.below)).mono ?_
        rintro e w54 ⟨G54, rfl, t54, u54, n54⟩
        rw [HV.out.1, HV.out.2.1]
        have T54 := Lib.hid (T53.out.second HR.out t54 u54 n54)
        clear t54 u54 n54
        cases is
        all_goals
          go_wp2_with fail
          refine (HR.out.len w54 F53 g L  T54.out.t ).mono ?_
          rintro e w55 ⟨F55, rfl, t55, u55, n55⟩
          rw [HV.out.2.2.1]
          have T55 := Lib.hid (T54.out.first t55 u55 n55)
          clear t55 u55 n55
          go_wp2_with fail
          refine (qlen_any w55 G54 h L  T55.out.u ).mono ?_
          rintro e w56 ⟨G56, rfl, t56, u56, n56⟩
          rw [HV.out.2.2.1]
          have T56 := Lib.hid (T55.out.second HR.out t56 u56 n56)
          clear t56 u56 n56
          go_wp2_with fail
          refine (HR.out.root w56 F55 g L  T56.out.t  (T56.out.one.tab HT.out.1)).mono ?_
          rintro e w57 ⟨F57, rfl, t57, u57, n57⟩
          rw [HV.out.2.2.2.1]
          have T57 := Lib.hid (T56.out.first t57 u57 n57)
          clear t57 u57 n57
          go_wp2_with fail
          refine (qroot_any w57 G56 h L  T57.out.u  HL.out (HT.out.2.below T57.out.below)).mono ?_
          rintro e w58 ⟨G58, rfl, t58, u58, n58⟩
          rw [HV.out.2.2.2.1]
          have T58 := Lib.hid (T57.out.second HR.out t58 u58 n58)
          clear t58 u58 n58
          go_wp2_with fail
          refine (HR.out.prove w58 F57 g L key T58.out.t HKs.out (T58.out.one.tab HT.out.1)).mono ?_
          rintro e w59 ⟨F59, pa, pc, rfl, hs, hf, hc, t59, u59, n59⟩
          rw [HV.out.2.2.2.2.1] at hs hc ⊢
          rw [HV.out.2.2.2.2.2] at hs hc ⊢
          have T59 := Lib.hid (T58.out.first t59 u59 n59)
          have Ps := Lib.hid hs
          clear t59 u59 n59 hs hf hc
          go_wp2_with fail
          refine (qprove_any w59 G58 h L key T59.out.u HKs.out HL.out (HT.out.2.below T59.out.below)).mono ?_
          rintro e w60 ⟨pb, pd, rfl, hs, hf, hc, h60⟩
          rw [HV.out.2.2.2.2.1] at hs hc ⊢
          rw [HV.out.2.2.2.2.2] at hs hc ⊢
          have T60 := Lib.hid (T59.out.keep HR.out h60)
          have Ps2 := Lib.hid (Ps.out.below h60)
          have Qs := Lib.hid hs
          clear h60 hs hf hc
          go_wp2_with fail
          refine (HSm.out pa pc pb pd w60 Ps2.out Qs.out).mono ?_
          rintro e w61 ⟨rfl, h61⟩
          have T61 := Lib.hid (T60.out.keep HR.out h61)
          clear h61
          go_wp2_with fail
          go_roundw
          case rel => exact ⟨k + 1, F59, G58, HN.out.2.1, HN.out.2.2, by go_num, by rw [HN.out.1]; exact T61.out⟩
          case measure => simp [intOf]; omega
      · have h3i : ((k : Int) % 3 == 0) = false := by
          exact beq_false_of_ne (by omega)
        obtain ⟨v0, hv0⟩ : ∃ v0, (getF L (keyP K1)).getD .empty = v0 := ⟨_, rfl⟩
        obtain ⟨is, his⟩ : ∃ is, (getF L (keyP K1)).isSome = is := ⟨_, rfl⟩
        obtain ⟨Ln, hLn⟩ : ∃ Ln, L.length = Ln := ⟨_, rfl⟩
        obtain ⟨Rt, hRt⟩ : ∃ Rt, rootF L = Rt := ⟨_, rfl⟩
        obtain ⟨Pf, hPf⟩ : ∃ Pf, proofF L (keyP K1) = Pf := ⟨_, rfl⟩
        have hpl := (proof_len HFit.out (keyP K1)).1
        rw [hPf] at hpl
        obtain ⟨m, hm⟩ : ∃ m, Pf.beside.length = m := ⟨_, rfl⟩
        rw [hm] at hpl
        have HV := Lib.hid (And.intro hv0 (And.intro his (And.intro hLn (And.intro hRt (And.intro hPf hm)))))
        have q1 := text_self v0
        have q2 := text_self Rt
        have q3 : (is == is) = true := beq_self_eq_true _
        have HSm := Lib.hid (fun pa pc pb pd w (hp : Strs w pa m Pf.beside) (hq : Strs w pb m Pf.beside) => same_any Pf Pf pa pb m m pc pd w hp hq (by omega) true ⟨fun _ => rfl, fun _ => rfl⟩)
        clear hv0 his hLn hRt hPf hm h3
        go_wp2_with fail
        refine (HR.out.get w52 F51 g L K1 T52.out.t HKs1.out (T52.out.one.tab HT.out.1)).mono ?_
        rintro e w53 ⟨F53, rfl, t53, u53, n53⟩
        rw [HV.out.1, HV.out.2.1]
        have T53 := Lib.hid (T52.out.first t53 u53 n53)
        clear t53 u53 n53
        go_wp2_with fail
        refine (qget_any w53 G51 h L K1 T53.out.u HKs1.out HL.out (HT.out.2.below T53.out.below)).mono ?_
        rintro e w54 ⟨G54, rfl, t54, u54, n54⟩
        rw [HV.out.1, HV.out.2.1]
        have T54 := Lib.hid (T53.out.second HR.out t54 u54 n54)
        clear t54 u54 n54
        cases is
        all_goals
          go_wp2_with fail
          refine (HR.out.len w54 F53 g L  T54.out.t ).mono ?_
          rintro e w55 ⟨F55, rfl, t55, u55, n55⟩
          rw [HV.out.2.2.1]
          have T55 := Lib.hid (T54.out.first t55 u55 n55)
          clear t55 u55 n55
          go_wp2_with fail
          refine (qlen_any w55 G54 h L  T55.out.u ).mono ?_
          rintro e w56 ⟨G56, rfl, t56, u56, n56⟩
          rw [HV.out.2.2.1]
          have T56 := Lib.hid (T55.out.second HR.out t56 u56 n56)
          clear t56 u56 n56
          go_wp2_with fail
          refine (HR.out.root w56 F55 g L  T56.out.t  (T56.out.one.tab HT.out.1)).mono ?_
          rintro e w57 ⟨F57, rfl, t57, u57, n57⟩
          rw [HV.out.2.2.2.1]
          have T57 := Lib.hid (T56.out.first t57 u57 n57)
          clear t57 u57 n57
          go_wp2_with fail
          refine (qroot_any w57 G56 h L  T57.out.u  HL.out (HT.out.2.below T57.out.below)).mono ?_
          rintro e w58 ⟨G58, rfl, t58, u58, n58⟩
          rw [HV.out.2.2.2.1]
          have T58 := Lib.hid (T57.out.second HR.out t58 u58 n58)
          clear t58 u58 n58
          go_wp2_with fail
          refine (HR.out.prove w58 F57 g L K1 T58.out.t HKs1.out (T58.out.one.tab HT.out.1)).mono ?_
          rintro e w59 ⟨F59, pa, pc, rfl, hs, hf, hc, t59, u59, n59⟩
          rw [HV.out.2.2.2.2.1] at hs hc ⊢
          rw [HV.out.2.2.2.2.2] at hs hc ⊢
          have T59 := Lib.hid (T58.out.first t59 u59 n59)
          have Ps := Lib.hid hs
          clear t59 u59 n59 hs hf hc
          go_wp2_with fail
          refine (qprove_any w59 G58 h L K1 T59.out.u HKs1.out HL.out (HT.out.2.below T59.out.below)).mono ?_
          rintro e w60 ⟨pb, pd, rfl, hs, hf, hc, h60⟩
          rw [HV.out.2.2.2.2.1] at hs hc ⊢
          rw [HV.out.2.2.2.2.2] at hs hc ⊢
          have T60 := Lib.hid (T59.out.keep HR.out h60)
          have Ps2 := Lib.hid (Ps.out.below h60)
          have Qs := Lib.hid hs
          clear h60 hs hf hc
          go_wp2_with fail
          refine (HSm.out pa pc pb pd w60 Ps2.out Qs.out).mono ?_
          rintro e w61 ⟨rfl, h61⟩
          have T61 := Lib.hid (T60.out.keep HR.out h61)
          clear h61
          go_wp2_with fail
          go_roundw
          case rel => exact ⟨k + 1, F59, G58, HN.out.2.1, HN.out.2.2, by go_num, by rw [HN.out.1]; exact T61.out⟩
          case measure => simp [intOf]; omega
    · have HL := Lib.hid (show (actsF [] (acts.take k)).length ≤ 1000000 from by omega)
      have HL4 := Lib.hid (show (actsF [] (acts.take k)).length < 1000000 from by omega)
      obtain ⟨L, hL⟩ : ∃ L, actsF [] (acts.take k) = L := ⟨_, rfl⟩
      rw [hL] at T50 HL HL4
      obtain ⟨Ln, hLn⟩ : ∃ Ln, L.length = Ln := ⟨_, rfl⟩
      obtain ⟨Rt, hRt⟩ : ∃ Rt, rootF L = Rt := ⟨_, rfl⟩
      have HV := Lib.hid (And.intro hLn hRt)
      have q2 := text_self Rt
      clear hL hLn hRt hL40 hFit
      by_cases hkn2 : k < n
      · have hki : (k : Int) < (n : Int) := by omega
        have hk4 : ¬ (k : Int) < 40 := by omega
        go_wp2_with fail
        refine (HR.out.copy w50 F50 g L T50.out.t).mono ?_
        rintro e w51 ⟨F51, H51, z, rfl, t51, c51, b51, u51, n51⟩
        have T51 := Lib.hid (T50.out.first t51 u51 n51)
        have C51 := Lib.hid c51
        have HF1 := Lib.hid (show ∀ k, F51 k → ¬ H51 k from fun k hf hh => (b51 k hh).2 hf)
        have HG1 := Lib.hid (show ∀ k, G50 k → ¬ H51 k from fun k hg hh => by have := T50.out.u.lt k hg; have := (b51 k hh).1; omega)
        have HH1 := Lib.hid (show ∀ k, H51 k → w.heap.size ≤ k from fun k hh => Nat.le_trans T50.out.below.size (b51 k hh).1)
        clear t51 c51 b51 u51 n51
        go_wp2_with fail
        refine (HR.out.set w51 H51 z L key ⟨#[111, 116, 104, 101, 114]⟩ C51.out HKs.out (by decide) HL4.out (T51.out.one.tab HT.out.1)).mono ?_
        rintro e w52 ⟨H52, rfl, t52, u52, n52⟩
        have T52 := Lib.hid (T51.out.beside HR.out u52 HF1.out HG1.out HH1.out)
        clear t52 u52 n52
        go_wp2_with fail
        refine (HR.out.root w52 F51 g L  T52.out.t  (T52.out.one.tab HT.out.1)).mono ?_
        rintro e w53 ⟨F53, rfl, t53, u53, n53⟩
        rw [HV.out.2]
        have T53 := Lib.hid (T52.out.first t53 u53 n53)
        clear t53 u53 n53
        go_wp2_with fail
        refine (qroot_any w53 G50 h L  T53.out.u  HL.out (HT.out.2.below T53.out.below)).mono ?_
        rintro e w54 ⟨G54, rfl, t54, u54, n54⟩
        rw [HV.out.2]
        have T54 := Lib.hid (T53.out.second HR.out t54 u54 n54)
        clear t54 u54 n54
        go_wp2_with fail
        refine (HR.out.len w54 F53 g L  T54.out.t ).mono ?_
        rintro e w55 ⟨F55, rfl, t55, u55, n55⟩
        rw [HV.out.1]
        have T55 := Lib.hid (T54.out.first t55 u55 n55)
        clear t55 u55 n55
        go_wp2_with fail
        refine (qlen_any w55 G54 h L  T55.out.u ).mono ?_
        rintro e w56 ⟨G56, rfl, t56, u56, n56⟩
        rw [HV.out.1]
        have T56 := Lib.hid (T55.out.second HR.out t56 u56 n56)
        clear t56 u56 n56
        go_wp2_with fail
        go_ret
        exact ⟨rfl, T56.out.below⟩
      · have hki : ¬ (k : Int) < (n : Int) := by omega
        go_wp2_with fail
        refine (HR.out.copy w50 F50 g L T50.out.t).mono ?_
        rintro e w51 ⟨F51, H51, z, rfl, t51, c51, b51, u51, n51⟩
        have T51 := Lib.hid (T50.out.first t51 u51 n51)
        have C51 := Lib.hid c51
        have HF1 := Lib.hid (show ∀ k, F51 k → ¬ H51 k from fun k hf hh => (b51 k hh).2 hf)
        have HG1 := Lib.hid (show ∀ k, G50 k → ¬ H51 k from fun k hg hh => by have := T50.out.u.lt k hg; have := (b51 k hh).1; omega)
        have HH1 := Lib.hid (show ∀ k, H51 k → w.heap.size ≤ k from fun k hh => Nat.le_trans T50.out.below.size (b51 k hh).1)
        clear t51 c51 b51 u51 n51
        go_wp2_with fail
        refine (HR.out.set w51 H51 z L key ⟨#[111, 116, 104, 101, 114]⟩ C51.out HKs.out (by decide) HL4.out (T51.out.one.tab HT.out.1)).mono ?_
        rintro e w52 ⟨H52, rfl, t52, u52, n52⟩
        have T52 := Lib.hid (T51.out.beside HR.out u52 HF1.out HG1.out HH1.out)
        clear t52 u52 n52
        go_wp2_with fail
        refine (HR.out.root w52 F51 g L  T52.out.t  (T52.out.one.tab HT.out.1)).mono ?_
        rintro e w53 ⟨F53, rfl, t53, u53, n53⟩
        rw [HV.out.2]
        have T53 := Lib.hid (T52.out.first t53 u53 n53)
        clear t53 u53 n53
        go_wp2_with fail
        refine (qroot_any w53 G50 h L  T53.out.u  HL.out (HT.out.2.below T53.out.below)).mono ?_
        rintro e w54 ⟨G54, rfl, t54, u54, n54⟩
        rw [HV.out.2]
        have T54 := Lib.hid (T53.out.second HR.out t54 u54 n54)
        clear t54 u54 n54
        go_wp2_with fail
        refine (HR.out.len w54 F53 g L  T54.out.t ).mono ?_
        rintro e w55 ⟨F55, rfl, t55, u55, n55⟩
        rw [HV.out.1]
        have T55 := Lib.hid (T54.out.first t55 u55 n55)
        clear t55 u55 n55
        go_wp2_with fail
        refine (qlen_any w55 G54 h L  T55.out.u ).mono ?_
        rintro e w56 ⟨G56, rfl, t56, u56, n56⟩
        rw [HV.out.1]
        have T56 := Lib.hid (T55.out.second HR.out t56 u56 n56)
        clear t56 u56 n56
        go_wp2_with fail
        go_ret
        exact ⟨rfl, T56.out.below⟩
end Go.Proofs.YtnkkckmejjcfkaaGreatDoor.Sp
