/- The walk of TrieOrder. -/
import Derived.Test.YtnkkckmejjcfkaaDoorTriDuo
import Derived.IntWalk
namespace Go.Proofs.YtnkkckmejjcfkaaDoor.Sp
open Go Go.RowKit
set_option maxRecDepth 100000

theorem keyOf_nine (k : Nat) (h : k < 9) : keyOf (k : Int) = keyC k := by unfold keyOf; rw [pickN_small k 9 h]

set_option maxHeartbeats 8000000 in
theorem tri_order {Tg : World → (Nat → Prop) → Nat → List Ent → Prop} (R : TriR Tg) (acts : List Act) (a : Option Addr) (n c : Nat) (turn : Int) (hok : ∀ x ∈ acts, ActOk x) (hn : n ≤ 9223372036854775807) (ht0 : -9223372036854775808 ≤ turn) (ht1 : turn ≤ 9223372036854775807) (w : World) (hA : Acts w a n acts) (hT : Tab w) (hQ : Tabs w) :
    Calls Tryd.prog 5 #[.slice a n c, .int .i64 turn] w fun e w' => e = .returned (.bool true) ∧ Below w.heap.size w w' := by
  have HT := Lib.hid (And.intro hT hQ)
  have HR := Lib.hid R
  have HAw := Lib.hid (tawake_any R w hT)
  have HPk := Lib.hid (fun w => tpick_any turn 9 (by omega) (by omega) ht0 ht1 w)
  obtain ⟨f, hf⟩ : ∃ f, pickN turn 9 = f := ⟨_, rfl⟩
  have hf9 : f < 9 := by rw [← hf]; exact pickN_lt _ _ (by omega)
  rw [hf] at HPk
  obtain ⟨L, Le⟩ : ∃ L, doesF [] acts = L := ⟨_, rfl⟩
  have HNine := Lib.hid (show Nine L from by rw [← Le]; exact Nine.acts _ nine_nil)
  have HFit := Lib.hid (show FitT L from by rw [← Le]; exact does_fit _ fitT_nil)
  have HOk := Lib.hid (And.intro hok (And.intro hA Le))
  clear hT hQ R hok hA Le hf
  go_enter Tryd.func5, Tryd.ntmps5
  go_wp2_with fail
  refine HAw.out.mono ?_
  rintro e w1 ⟨rfl, h1⟩
  have B1 := Lib.hid h1
  clear h1
  go_wp2_with fail
  refine (HR.out.new w1).mono ?_
  rintro e w2 ⟨g, F2, rfl, t2, bf2, b2⟩
  have S2 := Lib.hid (show One Tg w w2 F2 g [] from ⟨t2, B1.out.trans (b2.mono B1.out.size), fun k hk => Nat.le_trans B1.out.size (bf2 k hk)⟩)
  clear t2 bf2 b2
  go_wp2_with fail
  refine (HR.out.new w2).mono ?_
  rintro e w3 ⟨h, G3, rfl, t3, bf3, b3⟩
  have D3 := Lib.hid (S2.out.duo HR.out t3 bf3 b3)
  clear t3 bf3 b3
  go_wp2_with fail
  have Le := HOk.out.2.2
  refine (qtnew_any w3).mono ?_
  rintro e w4 ⟨z4, H4, rfl, t4, bf4, b4⟩
  have T4 := Lib.hid (Two.fresh HR.out D3.out.s t4 bf4 b4)
  have Z4 := Lib.hid (And.intro b4 bf4)
  clear t4 bf4 b4
  go_wp2_with fail
  refine (does_any HR.out w w4 F2 H4 g z4 [] [] acts a n c T4.out (by decide) HOk.out.1 HOk.out.2.1 hn HT.out.1 HT.out.2).mono ?_
  rintro e w5 ⟨F5, H5, rfl, s5, u5, n5, m5⟩
  have D5 := Lib.hid ((D3.out.does HR.out Z4.out.1 Z4.out.2 T4.out s5 u5 n5))
  clear s5 u5 n5 m5 T4 Z4
  rw [show doesF [] acts = L from Le] at D5
  go_wp2_with fail
  clear Le
  refine (HPk.out w5).mono ?_
  rintro e w0 ⟨rfl, rfl⟩
  have Hf9 := Lib.hid hf9
  go_wp2_with fail
  go_loopw [9] (fun y wr => ∃ (k : Nat) (F' G' : Nat → Prop), k ≤ 9 ∧ y = .int .i64 (k : Int) ∧ Duo Tg w wr F' G' g h L (orderF L f k)) (fun y _ => 9 - (intOf y).toNat)
  case atStart => exact ⟨0, F5, G3, by omega, rfl, D5.out⟩
  case round =>
    obtain ⟨k, F50, G50, hk9, rfl, hs⟩ := hrel
    have D50 := Lib.hid hs
    clear hs
    by_cases hlt : k < 9
    · have hki : (k : Int) < 9 := by omega
      have HKy := Lib.hid (fun w => key_any (((f + 2 * k) % 9 : Nat) : Int) (by omega) (by omega) w)
      rw [keyOf_nine ((f + 2 * k) % 9) (Nat.mod_lt _ (by omega))] at HKy
      have HO := Lib.hid (show orderF L f (k + 1) = (match getF L (pathC ((f + 2 * k) % 9)) with
        | some v => setF (orderF L f k) (pathC ((f + 2 * k) % 9)) v
        | none => orderF L f k) from rfl)
      have hol := order_len L f k
      obtain ⟨O, hO⟩ : ∃ O, orderF L f k = O := ⟨_, rfl⟩
      rw [hO] at D50 HO hol
      have HOl := Lib.hid (show O.length < 1000000 from by omega)
      clear hol
      have Hlt := Lib.hid hlt
      have hE : IntKind.i64.wrap (2 * (k : Int)) = 2 * (k : Int) ∧ IntKind.i64.wrap ((f : Int) + 2 * (k : Int)) = (f : Int) + 2 * (k : Int) ∧ ((f : Int) + 2 * (k : Int)).tmod 9 = (((f + 2 * k) % 9 : Nat) : Int) := ⟨IntWalk.i64_in _ (by omega), IntWalk.i64_in _ (by omega), (Int.tmod_eq_emod_of_nonneg (by omega)).trans (by omega)⟩
      have HX := Lib.hid hE
      clear hE
      obtain ⟨m, hm⟩ : ∃ m, (f + 2 * k) % 9 = m := ⟨_, rfl⟩
      have hm9 : m < 9 := by rw [← hm]; exact Nat.mod_lt _ (by omega)
      rw [hm] at HKy HO HX
      have Hm := Lib.hid hm9
      obtain ⟨K, hK⟩ : ∃ K, keyC m = K := ⟨_, rfl⟩
      have hKs : K.size ≤ 140737488351232 := by rw [← hK]; show (1 : Nat) ≤ _; omega
      have hKp : pathC m = keyP K := by rw [← hK]; rfl
      rw [hK] at HKy
      rw [hKp] at HO
      have HKs := Lib.hid hKs
      clear hlt hO hm hm9 hK hKs hKp
      have e1 := HX.out.1
      have e2 := HX.out.2.1
      have e3 := HX.out.2.2
      go_wp2_with fail

      refine (HKy.out wr).mono ?_
      rintro e w51 ⟨rfl, h51⟩
      clear e1 e2 e3
      have D51 := Lib.hid (D50.out.keep HR.out h51)
      clear h51
      go_wp2_with fail
      refine (HR.out.get w51 F50 g L K D51.out.s.t HKs.out (D51.out.s.tab HT.out.1)).mono ?_
      rintro e w52 ⟨F52, rfl, t52, u52, n52⟩
      have D52 := Lib.hid (D51.out.first HR.out t52 u52 n52)
      clear t52 u52 n52
      obtain ⟨gv, egv⟩ : ∃ gv, getF L (keyP K) = gv := ⟨_, rfl⟩
      rw [egv] at HO ⊢
      cases gv with
      | some v =>
        simp only [Option.getD_some, Option.isSome_some] at HO ⊢
        have hv : v.size ≤ 140737488351232 := (HR.out.fit D52.out.s.t).2 _ ((get_some HFit.out).1 egv)
        have Hv := Lib.hid hv
        clear egv hv
        go_wp2_with fail
        refine (HR.out.set w52 G50 h O K v D52.out.c.t HKs.out Hv.out HOl.out (D52.out.s.tab HT.out.1)).mono ?_
        rintro e w53 ⟨G53, rfl, t53, u53, n53⟩
        rw [← HO.out] at t53
        have D53 := Lib.hid (D52.out.second HR.out t53 u53 n53)
        clear t53 u53 n53
        go_wp2_with fail
        go_roundw
        case rel => exact ⟨k + 1, F52, G53, Hlt.out, by go_num, D53.out⟩
        case measure => simp [intOf]; omega
      | none =>
        simp only [Option.getD_none, Option.isSome_none] at HO ⊢
        clear egv
        have D53 := D52
        rw [← HO.out] at D53
        go_wp2_with fail
        go_roundw
        case rel => exact ⟨k + 1, F52, G50, Hlt.out, by go_num, D53.out⟩
        case measure => simp [intOf]; omega
    · have hki : ¬ (k : Int) < 9 := by omega
      obtain rfl : k = 9 := by omega
      obtain ⟨M, hM⟩ : ∃ M, orderF L f 9 = M := ⟨_, rfl⟩
      have hP := order_perm HFit.out HNine.out f Hf9.out
      rw [hM] at D50 hP
      have HP := Lib.hid (And.intro (root_perm HFit.out hP) hP.length_eq)
      obtain ⟨Rt, hRt⟩ : ∃ Rt, rootF M = Rt := ⟨_, rfl⟩
      obtain ⟨Ln, hLn⟩ : ∃ Ln, M.length = Ln := ⟨_, rfl⟩
      rw [hRt, hLn] at HP
      have HE := Lib.hid (And.intro hRt hLn)
      have q1 : (Rt.toList == Rt.toList) = true := beq_self_eq_true _
      obtain ⟨w50, rfl⟩ : ∃ w50, w50 = wr := ⟨_, rfl⟩
      clear hM hP hRt hLn
      go_wp2_with fail
      refine (HR.out.root w50 F50 g L  D50.out.s.t  (D50.out.s.tab HT.out.1)).mono ?_
      rintro e w51 ⟨F51, rfl, t51, u51, n51⟩
      rw [HP.out.1]
      have D51 := Lib.hid (D50.out.first HR.out t51 u51 n51)
      clear t51 u51 n51
      go_wp2_with fail
      refine (HR.out.root w51 G50 h M  D51.out.c.t  (D51.out.s.tab HT.out.1)).mono ?_
      rintro e w52 ⟨G52, rfl, t52, u52, n52⟩
      rw [HE.out.1]
      have D52 := Lib.hid (D51.out.second HR.out t52 u52 n52)
      clear t52 u52 n52
      go_wp2_with fail
      refine (HR.out.len w52 F51 g L  D52.out.s.t ).mono ?_
      rintro e w53 ⟨F53, rfl, t53, u53, n53⟩
      rw [HP.out.2]
      have D53 := Lib.hid (D52.out.first HR.out t53 u53 n53)
      clear t53 u53 n53
      go_wp2_with fail
      refine (HR.out.len w53 G52 h M  D53.out.c.t ).mono ?_
      rintro e w54 ⟨G54, rfl, t54, u54, n54⟩
      rw [HE.out.2]
      have D54 := Lib.hid (D53.out.second HR.out t54 u54 n54)
      clear t54 u54 n54
      go_wp2_with fail
      go_ret
      exact ⟨rfl, D54.out.s.below⟩
end Go.Proofs.YtnkkckmejjcfkaaDoor.Sp
