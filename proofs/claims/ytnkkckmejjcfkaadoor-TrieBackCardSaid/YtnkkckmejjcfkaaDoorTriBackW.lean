/- The walk of TrieBack. -/
import Derived.Test.YtnkkckmejjcfkaaDoorTriOne
import Derived.Test.YtnkkckmejjcfkaaDoorTriLawP
import Derived.Deep.RegionHeld3
namespace Go.Proofs.YtnkkckmejjcfkaaDoor.Sp
open Go Go.RowKit
set_option maxRecDepth 100000

theorem keyOf_small (k : Nat) (h : k < 9) : keyOf (k : Int) = keyC k := by unfold keyOf; rw [pickN_small k 9 h]

set_option maxHeartbeats 8000000 in
theorem tri_back {Tg : World → (Nat → Prop) → Nat → List Ent → Prop} (R : TriR Tg) (acts : List Act) (a : Option Addr) (n c : Nat) (key value : ByteArray) (hok : ∀ x ∈ acts, ActOk x) (hn : n ≤ 9223372036854775807) (hk : key.size ≤ 140737488351232) (hv : value.size ≤ 140737488351232) (w : World) (hA : Acts w a n acts) (hT : Tab w) (hQ : Tabs w) :
    Calls Tryd.prog 8 #[.slice a n c, .string key, .string value] w fun e w' => e = .returned (.bool true) ∧ Below w.heap.size w w' := by
  have HT := Lib.hid (And.intro hT hQ)
  have HR := Lib.hid R
  have HAw := Lib.hid (tawake_any R w hT)
  obtain ⟨L, Le⟩ : ∃ L, doesF [] acts = L := ⟨_, rfl⟩
  have HNine := Lib.hid (show Nine L from by rw [← Le]; exact Nine.acts _ nine_nil)
  obtain ⟨K, hK⟩ : ∃ K, keyP key = K := ⟨_, rfl⟩
  have hK32 : K.size = 32 := by rw [← hK]; exact keyP_32 _
  obtain ⟨Rt, hRt⟩ : ∃ Rt, rootF L = Rt := ⟨_, rfl⟩
  obtain ⟨Ln, hLn⟩ : ∃ Ln, L.length = Ln := ⟨_, rfl⟩
  obtain ⟨N, hN⟩ : ∃ N, nothingB = N := ⟨_, rfl⟩
  obtain ⟨Lf, hLf⟩ : ∃ Lf, leafB K value = Lf := ⟨_, rfl⟩
  have q1 : (Rt.toList == Rt.toList) = true := beq_self_eq_true _
  have q2 : (N.toList == N.toList) = true := beq_self_eq_true _
  have q3 : (Lf.toList == Lf.toList) = true := beq_self_eq_true _
  have q4 : (K.toList == K.toList) = true := beq_self_eq_true _
  have q5 : (value.toList == value.toList) = true := beq_self_eq_true _
  have HE := Lib.hid (And.intro hRt (And.intro hLn (And.intro hN (And.intro hLf hK))))
  have HOk := Lib.hid (And.intro hok (And.intro hA Le))
  have hg : (getF L K = none ∧ (getF L K).isSome = false) ∨ (∃ v0, getF L K = some v0 ∧ (getF L K).isSome = true) := by
    cases e : getF L K with
    | none => exact .inl ⟨rfl, rfl⟩
    | some v0 => exact .inr ⟨v0, rfl, rfl⟩
  clear hT hQ R hok hA Le hRt hLn hN hLf hK
  go_enter Tryd.func8, Tryd.ntmps8
  go_wp2_with fail
  refine HAw.out.mono ?_
  rintro e w1 ⟨rfl, h1⟩
  have B1 := Lib.hid h1
  clear h1
  go_wp2_with fail
  refine (HR.out.new w1).mono ?_
  rintro e w2 ⟨g, F2, rfl, t2, bf2, b2⟩
  have S2 := Lib.hid (show One Tg w w2 F2 g [] from ⟨t2, B1.out.trans (b2.mono B1.out.size), fun k hk => Nat.le_trans B1.out.size (bf2 k hk)⟩)
  clear t2 bf2 b2
  go_wp2_with fail
  have Le := HOk.out.2.2
  refine (qtnew_any w2).mono ?_
  rintro e w3 ⟨hh3, G3, rfl, t3, bf3, b3⟩
  have D3 := Lib.hid (Two.fresh HR.out S2.out t3 bf3 b3)
  clear t3 bf3 b3
  go_wp2_with fail
  refine (does_any HR.out w w3 F2 G3 g hh3 [] [] acts a n c D3.out (by decide) HOk.out.1 HOk.out.2.1 hn HT.out.1 HT.out.2).mono ?_
  rintro e w4 ⟨F4, G4, rfl, s4, u4, n4, m4⟩
  have S4 := Lib.hid s4.one
  clear s4 u4 n4 m4
  rw [show doesF [] acts = L from Le] at S4
  go_wp2_with fail
  clear Le
  refine (HR.out.get w4 F4 g L key S4.out.t hk (S4.out.tab HT.out.1)).mono ?_
  rintro e w5 ⟨F5, rfl, t5, u5, n5⟩
  rw [HE.out.2.2.2.2]
  have S5 := Lib.hid (S4.out.turn t5 u5 n5)
  clear t5 u5 n5
  obtain ⟨gv, egv⟩ : ∃ gv, (getF L K).getD .empty = gv := ⟨_, rfl⟩
  rw [egv]
  clear egv
  rcases hg with ⟨hg0, hg1⟩ | ⟨v0, hg0, hg1⟩
  · rw [hg1]
    have HG := Lib.hid hg0
    clear hg0 hg1
    go_wp2_with fail
    refine (HR.out.root w5 F5 g L  S5.out.t  (S5.out.tab HT.out.1)).mono ?_
    rintro e w6 ⟨F6, rfl, t6, u6, n6⟩
    rw [HE.out.1]
    have S6 := Lib.hid (S5.out.turn t6 u6 n6)
    clear t6 u6 n6
    go_wp2_with fail
    refine (HR.out.len w6 F6 g L  S6.out.t ).mono ?_
    rintro e w7 ⟨F7, rfl, t7, u7, n7⟩
    rw [HE.out.2.1]
    have S7 := Lib.hid (S6.out.turn t7 u7 n7)
    clear t7 u7 n7
    go_wp2_with fail
    refine (HR.out.set w7 F7 g L key value S7.out.t hk hv (by have := does_small HOk.out.2.2; omega) (S7.out.tab HT.out.1)).mono ?_
    rintro e w8 ⟨F8, rfl, t8, u8, n8⟩
    rw [HE.out.2.2.2.2] at t8
    have S8 := Lib.hid (S7.out.turn t8 u8 n8)
    clear t8 u8 n8
    go_wp2_with fail
    refine (HR.out.delete w8 F8 g (setF L K value) key S8.out.t hk (S8.out.tab HT.out.1)).mono ?_
    rintro e w9 ⟨F9, rfl, t9, u9, n9⟩
    rw [HE.out.2.2.2.2, set_del K value HG.out] at t9
    have S9 := Lib.hid (S8.out.turn t9 u9 n9)
    clear t9 u9 n9
    go_wp2_with fail
    refine (HR.out.root w9 F9 g L  S9.out.t  (S9.out.tab HT.out.1)).mono ?_
    rintro e w10 ⟨F10, rfl, t10, u10, n10⟩
    rw [HE.out.1]
    have S10 := Lib.hid (S9.out.turn t10 u10 n10)
    clear t10 u10 n10
    go_wp2_with fail
    refine (HR.out.len w10 F10 g L  S10.out.t ).mono ?_
    rintro e w11 ⟨F11, rfl, t11, u11, n11⟩
    rw [HE.out.2.1]
    have S11 := Lib.hid (S10.out.turn t11 u11 n11)
    clear t11 u11 n11
    go_wp2_with fail
    go_loopw [13] (fun y wr => ∃ (k : Nat) (F' : Nat → Prop), k ≤ 9 ∧ y = .int .i64 (k : Int) ∧ One Tg w wr F' g ((List.range k).foldl (fun m q => delF m (pathC q)) L)) (fun y _ => 9 - (intOf y).toNat)
    case atStart => exact ⟨0, F11, by omega, rfl, S11.out⟩
    case round =>
      obtain ⟨k, F50, hk9, rfl, hs⟩ := hrel
      have S50 := Lib.hid hs
      clear hs
      by_cases hlt : k < 9
      · have hki : (k : Int) < 9 := by omega
        have HKy := Lib.hid (fun w => key_any (k : Int) (by omega) (by omega) w)
        rw [keyOf_small k hlt] at HKy
        obtain ⟨D, hD⟩ : ∃ D, (List.range k).foldl (fun m q => delF m (pathC q)) L = D := ⟨_, rfl⟩
        have HD := Lib.hid (show (List.range (k + 1)).foldl (fun m q => delF m (pathC q)) L = delF D (keyP (keyC k)) from by rw [List.range_succ, List.foldl_append, hD]; rfl)
        rw [hD] at S50
        have Hlt := Lib.hid hlt
        clear hD hlt
        go_wp2_with fail
        refine (HKy.out wr).mono ?_
        rintro e w51 ⟨rfl, h51⟩
        have S51 := Lib.hid (S50.out.keep HR.out h51)
        clear h51
        go_wp2_with fail
        refine (HR.out.delete w51 F50 g D (keyC k) S51.out.t (by show (1 : Nat) ≤ _; omega) (S51.out.tab HT.out.1)).mono ?_
        rintro e w52 ⟨F52, rfl, t52, u52, n52⟩
        have S52 := Lib.hid (S51.out.turn t52 u52 n52)
        clear t52 u52 n52
        go_wp2_with fail
        go_roundw
        case rel => exact ⟨k + 1, F52, Hlt.out, by go_num, by rw [HD.out]; exact S52.out⟩
        case measure => simp [intOf]; omega
      · have hki : ¬ (k : Int) < 9 := by omega
        obtain rfl : k = 9 := by omega
        rw [HNine.out.gone9] at S50
        obtain ⟨w50, rfl⟩ : ∃ w50, w50 = wr := ⟨_, rfl⟩
        go_wp2_with fail
        refine (HR.out.root w50 F50 g []  S50.out.t  (S50.out.tab HT.out.1)).mono ?_
        rintro e w51 ⟨F51, rfl, t51, u51, n51⟩
        rw [show rootF [] = N from HE.out.2.2.1]
        have S51 := Lib.hid (S50.out.turn t51 u51 n51)
        clear t51 u51 n51
        go_wp2_with fail
        refine (HR.out.nothing w51 (S51.out.tab HT.out.1)).mono ?_
        rintro e w52 ⟨rfl, h52⟩
        rw [HE.out.2.2.1]
        have S52 := Lib.hid (S51.out.keep HR.out h52)
        clear h52
        go_wp2_with fail
        refine (HR.out.len w52 F51 g []  S52.out.t ).mono ?_
        rintro e w53 ⟨F53, rfl, t53, u53, n53⟩
        have S53 := Lib.hid (S52.out.turn t53 u53 n53)
        clear t53 u53 n53
        go_wp2_with fail
        refine (HR.out.set w53 F53 g [] key value S53.out.t hk hv (by decide) (S53.out.tab HT.out.1)).mono ?_
        rintro e w54 ⟨F54, rfl, t54, u54, n54⟩
        rw [HE.out.2.2.2.2, set_nil] at t54
        have S54 := Lib.hid (S53.out.turn t54 u54 n54)
        clear t54 u54 n54
        go_wp2_with fail
        refine (HR.out.prove w54 F54 g [(K, value)] key S54.out.t hk (S54.out.tab HT.out.1)).mono ?_
        rintro e w55 ⟨F55, pa55, pc55, rfl, hs55, hf55, hc55, t55, u55, n55⟩
        rw [HE.out.2.2.2.2, proof_one] at hs55 hc55 ⊢
        have S55 := Lib.hid (S54.out.turn t55 u55 n55)
        have Ps55 := Lib.hid hs55
        have Pf55 := Lib.hid hf55
        have Pc55 := Lib.hid hc55
        clear t55 u55 n55 hs55 hf55 hc55
        unfold prfV
        simp only [List.length_nil]
        go_wp2_with fail
        obtain ⟨w56, hw56⟩ : ∃ w56, w55.alloc (.cells #[.slice pa55 0 pc55, .bool true, .string K, .string value] 38) = w56 := ⟨_, rfl⟩
        have h56 : Below w55.heap.size w55 w56 := by rw [← hw56]; exact (Below.refl _ _).alloc (Nat.le_refl _) _
        obtain ⟨G, hG⟩ : ∃ G, w55.heap.size = G := ⟨_, rfl⟩
        have K56 := Lib.hid (show Blk w56 G 38 #[.slice pa55 0 pc55, .bool true, .string K, .string value] from by rw [← hw56, ← hG]; exact Blk.new _ _ _)
        have N56 := Lib.hid (show ¬ F55 G from fun h => by have := HR.out.lt S55.out.t G h; omega)
        have S56 := Lib.hid (S55.out.keep HR.out h56)
        rw [hw56, hG]
        clear h56 hw56 hG
        have S57 := Lib.hid (S56.out.keep HR.out ((Below.refl w56.heap.size w56).drew))
        have K57 := Lib.hid (K56.out.drew)
        have HCS : ∀ w', Blk w' G 38 #[.slice pa55 0 pc55, .bool true, .string K, .string value] → w'.cell? ⟨G, 0, none⟩ = some (.slice pa55 0 pc55) ∧ w'.cell? ⟨G, 1, none⟩ = some (.bool true) ∧ w'.cell? ⟨G, 2, none⟩ = some (.string K) ∧ w'.cell? ⟨G, 3, none⟩ = some (.string value) := fun w' b => ⟨b.cell 0, b.cell 1, b.cell 2, b.cell 3⟩
        have SS := HCS _ K57.out
        go_region_held3 (fun w' => w'.cell? ⟨G, 0, none⟩ = some (.slice pa55 0 pc55) ∧ w'.cell? ⟨G, 1, none⟩ = some (.bool true) ∧ w'.cell? ⟨G, 2, none⟩ = some (.string K) ∧ w'.cell? ⟨G, 3, none⟩ = some (.string value)) ((first | (with_reducible assumption) | exact SS)) ((first
          | (go_at_call 23; refine (HR.out.root _ F55 g [(K, value)] S57.out.t (S57.out.tab HT.out.1)).mono ?_; rintro e w58 ⟨F58, rfl, t58, u58, n58⟩; rw [show rootF [(K, value)] = Lf from HE.out.2.2.2.1]; have S58 := Lib.hid (S57.out.turn t58 u58 n58); have K58 := Lib.hid (blk_turned K57.out u58 N56.out); have SS8 := HCS _ K58.out; have c0 := SS8.1; have c1 := SS8.2.1; have c2 := SS8.2.2.1; have c3 := SS8.2.2.2; clear t58 u58 n58)
          | (go_at_call 12; refine (HR.out.path key w58 hk (S58.out.tab HT.out.1)).mono ?_; rintro e w59 ⟨rfl, h59⟩; rw [HE.out.2.2.2.2]; have S59 := Lib.hid (S58.out.keep HR.out h59); have K59 := Lib.hid (K58.out.below h59 K58.out.lt); have SS9 := HCS _ K59.out; have c0 := SS9.1; have c1 := SS9.2.1; have c2 := SS9.2.2.1; have c3 := SS9.2.2.2; clear h59)
          | (go_at_call 16; refine (HR.out.leaf K value w59 (by omega) (S59.out.tab HT.out.1)).mono ?_; rintro e w60 ⟨rfl, h60⟩; rw [HE.out.2.2.2.1]; have S60 := Lib.hid (S59.out.keep HR.out h60); have K60 := Lib.hid (K59.out.below h60 K59.out.lt); have SS0 := HCS _ K60.out; have c0 := SS0.1; have c1 := SS0.2.1; have c2 := SS0.2.2.1; have c3 := SS0.2.2.2; clear h60)
          | (go_at_call 12; refine (HR.out.path key w60 hk (S60.out.tab HT.out.1)).mono ?_; rintro e w61 ⟨rfl, h61⟩; rw [HE.out.2.2.2.2]; have S61 := Lib.hid (S60.out.keep HR.out h61); have K61 := Lib.hid (K60.out.below h61 K60.out.lt); have SS1 := HCS _ K61.out; have c0 := SS1.1; have c1 := SS1.2.1; have c2 := SS1.2.2.1; have c3 := SS1.2.2.2; clear h61)))
        all_goals
          go_wp2_with fail
          go_ret
          exact ⟨rfl, S61.out.below⟩
  · rw [hg1]
    clear hg0 hg1
    go_wp2_with fail
    refine (HR.out.root w5 F5 g L  S5.out.t  (S5.out.tab HT.out.1)).mono ?_
    rintro e w6 ⟨F6, rfl, t6, u6, n6⟩
    rw [HE.out.1]
    have S6 := Lib.hid (S5.out.turn t6 u6 n6)
    clear t6 u6 n6
    go_wp2_with fail
    refine (HR.out.len w6 F6 g L  S6.out.t ).mono ?_
    rintro e w7 ⟨F7, rfl, t7, u7, n7⟩
    rw [HE.out.2.1]
    have S7 := Lib.hid (S6.out.turn t7 u7 n7)
    clear t7 u7 n7
    go_wp2_with fail
    go_loopw [13] (fun y wr => ∃ (k : Nat) (F' : Nat → Prop), k ≤ 9 ∧ y = .int .i64 (k : Int) ∧ One Tg w wr F' g ((List.range k).foldl (fun m q => delF m (pathC q)) L)) (fun y _ => 9 - (intOf y).toNat)
    case atStart => exact ⟨0, F7, by omega, rfl, S7.out⟩
    case round =>
      obtain ⟨k, F50, hk9, rfl, hs⟩ := hrel
      have S50 := Lib.hid hs
      clear hs
      by_cases hlt : k < 9
      · have hki : (k : Int) < 9 := by omega
        have HKy := Lib.hid (fun w => key_any (k : Int) (by omega) (by omega) w)
        rw [keyOf_small k hlt] at HKy
        obtain ⟨D, hD⟩ : ∃ D, (List.range k).foldl (fun m q => delF m (pathC q)) L = D := ⟨_, rfl⟩
        have HD := Lib.hid (show (List.range (k + 1)).foldl (fun m q => delF m (pathC q)) L = delF D (keyP (keyC k)) from by rw [List.range_succ, List.foldl_append, hD]; rfl)
        rw [hD] at S50
        have Hlt := Lib.hid hlt
        clear hD hlt
        go_wp2_with fail
        refine (HKy.out wr).mono ?_
        rintro e w51 ⟨rfl, h51⟩
        have S51 := Lib.hid (S50.out.keep HR.out h51)
        clear h51
        go_wp2_with fail
        refine (HR.out.delete w51 F50 g D (keyC k) S51.out.t (by show (1 : Nat) ≤ _; omega) (S51.out.tab HT.out.1)).mono ?_
        rintro e w52 ⟨F52, rfl, t52, u52, n52⟩
        have S52 := Lib.hid (S51.out.turn t52 u52 n52)
        clear t52 u52 n52
        go_wp2_with fail
        go_roundw
        case rel => exact ⟨k + 1, F52, Hlt.out, by go_num, by rw [HD.out]; exact S52.out⟩
        case measure => simp [intOf]; omega
      · have hki : ¬ (k : Int) < 9 := by omega
        obtain rfl : k = 9 := by omega
        rw [HNine.out.gone9] at S50
        obtain ⟨w50, rfl⟩ : ∃ w50, w50 = wr := ⟨_, rfl⟩
        go_wp2_with fail
        refine (HR.out.root w50 F50 g []  S50.out.t  (S50.out.tab HT.out.1)).mono ?_
        rintro e w51 ⟨F51, rfl, t51, u51, n51⟩
        rw [show rootF [] = N from HE.out.2.2.1]
        have S51 := Lib.hid (S50.out.turn t51 u51 n51)
        clear t51 u51 n51
        go_wp2_with fail
        refine (HR.out.nothing w51 (S51.out.tab HT.out.1)).mono ?_
        rintro e w52 ⟨rfl, h52⟩
        rw [HE.out.2.2.1]
        have S52 := Lib.hid (S51.out.keep HR.out h52)
        clear h52
        go_wp2_with fail
        refine (HR.out.len w52 F51 g []  S52.out.t ).mono ?_
        rintro e w53 ⟨F53, rfl, t53, u53, n53⟩
        have S53 := Lib.hid (S52.out.turn t53 u53 n53)
        clear t53 u53 n53
        go_wp2_with fail
        refine (HR.out.set w53 F53 g [] key value S53.out.t hk hv (by decide) (S53.out.tab HT.out.1)).mono ?_
        rintro e w54 ⟨F54, rfl, t54, u54, n54⟩
        rw [HE.out.2.2.2.2, set_nil] at t54
        have S54 := Lib.hid (S53.out.turn t54 u54 n54)
        clear t54 u54 n54
        go_wp2_with fail
        refine (HR.out.prove w54 F54 g [(K, value)] key S54.out.t hk (S54.out.tab HT.out.1)).mono ?_
        rintro e w55 ⟨F55, pa55, pc55, rfl, hs55, hf55, hc55, t55, u55, n55⟩
        rw [HE.out.2.2.2.2, proof_one] at hs55 hc55 ⊢
        have S55 := Lib.hid (S54.out.turn t55 u55 n55)
        have Ps55 := Lib.hid hs55
        have Pf55 := Lib.hid hf55
        have Pc55 := Lib.hid hc55
        clear t55 u55 n55 hs55 hf55 hc55
        unfold prfV
        simp only [List.length_nil]
        go_wp2_with fail
        obtain ⟨w56, hw56⟩ : ∃ w56, w55.alloc (.cells #[.slice pa55 0 pc55, .bool true, .string K, .string value] 38) = w56 := ⟨_, rfl⟩
        have h56 : Below w55.heap.size w55 w56 := by rw [← hw56]; exact (Below.refl _ _).alloc (Nat.le_refl _) _
        obtain ⟨G, hG⟩ : ∃ G, w55.heap.size = G := ⟨_, rfl⟩
        have K56 := Lib.hid (show Blk w56 G 38 #[.slice pa55 0 pc55, .bool true, .string K, .string value] from by rw [← hw56, ← hG]; exact Blk.new _ _ _)
        have N56 := Lib.hid (show ¬ F55 G from fun h => by have := HR.out.lt S55.out.t G h; omega)
        have S56 := Lib.hid (S55.out.keep HR.out h56)
        rw [hw56, hG]
        clear h56 hw56 hG
        have S57 := Lib.hid (S56.out.keep HR.out ((Below.refl w56.heap.size w56).drew))
        have K57 := Lib.hid (K56.out.drew)
        have HCS : ∀ w', Blk w' G 38 #[.slice pa55 0 pc55, .bool true, .string K, .string value] → w'.cell? ⟨G, 0, none⟩ = some (.slice pa55 0 pc55) ∧ w'.cell? ⟨G, 1, none⟩ = some (.bool true) ∧ w'.cell? ⟨G, 2, none⟩ = some (.string K) ∧ w'.cell? ⟨G, 3, none⟩ = some (.string value) := fun w' b => ⟨b.cell 0, b.cell 1, b.cell 2, b.cell 3⟩
        have SS := HCS _ K57.out
        go_region_held3 (fun w' => w'.cell? ⟨G, 0, none⟩ = some (.slice pa55 0 pc55) ∧ w'.cell? ⟨G, 1, none⟩ = some (.bool true) ∧ w'.cell? ⟨G, 2, none⟩ = some (.string K) ∧ w'.cell? ⟨G, 3, none⟩ = some (.string value)) ((first | (with_reducible assumption) | exact SS)) ((first
          | (go_at_call 23; refine (HR.out.root _ F55 g [(K, value)] S57.out.t (S57.out.tab HT.out.1)).mono ?_; rintro e w58 ⟨F58, rfl, t58, u58, n58⟩; rw [show rootF [(K, value)] = Lf from HE.out.2.2.2.1]; have S58 := Lib.hid (S57.out.turn t58 u58 n58); have K58 := Lib.hid (blk_turned K57.out u58 N56.out); have SS8 := HCS _ K58.out; have c0 := SS8.1; have c1 := SS8.2.1; have c2 := SS8.2.2.1; have c3 := SS8.2.2.2; clear t58 u58 n58)
          | (go_at_call 12; refine (HR.out.path key w58 hk (S58.out.tab HT.out.1)).mono ?_; rintro e w59 ⟨rfl, h59⟩; rw [HE.out.2.2.2.2]; have S59 := Lib.hid (S58.out.keep HR.out h59); have K59 := Lib.hid (K58.out.below h59 K58.out.lt); have SS9 := HCS _ K59.out; have c0 := SS9.1; have c1 := SS9.2.1; have c2 := SS9.2.2.1; have c3 := SS9.2.2.2; clear h59)
          | (go_at_call 16; refine (HR.out.leaf K value w59 (by omega) (S59.out.tab HT.out.1)).mono ?_; rintro e w60 ⟨rfl, h60⟩; rw [HE.out.2.2.2.1]; have S60 := Lib.hid (S59.out.keep HR.out h60); have K60 := Lib.hid (K59.out.below h60 K59.out.lt); have SS0 := HCS _ K60.out; have c0 := SS0.1; have c1 := SS0.2.1; have c2 := SS0.2.2.1; have c3 := SS0.2.2.2; clear h60)
          | (go_at_call 12; refine (HR.out.path key w60 hk (S60.out.tab HT.out.1)).mono ?_; rintro e w61 ⟨rfl, h61⟩; rw [HE.out.2.2.2.2]; have S61 := Lib.hid (S60.out.keep HR.out h61); have K61 := Lib.hid (K60.out.below h61 K60.out.lt); have SS1 := HCS _ K61.out; have c0 := SS1.1; have c1 := SS1.2.1; have c2 := SS1.2.2.1; have c3 := SS1.2.2.2; clear h61)))
        all_goals
          go_wp2_with fail
          go_ret
          exact ⟨rfl, S61.out.below⟩
end Go.Proofs.YtnkkckmejjcfkaaDoor.Sp
