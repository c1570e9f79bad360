/- The walk of TrieRoots. -/
import Derived.Test.YtnkkckmejjcfkaaGreatDoorTriQuad
import Derived.Test.YtnkkckmejjcfkaaGreatDoorTriLastP
import Derived.Test.YtnkkckmejjcfkaaGreatDoorTriQProved
import Derived.Test.YtnkkckmejjcfkaaGreatDoorTriRootsH
namespace Go.Proofs.YtnkkckmejjcfkaaGreatDoor.Sp
open Go Go.RowKit
set_option maxRecDepth 100000

set_option maxHeartbeats 8000000 in
theorem tri_roots {Tg : World → (Nat → Prop) → Nat → List Ent → Prop} (R : TriR Tg) (one two : List Act) (a a2 : Option Addr) (n c n2 c2 : Nat) (hok : ∀ x ∈ one, ActOk x) (hok2 : ∀ x ∈ two, ActOk x) (hn : n ≤ 9223372036854775807) (hn2 : n2 ≤ 9223372036854775807) (w : World) (hA : Acts w a n one) (hA2 : Acts w a2 n2 two) (hT : Tab w) (hQ : Tabs w) :
    Calls Tryz.prog 6 #[.slice a n c, .slice a2 n2 c2] w fun e w' => e = .returned (.bool true) ∧ Below w.heap.size w w' := by
  have HT := Lib.hid (And.intro hT hQ)
  have HR := Lib.hid R
  have HAw := Lib.hid (tawake_any R w hT)
  obtain ⟨L, Le⟩ : ∃ L, doesF [] one = L := ⟨_, rfl⟩
  obtain ⟨M, Me⟩ : ∃ M, doesF [] two = M := ⟨_, rfl⟩
  have hFL : FitT L := by rw [← Le]; exact does_fit _ fitT_nil
  have hFM : FitT M := by rw [← Me]; exact does_fit _ fitT_nil
  have hNL : Nine L := by rw [← Le]; exact Nine.acts _ nine_nil
  have hNM : Nine M := by rw [← Me]; exact Nine.acts _ nine_nil
  have hrc := roots_cases hFL hFM hNL hNM
  have HLl := Lib.hid (show L.length ≤ 1000000 from by have := does_len one []; rw [Le] at this; simp only [List.length_nil] at this; omega)
  have HMl := Lib.hid (show M.length ≤ 1000000 from by have := does_len two []; rw [Me] at this; simp only [List.length_nil] at this; omega)
  obtain ⟨Ln, hLn⟩ : ∃ Ln, L.length = Ln := ⟨_, rfl⟩
  obtain ⟨Mn, hMn⟩ : ∃ Mn, M.length = Mn := ⟨_, rfl⟩
  obtain ⟨RL, hRL⟩ : ∃ RL, rootF L = RL := ⟨_, rfl⟩
  obtain ⟨RM, hRM⟩ : ∃ RM, rootF M = RM := ⟨_, rfl⟩
  rw [hRL, hRM] at hrc
  obtain ⟨b0, hb0⟩ : ∃ b0, sameF L M 0 = b0 := ⟨_, rfl⟩
  have hst : ((Ln : Int) == (Mn : Int)) = b0 := by
    rw [← hb0, sameF_zero, hLn, hMn]
    by_cases e : Ln = Mn
    · subst e; simp
    · rw [decide_eq_false e]; exact beq_false_of_ne (by omega)
  have HB0 := Lib.hid hb0
  have HRc := Lib.hid hrc
  have HF := Lib.hid (And.intro hFL hFM)
  have HE := Lib.hid (And.intro hLn (And.intro hMn (And.intro hRL hRM)))
  have HOk := Lib.hid (And.intro (And.intro hok hA) (And.intro hok2 hA2))
  have HD := Lib.hid (And.intro Le Me)
  clear hT hQ R hok hA hok2 hA2 hLn hMn hRL hRM hb0 hrc hFL hFM hNL hNM Le Me
  go_enter Tryz.func6, Tryz.ntmps6
  go_wp2_with fail
  refine HAw.out.mono ?_
  rintro e w1 ⟨rfl, h1⟩
  have B1 := Lib.hid h1
  clear h1
  go_wp2_with fail
  refine (HR.out.new w1).mono ?_
  rintro e w2 ⟨g, F2, rfl, t2, bf2, b2⟩
  have S2 := Lib.hid (show One Tg w w2 F2 g [] from ⟨t2, B1.out.trans (b2.mono B1.out.size), fun k hk => Nat.le_trans B1.out.size (bf2 k hk)⟩)
  clear t2 bf2 b2
  go_wp2_with fail
  refine (HR.out.new w2).mono ?_
  rintro e w3 ⟨h, G3, rfl, t3, bf3, b3⟩
  have D3 := Lib.hid (S2.out.duo HR.out t3 bf3 b3)
  clear t3 bf3 b3
  go_wp2_with fail
  refine (qtnew_any w3).mono ?_
  rintro e w4 ⟨x, H4, rfl, t4, bf4, b4⟩
  have N4 := Lib.hid (And.intro t4 (And.intro bf4 b4))
  clear t4 bf4 b4
  go_wp2_with fail
  refine (qtnew_any w4).mono ?_
  rintro e w5 ⟨y, K5, rfl, t5, bf5, b5⟩
  have Q5 := Lib.hid (Quad.make HR.out D3.out N4.out.1 N4.out.2.1 N4.out.2.2 t5 bf5 b5)
  clear t5 bf5 b5
  go_wp2_with fail
  refine (does_any HR.out w w5 F2 H4 g x [] [] one a n c Q5.out.p (by decide) HOk.out.1.1 HOk.out.1.2 hn HT.out.1 HT.out.2).mono ?_
  rintro e w6 ⟨F6, H6, rfl, s6, u6, n6, m6⟩
  rw [HD.out.1] at s6
  have Q6 := Lib.hid (Q5.out.first HR.out s6 u6 n6 m6)
  clear s6 u6 n6 m6
  go_wp2_with fail
  refine (does_any HR.out w w6 G3 K5 h y [] [] two a2 n2 c2 Q6.out.q (by decide) HOk.out.2.1 HOk.out.2.2 hn2 HT.out.1 HT.out.2).mono ?_
  rintro e w7 ⟨G7, K7, rfl, s7, u7, n7, m7⟩
  rw [HD.out.2] at s7
  have Q7 := Lib.hid (Q6.out.second HR.out s7 u7 n7 m7)
  clear s7 u7 n7 m7
  go_wp2_with fail
  refine (HR.out.len w7 F6 g L Q7.out.p.t).mono ?_
  rintro e w8 ⟨F8, rfl, t8, u8, n8⟩
  rw [HE.out.1]
  have Q8 := Lib.hid (Q7.out.one HR.out t8 u8 n8)
  clear t8 u8 n8
  go_wp2_with fail
  refine (HR.out.len w8 G7 h M Q8.out.q.t).mono ?_
  rintro e w9 ⟨G9, rfl, t9, u9, n9⟩
  rw [HE.out.2.1]
  have Q9 := Lib.hid (Q8.out.two HR.out t9 u9 n9)
  clear t9 u9 n9
  go_wp2_with fail
  clear hst
  go_loopw [10, 11] (fun s i wr => ∃ (k : Nat) (F' G' : Nat → Prop), k ≤ 9 ∧ i = .int .i64 (k : Int) ∧ s = .bool (sameF L M k) ∧ Quad Tg w wr F' H6 G' K7 g x h y L M) (fun _ i _ => 9 - (intOf i).toNat)
  case atStart => exact ⟨0, F8, G9, by omega, rfl, by rw [HB0.out], Q9.out⟩
  case round =>
    obtain ⟨k, F50, G50, hk9, rfl, rfl, hs⟩ := hrel
    have Q50 := Lib.hid hs
    clear hs
    obtain ⟨w50, rfl⟩ : ∃ w50, w50 = wr := ⟨_, rfl⟩
    by_cases hlt : k < 9
    · have hki : (k : Int) < 9 := by omega
      have HKy := Lib.hid (fun w => key_any (k : Int) (by omega) (by omega) w)
      rw [keyOf_nin k hlt] at HKy
      have hnext := sameF_succ L M k
      rw [← opt_same] at hnext
      obtain ⟨b, hb⟩ : ∃ b, sameF L M k = b := ⟨_, rfl⟩
      obtain ⟨v0, hv0⟩ : ∃ v0, (getF L (pathC k)).getD .empty = v0 := ⟨_, rfl⟩
      obtain ⟨is, his⟩ : ∃ is, (getF L (pathC k)).isSome = is := ⟨_, rfl⟩
      obtain ⟨u0, hu0⟩ : ∃ u0, (getF M (pathC k)).getD .empty = u0 := ⟨_, rfl⟩
      obtain ⟨us, hus⟩ : ∃ us, (getF M (pathC k)).isSome = us := ⟨_, rfl⟩
      rw [hb, hv0, his, hu0, hus] at hnext
      rw [hb]
      obtain ⟨X, hX⟩ : ∃ X, (v0.toList == u0.toList) = X := ⟨_, rfl⟩
      obtain ⟨Y, hY⟩ : ∃ Y, (is == us) = Y := ⟨_, rfl⟩
      rw [hX, hY] at hnext
      have HN := Lib.hid (And.intro hnext hlt)
      have HV := Lib.hid (And.intro hv0 (And.intro his (And.intro hu0 hus)))
      obtain ⟨Kk, hKk⟩ : ∃ Kk, keyC k = Kk := ⟨_, rfl⟩
      have hKs : Kk.size ≤ 140737488351232 := by rw [← hKk]; show (1 : Nat) ≤ _; omega
      have hKp : pathC k = keyP Kk := by rw [← hKk]; rfl
      rw [hKk] at HKy
      rw [hKp] at HV
      have HKs := Lib.hid hKs
      clear hlt hnext hb hv0 his hu0 hus hKk hKs hKp
      go_wp2_with fail
      refine (HKy.out w50).mono ?_
      rintro e w51 ⟨rfl, h51⟩
      have Q51 := Lib.hid (Q50.out.keep HR.out h51)
      clear h51
      go_wp2_with fail
      refine (HR.out.get w51 F50 g L Kk Q51.out.p.t HKs.out (Q51.out.p.one.tab HT.out.1)).mono ?_
      rintro e w52 ⟨F52, rfl, t52, u52, n52⟩
      rw [HV.out.1, HV.out.2.1]
      have Q52 := Lib.hid (Q51.out.one HR.out t52 u52 n52)
      clear t52 u52 n52
      go_wp2_with fail
      refine (HKy.out w52).mono ?_
      rintro e w53 ⟨rfl, h53⟩
      have Q53 := Lib.hid (Q52.out.keep HR.out h53)
      clear h53
      go_wp2_with fail
      refine (HR.out.get w53 G50 h M Kk Q53.out.q.t HKs.out (Q53.out.p.one.tab HT.out.1)).mono ?_
      rintro e w54 ⟨G54, rfl, t54, u54, n54⟩
      rw [HV.out.2.2.1, HV.out.2.2.2]
      have Q54 := Lib.hid (Q53.out.two HR.out t54 u54 n54)
      clear t54 u54 n54
      cases b <;> cases X <;> cases Y
      all_goals
        go_wp2_with fail
        go_roundw
        case rel => exact ⟨k + 1, F52, G54, HN.out.2, by go_num, by rw [HN.out.1]; rfl, Q54.out⟩
        case measure => simp [intOf]; omega
    · have hki : ¬ (k : Int) < 9 := by omega
      obtain rfl : k = 9 := by omega
      obtain ⟨b, hb⟩ : ∃ b, sameF L M 9 = b := ⟨_, rfl⟩
      rw [hb] at HRc ⊢
      clear hb
      have hcase : (b = true ∧ RL = RM) ∨ (b = false ∧ (RL.toList == RM.toList) = false) ∨ (b = false ∧ RL = RM ∧ ClashIn (inputsF 256 0 L ++ inputsF 256 0 M)) := by
        cases b with
        | true => exact .inl ⟨rfl, HRc.out.1 rfl⟩
        | false =>
          by_cases e : RL = RM
          · exact .inr (.inr ⟨rfl, e, HRc.out.2 rfl e⟩)
          · exact .inr (.inl ⟨rfl, text_ne _ _ e⟩)
      go_wp2_with fail
      refine (HR.out.root w50 F50 g L Q50.out.p.t (Q50.out.p.one.tab HT.out.1)).mono ?_
      rintro e w51 ⟨F51, rfl, t51, u51, n51⟩
      rw [HE.out.2.2.1]
      have Q51 := Lib.hid (Q50.out.one HR.out t51 u51 n51)
      clear t51 u51 n51
      go_wp2_with fail
      refine (HR.out.root w51 G50 h M Q51.out.q.t (Q51.out.p.one.tab HT.out.1)).mono ?_
      rintro e w52 ⟨G52, rfl, t52, u52, n52⟩
      rw [HE.out.2.2.2]
      have Q52 := Lib.hid (Q51.out.two HR.out t52 u52 n52)
      clear t52 u52 n52
      rcases hcase with ⟨rfl, e⟩ | ⟨rfl, e⟩ | ⟨rfl, e, hcl⟩
      · have e := text_eq _ _ e
        go_wp2_with fail
        go_ret
        exact ⟨rfl, Q52.out.p.below⟩
      · go_wp2_with fail
        go_ret
        exact ⟨rfl, Q52.out.p.below⟩
      · have e := text_eq _ _ e
        obtain ⟨I, hI⟩ : ∃ I, inputsF 256 0 L = I := ⟨_, rfl⟩
        obtain ⟨J, hJ⟩ : ∃ J, inputsF 256 0 M = J := ⟨_, rfl⟩
        have hIl : I.length ≤ 1000000000 := by rw [← hI]; exact (HF.out.1.len_in HLl.out).2
        have hJl : J.length ≤ 1000000000 := by rw [← hJ]; exact (HF.out.2.len_in HMl.out).2
        have hIs : ∀ x ∈ I, x.size ≤ 9223372036854775000 := fun x hx => Nat.le_trans (tinputs_size 256 0 L HF.out.1 (HR.out.fit Q52.out.p.t).2 x (by rw [hI]; exact hx)) (by omega)
        have hJs : ∀ x ∈ J, x.size ≤ 9223372036854775000 := fun x hx => Nat.le_trans (tinputs_size 256 0 M HF.out.2 (HR.out.fit Q52.out.q.t).2 x (by rw [hJ]; exact hx)) (by omega)
        rw [hI, hJ] at hcl
        have HCl := Lib.hid (show ClashIn ((I ++ J) ++ keysIn 9) from hcl.mono fun x hx => List.mem_append_left _ hx)
        have HSm := Lib.hid (show ∀ x ∈ (I ++ J) ++ keysIn 9, x.size ≤ 9223372036854775000 from fun x hx => (List.mem_append.1 hx).elim (fun h => (List.mem_append.1 h).elim (hIs x) (hJs x)) (keysIn_small 9 x))
        have HIJ := Lib.hid (And.intro hI (And.intro hJ (And.intro hIl hJl)))
        clear hcl hI hJ hIl hJl hIs hJs
        go_wp2_with fail
        refine (qtinputs_any w52 H6 x L Q52.out.p.u HLl.out (HT.out.2.below Q52.out.p.below)).mono ?_
        rintro e w53 ⟨a53, c53, rfl, hs, h53, hf, hc⟩
        rw [HIJ.out.1] at hs ⊢
        have Q53 := Lib.hid (Q52.out.keep HR.out h53)
        have I53 := Lib.hid hs
        clear h53 hs hf hc
        obtain ⟨i0, hi0, hz0, hz1, hz2⟩ := info_parts infoText
        have hb1 : 0 + I.length ≤ maxLen := by have := HIJ.out.2.2.1; unfold maxLen; omega
        have hb2 : (0 + I.length) * 16 ≤ 140737488355328 := by have := HIJ.out.2.2.1; omega
        have hb3 : I.length + J.length ≤ maxLen := by have := HIJ.out.2.2.1; have := HIJ.out.2.2.2; unfold maxLen; omega
        have hb4 : (I.length + J.length) * 16 ≤ 140737488355328 := by have := HIJ.out.2.2.1; have := HIJ.out.2.2.2; omega
        go_wp2_with (refine wpList_append_when _ (by rfl) (.const (.slice none 0 0)) (.tmp 83) 37 (by rfl) w53.heap.size 9 i0 (.string .empty) 1 16 Tryz.underlying37 hi0 hz0 hz1 hz2 (by rfl) (by decide) (.slice none 0 0) 0 [] (by rfl) (World.ownsRow_nil _ _ _ _) w53.heap.size a53 I.length c53 (I.map Value.string) (by rfl) (strs_reads_ I53.out) (ones_texts I) hb1 hb2 (Nat.le_refl _) ?_)
        intro v54 w54 hown hg _
        have O54 := Lib.hid (show OwnT w54 w53.heap.size v54 I from hown)
        have W54 := Lib.hid (show Below w53.heap.size w53 w54 from (Below.refl _ _).grown hg (Nat.le_refl _) (fun k hk => by cases hk))
        have Q54 := Lib.hid (Q53.out.keep HR.out W54.out)
        clear hown hg
        go_wp2_with fail
        refine (qtinputs_any w54 K7 y M Q54.out.q.u HMl.out (HT.out.2.below Q54.out.p.below)).mono ?_
        rintro e w55 ⟨a55, c55, rfl, hs, h55, hf, hc⟩
        rw [HIJ.out.2.1] at hs ⊢
        have O55 := Lib.hid (own_below O54.out h55)
        have W55 := Lib.hid (W54.out.trans (h55.mono W54.out.size))
        have I55 := Lib.hid hs
        clear h55 hs hf hc
        go_wp2_with (refine wpList_append_when _ (by rfl) (.tmp 84) (.tmp 86) 37 (by rfl) w53.heap.size 9 i0 (.string .empty) 1 16 Tryz.underlying37 hi0 hz0 hz1 hz2 (by rfl) (by decide) v54 I.length (I.map Value.string) (by rfl) O55.out w55.heap.size a55 J.length c55 (J.map Value.string) (by rfl) (strs_reads_ I55.out) (ones_texts J) hb3 hb4 W55.out.size ?_)
        intro v56 w56 hown hg _
        have hO : OwnT w56 w53.heap.size v56 (I ++ J) := by
          unfold OwnT
          rw [List.map_append, List.length_append]
          exact hown
        have O56 := Lib.hid hO
        have W56 := Lib.hid (show Below w53.heap.size w53 w56 from W55.out.grown hg W55.out.size (fun k hk => (O55.out.lt k hk).1))
        clear hown hg hO
        go_wp2_with fail
        go_loopw [16, 17] (fun v i wr => ∃ k : Nat, k ≤ 9 ∧ i = .int .i64 (k : Int) ∧ OwnT wr w53.heap.size v ((I ++ J) ++ keysIn k) ∧ Below w53.heap.size w53 wr) (fun _ i _ => 9 - (intOf i).toNat)
        case atStart => exact ⟨0, by omega, rfl, by rw [show keysIn 0 = [] from rfl, List.append_nil]; exact O56.out, W56.out⟩
        case round =>
          obtain ⟨k, hk9, rfl, ho, hw⟩ := hrel
          obtain ⟨w60, rfl⟩ : ∃ w60, w60 = wr := ⟨_, rfl⟩
          by_cases hlt : k < 9
          · have hki : (k : Int) < 9 := by omega
            have HKy := Lib.hid (fun w => key_any (k : Int) (by omega) (by omega) w)
            rw [keyOf_nin k hlt] at HKy
            have HIn := Lib.hid (fun g c w hs => qin_one 6 (by omega) (keyC k) g c w hs (by show (1 : Nat) ≤ _; omega))
            have hnext : (I ++ J) ++ keysIn (k + 1) = ((I ++ J) ++ keysIn k) ++ [inT 6 [keyC k]] := by rw [keysIn_succ, List.append_assoc (I ++ J)]
            obtain ⟨T, hT⟩ : ∃ T, inT 6 [keyC k] = T := ⟨_, rfl⟩
            rw [show inT (UInt8.ofNat 6) [keyC k] = T from hT] at HIn
            rw [hT] at hnext
            have hAl : ((I ++ J) ++ keysIn k).length ≤ 2000000009 := by
              have := HIJ.out.2.2.1; have := HIJ.out.2.2.2
              rw [List.length_append, List.length_append, keysIn_len]; omega
            obtain ⟨A, hA⟩ : ∃ A, (I ++ J) ++ keysIn k = A := ⟨_, rfl⟩
            rw [hA] at ho hnext hAl
            obtain ⟨Kk, hKk⟩ : ∃ Kk, keyC k = Kk := ⟨_, rfl⟩
            rw [hKk] at HKy HIn
            have HN := Lib.hid (And.intro hnext hlt)
            have O60 := Lib.hid ho
            have W60 := Lib.hid hw
            have hb5 : A.length + 1 ≤ maxLen := by unfold maxLen; omega
            have hb6 : (A.length + 1) * 16 ≤ 140737488355328 := by omega
            clear hlt ho hw hnext hT hA hKk
            go_wp2_with fail
            refine (HKy.out w60).mono ?_
            rintro e w61 ⟨rfl, h61⟩
            have B61 := Lib.hid h61
            clear h61
            go_wp2_with fail
            refine (HIn.out _ _ _ (by exact strs_blk (Blk.new _ 9 _) rfl)).mono ?_
            rintro e w62 ⟨rfl, h62⟩
            have B62 := Lib.hid (show Below w60.heap.size w60 w62 from (by first | exact below_a_ B61.out h62 | exact below_da_ B61.out h62))
            clear h62
            go_wp2_with (refine wpList_append_when _ (by rfl) (.tmp 92) (.tmp 97) 37 (by rfl) w53.heap.size 9 i0 (.string .empty) 1 16 Tryz.underlying37 hi0 hz0 hz1 hz2 (by rfl) (by decide) u16 A.length (A.map Value.string) (by rfl) (own_below O60.out (B62.out.alloc B62.out.size _)) (w62.alloc (.cells #[.string T] 9)).heap.size (some ⟨w62.heap.size, 0, none⟩) 1 1 ([T].map Value.string) (by rfl) (strs_reads_ (strs_blk (ss := [T]) (Blk.new w62 9 #[.string T]) rfl)) (ones_texts [T]) hb5 hb6 (Nat.le_trans W60.out.size (Nat.le_trans B62.out.size (by simp))) ?_)
            intro v63 w63 hown hg _
            have hO : OwnT w63 w53.heap.size v63 (A ++ [T]) := by
              unfold OwnT
              rw [List.map_append, List.length_append]
              exact hown
            have O63 := Lib.hid hO
            have W62 := Lib.hid (show Below w53.heap.size w53 (w62.alloc (.cells #[.string T] 9)) from W60.out.trans ((B62.out.alloc B62.out.size _).mono W60.out.size))
            have W63 := Lib.hid (show Below w53.heap.size w53 w63 from W62.out.grown hg W62.out.size (fun k hk => (O60.out.lt k hk).1))
            clear hown hg hO
            go_wp2_with fail
            go_roundw
            case rel => exact ⟨k + 1, HN.out.2, by go_num, by rw [HN.out.1]; exact O63.out, W63.out⟩
            case measure => simp [intOf]; omega
          · have hki : ¬ (k : Int) < 9 := by omega
            obtain rfl : k = 9 := by omega
            obtain ⟨a9, c9, hv9, hs9⟩ := ho.strs
            have hlen : ((I ++ J) ++ keysIn 9).length ≤ 4294967296 := by
              have := HIJ.out.2.2.1; have := HIJ.out.2.2.2
              rw [List.length_append, List.length_append, keysIn_len]; omega
            have B60 := Lib.hid (Q53.out.p.below.trans (hw.mono Q53.out.p.below.size))
            have hcl2 := tclash_any ((I ++ J) ++ keysIn 9) a9 ((I ++ J) ++ keysIn 9).length c9 hlen HSm.out HCl.out w60 hs9 (HT.out.1.below B60.out HT.out.1.lt)
            obtain ⟨m, hm⟩ : ∃ m, ((I ++ J) ++ keysIn 9).length = m := ⟨_, rfl⟩
            rw [hm] at hv9 hcl2
            have HCl2 := Lib.hid hcl2
            subst hv9
            clear ho hw hs9 hlen hcl2 hm
            go_wp2_with fail
            refine HCl2.out.mono ?_
            rintro e w61 ⟨rfl, h61⟩
            have B61 := Lib.hid (B60.out.trans (h61.mono B60.out.size))
            clear h61
            go_wp2_with fail
            go_ret
            exact ⟨rfl, B61.out⟩
  end Go.Proofs.YtnkkckmejjcfkaaGreatDoor.Sp

