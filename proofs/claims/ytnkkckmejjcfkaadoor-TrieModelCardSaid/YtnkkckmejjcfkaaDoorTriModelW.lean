/- The walk of TrieModel. -/
import Derived.Test.YtnkkckmejjcfkaaDoorTriTwo
import Derived.Test.YtnkkckmejjcfkaaDoorTriModP
import Derived.Test.YtnkkckmejjcfkaaDoorTriClash
import Derived.Test.YtnkkckmejjcfkaaDoorTriLastP
import Derived.Test.YtnkkckmejjcfkaaDoorTriRootsH
import Derived.Test.YtnkkckmejjcfkaaDoorTriSet
import Derived.Deep.DeepCutAuto
namespace Go.Proofs.YtnkkckmejjcfkaaDoor.Sp
open Go Go.RowKit
set_option maxRecDepth 100000

set_option maxHeartbeats 8000000 in
theorem tri_model {Tg : World → (Nat → Prop) → Nat → List Ent → Prop} (R : TriR Tg) (acts : List Act) (a : Option Addr) (n c : Nat) (hok : ∀ x ∈ acts, ActOk x) (hn : n ≤ 9223372036854775807) (hnc : n ≤ c) (w : World) (hA : Acts w a n acts) (hT : Tab w) (hQ : Tabs w) :
    Calls Tryd.prog 7 #[.slice a n c] w fun e w' => e = .returned (.bool true) ∧ Below w.heap.size w w' := by
  have hlen := hA.1
  have HT := Lib.hid (And.intro hT hQ)
  have HR := Lib.hid R
  have HAw := Lib.hid (tawake_any R w hT)
  have HOk := Lib.hid hok
  have HA := Lib.hid hA
  clear hT hQ R hok hA
  obtain ⟨i0, hi0, hz0, hz1, hz2⟩ := info_parts infoText
  go_enter Tryd.func7, Tryd.ntmps7
  go_wp2_with fail
  refine HAw.out.mono ?_
  rintro e w1 ⟨rfl, h1⟩
  have B1 := Lib.hid h1
  clear h1
  go_wp2_with fail
  refine (HR.out.new w1).mono ?_
  rintro e w2 ⟨g, F2, rfl, t2, bf2, b2⟩
  have S2 := Lib.hid (show One Tg w w2 F2 g [] from ⟨t2, B1.out.trans (b2.mono B1.out.size), fun k hk => Nat.le_trans B1.out.size (bf2 k hk)⟩)
  clear t2 bf2 b2
  go_wp2_with fail
  obtain ⟨w3, hw3⟩ : ∃ w3, (w2.alloc (.cells (hasV noneM) 51)).alloc (.cells (mvalV noneM) 52) = w3 := ⟨_, rfl⟩
  obtain ⟨gh, hgh⟩ : ∃ gh, w2.heap.size = gh := ⟨_, rfl⟩
  have KH3 := Lib.hid (show Blk w3 gh 51 (hasV noneM) from by rw [← hw3, ← hgh]; exact (Blk.new w2 _ _).alloc _)
  have KV3 := Lib.hid (show Blk w3 (gh + 1) 52 (mvalV noneM) from by
    have hnw := Blk.new (w2.alloc (.cells (hasV noneM) 51)) 52 (mvalV noneM)
    rw [World.size_alloc, hgh, hw3] at hnw
    exact hnw)
  have h3 : Below w2.heap.size w2 w3 := by rw [← hw3]; exact ((Below.refl _ _).alloc (Nat.le_refl _) _).alloc (by rw [World.size_alloc]; omega) _
  have S3 := Lib.hid (S2.out.keep HR.out h3)
  have N3 := Lib.hid (show ¬ F2 gh ∧ ¬ F2 (gh + 1) from ⟨fun h => by have := HR.out.lt S2.out.t _ h; omega, fun h => by have := HR.out.lt S2.out.t _ h; omega⟩)
  rw [hasV_none, mvalV_none] at hw3
  try rw [hgh]
  rw [hw3]
  have HGH := Lib.hid hgh
  clear hw3 hgh h3
  go_loopw [7, 8] (fun v i wr => ∃ k : Nat, k ≤ 9 ∧ i = .int .i64 (k : Int) ∧ OwnT wr w3.heap.size v (keysIn k) ∧ Below w3.heap.size w3 wr) (fun _ i _ => 9 - (intOf i).toNat)
  case atStart => exact ⟨0, by omega, rfl, World.ownsRow_nil _ _ _ _, Below.refl _ _⟩
  case round =>
    obtain ⟨k, hk9, rfl, ho, hw⟩ := hrel
    obtain ⟨w60, rfl⟩ : ∃ w60, w60 = wr := ⟨_, rfl⟩
    by_cases hlt : k < 9
    · have hki : (k : Int) < 9 := by omega
      have HKy := Lib.hid (fun w => key_any (k : Int) (by omega) (by omega) w)
      rw [keyOf_nin k hlt] at HKy
      have HIn := Lib.hid (fun g c w hs => qin_one 6 (by omega) (keyC k) g c w hs (by show (1 : Nat) ≤ _; omega))
      have hnext := keysIn_succ k
      obtain ⟨T, hT⟩ : ∃ T, inT 6 [keyC k] = T := ⟨_, rfl⟩
      rw [show inT (UInt8.ofNat 6) [keyC k] = T from hT] at HIn
      rw [hT] at hnext
      have hAl : (keysIn k).length ≤ 9 := by rw [keysIn_len]; omega
      obtain ⟨A, hA⟩ : ∃ A, keysIn k = A := ⟨_, rfl⟩
      rw [hA] at ho hnext hAl
      obtain ⟨Kk, hKk⟩ : ∃ Kk, keyC k = Kk := ⟨_, rfl⟩
      rw [hKk] at HKy HIn
      have HN := Lib.hid (And.intro hnext hlt)
      have O60 := Lib.hid ho
      have W60 := Lib.hid hw
      have hb5 : A.length + 1 ≤ maxLen := by unfold maxLen; omega
      have hb6 : (A.length + 1) * 16 ≤ 140737488355328 := by omega
      clear hlt ho hw hnext hT hA hKk
      go_wp2_with fail
      refine (HKy.out w60).mono ?_
      rintro e w61 ⟨rfl, h61⟩
      have B61 := Lib.hid h61
      clear h61
      go_wp2_with fail
      refine (HIn.out _ _ _ (by exact strs_blk (Blk.new _ 9 _) rfl)).mono ?_
      rintro e w62 ⟨rfl, h62⟩
      have B62 := Lib.hid (show Below w60.heap.size w60 w62 from (by first | exact below_a_ B61.out h62 | exact below_da_ B61.out h62))
      clear h62
      go_wp2_with (refine wpList_append_when _ (by rfl) (.tmp 27) (.tmp 32) 36 (by rfl) w3.heap.size 9 i0 (.string .empty) 1 16 Tryd.underlying36 hi0 hz0 hz1 hz2 (by rfl) (by decide) u7 A.length (A.map Value.string) (by rfl) (own_below O60.out (B62.out.alloc B62.out.size _)) (w62.alloc (.cells #[.string T] 9)).heap.size (some ⟨w62.heap.size, 0, none⟩) 1 1 ([T].map Value.string) (by rfl) (strs_reads_ (strs_blk (ss := [T]) (Blk.new w62 9 #[.string T]) rfl)) (ones_texts [T]) hb5 hb6 (Nat.le_trans W60.out.size (Nat.le_trans B62.out.size (by simp))) ?_)
      intro v63 w63 hown hg _
      have hO : OwnT w63 w3.heap.size v63 (A ++ [T]) := by
        unfold OwnT
        rw [List.map_append, List.length_append]
        exact hown
      have O63 := Lib.hid hO
      have W62 := Lib.hid (show Below w3.heap.size w3 (w62.alloc (.cells #[.string T] 9)) from W60.out.trans ((B62.out.alloc B62.out.size _).mono W60.out.size))
      have W63 := Lib.hid (show Below w3.heap.size w3 w63 from W62.out.grown hg W62.out.size (fun k hk => (O60.out.lt k hk).1))
      clear hown hg hO
      go_wp2_with fail
      go_roundw
      case rel => exact ⟨k + 1, HN.out.2, by go_num, by rw [HN.out.1]; exact O63.out, W63.out⟩
      case measure => simp [intOf]; omega
    · have hki : ¬ (k : Int) < 9 := by omega
      obtain rfl : k = 9 := by omega
      obtain ⟨a9, c9, hv9, hs9, hb9, hc9⟩ := ho.strs_
      rw [keysIn_len] at hv9 hs9
      subst hv9
      have S60 := Lib.hid (S3.out.keep HR.out hw)
      have KH60 := Lib.hid (KH3.out.below hw KH3.out.lt)
      have KV60 := Lib.hid (KV3.out.below hw KV3.out.lt)
      have IN60 := Lib.hid (show StrsOff w60 F2 a9 9 (keysIn 9) from ⟨hs9, fun _ p hp hf => by
        have h1 := (hb9 p hp).1
        have h2 := HR.out.lt S3.out.t _ hf
        omega⟩)
      have HNE := Lib.hid (show ∀ p, a9 = some p → p.block ≠ gh ∧ p.block ≠ gh + 1 from fun p hp => by
        have h1 := (hb9 p hp).1
        have h2 := KV3.out.lt
        constructor <;> omega)
      have HCl := Lib.hid (fun (h : ¬ Apart9) w (hs : Strs w a9 9 (keysIn 9)) ht => tclash_any (keysIn 9) a9 9 c9 (by omega) (keysIn_small 9) (nine_clash h (fun q hq => by unfold keysIn; exact List.mem_map.2 ⟨q, List.mem_range.2 hq, rfl⟩)) w hs ht)
      clear ho hw hs9 hb9 hc9
      go_wp2_with fail
      go_loopw [9] (fun y wr => ∃ (k : Nat) (F' : Nat → Prop), k ≤ n ∧ k ≤ 40 ∧ y = .int .i64 (k : Int) ∧ One Tg w wr F' g (actsF [] (acts.take k)) ∧ Blk wr gh 51 (hasV (mdlF (acts.take k))) ∧ Blk wr (gh + 1) 52 (mvalV (mdlF (acts.take k))) ∧ (¬ F' gh ∧ ¬ F' (gh + 1)) ∧ StrsOff wr F' a9 9 (keysIn 9)) (fun y _ => 40 - (intOf y).toNat)
      case atStart => exact ⟨0, F2, by omega, by omega, rfl, S60.out, KH60.out, KV60.out, N3.out, IN60.out⟩
      case round =>
        obtain ⟨k, F70, hkn, hk40, rfl, hs, hkh, hkv, hno, hin⟩ := hrel
        obtain ⟨w70, rfl⟩ : ∃ w70, w70 = wr := ⟨_, rfl⟩
        have S70 := Lib.hid hs
        have KH70 := Lib.hid hkh
        have KV70 := Lib.hid hkv
        have N70 := Lib.hid hno
        have IN70 := Lib.hid hin
        clear hs hkh hkv hno hin S60 KH60 KV60 IN60
        by_cases hlt : k < n ∧ k < 40
        · have hki : (k : Int) < (n : Int) := by omega
          have hk4 : (k : Int) < 40 := by omega
          have hk0 : (0 : Int) ≤ (k : Int) := by omega
          obtain ⟨b, off, rfl, c0, c1, c2⟩ := HA.out.at_ S70.out.below hlt.1
          have HA1 := Lib.hid (acts_one HA.out hlt.1)
          have hnext := acts_next [] acts k (by omega)
          have hmnext : mdlF (acts.take (k + 1)) = modelF (mdlF (acts.take k)) (acts.getD k Act.none_) := by rw [take_act acts k (by omega), mdl_snoc]
          have hokx := HOk.out _ (act_mem acts k (by omega))
          have HMod := Lib.hid (fun (ha : Apart9) => And.intro (model_acts ha acts (k + 1) (by omega)) (model_cnt ha acts (k + 1) (by omega)))
          have hL40 : (actsF [] (acts.take k)).length ≤ 40 := by
            have h1 := acts_len (acts.take k) []
            have h2 : (acts.take k).length ≤ 40 := by rw [List.length_take]; omega
            simp only [List.length_nil] at h1
            omega
          obtain ⟨x, hx⟩ : ∃ x, acts.getD k Act.none_ = x := ⟨_, rfl⟩
          rw [hx] at c0 c1 c2 hnext hmnext hokx HA1
          have HX := Lib.hid hx
          obtain ⟨L0, hL0⟩ : ∃ L0, actsF [] (acts.take k) = L0 := ⟨_, rfl⟩
          rw [hL0] at hnext S70 hL40
          obtain ⟨m0, hm0⟩ : ∃ m0, mdlF (acts.take k) = m0 := ⟨_, rfl⟩
          rw [hm0] at hmnext KH70 KV70
          obtain ⟨L, hL⟩ : ∃ L, stepF L0 x = L := ⟨_, rfl⟩
          rw [hL] at hnext
          obtain ⟨m, hm⟩ : ∃ m, modelF m0 x = m := ⟨_, rfl⟩
          rw [hm] at hmnext
          rw [hnext, hmnext] at HMod
          have hLl : L.length ≤ 41 := by
            have := step_len L0 x
            rw [hL] at this
            omega
          obtain ⟨⟨w1a, w1b⟩, ⟨k1a, k1b⟩, hxv⟩ := hokx
          have HD := Lib.hid (fun H z w71 T a n c hA hn => does_any HR.out w w71 F70 H g z L0 [] [x] a n c T ⟨by omega, by decide⟩ (fun y hy => by rw [List.mem_singleton.1 hy]; exact ⟨⟨w1a, w1b⟩, ⟨k1a, k1b⟩, hxv⟩) hA hn HT.out.1 HT.out.2)
          rw [does_one, hL] at HD
          have HPk := Lib.hid (fun w => tpick_any x.key 9 (by omega) (by omega) k1a k1b w)
          have HPw := Lib.hid (fun w => tpick_any x.what 5 (by omega) (by omega) w1a w1b w)
          have hq9 := pickN_lt x.key 9 (by omega)
          have hsH := hasV_step m0 x
          have hsG := mvalV_gone m0 x
          have hsP := mvalV_put m0 x
          obtain ⟨q, hq⟩ : ∃ q, pickN x.key 9 = q := ⟨_, rfl⟩
          obtain ⟨r, hr⟩ : ∃ r, pickN x.what 5 = r := ⟨_, rfl⟩
          rw [hq] at HPk hq9 hsH hsG hsP
          rw [hr] at HPw hsH hsG hsP
          rw [hm] at hsH hsG hsP
          obtain ⟨d, hd⟩ : ∃ d, decide (r < 4) = d := ⟨_, rfl⟩
          have hsV : (d = false → (mvalV m0).setIfInBounds q (.string .empty) = mvalV m) ∧ (d = true → ((mvalV m0).setIfInBounds q (.string .empty)).setIfInBounds q (.string x.value) = mvalV m) := ⟨fun h => hsG (of_decide_eq_false (hd.trans h)), fun h => hsP (of_decide_eq_true (hd.trans h))⟩
          rw [hd] at hsH
          have HsH := Lib.hid hsH
          have HsV := Lib.hid hsV
          have hgH := hasV_get m0 q hq9
          have hgV := mvalV_get m0 q hq9
          have hq9i : (q : Int) < 9 := by omega
          have hq0i : (0 : Int) ≤ (q : Int) := by omega
          have HN := Lib.hid (And.intro hnext (And.intro hmnext (And.intro hlt.1 hlt.2)))
          have HLl := Lib.hid hLl
          clear hx hL0 hm0 hL hm hnext hmnext hLl hL40 hsH hsG hsP hsV hq hr w1a w1b k1a k1b hxv
          have hkw : IntKind.i64.wrap ((k : Int) + 1) = (k : Int) + 1 := by rw [IntKind.wrap_i64]; omega
          have hk5 : (k : Int) + 1 ≤ (n : Int) := by omega
          have hk6 : (k : Int) ≤ (k : Int) + 1 := by omega
          have hk7 : (k : Int) + 1 ≤ (c : Int) := by omega
          have hk8 : (0 : Int) ≤ (k : Int) + 1 := by omega
          go_upto_region 15 with fail
          go_cut [] (fun wx => ∃ F' : Nat → Prop, One Tg w wx F' g L ∧ Blk wx gh 51 (hasV m0) ∧ Blk wx (gh + 1) 52 (mvalV m0) ∧ (¬ F' gh ∧ ¬ F' (gh + 1)) ∧ StrsOff wx F' a9 9 (keysIn 9))
          case first =>
            go_region_held3 (fun _ => True) (trivial) ((first
              | (go_at_call 22; refine (qtnew_any _).mono ?_; rintro e w71 ⟨z, H71, rfl, t71, bf71, b71⟩; have b71 : Below w70.heap.size w70 w71 := (by first | exact b71 | exact below_of_drew b71 | exact below_of_drew (below_of_drew b71)); have bf71 : ∀ k, H71 k → w70.heap.size ≤ k := bf71; have T71 := Lib.hid (Two.fresh HR.out S70.out t71 bf71 b71); have KH71 := Lib.hid (KH70.out.below b71 KH70.out.lt); have KV71 := Lib.hid (KV70.out.below b71 KV70.out.lt); have IN71 := Lib.hid ((IN70.out.fresh bf71).below b71); have N71 := Lib.hid (show ¬ (F70 gh ∨ H71 gh) ∧ ¬ (F70 (gh + 1) ∨ H71 (gh + 1)) from ⟨fun h => h.elim N70.out.1 (fun h => by have := bf71 _ h; have := KH70.out.lt; omega), fun h => h.elim N70.out.2 (fun h => by have := bf71 _ h; have := KV70.out.lt; omega)⟩); clear t71 bf71 b71)
              | (go_at_call 21; refine (HD.out _ _ _ (by first | exact T71.out | exact T71.out.keep HR.out (Below.refl _ _).drew | exact T71.out.keep HR.out (Below.refl _ _).drew.drew) _ _ _ HA1.out (by omega)).mono ?_; rintro e w72 ⟨F72, G72, rfl, s72, u72, n72, m72⟩; have u72 : Turned (fun k => F70 k ∨ H71 k) w71 w72 := (by first | exact u72 | exact Turned.trans (Turned.of_below (Below.refl _ _).drew) (Within.refl _ _) u72); have S72 := Lib.hid s72.one; have KH72 := Lib.hid (blk_turned KH71.out u72 N71.out.1); have KV72 := Lib.hid (blk_turned KV71.out u72 N71.out.2); have N72 := Lib.hid (And.intro (off_within KH71.out.lt (fun h => N71.out.1 (.inl h)) n72) (off_within KV71.out.lt (fun h => N71.out.2 (.inl h)) n72)); have IN72 := Lib.hid ((IN71.out.turn u72 (n72.or m72)).left); clear s72 u72 n72 m72)))
            all_goals (go_wp2_with fail; go_meet; exact ⟨F72, S72.out, KH72.out, KV72.out, N72.out, IN72.out⟩)
          case rest =>
          obtain ⟨F72, hs, hkh, hkv, hno, hin⟩ := hcut
          obtain ⟨w72, rfl⟩ : ∃ w72, w72 = wc := ⟨_, rfl⟩
          have S72 := Lib.hid hs
          have KH72 := Lib.hid hkh
          have KV72 := Lib.hid hkv
          have N72 := Lib.hid hno
          have IN72 := Lib.hid hin
          clear hs hkh hkv hno hin
          clear c0 c1 c2
          obtain ⟨_, _, e2, c0, c1, c2⟩ := HA.out.at_ S72.out.below HN.out.2.2.1
          injection e2 with e2
          injection e2 with e2a e2b
          subst e2a; subst e2b
          rw [HX.out] at c0 c1 c2
          clear hlt
          have kh := KH72.out.cell q
          rw [hgH] at kh
          have fh := KH72.out.frozen q
          have kv := KV72.out.cell q
          rw [hgV] at kv
          have fv := KV72.out.frozen q
          clear hgH hgV
          have hdi : decide ((r : Int) < 4) = d := by rw [← hd]; congr 1; exact propext ⟨fun h => by omega, fun h => by omega⟩
          clear hd
          go_wp2_with fail
          refine (HPk.out w72).mono ?_
          rintro e w73 ⟨rfl, rfl⟩
          go_wp2_with fail
          refine (HPw.out w72).mono ?_
          rintro e w74 ⟨rfl, rfl⟩
          go_upto_if 71 with fail
          have hgw : w.heap.size ≤ gh := by rw [← HGH.out]; exact S2.out.below.size
          obtain ⟨w75, hw75⟩ : ∃ w75, (w72.setCell ⟨gh, q, none⟩ (.bool d)).setCell ⟨gh + 1, q, none⟩ (.string ⟨#[]⟩) = w75 := ⟨_, rfl⟩
          have S75 := Lib.hid (show One Tg w w75 F72 g L from by rw [← hw75]; exact (S72.out.set HR.out q _ N72.out.1 hgw).set HR.out q _ N72.out.2 (by omega))
          have KH75 := Lib.hid (show Blk w75 gh 51 (hasV m) from by rw [← hw75, ← HsH.out]; exact (KH72.out.set_ q _).far (p := ⟨gh + 1, q, none⟩) (by show gh ≠ gh + 1; omega) _)
          have KV75 := Lib.hid (show Blk w75 (gh + 1) 52 ((mvalV m0).setIfInBounds q (.string .empty)) from by rw [← hw75]; exact (KV72.out.far (p := ⟨gh, q, none⟩) (by show gh + 1 ≠ gh; omega) _).set_ q _)
          have IN75 := Lib.hid (show StrsOff w75 F72 a9 9 (keysIn 9) from by rw [← hw75]; exact (IN72.out.set q _ (fun p hp => (HNE.out p hp).1)).set q _ (fun p hp => (HNE.out p hp).2))
          rw [hw75]
          clear hw75 kh kv fh fv c0 c1 c2
          obtain ⟨_, _, e2, c0, c1, c2⟩ := HA.out.at_ S75.out.below HN.out.2.2.1
          injection e2 with e2
          injection e2 with e2a e2b
          subst e2a; subst e2b
          rw [HX.out] at c0 c1 c2
          have fv := KV75.out.frozen q
          have kv := KV75.out.cell q
          have hszV : (mvalV m0).size = 9 := by simp [mvalV]
          have kv2 : w75.cell? ⟨gh + 1, q, none⟩ = some (.string .empty) := by rw [kv, Array.getElem?_setIfInBounds_self_of_lt (by rw [hszV]; exact hq9)]
          clear kv hszV
          go_cut [] (fun wx => One Tg w wx F72 g L ∧ Blk wx gh 51 (hasV m) ∧ Blk wx (gh + 1) 52 (mvalV m) ∧ StrsOff wx F72 a9 9 (keysIn 9))
          case first =>
            cases d
            · have HV1 := Lib.hid (HsV.out.1 rfl)
              go_wp2_with fail
              go_meet
              exact ⟨S75.out, KH75.out, by rw [← HV1.out]; exact KV75.out, IN75.out⟩
            · have HV1 := Lib.hid (HsV.out.2 rfl)
              go_wp2_with fail
              go_meet
              exact ⟨S75.out.set HR.out q _ N72.out.2 (by omega), KH75.out.far (p := ⟨gh + 1, q, none⟩) (by show gh ≠ gh + 1; omega) _, by rw [← HV1.out]; exact KV75.out.set_ q _, IN75.out.set q _ (fun p hp => (HNE.out p hp).2)⟩
          case rest =>
          obtain ⟨hs, hkh, hkv, hin⟩ := hcut
          obtain ⟨w76, rfl⟩ : ∃ w76, w76 = wc := ⟨_, rfl⟩
          have S76 := Lib.hid hs
          have KH76 := Lib.hid hkh
          have KV76 := Lib.hid hkv
          have IN76 := Lib.hid hin
          clear hs hkh hkv hin c0 c1 c2 fv kv2 S75 KH75 KV75 IN75 S72 KH72 KV72 IN72 HsV HsH hq9i hq0i hdi
          go_wp2_with fail
          go_loopw [11, 12] (fun s y wr => ∃ (j : Nat) (F' : Nat → Prop), j ≤ 9 ∧ y = .int .i64 (j : Int) ∧ s = .int .i64 ((cntF m j : Nat) : Int) ∧ One Tg w wr F' g L ∧ Blk wr gh 51 (hasV m) ∧ Blk wr (gh + 1) 52 (mvalV m) ∧ (¬ F' gh ∧ ¬ F' (gh + 1)) ∧ StrsOff wr F' a9 9 (keysIn 9)) (fun _ y _ => 9 - (intOf y).toNat)
          case atStart => exact ⟨0, F72, by omega, rfl, rfl, S76.out, KH76.out, KV76.out, N72.out, IN76.out⟩
          case round =>
            obtain ⟨j, F80, hj9, rfl, rfl, hs, hkh, hkv, hno, hin⟩ := hrel
            obtain ⟨w80, rfl⟩ : ∃ w80, w80 = wr := ⟨_, rfl⟩
            have S80 := Lib.hid hs
            have KH80 := Lib.hid hkh
            have KV80 := Lib.hid hkv
            have N80 := Lib.hid hno
            have IN80 := Lib.hid hin
            clear hs hkh hkv hno hin S76 KH76 KV76 IN76
            have hcle := cntF_le m j
            by_cases hjt : j < 9
            · have hji : (j : Int) < 9 := by omega
              have hj0 : (0 : Int) ≤ (j : Int) := by omega
              have HKy := Lib.hid (fun w => key_any (j : Int) (by omega) (by omega) w)
              rw [keyOf_nin j hjt] at HKy
              have hgH := hasV_get m j hjt
              have hgV := mvalV_get m j hjt
              have hos := opt_same (getF L (pathC j)) (m j)
              have hcn := cntF_succ m j
              have HBad := Lib.hid (show getF L (pathC j) ≠ m j → ¬ Apart9 from fun h ha => h ((HMod.out ha).1 j hjt))
              obtain ⟨cj, hcj⟩ : ∃ cj, cntF m j = cj := ⟨_, rfl⟩
              rw [hcj] at hcle hcn
              have hcw : IntKind.i64.wrap ((cj : Int) + 1) = (cj : Int) + 1 := by rw [IntKind.wrap_i64]; omega
              obtain ⟨v0, hv0⟩ : ∃ v0, (getF L (pathC j)).getD .empty = v0 := ⟨_, rfl⟩
              obtain ⟨is, his⟩ : ∃ is, (getF L (pathC j)).isSome = is := ⟨_, rfl⟩
              obtain ⟨u0, hu0⟩ : ∃ u0, (m j).getD .empty = u0 := ⟨_, rfl⟩
              obtain ⟨us, hus⟩ : ∃ us, (m j).isSome = us := ⟨_, rfl⟩
              rw [hv0, his, hu0, hus] at hos
              rw [hu0] at hgV
              rw [hus] at hgH hcn
              obtain ⟨X, hX⟩ : ∃ X, (v0.toList == u0.toList) = X := ⟨_, rfl⟩
              rw [hX] at hos
              have HV := Lib.hid (And.intro hv0 his)
              have HOs := Lib.hid hos
              have HCn := Lib.hid hcn
              have HCj := Lib.hid hcj
              have HJ := Lib.hid hjt
              obtain ⟨Kk, hKk⟩ : ∃ Kk, keyC j = Kk := ⟨_, rfl⟩
              have HKs := Lib.hid (show Kk.size ≤ 140737488351232 from by rw [← hKk]; show (1 : Nat) ≤ _; omega)
              have hKp : pathC j = keyP Kk := by rw [← hKk]; rfl
              rw [hKk] at HKy
              rw [hKp] at HV
              rw [hcj]
              clear hos hcn hv0 his hu0 hus hKk hKp hjt hcj
              go_wp2_with fail
              refine (HKy.out w80).mono ?_
              rintro e w81 ⟨rfl, h81⟩
              have S81 := Lib.hid (S80.out.keep HR.out h81)
              have KH81 := Lib.hid (KH80.out.below h81 KH80.out.lt)
              have KV81 := Lib.hid (KV80.out.below h81 KV80.out.lt)
              have IN81 := Lib.hid (IN80.out.below h81)
              clear h81
              go_wp2_with fail
              refine (HR.out.get w81 F80 g L Kk S81.out.t HKs.out (S81.out.tab HT.out.1)).mono ?_
              rintro e w82 ⟨F82, rfl, t82, u82, n82⟩
              rw [HV.out.1, HV.out.2]
              have S82 := Lib.hid (S81.out.turn t82 u82 n82)
              have KH82 := Lib.hid (blk_turned KH81.out u82 N80.out.1)
              have KV82 := Lib.hid (blk_turned KV81.out u82 N80.out.2)
              have N82 := Lib.hid (And.intro (off_within KH81.out.lt N80.out.1 n82) (off_within KV81.out.lt N80.out.2 n82))
              have IN82 := Lib.hid (IN81.out.turn u82 n82)
              clear t82 u82 n82
              have kh := KH82.out.cell j
              rw [hgH] at kh
              have kv := KV82.out.cell j
              rw [hgV] at kv
              clear hgH hgV
              go_upto_if 92 with fail
              go_cut [11] (fun s wx => s = .int .i64 ((cntF m (j + 1) : Nat) : Int) ∧ wx = w82)
              case first =>
                cases us
                · go_wp2_with fail
                  go_meet
                  exact ⟨by rw [HCn.out]; rfl, rfl⟩
                · go_wp2_with fail
                  go_meet
                  exact ⟨by rw [HCn.out]; rfl, rfl⟩
              case rest =>
              obtain ⟨rfl, rfl⟩ := hcut
              by_cases hE : getF L (pathC j) = m j
              · have h2 := HOs.out
                rw [decide_eq_true hE, Bool.and_eq_true] at h2
                obtain ⟨rfl, h3⟩ := h2
                obtain rfl : is = us := beq_iff_eq.1 h3
                clear h3
                cases is
                all_goals
                  go_wp2_with fail
                  go_roundw
                  case rel => exact ⟨j + 1, F82, HJ.out, by go_num, rfl, S82.out, KH82.out, KV82.out, N82.out, IN82.out⟩
                  case measure => simp [intOf]; omega
              · have h2 := HOs.out
                rw [decide_eq_false hE] at h2
                have HBd := Lib.hid (HCl.out (HBad.out hE) wc IN82.out.1 (S82.out.tab HT.out.1))
                clear hE
                cases X <;> cases is <;> cases us
                all_goals first
                  | (exact absurd h2 (by decide))
                  | (clear h2; go_wp2_with fail; refine HBd.out.mono ?_; rintro e w83 ⟨rfl, h83⟩; have B83 := Lib.hid (S82.out.below.trans (h83.mono S82.out.below.size)); clear h83; go_wp2_with fail; go_ret; exact ⟨rfl, B83.out⟩)
            · have hji : ¬ (j : Int) < 9 := by omega
              obtain rfl : j = 9 := by omega
              have hll : L.length ≤ 41 := HLl.out
              have HBad := Lib.hid (show L.length ≠ cntF m 9 → ¬ Apart9 from fun h ha => h (HMod.out ha).2)
              obtain ⟨cj, hcj⟩ : ∃ cj, cntF m 9 = cj := ⟨_, rfl⟩
              obtain ⟨Ln, hLn⟩ : ∃ Ln, L.length = Ln := ⟨_, rfl⟩
              rw [hLn] at hll
              rw [hcj] at hcle
              rw [hLn, hcj] at HBad
              rw [hcj]
              have HLn := Lib.hid hLn
              clear hcj hLn
              go_wp2_with fail
              refine (HR.out.len w80 F80 g L S80.out.t).mono ?_
              rintro e w82 ⟨F82, rfl, t82, u82, n82⟩
              rw [HLn.out]
              have S82 := Lib.hid (S80.out.turn t82 u82 n82)
              have KH82 := Lib.hid (blk_turned KH80.out u82 N80.out.1)
              have KV82 := Lib.hid (blk_turned KV80.out u82 N80.out.2)
              have N82 := Lib.hid (And.intro (off_within KH80.out.lt N80.out.1 n82) (off_within KV80.out.lt N80.out.2 n82))
              have IN82 := Lib.hid (IN80.out.turn u82 n82)
              clear t82 u82 n82
              by_cases hE : Ln = cj
              · subst hE
                go_wp2_with fail
                go_roundw
                case rel => exact ⟨k + 1, F82, HN.out.2.2.1, HN.out.2.2.2, by go_num, by rw [HN.out.1]; exact S82.out, by rw [HN.out.2.1]; exact KH82.out, by rw [HN.out.2.1]; exact KV82.out, N82.out, IN82.out⟩
                case measure => simp [intOf]; omega
              · have HBd := Lib.hid (HCl.out (HBad.out hE) w82 IN82.out.1 (S82.out.tab HT.out.1))
                have hEi : ((Ln : Int) == (cj : Int)) = false := beq_false_of_ne (by omega)
                clear hE
                go_wp2_with fail
                refine HBd.out.mono ?_
                rintro e w83 ⟨rfl, h83⟩
                have B83 := Lib.hid (S82.out.below.trans (h83.mono S82.out.below.size))
                clear h83
                go_wp2_with fail
                go_ret
                exact ⟨rfl, B83.out⟩
        · by_cases hkn2 : k < n
          · have hki : (k : Int) < (n : Int) := by omega
            have hk4 : ¬ (k : Int) < 40 := by omega
            go_wp2_with fail
            go_ret
            exact ⟨rfl, S70.out.below⟩
          · have hki : ¬ (k : Int) < (n : Int) := by omega
            go_wp2_with fail
            go_ret
            exact ⟨rfl, S70.out.below⟩

end Go.Proofs.YtnkkckmejjcfkaaDoor.Sp
