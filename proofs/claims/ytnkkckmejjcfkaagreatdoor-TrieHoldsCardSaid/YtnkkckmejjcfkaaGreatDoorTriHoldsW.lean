/- The walk of TrieHolds. -/
import Derived.Test.YtnkkckmejjcfkaaGreatDoorGzZ
import Derived.Test.YtnkkckmejjcfkaaGreatDoorTriProof
import Derived.Test.YtnkkckmejjcfkaaGreatDoorTriRootsH
import Derived.Test.YtnkkckmejjcfkaaGreatDoorTriQProved
import Derived.Test.YtnkkckmejjcfkaaGreatDoorTriSet
import Derived.Deep.DeepCutAuto
namespace Go.Proofs.YtnkkckmejjcfkaaGreatDoor.Sp
open Go Go.RowKit
set_option maxRecDepth 100000

theorem bool_same (b : Bool) : (b == b) = true := by cases b <;> rfl

set_option maxHeartbeats 16000000 in
theorem tri_holds {Tg : World → (Nat → Prop) → Nat → List Ent → Prop} (R : TriR Tg) (root key value : ByteArray) (q : Prf) (pa : Option Addr) (pn pc : Nat) (acts : List Act) (a : Option Addr) (n c : Nat) (which : Int) (part : ByteArray) (hk : key.size ≤ 140737488351232) (hv : value.size ≤ 140737488351232) (hqv : q.value.size ≤ 140737488351232) (hpn : pn ≤ 9223372036854775807) (hok : ∀ x ∈ acts, ActOk x) (hn : n ≤ 9223372036854775807) (hw0 : -9223372036854775808 ≤ which) (hw1 : which ≤ 9223372036854775807) (hpt : part.size ≤ 140737488351232) (w : World) (hP : Strs w pa pn q.beside) (hA : Acts w a n acts) (hT : Tab w) (hQ : Tabs w) :
    Calls Tryz.prog 4 #[.string root, .string key, .string value, prfV pa pn pc q, .slice a n c, .int .i64 which, .string part] w fun e w' => e = .returned (.bool true) ∧ Below w.heap.size w w' := by
  obtain ⟨bs, lf, qp, qv⟩ := q
  unfold prfV
  simp only at hqv hP ⊢
  have HT := Lib.hid (And.intro hT hQ)
  have HR := Lib.hid R
  have HAw := Lib.hid (fun w hT => tawake_any R w hT)
  obtain ⟨L, Le⟩ : ∃ L, doesF [] acts = L := ⟨_, rfl⟩
  have HFit := Lib.hid (show FitT L from by rw [← Le]; exact does_fit _ fitT_nil)
  have HLl := Lib.hid (show L.length ≤ 1000000 from by have := does_len acts []; rw [Le] at this; simp only [List.length_nil] at this; omega)
  have HOk := Lib.hid (And.intro hok (And.intro hA Le))
  obtain ⟨RL, hRL⟩ : ∃ RL, rootF L = RL := ⟨_, rfl⟩
  have HRL := Lib.hid hRL
  have HP := Lib.hid hP
  have HSz := Lib.hid (And.intro hk (And.intro hv (And.intro hqv hpt)))
  have HK0 := Lib.hid (fun w => key_any which hw0 hw1 w)
  have HPn := Lib.hid (fun n w h0 h1 => tpick_any which n h0 h1 hw0 hw1 w)
  have HP3 := Lib.hid (fun w => tpick_any which 3 (by omega) (by omega) hw0 hw1 w)
  have HP7 := Lib.hid (fun w => tpick_any which 7 (by omega) (by omega) hw0 hw1 w)
  have HP11 := Lib.hid (fun w => tpick_any which 11 (by omega) (by omega) hw0 hw1 w)
  obtain ⟨r3, hr3⟩ : ∃ r, pickN which 3 = r := ⟨_, rfl⟩
  obtain ⟨r7, hr7⟩ : ∃ r, pickN which 7 = r := ⟨_, rfl⟩
  obtain ⟨r11, hr11⟩ : ∃ r, pickN which 11 = r := ⟨_, rfl⟩
  rw [hr3] at HP3
  rw [hr7] at HP7
  rw [hr11] at HP11
  have HKs := Lib.hid (show (keyOf which).size ≤ 140737488351232 from by show (1 : Nat) ≤ _; omega)
  obtain ⟨K1, hK1⟩ : ∃ K, keyOf which = K := ⟨_, rfl⟩
  rw [hK1] at HK0 HKs
  clear hT hQ R hok hA Le hRL hP hk hqv hv hpt hr3 hr7 hr11 hK1 hw0 hw1
  go_enter Tryz.func4, Tryz.ntmps4
  go_wp2_with fail
  obtain ⟨w0, hw0⟩ : ∃ w0, w.alloc (.cells #[.slice pa pn pc, .bool lf, .string qp, .string qv] 39) = w0 := ⟨_, rfl⟩
  obtain ⟨gp, hgp⟩ : ∃ gp, w.heap.size = gp := ⟨_, rfl⟩
  have KP0 := Lib.hid (show Blk w0 gp 39 #[.slice pa pn pc, .bool lf, .string qp, .string qv] from by rw [← hw0, ← hgp]; exact Blk.new _ _ _)
  have B0 := Lib.hid (show Below w.heap.size w w0 from by rw [← hw0]; exact (Below.refl _ _).alloc (Nat.le_refl _) _)
  have HGp := Lib.hid hgp
  rw [hw0]
  try rw [hgp]
  clear hw0 hgp
  refine (HAw.out w0 (HT.out.1.below B0.out HT.out.1.lt)).mono ?_
  rintro e w1 ⟨rfl, h1⟩
  have B1 := Lib.hid (B0.out.trans (h1.mono B0.out.size))
  have KP1 := Lib.hid (KP0.out.below h1 KP0.out.lt)
  clear h1
  have d0 := KP1.out.cell 0
  have d1 := KP1.out.cell 1
  have d2 := KP1.out.cell 2
  have d3 := KP1.out.cell 3
  simp only [List.getElem?_toArray, List.getElem?_cons_zero, List.getElem?_cons_succ] at d0 d1 d2 d3
  by_cases h300 : 300 < pn
  · have h300i : 300 < (pn : Int) := by omega
    go_wp2_with fail
    go_ret
    exact ⟨rfl, B1.out⟩
  · have h300i : ¬ 300 < (pn : Int) := by omega
    go_wp2_with fail
    refine (qtnew_any w1).mono ?_
    rintro e w2 ⟨h, G2, rfl, t2, bf2, b2⟩
    have U2 := Lib.hid (And.intro t2 (And.intro bf2 b2))
    have KP2 := Lib.hid (KP1.out.below b2 KP1.out.lt)
    have NG2 := Lib.hid (show ¬ G2 gp from fun h => by have := bf2 _ h; have := KP1.out.lt; omega)
    clear t2 bf2 b2 d0 d1 d2 d3
    go_wp2_with fail
    refine (HR.out.new w2).mono ?_
    rintro e w3 ⟨g, F3, rfl, t3, bf3, b3⟩
    have T3 := Lib.hid (show Two Tg w w3 F3 G2 g h [] [] from ⟨t3, U2.out.1.below b3, fun k hf hg => by have := U2.out.1.lt k hg; have := bf3 k hf; omega, (B1.out.trans (U2.out.2.2.mono B1.out.size)).trans (b3.mono (B1.out.trans (U2.out.2.2.mono B1.out.size)).size), fun k hk => Nat.le_trans (B1.out.trans (U2.out.2.2.mono B1.out.size)).size (bf3 k hk), fun k hk => Nat.le_trans B1.out.size (U2.out.2.1 k hk)⟩)
    have KP3 := Lib.hid (KP2.out.below b3 KP2.out.lt)
    have NF3 := Lib.hid (show ¬ F3 gp from fun h => by have := bf3 _ h; have := KP2.out.lt; omega)
    clear t3 bf3 b3
    go_wp2_with fail
    refine (does_any HR.out w w3 F3 G2 g h [] [] acts a n c T3.out (by decide) HOk.out.1 HOk.out.2.1 hn HT.out.1 HT.out.2).mono ?_
    rintro e w4 ⟨F4, G4, rfl, s4, u4, n4, m4⟩
    rw [HOk.out.2.2] at s4
    have T4 := Lib.hid s4
    have KP4 := Lib.hid (blk_turned KP3.out u4 (fun h => h.elim NF3.out NG2.out))
    have NG4 := Lib.hid (off_within KP3.out.lt NG2.out m4)
    clear s4 u4 n4 m4
    go_wp2_with fail
    refine (HK0.out w4).mono ?_
    rintro e w5 ⟨rfl, h5⟩
    have T5 := Lib.hid (T4.out.keep HR.out h5)
    have KP5 := Lib.hid (KP4.out.below h5 KP4.out.lt)
    clear h5
    go_wp2_with fail
    refine (qprove_own w5 G4 h L K1 T5.out.u HKs.out HLl.out (HT.out.2.below T5.out.below)).mono ?_
    rintro e w6 ⟨ao, co, rfl, ho, h6⟩
    have hol := (proof_len HFit.out (keyP K1)).1
    have hpv := proof_value HFit.out (HR.out.fit T5.out.t).2 (keyP K1)
    obtain ⟨Po, hPo⟩ : ∃ Po, proofF L (keyP K1) = Po := ⟨_, rfl⟩
    rw [hPo] at ho hol hpv ⊢
    obtain ⟨ob, olf, op, ov⟩ := Po
    unfold prfV
    simp only at ho hol hpv ⊢
    obtain ⟨m, hm⟩ : ∃ m, ob.length = m := ⟨_, rfl⟩
    rw [hm] at ho hol ⊢
    have T6 := Lib.hid (T5.out.keep HR.out h6)
    have KP6 := Lib.hid (KP5.out.below h6 KP5.out.lt)
    have O6 := Lib.hid ho
    have NO6 := Lib.hid (show ∀ p, ao = some p → ¬ G4 p.block ∧ p.block ≠ gp from fun p hp => by
      have h8 := (World.ownsRow.lt ho p.block (by rw [hp]; rfl)).1
      exact ⟨fun hg => by have := T5.out.u.lt _ hg; omega, fun e => by have := KP5.out.lt; omega⟩)
    have HOl := Lib.hid (And.intro hm (And.intro hol hpv))
    clear ho h6 hPo hm hol hpv
    go_wp2_with fail
    obtain ⟨w7, hw7⟩ : ∃ w7, w6.alloc (.cells #[.slice ao m co, .bool olf, .string op, .string ov] 39) = w7 := ⟨_, rfl⟩
    obtain ⟨gq, hgq⟩ : ∃ gq, w6.heap.size = gq := ⟨_, rfl⟩
    have h7 : Below w6.heap.size w6 w7 := by rw [← hw7]; exact (Below.refl _ _).alloc (Nat.le_refl _) _
    have KQ7 := Lib.hid (show Blk w7 gq 39 #[.slice ao m co, .bool olf, .string op, .string ov] from by rw [← hw7, ← hgq]; exact Blk.new _ _ _)
    have NQ7 := Lib.hid (show ¬ G4 gq ∧ gp ≠ gq ∧ w.heap.size ≤ gq ∧ ¬ F4 gq from ⟨fun hg => by have := T6.out.u.lt _ hg; omega, by have := KP6.out.lt; omega, by rw [← hgq]; exact T6.out.below.size, fun hf => by have := HR.out.lt T6.out.t _ hf; omega⟩)
    have T7 := Lib.hid (T6.out.keep HR.out h7)
    have KP7 := Lib.hid (KP6.out.below h7 KP6.out.lt)
    have O7 := Lib.hid (own_below O6.out h7)
    rw [hw7]
    try rw [hgq]
    clear hw7 hgq h7
    obtain ⟨v0, hv0⟩ : ∃ v0, (getF L (keyP K1)).getD .empty = v0 := ⟨_, rfl⟩
    obtain ⟨is, his⟩ : ∃ is, (getF L (keyP K1)).isSome = is := ⟨_, rfl⟩
    have HV := Lib.hid (And.intro hv0 (And.intro his (show v0.size ≤ 140737488351232 from by
      rw [← hv0]
      cases hg : getF L (keyP K1) with
      | none => exact Nat.zero_le _
      | some v => exact (HR.out.fit T7.out.t).2 _ ((get_some HFit.out).1 hg))))
    clear hv0 his
    refine (qget_any w7 G4 h L K1 T7.out.u HKs.out HLl.out (HT.out.2.below T7.out.below)).mono ?_
    rintro e w8 ⟨G8, rfl, t8, u8, n8⟩
    rw [HV.out.1, HV.out.2.1]
    have T8 := Lib.hid (T7.out.second HR.out t8 u8 n8)
    have KP8 := Lib.hid (blk_turned KP7.out u8 NG4.out)
    have KQ8 := Lib.hid (blk_turned KQ7.out u8 NQ7.out.1)
    have O8 := Lib.hid (OwnT.turned O7.out u8 (fun p hp => (NO6.out p hp).1))
    have N8 := Lib.hid (show ¬ G8 gp ∧ ¬ G8 gq ∧ ∀ p, ao = some p → ¬ G8 p.block from ⟨off_within KP7.out.lt NG4.out n8, off_within KQ7.out.lt NQ7.out.1 n8, fun p hp => off_within (World.ownsRow.lt O7.out p.block (by rw [hp]; rfl)).2 (NO6.out p hp).1 n8⟩)
    clear t8 u8 n8 T7 KP7 KQ7 O7 T6 KP6 O6
    have d0 := KQ8.out.cell 0
    simp only [List.getElem?_toArray, List.getElem?_cons_zero] at d0
    go_upto_region 13 with fail
    obtain ⟨c1, hc1⟩ : ∃ c1, (decide (0 < m) && decide (r3 = 0)) = c1 := ⟨_, rfl⟩
    have HC1 := Lib.hid hc1
    clear hc1
    go_cut [63] (fun s wx => s = .bool c1 ∧ wx = w8)
    case first =>
      by_cases hm0 : 0 < m
      · have hm0i : 0 < (m : Int) := by omega
        by_cases h3 : r3 = 0
        · subst h3
          go_wp2_with fail
          refine (HP3.out w8).mono ?_
          rintro e w9 ⟨rfl, rfl⟩
          go_wp2_with fail
          go_meet
          exact ⟨by rw [← HC1.out, decide_eq_true hm0]; rfl, rfl⟩
        · have h3i : ((r3 : Int) == 0) = false := beq_false_of_ne (by omega)
          go_wp2_with fail
          refine (HP3.out w8).mono ?_
          rintro e w9 ⟨rfl, rfl⟩
          go_wp2_with fail
          go_meet
          exact ⟨by rw [← HC1.out, decide_eq_false h3, Bool.and_false], rfl⟩
      · have hm0i : ¬ 0 < (m : Int) := by omega
        go_wp2_with fail
        go_meet
        exact ⟨by rw [← HC1.out, decide_eq_false hm0]; rfl, rfl⟩
    case rest =>
    obtain ⟨rfl, rfl⟩ := hcut
    obtain ⟨w8, rfl⟩ : ∃ w8, w8 = wc := ⟨_, rfl⟩
    go_upto_if 63 with fail
    go_cut [] (fun wx => ∃ ob2 : List ByteArray, ob2.length = m ∧ Two Tg w wx F4 G8 g h L L ∧ Blk wx gp 39 #[.slice pa pn pc, .bool lf, .string qp, .string qv] ∧ Blk wx gq 39 #[.slice ao m co, .bool olf, .string op, .string ov] ∧ OwnT wx w5.heap.size (.slice ao m co) ob2)
    case first =>
      cases c1
      · go_wp2_with fail
        go_meet
        exact ⟨ob, HOl.out.1, T8.out, KP8.out, KQ8.out, O8.out⟩
      · have hm0 : 0 < m := by
          have h9 := HC1.out
          rw [Bool.and_eq_true] at h9
          exact of_decide_eq_true h9.1
        obtain ⟨gb, rfl, hgb, hgl, hput⟩ := OwnT.put O8.out (by rw [HOl.out.1]; exact hm0)
        have HPm := Lib.hid (fun w => HPn.out m w hm0 (by have := HOl.out.2.1; omega))
        have hjm := pickN_lt which m hm0
        obtain ⟨j, hj⟩ : ∃ j, pickN which m = j := ⟨_, rfl⟩
        rw [hj] at HPm hjm
        obtain ⟨fz, ⟨cu, hcu⟩, ho2⟩ := hput j (by rw [HOl.out.1]; exact hjm) part
        have HO2 := Lib.hid ho2
        have hji : (j : Int) < (m : Int) := by omega
        have hj0 : (0 : Int) ≤ (j : Int) := by omega
        have hwgb : w.heap.size ≤ gb := Nat.le_trans T5.out.below.size hgb
        have hngb := N8.out.2.2 _ rfl
        have hgbp := (NO6.out _ rfl).2
        have hFgb : ¬ F4 gb := fun hf => by have := HR.out.lt T5.out.t _ hf; omega
        have hgbq : gb ≠ gq := fun e => own_blk_ne O8.out KQ8.out (by decide) (by rw [e]; rfl)
        have hr9 : ∃ ob2 : List ByteArray, ob2.length = m ∧ Two Tg w (w8.setCell ⟨gb, j, none⟩ (.string part)) F4 G8 g h L L ∧ Blk (w8.setCell ⟨gb, j, none⟩ (.string part)) gp 39 #[.slice pa pn pc, .bool lf, .string qp, .string qv] ∧ Blk (w8.setCell ⟨gb, j, none⟩ (.string part)) gq 39 #[.slice (some ⟨gb, 0, none⟩) m co, .bool olf, .string op, .string ov] ∧ OwnT (w8.setCell ⟨gb, j, none⟩ (.string part)) w5.heap.size (.slice (some ⟨gb, 0, none⟩) m co) ob2 :=
          ⟨ob.set j part, by rw [List.length_set]; exact HOl.out.1, T8.out.set HR.out j _ hFgb hngb hwgb, KP8.out.far (p := ⟨gb, j, none⟩) (fun e => hgbp e.symm) _, KQ8.out.far (p := ⟨gb, j, none⟩) (fun e => hgbq e.symm) _, HO2.out⟩
        have R9 := Lib.hid hr9
        have R9d := Lib.hid (show ∃ ob2 : List ByteArray, ob2.length = m ∧ Two Tg w (w8.setCell ⟨gb, j, none⟩ (.string part)).drew F4 G8 g h L L ∧ Blk (w8.setCell ⟨gb, j, none⟩ (.string part)).drew gp 39 #[.slice pa pn pc, .bool lf, .string qp, .string qv] ∧ Blk (w8.setCell ⟨gb, j, none⟩ (.string part)).drew gq 39 #[.slice (some ⟨gb, 0, none⟩) m co, .bool olf, .string op, .string ov] ∧ OwnT (w8.setCell ⟨gb, j, none⟩ (.string part)).drew w5.heap.size (.slice (some ⟨gb, 0, none⟩) m co) ob2 from by
          obtain ⟨o2, e1, e2, e3, e4, e5⟩ := hr9
          exact ⟨o2, e1, e2.keep HR.out (Below.refl _ _).drew, e3, e4, e5⟩)
        have fzd : w8.drew.frozen? ⟨gb, j, none⟩ = false := fz
        have hcud : w8.drew.cell? ⟨gb, j, none⟩ = some cu := hcu
        have hs1 : (w8.setCell ⟨gb, j, none⟩ (.string part)).drew.cell? ⟨gq, 0, none⟩ = some (.slice (some ⟨gb, 0, none⟩) m co) := (KQ8.out.far (p := ⟨gb, j, none⟩) (fun e => hgbq e.symm) _).cell 0
        clear hput ho2 hj hr9
        go_wp2_with fail
        go_region_held3 (fun w' => w'.cell? ⟨gq, 0, none⟩ = some (.slice (some ⟨gb, 0, none⟩) m co)) ((first | (with_reducible assumption) | exact hs1 | exact d0)) ((go_at_call 23; refine (HPm.out _).mono ?_; rintro e w9 ⟨rfl, rfl⟩))
        all_goals (go_wp2_with fail; go_meet; first | exact R9.out | exact R9d.out)
    case rest =>
    obtain ⟨ob2, hbl2, ht, hkp, hkq, ho⟩ := hcut
    obtain ⟨w9, rfl⟩ : ∃ w9, w9 = wc := ⟨_, rfl⟩
    have T9 := Lib.hid ht
    have KP9 := Lib.hid hkp
    have KQ9 := Lib.hid hkq
    have O9 := Lib.hid ho
    clear ht hkp hkq ho
    have HB2 := Lib.hid hbl2
    clear hbl2 d0 T8 KP8 KQ8 O8 HC1
    go_wp2_with fail
    refine (HP7.out w9).mono ?_
    rintro e w10 ⟨rfl, rfl⟩
    have f9 := KQ9.out.frozen 2
    have d9 := KQ9.out.cell 2
    simp only [List.getElem?_toArray, List.getElem?_cons_zero, List.getElem?_cons_succ] at d9
    go_upto_if 73 with fail
    go_cut [] (fun wx => ∃ op2 : ByteArray, Two Tg w wx F4 G8 g h L L ∧ Blk wx gp 39 #[.slice pa pn pc, .bool lf, .string qp, .string qv] ∧ Blk wx gq 39 #[.slice ao m co, .bool olf, .string op2, .string ov] ∧ OwnT wx w5.heap.size (.slice ao m co) ob2)
    case first =>
      by_cases h9 : r7 = 1
      · subst h9
        go_wp2_with fail
        go_meet
        exact ⟨part, T9.out.set HR.out 2 _ NQ7.out.2.2.2 N8.out.2.1 NQ7.out.2.2.1, KP9.out.far (p := ⟨gq, 2, none⟩) NQ7.out.2.1 _, KQ9.out.set_ 2 _, own_set O9.out KQ9.out (by decide) 2 _⟩
      · have h9i : ((r7 : Int) == 1) = false := beq_false_of_ne (by omega)
        go_wp2_with fail
        go_meet
        exact ⟨op, T9.out, KP9.out, KQ9.out, O9.out⟩
    case rest =>
    obtain ⟨op2, ht, hkp, hkq, ho⟩ := hcut
    obtain ⟨w10, rfl⟩ : ∃ w10, w10 = wc := ⟨_, rfl⟩
    have T10 := Lib.hid ht
    have KP10 := Lib.hid hkp
    have KQ10 := Lib.hid hkq
    have O10 := Lib.hid ho
    clear ht hkp hkq ho
    clear f9 d9 T9 KP9 KQ9 O9
    go_wp2_with fail
    refine (HP11.out w10).mono ?_
    rintro e w11 ⟨rfl, rfl⟩
    have f9 := KQ10.out.frozen 3
    have d9 := KQ10.out.cell 3
    simp only [List.getElem?_toArray, List.getElem?_cons_zero, List.getElem?_cons_succ] at d9
    go_upto_if 78 with fail
    go_cut [] (fun wx => ∃ ov2 : ByteArray, ov2.size ≤ 140737488351232 ∧ Two Tg w wx F4 G8 g h L L ∧ Blk wx gp 39 #[.slice pa pn pc, .bool lf, .string qp, .string qv] ∧ Blk wx gq 39 #[.slice ao m co, .bool olf, .string op2, .string ov2] ∧ OwnT wx w5.heap.size (.slice ao m co) ob2)
    case first =>
      by_cases h9 : r11 = 1
      · subst h9
        go_wp2_with fail
        go_meet
        exact ⟨part, HSz.out.2.2.2, T10.out.set HR.out 3 _ NQ7.out.2.2.2 N8.out.2.1 NQ7.out.2.2.1, KP10.out.far (p := ⟨gq, 3, none⟩) NQ7.out.2.1 _, KQ10.out.set_ 3 _, own_set O10.out KQ10.out (by decide) 3 _⟩
      · have h9i : ((r11 : Int) == 1) = false := beq_false_of_ne (by omega)
        go_wp2_with fail
        go_meet
        exact ⟨ov, HOl.out.2.2, T10.out, KP10.out, KQ10.out, O10.out⟩
    case rest =>
    obtain ⟨ov2, hov, ht, hkp, hkq, ho⟩ := hcut
    obtain ⟨w11, rfl⟩ : ∃ w11, w11 = wc := ⟨_, rfl⟩
    have T11 := Lib.hid ht
    have KP11 := Lib.hid hkp
    have KQ11 := Lib.hid hkq
    have O11 := Lib.hid ho
    clear ht hkp hkq ho
    have HOv := Lib.hid hov
    clear hov f9 d9 T10 KP10 KQ10 O10
    go_wp2_with fail
    refine (qroot_any w11 G8 h L T11.out.u HLl.out (HT.out.2.below T11.out.below)).mono ?_
    rintro e w12 ⟨G12, rfl, t12, u12, n12⟩
    rw [HRL.out]
    have B12 := Lib.hid (u12.below T11.out.below T11.out.bg T11.out.below.size)
    have KP12 := Lib.hid (blk_turned KP11.out u12 N8.out.1)
    have KQ12 := Lib.hid (blk_turned KQ11.out u12 N8.out.2.1)
    have O12 := Lib.hid (OwnT.turned O11.out u12 N8.out.2.2)
    clear t12 u12 n12 T11 KP11 KQ11 O11
    obtain ⟨bh, hbh⟩ : ∃ bh, hasB root (keyP key) value ⟨bs, lf, qp, qv⟩ = bh := ⟨_, rfl⟩
    obtain ⟨bl, hbl⟩ : ∃ bl, lacksB root (keyP key) ⟨bs, lf, qp, qv⟩ = bl := ⟨_, rfl⟩
    have HHa := Lib.hid (fun w (hs : Strs w pa pn bs) ht => HR.out.has root key value ⟨bs, lf, qp, qv⟩ pa pn pc w HSz.out.1 (by have := HSz.out.2.1; omega) hpn hs ht)
    have HHb := Lib.hid (fun w (hs : Strs w pa pn bs) ht => qhas_any root key value ⟨bs, lf, qp, qv⟩ pa pn pc w HSz.out.1 HSz.out.2.1 hpn hs ht)
    have HLa := Lib.hid (fun w (hs : Strs w pa pn bs) ht => HR.out.lacks root key ⟨bs, lf, qp, qv⟩ pa pn pc w HSz.out.1 HSz.out.2.2.1 hpn hs ht)
    have HLb := Lib.hid (fun w (hs : Strs w pa pn bs) ht => qlacks_any root key ⟨bs, lf, qp, qv⟩ pa pn pc w HSz.out.1 (show qv.size ≤ 140737488355000 by have := HSz.out.2.2.1; omega) hpn hs ht)
    unfold prfV at HHa HHb HLa HLb
    rw [hbh] at HHa HHb
    rw [hbl] at HLa HLb
    have q1 := bool_same bh
    have q2 := bool_same bl
    have HCS := Lib.hid (show ∀ w', Blk w' gp 39 #[.slice pa pn pc, .bool lf, .string qp, .string qv] → w'.cell? ⟨gp, 0, none⟩ = some (.slice pa pn pc) ∧ w'.cell? ⟨gp, 1, none⟩ = some (.bool lf) ∧ w'.cell? ⟨gp, 2, none⟩ = some (.string qp) ∧ w'.cell? ⟨gp, 3, none⟩ = some (.string qv) from fun w' b => ⟨b.cell 0, b.cell 1, b.cell 2, b.cell 3⟩)
    clear hbh hbl
    go_upto_region 20 with fail
    go_cut [24] (fun s wx => s = .bool true ∧ Below w.heap.size w wx ∧ Below w12.heap.size w12 wx)
    case first =>
      have V20 := Lib.hid (show Below w.heap.size w w12.drew ∧ Below w12.heap.size w12 w12.drew from ⟨B12.out.drew, (Below.refl _ _).drew⟩)
      have KP20 := Lib.hid (KP12.out.drew)
      have SP20 := Lib.hid (HP.out.below V20.out.1)
      have SS := HCS.out _ KP20.out
      go_region_held3 (fun w' => w'.cell? ⟨gp, 0, none⟩ = some (.slice pa pn pc) ∧ w'.cell? ⟨gp, 1, none⟩ = some (.bool lf) ∧ w'.cell? ⟨gp, 2, none⟩ = some (.string qp) ∧ w'.cell? ⟨gp, 3, none⟩ = some (.string qv)) ((first | (with_reducible assumption) | exact SS)) ((first
        | (go_at_call 24; refine (HHa.out _ SP20.out (HT.out.1.below V20.out.1 HT.out.1.lt)).mono ?_; rintro e w21 ⟨rfl, hb⟩; have V21 := Lib.hid (show Below w.heap.size w w21 ∧ Below w12.heap.size w12 w21 from ⟨V20.out.1.trans (hb.mono V20.out.1.size), V20.out.2.trans (hb.mono V20.out.2.size)⟩); have KP21 := Lib.hid (KP20.out.below hb KP20.out.lt); have SP21 := Lib.hid (SP20.out.below hb); have SS := HCS.out _ KP21.out; have c0 := SS.1; have c1 := SS.2.1; have c2 := SS.2.2.1; have c3 := SS.2.2.2; clear hb)
        | (go_at_call 25; refine (HHb.out _ SP21.out (HT.out.2.below V21.out.1)).mono ?_; rintro e w22 ⟨rfl, hb⟩; have V22 := Lib.hid (show Below w.heap.size w w22 ∧ Below w12.heap.size w12 w22 from ⟨V21.out.1.trans (hb.mono V21.out.1.size), V21.out.2.trans (hb.mono V21.out.2.size)⟩); have KP22 := Lib.hid (KP21.out.below hb KP21.out.lt); have SP22 := Lib.hid (SP21.out.below hb); have SS := HCS.out _ KP22.out; have c0 := SS.1; have c1 := SS.2.1; have c2 := SS.2.2.1; have c3 := SS.2.2.2; clear hb)
        | (go_at_call 26; refine (HLa.out _ SP22.out (HT.out.1.below V22.out.1 HT.out.1.lt)).mono ?_; rintro e w23 ⟨rfl, hb⟩; have V23 := Lib.hid (show Below w.heap.size w w23 ∧ Below w12.heap.size w12 w23 from ⟨V22.out.1.trans (hb.mono V22.out.1.size), V22.out.2.trans (hb.mono V22.out.2.size)⟩); have KP23 := Lib.hid (KP22.out.below hb KP22.out.lt); have SP23 := Lib.hid (SP22.out.below hb); have SS := HCS.out _ KP23.out; have c0 := SS.1; have c1 := SS.2.1; have c2 := SS.2.2.1; have c3 := SS.2.2.2; clear hb)
        | (go_at_call 27; refine (HLb.out _ SP23.out (HT.out.2.below V23.out.1)).mono ?_; rintro e w24 ⟨rfl, hb⟩; have V24 := Lib.hid (show Below w.heap.size w w24 ∧ Below w12.heap.size w12 w24 from ⟨V23.out.1.trans (hb.mono V23.out.1.size), V23.out.2.trans (hb.mono V23.out.2.size)⟩); have KP24 := Lib.hid (KP23.out.below hb KP23.out.lt); have SP24 := Lib.hid (SP23.out.below hb); have SS := HCS.out _ KP24.out; have c0 := SS.1; have c1 := SS.2.1; have c2 := SS.2.2.1; have c3 := SS.2.2.2; clear hb)))
      all_goals (go_wp2_with fail; go_meet; exact ⟨rfl, V24.out.1, V24.out.2⟩)
    case rest =>
    obtain ⟨rfl, hb1, hb2⟩ := hcut
    obtain ⟨w30, rfl⟩ : ∃ w30, w30 = wc := ⟨_, rfl⟩
    have KQ30 := Lib.hid (KQ12.out.below hb2 KQ12.out.lt)
    have SQ30 := Lib.hid ((OwnT.strs_at O12.out HB2.out).below hb2)
    have B30 := Lib.hid hb1
    clear hb1 hb2 q1 q2 HHa HHb HLa HLb HCS KP12 KQ12 O12 B12
    obtain ⟨bh, hbh⟩ : ∃ bh, hasB RL (keyP K1) v0 ⟨ob2, olf, op2, ov2⟩ = bh := ⟨_, rfl⟩
    obtain ⟨bl, hbl⟩ : ∃ bl, lacksB RL (keyP K1) ⟨ob2, olf, op2, ov2⟩ = bl := ⟨_, rfl⟩
    obtain ⟨bk, hbk⟩ : ∃ bk, lacksB RL (keyP key) ⟨ob2, olf, op2, ov2⟩ = bk := ⟨_, rfl⟩
    have hml : m ≤ 9223372036854775807 := by have := HOl.out.2.1; omega
    have HHa := Lib.hid (fun w (hs : Strs w ao m ob2) ht => HR.out.has RL K1 v0 ⟨ob2, olf, op2, ov2⟩ ao m co w HKs.out (by have := HV.out.2.2; omega) hml hs ht)
    have HHb := Lib.hid (fun w (hs : Strs w ao m ob2) ht => qhas_any RL K1 v0 ⟨ob2, olf, op2, ov2⟩ ao m co w HKs.out HV.out.2.2 hml hs ht)
    have HLa := Lib.hid (fun w (hs : Strs w ao m ob2) ht => HR.out.lacks RL K1 ⟨ob2, olf, op2, ov2⟩ ao m co w HKs.out HOv.out hml hs ht)
    have HLb := Lib.hid (fun w (hs : Strs w ao m ob2) ht => qlacks_any RL K1 ⟨ob2, olf, op2, ov2⟩ ao m co w HKs.out (show ov2.size ≤ 140737488355000 by have := HOv.out; omega) hml hs ht)
    have HLc := Lib.hid (fun w (hs : Strs w ao m ob2) ht => HR.out.lacks RL key ⟨ob2, olf, op2, ov2⟩ ao m co w HSz.out.1 HOv.out hml hs ht)
    have HLd := Lib.hid (fun w (hs : Strs w ao m ob2) ht => qlacks_any RL key ⟨ob2, olf, op2, ov2⟩ ao m co w HSz.out.1 (show ov2.size ≤ 140737488355000 by have := HOv.out; omega) hml hs ht)
    unfold prfV at HHa HHb HLa HLb HLc HLd
    rw [hbh] at HHa HHb
    rw [hbl] at HLa HLb
    rw [hbk] at HLc HLd
    have q1 := bool_same bh
    have q2 := bool_same bl
    have q3 := bool_same bk
    have HCS := Lib.hid (show ∀ w', Blk w' gq 39 #[.slice ao m co, .bool olf, .string op2, .string ov2] → w'.cell? ⟨gq, 0, none⟩ = some (.slice ao m co) ∧ w'.cell? ⟨gq, 1, none⟩ = some (.bool olf) ∧ w'.cell? ⟨gq, 2, none⟩ = some (.string op2) ∧ w'.cell? ⟨gq, 3, none⟩ = some (.string ov2) from fun w' b => ⟨b.cell 0, b.cell 1, b.cell 2, b.cell 3⟩)
    clear hbh hbl hbk hml
    go_wp2_with fail
    have V40 := Lib.hid (show Below w.heap.size w w30.drew ∧ Below w30.heap.size w30 w30.drew from ⟨B30.out.drew, (Below.refl _ _).drew⟩)
    have KQ40 := Lib.hid (KQ30.out.drew)
    have SQ40 := Lib.hid (SQ30.out.below (Below.refl _ _).drew)
    have SS := HCS.out _ KQ40.out
    go_region_held3 (fun w' => w'.cell? ⟨gq, 0, none⟩ = some (.slice ao m co) ∧ w'.cell? ⟨gq, 1, none⟩ = some (.bool olf) ∧ w'.cell? ⟨gq, 2, none⟩ = some (.string op2) ∧ w'.cell? ⟨gq, 3, none⟩ = some (.string ov2)) ((first | (with_reducible assumption) | exact SS)) ((first
      | (go_at_call 26; refine (HLc.out _ SQ44.out (HT.out.1.below V44.out.1 HT.out.1.lt)).mono ?_; rintro e w45 ⟨rfl, hb⟩; have V45 := Lib.hid (show Below w.heap.size w w45 ∧ Below w30.heap.size w30 w45 from ⟨V44.out.1.trans (hb.mono V44.out.1.size), V44.out.2.trans (hb.mono V44.out.2.size)⟩); have KQ45 := Lib.hid (KQ44.out.below hb KQ44.out.lt); have SQ45 := Lib.hid (SQ44.out.below hb); have SS := HCS.out _ KQ45.out; have c0 := SS.1; have c1 := SS.2.1; have c2 := SS.2.2.1; have c3 := SS.2.2.2; clear hb)
      | (go_at_call 27; refine (HLd.out _ SQ45.out (HT.out.2.below V45.out.1)).mono ?_; rintro e w46 ⟨rfl, hb⟩; have V46 := Lib.hid (show Below w.heap.size w w46 ∧ Below w30.heap.size w30 w46 from ⟨V45.out.1.trans (hb.mono V45.out.1.size), V45.out.2.trans (hb.mono V45.out.2.size)⟩); have KQ46 := Lib.hid (KQ45.out.below hb KQ45.out.lt); have SQ46 := Lib.hid (SQ45.out.below hb); have SS := HCS.out _ KQ46.out; have c0 := SS.1; have c1 := SS.2.1; have c2 := SS.2.2.1; have c3 := SS.2.2.2; clear hb)
      | (go_at_call 24; refine (HHa.out _ SQ40.out (HT.out.1.below V40.out.1 HT.out.1.lt)).mono ?_; rintro e w41 ⟨rfl, hb⟩; have V41 := Lib.hid (show Below w.heap.size w w41 ∧ Below w30.heap.size w30 w41 from ⟨V40.out.1.trans (hb.mono V40.out.1.size), V40.out.2.trans (hb.mono V40.out.2.size)⟩); have KQ41 := Lib.hid (KQ40.out.below hb KQ40.out.lt); have SQ41 := Lib.hid (SQ40.out.below hb); have SS := HCS.out _ KQ41.out; have c0 := SS.1; have c1 := SS.2.1; have c2 := SS.2.2.1; have c3 := SS.2.2.2; clear hb)
      | (go_at_call 25; refine (HHb.out _ SQ41.out (HT.out.2.below V41.out.1)).mono ?_; rintro e w42 ⟨rfl, hb⟩; have V42 := Lib.hid (show Below w.heap.size w w42 ∧ Below w30.heap.size w30 w42 from ⟨V41.out.1.trans (hb.mono V41.out.1.size), V41.out.2.trans (hb.mono V41.out.2.size)⟩); have KQ42 := Lib.hid (KQ41.out.below hb KQ41.out.lt); have SQ42 := Lib.hid (SQ41.out.below hb); have SS := HCS.out _ KQ42.out; have c0 := SS.1; have c1 := SS.2.1; have c2 := SS.2.2.1; have c3 := SS.2.2.2; clear hb)
      | (go_at_call 26; refine (HLa.out _ SQ42.out (HT.out.1.below V42.out.1 HT.out.1.lt)).mono ?_; rintro e w43 ⟨rfl, hb⟩; have V43 := Lib.hid (show Below w.heap.size w w43 ∧ Below w30.heap.size w30 w43 from ⟨V42.out.1.trans (hb.mono V42.out.1.size), V42.out.2.trans (hb.mono V42.out.2.size)⟩); have KQ43 := Lib.hid (KQ42.out.below hb KQ42.out.lt); have SQ43 := Lib.hid (SQ42.out.below hb); have SS := HCS.out _ KQ43.out; have c0 := SS.1; have c1 := SS.2.1; have c2 := SS.2.2.1; have c3 := SS.2.2.2; clear hb)
      | (go_at_call 27; refine (HLb.out _ SQ43.out (HT.out.2.below V43.out.1)).mono ?_; rintro e w44 ⟨rfl, hb⟩; have V44 := Lib.hid (show Below w.heap.size w w44 ∧ Below w30.heap.size w30 w44 from ⟨V43.out.1.trans (hb.mono V43.out.1.size), V43.out.2.trans (hb.mono V43.out.2.size)⟩); have KQ44 := Lib.hid (KQ43.out.below hb KQ43.out.lt); have SQ44 := Lib.hid (SQ43.out.below hb); have SS := HCS.out _ KQ44.out; have c0 := SS.1; have c1 := SS.2.1; have c2 := SS.2.2.1; have c3 := SS.2.2.2; clear hb)))
    all_goals
      go_wp2_with fail
      go_ret
      exact ⟨rfl, V46.out.1⟩
end Go.Proofs.YtnkkckmejjcfkaaGreatDoor.Sp
