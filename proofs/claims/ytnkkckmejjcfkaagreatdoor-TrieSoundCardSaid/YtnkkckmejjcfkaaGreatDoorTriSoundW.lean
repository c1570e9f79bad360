/- The walk of TrieSound. -/
import Derived.Test.YtnkkckmejjcfkaaGreatDoorGzZ
import Derived.Test.YtnkkckmejjcfkaaGreatDoorTriProof
import Derived.Test.YtnkkckmejjcfkaaGreatDoorTriLastP
import Derived.Test.YtnkkckmejjcfkaaGreatDoorTriRootsH
import Derived.Test.YtnkkckmejjcfkaaGreatDoorTriSet
import Derived.Test.YtnkkckmejjcfkaaGreatDoorTriSoundP
import Derived.Deep.DeepCutAuto
namespace Go.Proofs.YtnkkckmejjcfkaaGreatDoor.Sp
open Go Go.RowKit
set_option maxRecDepth 100000

set_option maxHeartbeats 16000000 in
theorem tri_sound {Tg : World → (Nat → Prop) → Nat → List Ent → Prop} (R : TriR Tg) (acts : List Act) (a : Option Addr) (n c : Nat) (key value : ByteArray) (q : Prf) (pa : Option Addr) (pn pc : Nat) (which : Int) (hok : ∀ x ∈ acts, ActOk x) (hn : n ≤ 9223372036854775807) (hk : key.size ≤ 140737488351232) (hqp : q.path.size ≤ 140737488351232) (hqv : q.value.size ≤ 140737488351232) (hpn : pn ≤ 9223372036854775807) (hv : value.size ≤ 140737488351232) (hw0 : -9223372036854775808 ≤ which) (hw1 : which ≤ 9223372036854775807) (w : World) (hA : Acts w a n acts) (hP : Strs w pa pn q.beside) (hT : Tab w) (hQ : Tabs w) :
    Calls Tryz.prog 5 #[.slice a n c, .string key, .string value, prfV pa pn pc q, .int .i64 which] w fun e w' => e = .returned (.bool true) ∧ Below w.heap.size w w' := by
  obtain ⟨bs, lf, qp, qv⟩ := q
  unfold prfV
  simp only at hqp hqv hP ⊢
  have HT := Lib.hid (And.intro hT hQ)
  have HR := Lib.hid R
  have HAw := Lib.hid (fun w hT => tawake_any R w hT)
  obtain ⟨L, Le⟩ : ∃ L, doesF [] acts = L := ⟨_, rfl⟩
  have HFit := Lib.hid (show FitT L from by rw [← Le]; exact does_fit _ fitT_nil)
  have HLl := Lib.hid (show L.length ≤ 1000000 from by have := does_len acts []; rw [Le] at this; simp only [List.length_nil] at this; omega)
  have HOk := Lib.hid (And.intro hok (And.intro hA Le))
  obtain ⟨RL, hRL⟩ : ∃ RL, rootF L = RL := ⟨_, rfl⟩
  have HRL := Lib.hid hRL
  have HP := Lib.hid hP
  have HSz := Lib.hid (And.intro hk (And.intro hqp (And.intro hqv hv)))
  obtain ⟨z, hz⟩ : ∃ z, IntKind.i64.wrap (which + 1) = z := ⟨_, rfl⟩
  have hz2 : -9223372036854775808 ≤ z ∧ z ≤ 9223372036854775807 := by rw [← hz, IntKind.wrap_i64]; omega
  have HK0 := Lib.hid (fun w => key_any which hw0 hw1 w)
  have HK1 := Lib.hid (fun w => key_any z hz2.1 hz2.2 w)
  have HP3 := Lib.hid (fun w => tpick_any which 3 (by omega) (by omega) hw0 hw1 w)
  have HP5 := Lib.hid (fun w => tpick_any which 5 (by omega) (by omega) hw0 hw1 w)
  have HP4 := Lib.hid (fun w => tpick_any which 4 (by omega) (by omega) hw0 hw1 w)
  obtain ⟨r3, hr3⟩ : ∃ r, pickN which 3 = r := ⟨_, rfl⟩
  obtain ⟨r5, hr5⟩ : ∃ r, pickN which 5 = r := ⟨_, rfl⟩
  obtain ⟨r4, hr4⟩ : ∃ r, pickN which 4 = r := ⟨_, rfl⟩
  rw [hr3] at HP3
  rw [hr5] at HP5
  rw [hr4] at HP4
  have HKs := Lib.hid (show (keyOf which).size ≤ 140737488351232 ∧ (keyOf z).size ≤ 140737488351232 from ⟨by show (1 : Nat) ≤ _; omega, by show (1 : Nat) ≤ _; omega⟩)
  obtain ⟨K0, hK0⟩ : ∃ K, keyOf which = K := ⟨_, rfl⟩
  obtain ⟨K1, hK1⟩ : ∃ K, keyOf z = K := ⟨_, rfl⟩
  rw [hK0] at HK0 HKs
  rw [hK1] at HK1 HKs
  obtain ⟨i0, hi0, hzi0, hzi1, hzi2⟩ := info_parts infoText
  clear hT hQ R hok hA Le hRL hP hk hqp hqv hv hz2 hr3 hr5 hr4 hK0 hK1 hw0 hw1
  go_enter Tryz.func5, Tryz.ntmps5
  go_wp2_with fail
  obtain ⟨w0, hw0⟩ : ∃ w0, w.alloc (.cells #[.slice pa pn pc, .bool lf, .string qp, .string qv] 39) = w0 := ⟨_, rfl⟩
  obtain ⟨gp, hgp⟩ : ∃ gp, w.heap.size = gp := ⟨_, rfl⟩
  have KP0 := Lib.hid (show Blk w0 gp 39 #[.slice pa pn pc, .bool lf, .string qp, .string qv] from by rw [← hw0, ← hgp]; exact Blk.new _ _ _)
  have B0 := Lib.hid (show Below w.heap.size w w0 from by rw [← hw0]; exact (Below.refl _ _).alloc (Nat.le_refl _) _)
  have HGp := Lib.hid hgp
  rw [hw0]
  try rw [hgp]
  clear hw0 hgp
  refine (HAw.out w0 (HT.out.1.below B0.out HT.out.1.lt)).mono ?_
  rintro e w1 ⟨rfl, h1⟩
  have B1 := Lib.hid (B0.out.trans (h1.mono B0.out.size))
  have KP1 := Lib.hid (KP0.out.below h1 KP0.out.lt)
  clear h1
  have d0 := KP1.out.cell 0
  have d1 := KP1.out.cell 1
  have d2 := KP1.out.cell 2
  have d3 := KP1.out.cell 3
  simp only [List.getElem?_toArray, List.getElem?_cons_zero, List.getElem?_cons_succ] at d0 d1 d2 d3
  by_cases h300 : 300 < pn
  · have h300i : 300 < (pn : Int) := by omega
    go_wp2_with fail
    go_ret
    exact ⟨rfl, B1.out⟩
  · have h300i : ¬ 300 < (pn : Int) := by omega
    go_wp2_with fail
    refine (HR.out.new w1).mono ?_
    rintro e w2 ⟨g, F2, rfl, t2, bf2, b2⟩
    have S2 := Lib.hid (show One Tg w w2 F2 g [] from ⟨t2, B1.out.trans (b2.mono B1.out.size), fun k hk => Nat.le_trans B1.out.size (bf2 k hk)⟩)
    have KP2 := Lib.hid (KP1.out.below b2 KP1.out.lt)
    have NF2 := Lib.hid (show ¬ F2 gp from fun h => by have := bf2 _ h; have := KP1.out.lt; omega)
    clear t2 bf2 b2 d0 d1 d2 d3
    go_wp2_with fail
    refine (qtnew_any w2).mono ?_
    rintro e w3 ⟨h, G3, rfl, t3, bf3, b3⟩
    have T3 := Lib.hid (Two.fresh HR.out S2.out t3 bf3 b3)
    have KP3 := Lib.hid (KP2.out.below b3 KP2.out.lt)
    have NG3 := Lib.hid (show ¬ G3 gp from fun h => by have := bf3 _ h; have := KP2.out.lt; omega)
    clear t3 bf3 b3
    go_wp2_with fail
    refine (does_any HR.out w w3 F2 G3 g h [] [] acts a n c T3.out (by decide) HOk.out.1 HOk.out.2.1 hn HT.out.1 HT.out.2).mono ?_
    rintro e w4 ⟨F4, G4, rfl, s4, u4, n4, m4⟩
    rw [HOk.out.2.2] at s4
    have T4 := Lib.hid s4
    have KP4 := Lib.hid (blk_turned KP3.out u4 (fun h => h.elim NF2.out NG3.out))
    have NF4 := Lib.hid (off_within KP3.out.lt NF2.out n4)
    have NG4 := Lib.hid (off_within KP3.out.lt NG3.out m4)
    have SP4 := Lib.hid (show StrsOff w4 F4 pa pn bs from ⟨HP.out.below T4.out.below, fun hn p hp hf => by
      obtain ⟨b, off, e, hc⟩ := HP.out.2 hn
      rw [hp] at e
      injection e with e
      subst e
      have h1 : b < w.heap.size := block_lt_of_cell (hc 0 hn)
      have h2 : w.heap.size ≤ b := T4.out.bf _ hf
      omega⟩)
    clear s4 u4 n4 m4
    go_wp2_with fail
    refine (HP3.out w4).mono ?_
    rintro e w5 ⟨rfl, rfl⟩
    go_upto_if 41 with fail
    go_cut [1] (fun s wx => ∃ key2 : ByteArray, s = .string key2 ∧ key2.size ≤ 140737488351232 ∧ Two Tg w wx F4 G4 g h L L ∧ Blk wx gp 39 #[.slice pa pn pc, .bool lf, .string qp, .string qv] ∧ StrsOff wx F4 pa pn bs)
    case first =>
      by_cases h3 : r3 = 0
      · subst h3
        go_wp2_with fail
        refine (HK0.out w4).mono ?_
        rintro e w5 ⟨rfl, h5⟩
        have T5 := Lib.hid (T4.out.keep HR.out h5)
        have KP5 := Lib.hid (KP4.out.below h5 KP4.out.lt)
        have SP5 := Lib.hid (SP4.out.below h5)
        clear h5
        go_wp2_with fail
        go_meet
        exact ⟨K0, rfl, HKs.out.1, T5.out, KP5.out, SP5.out⟩
      · have h3i : ((r3 : Int) == 0) = false := beq_false_of_ne (by omega)
        go_wp2_with fail
        go_meet
        exact ⟨key, rfl, HSz.out.1, T4.out, KP4.out, SP4.out⟩
    case rest =>
    obtain ⟨key2, rfl, hk2, ht, hkp, hsp⟩ := hcut
    obtain ⟨w5, rfl⟩ : ∃ w5, w5 = wc := ⟨_, rfl⟩
    have T5 := Lib.hid ht
    have KP5 := Lib.hid hkp
    have SP5 := Lib.hid hsp
    have HK2 := Lib.hid hk2
    clear ht hkp hsp hk2 T4 KP4 SP4
    go_wp2_with fail
    refine (HR.out.prove w5 F4 g L key2 T5.out.t HK2.out (T5.out.one.tab HT.out.1)).mono ?_
    rintro e w6 ⟨F6, ao, co, rfl, hs, hf, hc, t6, u6, n6⟩
    have hol := (proof_len HFit.out (keyP key2)).1
    obtain ⟨Po, hPo⟩ : ∃ Po, proofF L (keyP key2) = Po := ⟨_, rfl⟩
    rw [hPo] at hs hc hol ⊢
    obtain ⟨ob, olf, op, ov⟩ := Po
    unfold prfV
    simp only at hs hc hol ⊢
    obtain ⟨m, hm⟩ : ∃ m, ob.length = m := ⟨_, rfl⟩
    rw [hm] at hs hc hol ⊢
    have T6 := Lib.hid (T5.out.first t6 u6 n6)
    have KP6 := Lib.hid (blk_turned KP5.out u6 NF4.out)
    have NF6 := Lib.hid (off_within KP5.out.lt NF4.out n6)
    have SP6 := Lib.hid (SP5.out.turn u6 n6)
    have OS6 := Lib.hid (show StrsOff w6 F6 ao m ob from ⟨hs, fun _ p hp => (hf p hp).2⟩)
    have ONe := Lib.hid (show ∀ p, ao = some p → p.block ≠ gp from fun p hp e => by have := (hf p hp).1; have := KP5.out.lt; omega)
    have HOl := Lib.hid hol
    clear hs hf hc t6 u6 n6 hPo hm hol
    go_wp2_with fail
    obtain ⟨w7, hw7⟩ : ∃ w7, w6.alloc (.cells #[.slice ao m co, .bool olf, .string op, .string ov] 39) = w7 := ⟨_, rfl⟩
    obtain ⟨go, hgo⟩ : ∃ go, w6.heap.size = go := ⟨_, rfl⟩
    have h7 : Below w6.heap.size w6 w7 := by rw [← hw7]; exact (Below.refl _ _).alloc (Nat.le_refl _) _
    have KO7 := Lib.hid (show Blk w7 go 39 #[.slice ao m co, .bool olf, .string op, .string ov] from by rw [← hw7, ← hgo]; exact Blk.new _ _ _)
    have T7 := Lib.hid (T6.out.keep HR.out h7)
    have KP7 := Lib.hid (KP6.out.below h7 KP6.out.lt)
    have SP7 := Lib.hid (SP6.out.below h7)
    have OS7 := Lib.hid (OS6.out.below h7)
    rw [hw7]
    try rw [hgo]
    clear hw7 hgo h7
    refine (HP5.out w7).mono ?_
    rintro e w8 ⟨rfl, rfl⟩
    have d0 := KO7.out.cell 0
    simp only [List.getElem?_toArray, List.getElem?_cons_zero] at d0
    have f0 := KP7.out.frozen 0
    have d1 := KP7.out.cell 0
    simp only [List.getElem?_toArray, List.getElem?_cons_zero] at d1
    go_upto_if 49 with fail
    go_cut [] (fun wx => ∃ (pa2 : Option Addr) (pn2 pc2 : Nat) (bs2 : List ByteArray), Two Tg w wx F6 G4 g h L L ∧ Blk wx gp 39 #[.slice pa2 pn2 pc2, .bool lf, .string qp, .string qv] ∧ StrsOff wx F6 pa2 pn2 bs2 ∧ pn2 ≤ 300)
    case first =>
      by_cases h5 : r5 = 0
      · subst h5
        go_wp2_with fail
        go_meet
        exact ⟨ao, m, co, ob, T7.out.set HR.out 0 _ NF6.out NG4.out (by rw [HGp.out]; exact Nat.le_refl _), KP7.out.set_ 0 _, OS7.out.set 0 _ ONe.out, by have := HOl.out; omega⟩
      · have h5i : ((r5 : Int) == 0) = false := beq_false_of_ne (by omega)
        go_wp2_with fail
        go_meet
        exact ⟨pa, pn, pc, bs, T7.out, KP7.out, SP7.out, by omega⟩
    case rest =>
    obtain ⟨pa2, pn2, pc2, bs2, ht, hkp, hsp, hpn2⟩ := hcut
    obtain ⟨w8, rfl⟩ : ∃ w8, w8 = wc := ⟨_, rfl⟩
    have T8 := Lib.hid ht
    have KP8 := Lib.hid hkp
    have SP8 := Lib.hid hsp
    have HP2 := Lib.hid hpn2
    clear ht hkp hsp hpn2 d0 d1 f0 T7 KP7 SP7 OS7 KO7 T6 KP6 SP6 OS6
    go_wp2_with fail
    refine (HP4.out w8).mono ?_
    rintro e w9 ⟨rfl, rfl⟩
    go_upto_if 55 with fail
    go_cut [] (fun wx => ∃ (F9 : Nat → Prop) (pa3 : Option Addr) (pn3 pc3 : Nat) (q3 : Prf), Two Tg w wx F9 G4 g h L L ∧ Blk wx gp 39 #[.slice pa3 pn3 pc3, .bool q3.leaf, .string q3.path, .string q3.value] ∧ StrsOff wx F9 pa3 pn3 q3.beside ∧ pn3 ≤ 300 ∧ q3.path.size ≤ 140737488351232 ∧ q3.value.size ≤ 140737488351232 ∧ ¬ F9 gp)
    case first =>
      by_cases h4 : r4 = 0
      · subst h4
        go_wp2_with fail
        refine (HK1.out w8).mono ?_
        rintro e w9 ⟨rfl, h9⟩
        have T9 := Lib.hid (T8.out.keep HR.out h9)
        have KP9 := Lib.hid (KP8.out.below h9 KP8.out.lt)
        clear h9
        go_wp2_with fail
        refine (HR.out.prove w9 F6 g L K1 T9.out.t HKs.out.2 (T9.out.one.tab HT.out.1)).mono ?_
        rintro e w10 ⟨F10, ap, cp, rfl, hs, hf, hc, t10, u10, n10⟩
        have hol := (proof_len HFit.out (keyP K1)).1
        have hpv := proof_value HFit.out (HR.out.fit T9.out.t).2 (keyP K1)
        have hpf := proof_form HFit.out (keyP K1)
        obtain ⟨Po, hPo⟩ : ∃ Po, proofF L (keyP K1) = Po := ⟨_, rfl⟩
        rw [hPo] at hs hc hol hpv hpf ⊢
        obtain ⟨ob2, olf2, op2, ov2⟩ := Po
        unfold prfV
        simp only at hs hc hol hpv hpf ⊢
        obtain ⟨m2, hm2⟩ : ∃ m, ob2.length = m := ⟨_, rfl⟩
        rw [hm2] at hs hc hol ⊢
        have T10 := Lib.hid (T9.out.first t10 u10 n10)
        have KP10 := Lib.hid (blk_turned KP9.out u10 NF6.out)
        have NF10 := Lib.hid (off_within KP9.out.lt NF6.out n10)
        have OS10 := Lib.hid (show StrsOff w10 F10 ap m2 ob2 from ⟨hs, fun _ p hp => (hf p hp).2⟩)
        have ONe2 := Lib.hid (show ∀ p, ap = some p → p.block ≠ gp from fun p hp e => by have := (hf p hp).1; have := KP9.out.lt; omega)
        have hop : op2.size ≤ 140737488351232 := by
          cases olf2 with
          | true => rw [(hpf.1 rfl).1]; omega
          | false => rw [(hpf.2 rfl).1]; exact Nat.zero_le _
        have HOl2 := Lib.hid (And.intro hol (And.intro hop hpv))
        have f0 := KP10.out.frozen 0
        have f1 := KP10.out.frozen 1
        have f2 := KP10.out.frozen 2
        have f3 := KP10.out.frozen 3
        clear hs hf hc t10 u10 n10 hPo hm2 hol hpv hpf hop
        have d0 := KP10.out.cell 0; have d1 := KP10.out.cell 1; have d2 := KP10.out.cell 2; have d3 := KP10.out.cell 3; simp only [List.getElem?_toArray, List.getElem?_cons_zero, List.getElem?_cons_succ] at d0 d1 d2 d3
        go_wp2_with fail
        go_meet
        exact ⟨F10, ap, m2, cp, ⟨ob2, olf2, op2, ov2⟩, (((T10.out.set HR.out 0 _ NF10.out NG4.out (by rw [HGp.out]; exact Nat.le_refl _)).set HR.out 1 _ NF10.out NG4.out (by rw [HGp.out]; exact Nat.le_refl _)).set HR.out 2 _ NF10.out NG4.out (by rw [HGp.out]; exact Nat.le_refl _)).set HR.out 3 _ NF10.out NG4.out (by rw [HGp.out]; exact Nat.le_refl _), (((KP10.out.set_ 0 _).set_ 1 _).set_ 2 _).set_ 3 _, (((OS10.out.set 0 _ ONe2.out).set 1 _ ONe2.out).set 2 _ ONe2.out).set 3 _ ONe2.out, by have := HOl2.out.1; omega, HOl2.out.2.1, HOl2.out.2.2, NF10.out⟩
      · have h4i : ((r4 : Int) == 0) = false := beq_false_of_ne (by omega)
        go_wp2_with fail
        go_meet
        exact ⟨F6, pa2, pn2, pc2, ⟨bs2, lf, qp, qv⟩, T8.out, KP8.out, SP8.out, HP2.out, HSz.out.2.1, HSz.out.2.2.1, NF6.out⟩
    case rest =>
    obtain ⟨F9, pa3, pn3, pc3, q3, ht, hkp, hsp, hpn3, hqp3, hqv3, hnf⟩ := hcut
    obtain ⟨w9, rfl⟩ : ∃ w9, w9 = wc := ⟨_, rfl⟩
    obtain ⟨bs3, lf3, qp3, qv3⟩ := q3
    simp only at hkp hsp hqp3 hqv3
    have T9 := Lib.hid ht
    have KP9 := Lib.hid hkp
    have SP9 := Lib.hid hsp
    have NF9 := Lib.hid hnf
    clear ht hkp hsp hnf T8 KP8 SP8
    have hbad := fun (v : ByteArray) => sound_bad HFit.out key2 v ⟨bs3, lf3, qp3, qv3⟩
    have HSm := Lib.hid (provedA_small key2 ⟨bs3, lf3, qp3, qv3⟩ HK2.out hqp3 hqv3)
    have HPl := Lib.hid (provedA_len key2 ⟨bs3, lf3, qp3, qv3⟩)
    have HHs := Lib.hid (fun w (hs : Strs w pa3 pn3 bs3) ht => HR.out.has RL key2 value ⟨bs3, lf3, qp3, qv3⟩ pa3 pn3 pc3 w HK2.out (by have := HSz.out.2.2.2; omega) (by omega) hs ht)
    have HLk := Lib.hid (fun w (hs : Strs w pa3 pn3 bs3) ht => HR.out.lacks RL key2 ⟨bs3, lf3, qp3, qv3⟩ pa3 pn3 pc3 w HK2.out hqv3 (by omega) hs ht)
    have HPr := Lib.hid (fun w (hs : Strs w pa3 pn3 bs3) ht => qproved_any key2 ⟨bs3, lf3, qp3, qv3⟩ pa3 pn3 pc3 w HK2.out (show qp3.size + qv3.size ≤ 281474976710647 by omega) (by omega) hs ht)
    unfold prfV at HHs HLk HPr
    obtain ⟨PA, hPA⟩ : ∃ PA, provedA key2 ⟨bs3, lf3, qp3, qv3⟩ = PA := ⟨_, rfl⟩
    rw [hPA] at HSm HPl HPr hbad
    have hbad := hbad value
    rw [HRL.out] at hbad
    obtain ⟨bh, hbh⟩ : ∃ bh, hasB RL (keyP key2) value ⟨bs3, lf3, qp3, qv3⟩ = bh := ⟨_, rfl⟩
    obtain ⟨bl, hbl⟩ : ∃ bl, lacksB RL (keyP key2) ⟨bs3, lf3, qp3, qv3⟩ = bl := ⟨_, rfl⟩
    rw [hbh] at HHs hbad
    rw [hbl] at HLk hbad
    obtain ⟨v0, hv0⟩ : ∃ v0, (getF L (keyP key2)).getD .empty = v0 := ⟨_, rfl⟩
    obtain ⟨is, his⟩ : ∃ is, (getF L (keyP key2)).isSome = is := ⟨_, rfl⟩
    rw [hv0, his] at hbad
    have HV := Lib.hid (And.intro hv0 his)
    obtain ⟨X, hX⟩ : ∃ X, (v0.toList == value.toList) = X := ⟨_, rfl⟩
    rw [hX] at hbad
    obtain ⟨ok, hokb⟩ : ∃ ok, soundB bh is X bl = ok := ⟨_, rfl⟩
    rw [hokb] at hbad
    have HBad := Lib.hid hbad
    have HOkB := Lib.hid hokb
    have HCS := Lib.hid (show ∀ w', Blk w' gp 39 #[.slice pa3 pn3 pc3, .bool lf3, .string qp3, .string qv3] → w'.cell? ⟨gp, 0, none⟩ = some (.slice pa3 pn3 pc3) ∧ w'.cell? ⟨gp, 1, none⟩ = some (.bool lf3) ∧ w'.cell? ⟨gp, 2, none⟩ = some (.string qp3) ∧ w'.cell? ⟨gp, 3, none⟩ = some (.string qv3) from fun w' b => ⟨b.cell 0, b.cell 1, b.cell 2, b.cell 3⟩)
    clear hbad hPA hbh hbl hv0 his hokb hqp3 hqv3 hpn3
    go_wp2_with fail
    refine (HR.out.get w9 F9 g L key2 T9.out.t HK2.out (T9.out.one.tab HT.out.1)).mono ?_
    rintro e w10 ⟨F10, rfl, t10, u10, n10⟩
    rw [HV.out.1, HV.out.2]
    have T10 := Lib.hid (T9.out.first t10 u10 n10)
    have KP10 := Lib.hid (blk_turned KP9.out u10 NF9.out)
    have NF10 := Lib.hid (off_within KP9.out.lt NF9.out n10)
    have SP10 := Lib.hid (SP9.out.turn u10 n10)
    clear t10 u10 n10 T9 KP9 SP9
    go_upto_region 17 with fail
    go_cut [17] (fun s wx => ∃ F' : Nat → Prop, s = .bool bh ∧ Two Tg w wx F' G4 g h L L ∧ Blk wx gp 39 #[.slice pa3 pn3 pc3, .bool lf3, .string qp3, .string qv3] ∧ StrsOff wx F' pa3 pn3 bs3 ∧ ¬ F' gp)
    case first =>
      have T10d := Lib.hid (T10.out.keep HR.out ((Below.refl w10.heap.size w10).drew))
      have KP10d := Lib.hid (KP10.out.drew)
      have SP10d := Lib.hid (SP10.out.below ((Below.refl w10.heap.size w10).drew))
      have SS := HCS.out _ KP10d.out
      go_region_held3 (fun w' => w'.cell? ⟨gp, 0, none⟩ = some (.slice pa3 pn3 pc3) ∧ w'.cell? ⟨gp, 1, none⟩ = some (.bool lf3) ∧ w'.cell? ⟨gp, 2, none⟩ = some (.string qp3) ∧ w'.cell? ⟨gp, 3, none⟩ = some (.string qv3)) ((first | (with_reducible assumption) | exact SS)) ((first
        | (go_at_call 16; refine (HR.out.root _ F10 g L T10d.out.t (T10d.out.one.tab HT.out.1)).mono ?_; rintro e w10r ⟨F10r, rfl, t, u, nn⟩; rw [HRL.out]; have T10r := Lib.hid (T10d.out.first t u nn); have KP10r := Lib.hid (blk_turned KP10d.out u NF10.out); have NF10r := Lib.hid (off_within KP10d.out.lt NF10.out nn); have SP10r := Lib.hid (SP10d.out.turn u nn); have SS8 := HCS.out _ KP10r.out; have c0 := SS8.1; have c1 := SS8.2.1; have c2 := SS8.2.2.1; have c3 := SS8.2.2.2; clear t u nn)
        | (go_at_call 24; refine (HHs.out _ SP10r.out.1 (T10r.out.one.tab HT.out.1)).mono ?_; rintro e w10s ⟨rfl, hb⟩; have T10s := Lib.hid (T10r.out.keep HR.out hb); have KP10s := Lib.hid (KP10r.out.below hb KP10r.out.lt); have SP10s := Lib.hid (SP10r.out.below hb); have SS9 := HCS.out _ KP10s.out; have e0 := SS9.1; have e1 := SS9.2.1; have e2 := SS9.2.2.1; have e3 := SS9.2.2.2; clear hb)))
      all_goals (go_wp2_with fail; go_meet; exact ⟨F10r, rfl, T10s.out, KP10s.out, SP10s.out, NF10r.out⟩)
    case rest =>
    obtain ⟨F11, rfl, ht, hkp, hsp, hnf⟩ := hcut
    obtain ⟨w11, rfl⟩ : ∃ w11, w11 = wc := ⟨_, rfl⟩
    have T11 := Lib.hid ht
    have KP11 := Lib.hid hkp
    have SP11 := Lib.hid hsp
    have NF11 := Lib.hid hnf
    clear ht hkp hsp hnf T10 KP10 SP10
    go_upto_region 18 with fail
    go_cut [18] (fun s wx => ∃ F' : Nat → Prop, s = .bool bl ∧ Two Tg w wx F' G4 g h L L ∧ Blk wx gp 39 #[.slice pa3 pn3 pc3, .bool lf3, .string qp3, .string qv3] ∧ StrsOff wx F' pa3 pn3 bs3 ∧ ¬ F' gp)
    case first =>
      have T11d := Lib.hid (T11.out.keep HR.out ((Below.refl w11.heap.size w11).drew))
      have KP11d := Lib.hid (KP11.out.drew)
      have SP11d := Lib.hid (SP11.out.below ((Below.refl w11.heap.size w11).drew))
      have SS := HCS.out _ KP11d.out
      go_region_held3 (fun w' => w'.cell? ⟨gp, 0, none⟩ = some (.slice pa3 pn3 pc3) ∧ w'.cell? ⟨gp, 1, none⟩ = some (.bool lf3) ∧ w'.cell? ⟨gp, 2, none⟩ = some (.string qp3) ∧ w'.cell? ⟨gp, 3, none⟩ = some (.string qv3)) ((first | (with_reducible assumption) | exact SS)) ((first
        | (go_at_call 16; refine (HR.out.root _ F11 g L T11d.out.t (T11d.out.one.tab HT.out.1)).mono ?_; rintro e w11r ⟨F11r, rfl, t, u, nn⟩; rw [HRL.out]; have T11r := Lib.hid (T11d.out.first t u nn); have KP11r := Lib.hid (blk_turned KP11d.out u NF11.out); have NF11r := Lib.hid (off_within KP11d.out.lt NF11.out nn); have SP11r := Lib.hid (SP11d.out.turn u nn); have SS8 := HCS.out _ KP11r.out; have c0 := SS8.1; have c1 := SS8.2.1; have c2 := SS8.2.2.1; have c3 := SS8.2.2.2; clear t u nn)
        | (go_at_call 26; refine (HLk.out _ SP11r.out.1 (T11r.out.one.tab HT.out.1)).mono ?_; rintro e w11s ⟨rfl, hb⟩; have T11s := Lib.hid (T11r.out.keep HR.out hb); have KP11s := Lib.hid (KP11r.out.below hb KP11r.out.lt); have SP11s := Lib.hid (SP11r.out.below hb); have SS9 := HCS.out _ KP11s.out; have e0 := SS9.1; have e1 := SS9.2.1; have e2 := SS9.2.2.1; have e3 := SS9.2.2.2; clear hb)))
      all_goals (go_wp2_with fail; go_meet; exact ⟨F11r, rfl, T11s.out, KP11s.out, SP11s.out, NF11r.out⟩)
    case rest =>
    obtain ⟨F12, rfl, ht, hkp, hsp, hnf⟩ := hcut
    obtain ⟨w12, rfl⟩ : ∃ w12, w12 = wc := ⟨_, rfl⟩
    have T12 := Lib.hid ht
    have KP12 := Lib.hid hkp
    have SP12 := Lib.hid hsp
    have NF12 := Lib.hid hnf
    clear ht hkp hsp hnf T11 KP11 SP11
    go_upto_region 19 with fail
    go_cut [95] (fun s wx => s = .bool ok ∧ wx = w12)
    case first =>
      cases bh <;> cases is <;> cases X <;> cases bl
      all_goals (go_wp2_with fail; go_meet; exact ⟨by rw [← HOkB.out]; rfl, rfl⟩)
    case rest =>
    obtain ⟨rfl, rfl⟩ := hcut
    obtain ⟨w12, rfl⟩ : ∃ w12, w12 = wc := ⟨_, rfl⟩
    clear hX
    cases ok
    · have hcl := HBad.out rfl
      have hsmI := fun x hx => Nat.le_trans (tinputs_size 256 0 L HFit.out (HR.out.fit T12.out.t).2 x hx) (by omega : 73 + 140737488351232 ≤ 9223372036854775000)
      obtain ⟨I, hI⟩ : ∃ I, inputsF 256 0 L = I := ⟨_, rfl⟩
      have hIl : I.length ≤ 1000000000 := by rw [← hI]; exact (HFit.out.len_in HLl.out).2
      rw [hI] at hcl hsmI
      have HCl := Lib.hid (show ClashIn ((I ++ PA) ++ keysIn 9) from hcl.mono fun x hx => List.mem_append_left _ hx)
      have HSmA := Lib.hid (show ∀ x ∈ (I ++ PA) ++ keysIn 9, x.size ≤ 9223372036854775000 from fun x hx => (List.mem_append.1 hx).elim (fun h => (List.mem_append.1 h).elim (hsmI x) (HSm.out x)) (keysIn_small 9 x))
      have hPAl := HPl.out.2
      have HIL := Lib.hid (And.intro hI (And.intro hIl hPAl))
      have hb1 : 0 + I.length ≤ maxLen := by unfold maxLen; omega
      have hb2 : (0 + I.length) * 16 ≤ 140737488355328 := by omega
      have hb3 : I.length + PA.length ≤ maxLen := by unfold maxLen; omega
      have hb4 : (I.length + PA.length) * 16 ≤ 140737488355328 := by omega
      have HIn := Lib.hid (fun w s ht => qtinputs_any w G4 h L s HLl.out ht)
      rw [hI] at HIn
      clear hcl hI hsmI hIl hPAl
      go_upto_region 21 with fail
      go_cut [19] (fun s wx => OwnT wx w12.heap.size s (I ++ PA) ∧ Below w12.heap.size w12 wx)
      case first =>
        have T12d := Lib.hid (T12.out.keep HR.out ((Below.refl w12.heap.size w12).drew))
        have KP12d := Lib.hid (KP12.out.drew)
        have B12d := Lib.hid ((Below.refl w12.heap.size w12).drew)
        have SS := HCS.out _ KP12d.out
        have e0 := SS.1
        have e1 := SS.2.1
        have e2 := SS.2.2.1
        have e3 := SS.2.2.2
        go_region_law ((first
          | (refine step_append_any _ (by rfl) (.const (.slice none 0 0)) (.tmp 97) 37 (by rfl) w12.heap.size 9 i0 (.string .empty) 1 16 Tryz.underlying37 hi0 hzi0 hzi1 hzi2 (by rfl) (by decide) (.slice none 0 0) 0 [] (by rfl) (World.ownsRow_nil _ _ _ _) w13.heap.size a13 I.length c13 (I.map Value.string) (by rfl) (strs_reads_ I13.out) (ones_texts I) hb1 hb2 W13.out.size ?_; intro v14 w14 hown hg _; have O14 := Lib.hid (show OwnT w14 w12.heap.size v14 I from (by first | exact hown | (have h9 := hown; rw [Nat.zero_add] at h9; exact h9))); have W14 := Lib.hid (show Below w12.heap.size w12 w14 from W13.out.grown hg W13.out.size (fun k hk => by cases hk)); have KP14 := Lib.hid (KP12.out.below W14.out KP12.out.lt); have T14 := Lib.hid (T12.out.keep HR.out W14.out); have SS := HCS.out _ KP14.out; have e0 := SS.1; have e1 := SS.2.1; have e2 := SS.2.2.1; have e3 := SS.2.2.2; clear hown hg)
          | (refine step_append_any _ (by rfl) (.tmp 98) (.tmp 101) 37 (by rfl) w12.heap.size 9 i0 (.string .empty) 1 16 Tryz.underlying37 hi0 hzi0 hzi1 hzi2 (by rfl) (by decide) v14 I.length (I.map Value.string) (by rfl) O15.out w15.heap.size a15 PA.length c15 (PA.map Value.string) (by rfl) (strs_reads_ I15.out) (ones_texts PA) hb3 hb4 W15.out.size ?_; intro v16 w16 hown hg _; have O16 := Lib.hid (show OwnT w16 w12.heap.size v16 (I ++ PA) from (by unfold OwnT; rw [List.map_append, List.length_append]; exact hown)); have W16 := Lib.hid (show Below w12.heap.size w12 w16 from W15.out.grown hg W15.out.size (fun k hk => (O15.out.lt k hk).1)); clear hown hg)
          | (go_simp; go_at_call 28; refine (HIn.out _ T12d.out.u (HT.out.2.below T12d.out.below)).mono ?_; rintro e w13 ⟨a13, c13, rfl, hs, h13, hf, hc⟩; have W13 := Lib.hid (show Below w12.heap.size w12 w13 from B12d.out.trans (h13.mono B12d.out.size)); have I13 := Lib.hid hs; have KP13 := Lib.hid (KP12.out.below W13.out KP12.out.lt); have SS := HCS.out _ KP13.out; have e0 := SS.1; have e1 := SS.2.1; have e2 := SS.2.2.1; have e3 := SS.2.2.2; clear h13 hs hf hc)
          | (go_simp; go_at_call 29; refine (HPr.out _ (SP12.out.1.below W14.out) (HT.out.2.below T14.out.below)).mono ?_; rintro e w15 ⟨a15, c15, rfl, hs, h15, hf, hc⟩; have W15 := Lib.hid (show Below w12.heap.size w12 w15 from W14.out.trans (h15.mono W14.out.size)); have O15 := Lib.hid (own_below O14.out h15); have I15 := Lib.hid hs; clear h15 hs hf hc)))
        all_goals (go_wp2_with fail; go_meet; exact ⟨O16.out, W16.out⟩)
      case rest =>
      obtain ⟨ho, hw⟩ := hcut
      obtain ⟨w16, rfl⟩ : ∃ w16, w16 = wc := ⟨_, rfl⟩
      have O16 := Lib.hid ho
      have W16 := Lib.hid hw
      clear ho hw
      go_wp2_with fail
      go_loopw [19, 20] (fun v i wr => ∃ k : Nat, k ≤ 9 ∧ i = .int .i64 (k : Int) ∧ OwnT wr w12.heap.size v ((I ++ PA) ++ keysIn k) ∧ Below w12.heap.size w12 wr) (fun _ i _ => 9 - (intOf i).toNat)
      case atStart => exact ⟨0, by omega, rfl, by rw [show keysIn 0 = [] from rfl, List.append_nil]; exact O16.out, W16.out⟩
      case round =>
        obtain ⟨k, hk9, rfl, ho, hw⟩ := hrel
        obtain ⟨w60, rfl⟩ : ∃ w60, w60 = wr := ⟨_, rfl⟩
        by_cases hlt : k < 9
        · have hki : (k : Int) < 9 := by omega
          have HKy := Lib.hid (fun w => key_any (k : Int) (by omega) (by omega) w)
          rw [keyOf_nin k hlt] at HKy
          have HInn := Lib.hid (fun g c w hs => qin_one 6 (by omega) (keyC k) g c w hs (by show (1 : Nat) ≤ _; omega))
          have hnext : (I ++ PA) ++ keysIn (k + 1) = ((I ++ PA) ++ keysIn k) ++ [inT 6 [keyC k]] := by rw [keysIn_succ, List.append_assoc (I ++ PA)]
          obtain ⟨T, hT⟩ : ∃ T, inT 6 [keyC k] = T := ⟨_, rfl⟩
          rw [show inT (UInt8.ofNat 6) [keyC k] = T from hT] at HInn
          rw [hT] at hnext
          have hAl : ((I ++ PA) ++ keysIn k).length ≤ 2000000009 := by
            have := HIL.out.2.1; have := HIL.out.2.2
            rw [List.length_append, List.length_append, keysIn_len]; omega
          obtain ⟨A, hA⟩ : ∃ A, (I ++ PA) ++ keysIn k = A := ⟨_, rfl⟩
          rw [hA] at ho hnext hAl
          obtain ⟨Kk, hKk⟩ : ∃ Kk, keyC k = Kk := ⟨_, rfl⟩
          rw [hKk] at HKy HInn
          have HN := Lib.hid (And.intro hnext hlt)
          have O60 := Lib.hid ho
          have W60 := Lib.hid hw
          have hb5 : A.length + 1 ≤ maxLen := by unfold maxLen; omega
          have hb6 : (A.length + 1) * 16 ≤ 140737488355328 := by omega
          clear hlt ho hw hnext hT hA hKk
          go_wp2_with fail
          refine (HKy.out w60).mono ?_
          rintro e w61 ⟨rfl, h61⟩
          have B61 := Lib.hid h61
          clear h61
          go_wp2_with fail
          refine (HInn.out _ _ _ (by exact strs_blk (Blk.new _ 9 _) rfl)).mono ?_
          rintro e w62 ⟨rfl, h62⟩
          have B62 := Lib.hid (show Below w60.heap.size w60 w62 from (by first | exact below_a_ B61.out h62 | exact below_da_ B61.out h62))
          clear h62
          go_wp2_with (refine wpList_append_when _ (by rfl) (.tmp 107) (.tmp 112) 37 (by rfl) w12.heap.size 9 i0 (.string .empty) 1 16 Tryz.underlying37 hi0 hzi0 hzi1 hzi2 (by rfl) (by decide) u19 A.length (A.map Value.string) (by rfl) (own_below O60.out (B62.out.alloc B62.out.size _)) (w62.alloc (.cells #[.string T] 9)).heap.size (some ⟨w62.heap.size, 0, none⟩) 1 1 ([T].map Value.string) (by rfl) (strs_reads_ (strs_blk (ss := [T]) (Blk.new w62 9 #[.string T]) rfl)) (ones_texts [T]) hb5 hb6 (Nat.le_trans W60.out.size (Nat.le_trans B62.out.size (by simp))) ?_)
          intro v63 w63 hown hg _
          have hO : OwnT w63 w12.heap.size v63 (A ++ [T]) := by
            unfold OwnT
            rw [List.map_append, List.length_append]
            exact hown
          have O63 := Lib.hid hO
          have W62 := Lib.hid (show Below w12.heap.size w12 (w62.alloc (.cells #[.string T] 9)) from W60.out.trans ((B62.out.alloc B62.out.size _).mono W60.out.size))
          have W63 := Lib.hid (show Below w12.heap.size w12 w63 from W62.out.grown hg W62.out.size (fun k hk => (O60.out.lt k hk).1))
          clear hown hg hO
          go_wp2_with fail
          go_roundw
          case rel => exact ⟨k + 1, HN.out.2, by go_num, by rw [HN.out.1]; exact O63.out, W63.out⟩
          case measure => simp [intOf]; omega
        · have hki : ¬ (k : Int) < 9 := by omega
          obtain rfl : k = 9 := by omega
          obtain ⟨a9, c9, hv9, hs9⟩ := ho.strs
          have hlen : ((I ++ PA) ++ keysIn 9).length ≤ 4294967296 := by
            have := HIL.out.2.1; have := HIL.out.2.2
            rw [List.length_append, List.length_append, keysIn_len]; omega
          have B60 := Lib.hid (T12.out.below.trans (hw.mono T12.out.below.size))
          have hcl2 := tclash_any ((I ++ PA) ++ keysIn 9) a9 ((I ++ PA) ++ keysIn 9).length c9 hlen HSmA.out HCl.out w60 hs9 (HT.out.1.below B60.out HT.out.1.lt)
          obtain ⟨mm, hmm⟩ : ∃ mm, ((I ++ PA) ++ keysIn 9).length = mm := ⟨_, rfl⟩
          rw [hmm] at hv9 hcl2
          have HCl2 := Lib.hid hcl2
          subst hv9
          clear ho hw hs9 hlen hcl2 hmm
          go_wp2_with fail
          refine HCl2.out.mono ?_
          rintro e w61 ⟨rfl, h61⟩
          have B61 := Lib.hid (B60.out.trans (h61.mono B60.out.size))
          clear h61
          go_wp2_with fail
          go_ret
          exact ⟨rfl, B61.out⟩
    · go_wp2_with fail
      go_ret
      exact ⟨rfl, T12.out.below⟩
end Go.Proofs.YtnkkckmejjcfkaaGreatDoor.Sp
