/- The walk of TrieForm. -/
import Derived.Test.YtnkkckmejjcfkaaDoorTriBox
import Derived.Test.YtnkkckmejjcfkaaDoorTriClash
import Derived.Test.YtnkkckmejjcfkaaDoorGdN
import Derived.BigQuiet
import Derived.Deep.QuietTactic
import Derived.Test.YtnkkckmejjcfkaaDoorTriProof
namespace Go.Proofs.YtnkkckmejjcfkaaDoor.Sp
open Go Go.RowKit
set_option maxRecDepth 100000

set_option maxHeartbeats 8000000 in
theorem tri_form {Tg : World → (Nat → Prop) → Nat → List Ent → Prop} (R : TriR Tg) (acts : List Act) (a : Option Addr) (n c : Nat) (key : ByteArray) (hok : ∀ x ∈ acts, ActOk x) (hn : n ≤ 9223372036854775807) (hk : key.size ≤ 140737488351232) (w : World) (hA : Acts w a n acts) (hT : Tab w) (hQ : Tabs w) :
    Calls Tryd.prog 10 #[.slice a n c, .string key] w fun e w' => e = .returned (.bool true) ∧ Below w.heap.size w w' := by
  have HT := Lib.hid (And.intro hT hQ)
  have HR := Lib.hid R
  have HAw := Lib.hid (tawake_any R w hT)
  obtain ⟨L, Le⟩ : ∃ L, doesF [] acts = L := ⟨_, rfl⟩
  have hFit : FitT L := by rw [← Le]; exact does_fit _ fitT_nil
  have HOk := Lib.hid (And.intro hok (And.intro hA Le))
  have HKs := Lib.hid hk
  obtain ⟨P, hP⟩ : ∃ P, proofF L (keyP key) = P := ⟨_, rfl⟩
  have hplen := proof_len hFit (keyP key)
  have hpf := proof_form hFit (keyP key)
  have hpb := proof_beside L (keyP key)
  rw [hP] at hplen hpf hpb
  obtain ⟨Q, hQ'⟩ : ∃ Q, keyP key = Q := ⟨_, rfl⟩
  have hQ32 : Q.size = 32 := by rw [← hQ']; exact keyP_32 _
  have hQ32i : (Q.size : Int) = 32 := by omega
  rw [hQ'] at hpf hP
  obtain ⟨bs, lf, pt, vl⟩ := P
  obtain ⟨m, hm⟩ : ∃ m, bs.length = m := ⟨_, rfl⟩
  have hm256 : m ≤ 256 := by rw [← hm]; exact hplen.1
  obtain ⟨Ln, hLn⟩ : ∃ Ln, L.length = Ln := ⟨_, rfl⟩
  rw [hLn] at hpb
  have hm0 : m = 0 ↔ Ln < 2 := by rw [← hpb, ← hm]; exact List.length_eq_zero_iff
  have HBs := Lib.hid hplen.2
  have HPf := Lib.hid (show (lf = true → pt.size = 32 ∧ ∀ k, k < m → bitN pt k = bitN Q k) ∧ (lf = false → pt = .empty ∧ vl = .empty) from by rw [← hm]; exact hpf)
  have HE := Lib.hid (And.intro hQ' (And.intro hP (And.intro hm hLn)))
  clear hT hQ R hok hA Le hk hFit hplen hpf hpb hP hQ' hm hLn
  go_enter Tryd.func10, Tryd.ntmps10
  go_wp2_with fail
  refine HAw.out.mono ?_
  rintro e w1 ⟨rfl, h1⟩
  have B1 := Lib.hid h1
  clear h1
  go_wp2_with fail
  refine (HR.out.new w1).mono ?_
  rintro e w2 ⟨g, F2, rfl, t2, bf2, b2⟩
  have S2 := Lib.hid (show One Tg w w2 F2 g [] from ⟨t2, B1.out.trans (b2.mono B1.out.size), fun k hk => Nat.le_trans B1.out.size (bf2 k hk)⟩)
  clear t2 bf2 b2
  go_wp2_with fail
  have Le := HOk.out.2.2
  refine (qtnew_any w2).mono ?_
  rintro e w3 ⟨hh3, G3, rfl, t3, bf3, b3⟩
  have D3 := Lib.hid (Two.fresh HR.out S2.out t3 bf3 b3)
  clear t3 bf3 b3
  go_wp2_with fail
  refine (does_any HR.out w w3 F2 G3 g hh3 [] [] acts a n c D3.out (by decide) HOk.out.1 HOk.out.2.1 hn HT.out.1 HT.out.2).mono ?_
  rintro e w4 ⟨F4, G4, rfl, s4, u4, n4, m4⟩
  have S4 := Lib.hid s4.one
  clear s4 u4 n4 m4
  rw [show doesF [] acts = L from Le] at S4
  go_wp2_with fail
  clear Le
  refine (HR.out.prove w4 F4 g L key S4.out.t HKs.out (S4.out.tab HT.out.1)).mono ?_
  rintro e w5 ⟨F5, pa, pc, rfl, hs, hf, hc, t5, u5, n5⟩
  rw [HE.out.1, HE.out.2.1] at hs hc ⊢
  simp only [HE.out.2.2.1] at hs hc
  unfold prfV
  simp only [HE.out.2.2.1]
  have S5 := Lib.hid (S4.out.turn t5 u5 n5)
  have P5 := Lib.hid (show StrsOff w5 F5 pa m bs from ⟨hs, fun _ p hp => (hf p hp).2⟩)
  clear t5 u5 n5 hs hf hc
  go_wp2_with fail
  obtain ⟨w6, hw6⟩ : ∃ w6, w5.alloc (.cells #[.slice pa m pc, .bool lf, .string pt, .string vl] 38) = w6 := ⟨_, rfl⟩
  have h6 : Below w5.heap.size w5 w6 := by rw [← hw6]; exact (Below.refl _ _).alloc (Nat.le_refl _) _
  obtain ⟨G, hG⟩ : ∃ G, w5.heap.size = G := ⟨_, rfl⟩
  have K6 := Lib.hid (show Blk w6 G 38 #[.slice pa m pc, .bool lf, .string pt, .string vl] from by rw [← hw6, ← hG]; exact Blk.new _ _ _)
  have N6 := Lib.hid (show ¬ F5 G from fun h => by have := HR.out.lt S5.out.t G h; omega)
  have S6 := Lib.hid (S5.out.keep HR.out h6)
  have P6 := Lib.hid (P5.out.below h6)
  rw [hw6, hG]
  clear h6 hw6 hG
  refine (HR.out.path key w6 HKs.out (S6.out.tab HT.out.1)).mono ?_
  rintro e w7 ⟨rfl, h7⟩
  rw [HE.out.1]
  have S7 := Lib.hid (S6.out.keep HR.out h7)
  have K7 := Lib.hid (K6.out.below h7 K6.out.lt)
  have P7 := Lib.hid (P6.out.below h7)
  clear h7
  have hmi : ¬ (256 : Int) < (m : Int) := by omega
  have hmd : decide ((256 : Int) < (m : Int)) = false := decide_eq_false hmi
  cases lf
  · obtain ⟨rfl, rfl⟩ := HPf.out.2 rfl
    have hpti : ¬ ((ByteArray.empty).size : Int) = 32 := by decide
    by_cases hsm : Ln < 2
    · have hl2 : (Ln : Int) < 2 := by omega
      have hm1 : m = 0 := hm0.2 hsm
      have hm1i : (m : Int) = 0 := by omega
      clear hm0 hsm
      subst hm1
      clear hm1i hmi hmd
      have hm1i : ((0 : Nat) : Int) = 0 := rfl
      have d0 := K7.out.cell 0
      have d1 := K7.out.cell 1
      have d2 := K7.out.cell 2
      have d3 := K7.out.cell 3
      simp only [List.getElem?_toArray, List.getElem?_cons_zero, List.getElem?_cons_succ] at d0 d1 d2 d3
      go_wp2_with fail
      refine (HR.out.len w7 F5 g L S7.out.t).mono ?_
      rintro e w8 ⟨F8, rfl, t8, u8, n8⟩
      rw [HE.out.2.2.2]
      have S8 := Lib.hid (S7.out.turn t8 u8 n8)
      have K8 := Lib.hid (blk_turned K7.out u8 N6.out)
      have N8 := Lib.hid (off_within K7.out.lt N6.out n8)
      have P8 := Lib.hid (P7.out.turn u8 n8)
      clear t8 u8 n8 d0 d1 d2 d3
      have d0 := K8.out.cell 0
      have d1 := K8.out.cell 1
      have d2 := K8.out.cell 2
      have d3 := K8.out.cell 3
      simp only [List.getElem?_toArray, List.getElem?_cons_zero, List.getElem?_cons_succ] at d0 d1 d2 d3
      go_wp2_with fail
      refine (HR.out.len w8 F8 g L S8.out.t).mono ?_
      rintro e w9 ⟨F9, rfl, t9, u9, n9⟩
      rw [HE.out.2.2.2]
      have S9 := Lib.hid (S8.out.turn t9 u9 n9)
      have K9 := Lib.hid (blk_turned K8.out u9 N8.out)
      have N9 := Lib.hid (off_within K8.out.lt N8.out n9)
      have P9 := Lib.hid (P8.out.turn u9 n9)
      clear t9 u9 n9 d0 d1 d2 d3
      have d0 := K9.out.cell 0
      have d1 := K9.out.cell 1
      have d2 := K9.out.cell 2
      have d3 := K9.out.cell 3
      simp only [List.getElem?_toArray, List.getElem?_cons_zero, List.getElem?_cons_succ] at d0 d1 d2 d3
      go_wp2_with fail
      clear d0 d1 d2 d3
      go_loopw [9] (fun y wr => ∃ k : Nat, k ≤ 0 ∧ y = .int .i64 (k : Int) ∧ Below w9.heap.size w9 wr) (fun y _ => 0 - (intOf y).toNat)
      case atStart => exact ⟨0, by omega, rfl, Below.refl _ _⟩
      case round =>
        obtain ⟨k, hkm, rfl, hb⟩ := hrel
        have B10 := Lib.hid hb
        have K10 := K9.out.below hb K9.out.lt
        clear hb
        have d0 := K10.cell 0
        have d1 := K10.cell 1
        have d2 := K10.cell 2
        have d3 := K10.cell 3
        simp only [List.getElem?_toArray, List.getElem?_cons_zero, List.getElem?_cons_succ] at d0 d1 d2 d3
        clear K10
        obtain rfl : k = 0 := by omega
        go_wp2_with fail
        go_ret
        exact ⟨rfl, S9.out.below.trans (by first | exact B10.out.mono S9.out.below.size | exact (B10.out.mono S9.out.below.size).drew)⟩
    · have hl2 : ¬ (Ln : Int) < 2 := by omega
      have hm1 : ¬ m = 0 := fun h => hsm (hm0.1 h)
      have hm1i : ¬ (m : Int) = 0 := by omega
      clear hm0 hsm
      have hm1b : ((m : Int) == 0) = false := beq_false_of_ne hm1i
      have d0 := K7.out.cell 0
      have d1 := K7.out.cell 1
      have d2 := K7.out.cell 2
      have d3 := K7.out.cell 3
      simp only [List.getElem?_toArray, List.getElem?_cons_zero, List.getElem?_cons_succ] at d0 d1 d2 d3
      go_wp2_with fail
      refine (HR.out.len w7 F5 g L S7.out.t).mono ?_
      rintro e w8 ⟨F8, rfl, t8, u8, n8⟩
      rw [HE.out.2.2.2]
      have S8 := Lib.hid (S7.out.turn t8 u8 n8)
      have K8 := Lib.hid (blk_turned K7.out u8 N6.out)
      have N8 := Lib.hid (off_within K7.out.lt N6.out n8)
      have P8 := Lib.hid (P7.out.turn u8 n8)
      clear t8 u8 n8 d0 d1 d2 d3
      have d0 := K8.out.cell 0
      have d1 := K8.out.cell 1
      have d2 := K8.out.cell 2
      have d3 := K8.out.cell 3
      simp only [List.getElem?_toArray, List.getElem?_cons_zero, List.getElem?_cons_succ] at d0 d1 d2 d3
      go_wp2_with fail
      refine (HR.out.len w8 F8 g L S8.out.t).mono ?_
      rintro e w9 ⟨F9, rfl, t9, u9, n9⟩
      rw [HE.out.2.2.2]
      have S9 := Lib.hid (S8.out.turn t9 u9 n9)
      have K9 := Lib.hid (blk_turned K8.out u9 N8.out)
      have N9 := Lib.hid (off_within K8.out.lt N8.out n9)
      have P9 := Lib.hid (P8.out.turn u9 n9)
      clear t9 u9 n9 d0 d1 d2 d3
      have d0 := K9.out.cell 0
      have d1 := K9.out.cell 1
      have d2 := K9.out.cell 2
      have d3 := K9.out.cell 3
      simp only [List.getElem?_toArray, List.getElem?_cons_zero, List.getElem?_cons_succ] at d0 d1 d2 d3
      go_wp2_with fail
      clear d0 d1 d2 d3
      go_loopw [9] (fun y wr => ∃ k : Nat, k ≤ m ∧ y = .int .i64 (k : Int) ∧ Below w9.heap.size w9 wr) (fun y _ => m - (intOf y).toNat)
      case atStart => exact ⟨0, by omega, rfl, Below.refl _ _⟩
      case round =>
        obtain ⟨k, hkm, rfl, hb⟩ := hrel
        have B10 := Lib.hid hb
        have K10 := K9.out.below hb K9.out.lt
        clear hb
        have d0 := K10.cell 0
        have d1 := K10.cell 1
        have d2 := K10.cell 2
        have d3 := K10.cell 3
        simp only [List.getElem?_toArray, List.getElem?_cons_zero, List.getElem?_cons_succ] at d0 d1 d2 d3
        clear K10
        by_cases hlt : k < m
        · have hki : (k : Int) < (m : Int) := by omega
          have hk0 : (0 : Int) ≤ (k : Int) := by omega
          obtain ⟨b, off, rfl, ce⟩ := P9.out.1.at_ B10.out hlt
          have hbk : (bs.getD k ByteArray.empty).size = 32 := by
            rw [getD_eq_get bs k (by rw [HE.out.2.2.1]; exact hlt)]
            exact HBs.out _ (List.getElem_mem _)
          obtain ⟨x, hx⟩ : ∃ x, bs.getD k ByteArray.empty = x := ⟨_, rfl⟩
          rw [hx] at ce hbk
          have hxi : (x.size : Int) = 32 := by omega
          have Hlt := Lib.hid hlt
          clear hx
          clear hlt
          go_wp2_with fail
          go_quiet (fail)
          go_wp2_with fail
          go_roundw
          case rel => exact ⟨k + 1, Hlt.out, by go_num, below_drewN B10.out _⟩
          case measure => simp [intOf]; omega
        · have hki : ¬ (k : Int) < (m : Int) := by omega
          go_wp2_with fail
          go_ret
          exact ⟨rfl, S9.out.below.trans (by first | exact B10.out.mono S9.out.below.size | exact (B10.out.mono S9.out.below.size).drew)⟩
  · have hpt : pt.size = 32 := (HPf.out.1 rfl).1
    have hpti : (pt.size : Int) = 32 := by omega
    have hbit := Lib.hid (HPf.out.1 rfl).2
    by_cases hsm : Ln < 2
    · have hl2 : (Ln : Int) < 2 := by omega
      have hm1 : m = 0 := hm0.2 hsm
      have hm1i : (m : Int) = 0 := by omega
      clear hm0 hsm
      subst hm1
      clear hm1i hmi hmd
      have hm1i : ((0 : Nat) : Int) = 0 := rfl
      have d0 := K7.out.cell 0
      have d1 := K7.out.cell 1
      have d2 := K7.out.cell 2
      have d3 := K7.out.cell 3
      simp only [List.getElem?_toArray, List.getElem?_cons_zero, List.getElem?_cons_succ] at d0 d1 d2 d3
      go_wp2_with fail
      refine (HR.out.len w7 F5 g L S7.out.t).mono ?_
      rintro e w8 ⟨F8, rfl, t8, u8, n8⟩
      rw [HE.out.2.2.2]
      have S8 := Lib.hid (S7.out.turn t8 u8 n8)
      have K8 := Lib.hid (blk_turned K7.out u8 N6.out)
      have N8 := Lib.hid (off_within K7.out.lt N6.out n8)
      have P8 := Lib.hid (P7.out.turn u8 n8)
      clear t8 u8 n8 d0 d1 d2 d3
      have d0 := K8.out.cell 0
      have d1 := K8.out.cell 1
      have d2 := K8.out.cell 2
      have d3 := K8.out.cell 3
      simp only [List.getElem?_toArray, List.getElem?_cons_zero, List.getElem?_cons_succ] at d0 d1 d2 d3
      go_wp2_with fail
      refine (HR.out.len w8 F8 g L S8.out.t).mono ?_
      rintro e w9 ⟨F9, rfl, t9, u9, n9⟩
      rw [HE.out.2.2.2]
      have S9 := Lib.hid (S8.out.turn t9 u9 n9)
      have K9 := Lib.hid (blk_turned K8.out u9 N8.out)
      have N9 := Lib.hid (off_within K8.out.lt N8.out n9)
      have P9 := Lib.hid (P8.out.turn u9 n9)
      clear t9 u9 n9 d0 d1 d2 d3
      have d0 := K9.out.cell 0
      have d1 := K9.out.cell 1
      have d2 := K9.out.cell 2
      have d3 := K9.out.cell 3
      simp only [List.getElem?_toArray, List.getElem?_cons_zero, List.getElem?_cons_succ] at d0 d1 d2 d3
      go_wp2_with fail
      clear d0 d1 d2 d3
      go_loopw [9] (fun y wr => ∃ k : Nat, k ≤ 0 ∧ y = .int .i64 (k : Int) ∧ Below w9.heap.size w9 wr) (fun y _ => 0 - (intOf y).toNat)
      case atStart => exact ⟨0, by omega, rfl, Below.refl _ _⟩
      case round =>
        obtain ⟨k, hkm, rfl, hb⟩ := hrel
        have B10 := Lib.hid hb
        have K10 := K9.out.below hb K9.out.lt
        clear hb
        have d0 := K10.cell 0
        have d1 := K10.cell 1
        have d2 := K10.cell 2
        have d3 := K10.cell 3
        simp only [List.getElem?_toArray, List.getElem?_cons_zero, List.getElem?_cons_succ] at d0 d1 d2 d3
        clear K10
        obtain rfl : k = 0 := by omega
        go_wp2_with fail
        go_ret
        exact ⟨rfl, S9.out.below.trans (by first | exact B10.out.mono S9.out.below.size | exact (B10.out.mono S9.out.below.size).drew)⟩
    · have hl2 : ¬ (Ln : Int) < 2 := by omega
      have hm1 : ¬ m = 0 := fun h => hsm (hm0.1 h)
      have hm1i : ¬ (m : Int) = 0 := by omega
      clear hm0 hsm
      have hm1b : ((m : Int) == 0) = false := beq_false_of_ne hm1i
      have d0 := K7.out.cell 0
      have d1 := K7.out.cell 1
      have d2 := K7.out.cell 2
      have d3 := K7.out.cell 3
      simp only [List.getElem?_toArray, List.getElem?_cons_zero, List.getElem?_cons_succ] at d0 d1 d2 d3
      go_wp2_with fail
      refine (HR.out.len w7 F5 g L S7.out.t).mono ?_
      rintro e w8 ⟨F8, rfl, t8, u8, n8⟩
      rw [HE.out.2.2.2]
      have S8 := Lib.hid (S7.out.turn t8 u8 n8)
      have K8 := Lib.hid (blk_turned K7.out u8 N6.out)
      have N8 := Lib.hid (off_within K7.out.lt N6.out n8)
      have P8 := Lib.hid (P7.out.turn u8 n8)
      clear t8 u8 n8 d0 d1 d2 d3
      have d0 := K8.out.cell 0
      have d1 := K8.out.cell 1
      have d2 := K8.out.cell 2
      have d3 := K8.out.cell 3
      simp only [List.getElem?_toArray, List.getElem?_cons_zero, List.getElem?_cons_succ] at d0 d1 d2 d3
      go_wp2_with fail
      refine (HR.out.len w8 F8 g L S8.out.t).mono ?_
      rintro e w9 ⟨F9, rfl, t9, u9, n9⟩
      rw [HE.out.2.2.2]
      have S9 := Lib.hid (S8.out.turn t9 u9 n9)
      have K9 := Lib.hid (blk_turned K8.out u9 N8.out)
      have N9 := Lib.hid (off_within K8.out.lt N8.out n9)
      have P9 := Lib.hid (P8.out.turn u9 n9)
      clear t9 u9 n9 d0 d1 d2 d3
      have d0 := K9.out.cell 0
      have d1 := K9.out.cell 1
      have d2 := K9.out.cell 2
      have d3 := K9.out.cell 3
      simp only [List.getElem?_toArray, List.getElem?_cons_zero, List.getElem?_cons_succ] at d0 d1 d2 d3
      go_wp2_with fail
      clear d0 d1 d2 d3
      go_loopw [9] (fun y wr => ∃ k : Nat, k ≤ m ∧ y = .int .i64 (k : Int) ∧ Below w9.heap.size w9 wr) (fun y _ => m - (intOf y).toNat)
      case atStart => exact ⟨0, by omega, rfl, Below.refl _ _⟩
      case round =>
        obtain ⟨k, hkm, rfl, hb⟩ := hrel
        have B10 := Lib.hid hb
        have K10 := K9.out.below hb K9.out.lt
        clear hb
        have d0 := K10.cell 0
        have d1 := K10.cell 1
        have d2 := K10.cell 2
        have d3 := K10.cell 3
        simp only [List.getElem?_toArray, List.getElem?_cons_zero, List.getElem?_cons_succ] at d0 d1 d2 d3
        clear K10
        by_cases hlt : k < m
        · have hki : (k : Int) < (m : Int) := by omega
          have hk0 : (0 : Int) ≤ (k : Int) := by omega
          obtain ⟨b, off, rfl, ce⟩ := P9.out.1.at_ B10.out hlt
          have hbk : (bs.getD k ByteArray.empty).size = 32 := by
            rw [getD_eq_get bs k (by rw [HE.out.2.2.1]; exact hlt)]
            exact HBs.out _ (List.getElem_mem _)
          obtain ⟨x, hx⟩ : ∃ x, bs.getD k ByteArray.empty = x := ⟨_, rfl⟩
          rw [hx] at ce hbk
          have hxi : (x.size : Int) = 32 := by omega
          have Hlt := Lib.hid hlt
          clear hx
          have hkb := hbit.out k hlt
          have hk256 : k < 256 := by omega
          clear hlt
          obtain ⟨q, hq⟩ : ∃ q, k / 8 = q := ⟨_, rfl⟩
          obtain ⟨r, hr⟩ : ∃ r, k % 8 = r := ⟨_, rfl⟩
          obtain ⟨s, hs⟩ : ∃ s, 7 - r = s := ⟨_, rfl⟩
          have hqn : q < Q.size := by omega
          have hqp : q < pt.size := by omega
          obtain ⟨x1, hx1⟩ : ∃ x1, Q[q].toNat = x1 := ⟨_, rfl⟩
          obtain ⟨x2, hx2⟩ : ∃ x2, pt[q].toNat = x2 := ⟨_, rfl⟩
          have hq1 : (q : Int) < (Q.size : Int) := by omega
          have hq2 : (q : Int) < (pt.size : Int) := by omega
          have hq0 : (0 : Int) ≤ (q : Int) := by omega
          have hs0 : ¬ (s : Int) < 0 := by omega
          have hs8 : (s : Int) < 64 := by omega
          have hbz : (bits BinOp.and IntKind.u8 (bits BinOp.xor IntKind.u8 (x1 : Int) (x2 : Int) / 2 ^ s) 1 == 1) = false := by
            refine bits_same x1 x2 s (by rw [← hx1]; exact Q[q].toNat_lt) (by rw [← hx2]; exact pt[q].toNat_lt) ?_
            unfold bitN at hkb
            rw [hq, hr, hs, getD_data Q q q rfl hqn, getD_data pt q q rfl hqp, hx1, hx2] at hkb
            exact hkb.symm
          have hdq : (k : Int).tdiv 8 = (q : Int) := by rw [Int.tdiv_eq_ediv_of_nonneg (by omega)]; omega
          have hdr : (k : Int).tmod 8 = (r : Int) := by rw [Int.tmod_eq_emod_of_nonneg (by omega)]; omega
          have h7 : (7 : Int) - (r : Int) = (s : Int) := by omega
          have hwq : IntKind.i64.wrap (q : Int) = (q : Int) := by rw [IntKind.wrap_i64]; omega
          have hwr : IntKind.i64.wrap (r : Int) = (r : Int) := by rw [IntKind.wrap_i64]; omega
          have hws : IntKind.i64.wrap (s : Int) = (s : Int) := by rw [IntKind.wrap_i64]; omega
          go_wp2_with fail
          go_quiet (fail)
          clear hkb hk256 hq hr hs hqn hqp hx1 hx2 hq1 hq2 hq0 hs0 hs8 hbz hdq hdr h7 hwq hwr hws
          go_wp2_with fail
          go_roundw
          case rel => exact ⟨k + 1, Hlt.out, by go_num, below_drewN B10.out _⟩
          case measure => simp [intOf]; omega
        · have hki : ¬ (k : Int) < (m : Int) := by omega
          go_wp2_with fail
          go_ret
          exact ⟨rfl, S9.out.below.trans (by first | exact B10.out.mono S9.out.below.size | exact (B10.out.mono S9.out.below.size).drew)⟩
end Go.Proofs.YtnkkckmejjcfkaaDoor.Sp
