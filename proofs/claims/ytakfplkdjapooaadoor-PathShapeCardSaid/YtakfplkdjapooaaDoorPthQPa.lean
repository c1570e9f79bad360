/- The document's own Parse of paths: the path whose text it is, or that there is none. -/
import Derived.Test.YtakfplkdjapooaaDoorPthQPr
import Derived.Test.YtakfplkdjapooaaDoorPthElp
namespace Go.Proofs.YtakfplkdjapooaaDoor.Sp
open Go Go.RowKit

theorem qnumber_at (t : ByteArray) (p : Nat) (D : List UInt8) (N R : Nat) (O : Bool) (hD : digs (t.data.toList.drop p) = D) (h : parN D = N ∧ p + D.length = R ∧ (parE D == 0) = O) (hp : p ≤ t.size) (ht : t.size ≤ 9223372036854775807) (w : World) :
    Calls Tryd.prog 22 #[.string t, .int .i64 (p : Int)] w fun e w' => e = .returned (.tuple #[.int .u64 (N : Int), .int .i64 (R : Int), .bool O]) ∧ w = w' := by
  obtain ⟨rfl, rfl, rfl⟩ := h
  exact qnumber_any t p hp ht D hD w
theorem qpr_at (k a b : Nat) (t : ByteArray) (h : ⟨(ptext k a b).toArray⟩ = t) (hv : Valid k a b) (w : World) :
    Calls Tryd.prog 11 #[pathV k a b] w fun e w' => e = .returned (.tuple #[.string t, .int .i64 0]) ∧ Below w.heap.size w w' := by
  subst h
  exact qpr_ok k a b hv w

/-- What a kind's words say of a text that is this kind's. -/
theorem text_parts {l : List UInt8} {k a b : Nat} (hv : Valid k a b) (h : ptext k a b = l) :
    l = wA k ++ l.drop (wA k).length ∧ digs (l.drop (wA k).length) = dec a ∧ l.drop ((wA k).length + (dec a).length) = wB k ++ (if two k then dec b else []) := by
  subst h
  have e : (ptext k a b).drop (wA k).length = dec a ++ (wB k ++ if two k then dec b else []) := by
    unfold ptext; exact List.drop_left' rfl
  refine ⟨by rw [e]; rfl, by rw [e]; exact digs_dec a _ (tail_no k b hv.1 hv.2.1), ?_⟩
  rw [← List.drop_drop, e]
  exact List.drop_left' rfl

theorem cand {l : List UInt8} {k a b : Nat} (hv : Valid k a b) (h : ptext k a b = l) :
    parN (digs (l.drop (wA k).length)) = a ∧ parE (digs (l.drop (wA k).length)) = 0 := by
  obtain ⟨_, h2, _⟩ := text_parts hv h
  rw [h2]
  have hf := dec_form a
  rw [parN, parE, if_pos hf, if_pos hf, valN, valE, dval_dec, if_pos hv.2.2.1, if_pos hv.2.2.1]
  exact ⟨rfl, rfl⟩
theorem digs_all (b : Nat) : digs (dec b) = dec b := by
  have := digs_dec b [] noDig_nil
  rwa [List.append_nil] at this
theorem cand2 {l : List UInt8} {k a b : Nat} (hv : Valid k a b) (h : ptext k a b = l) (ht : two k = true) (q : Nat) (hq : (wA k).length + (digs (l.drop (wA k).length)).length = q) :
    (wB k).length < l.length - q ∧ (l.drop q).take (wB k).length = wB k ∧ parN (digs (l.drop (q + (wB k).length))) = b := by
  obtain ⟨_, h2, h3⟩ := text_parts hv h
  rw [h2] at hq
  rw [hq, ht, if_pos rfl] at h3
  refine ⟨?_, by rw [h3]; exact List.take_left' rfl, ?_⟩
  · rw [← List.length_drop, h3, List.length_append]
    have := dec_len_pos b
    omega
  · rw [← List.drop_drop, h3, List.drop_left' rfl, digs_all]
    have hf := dec_form b
    rw [parN, if_pos hf, valN, dval_dec, if_pos hv.2.2.2.1]

set_option maxRecDepth 100000 in
set_option maxHeartbeats 8000000 in
theorem qpa_any (s : ByteArray) (hs : s.size ≤ 9223372036854775807) (w : World) :
    Calls Tryd.prog 13 #[.string s] w (PFound s w) := by
  have Hlen := Lib.hid (size_list s)
  obtain ⟨g, hg⟩ : ∃ g, w.heap.size = g := ⟨_, rfl⟩
  go_enter Tryd.func13, Tryd.ntmps13
  go_wp2_with fail
  go_loopw [4] (fun v wr => ∃ K : Nat, 1 ≤ K ∧ K ≤ 9 ∧ v = .int .i64 (K : Int) ∧ Blk wr g 24 #[.int .i64 0, .int .u64 0, .int .u64 0] ∧ Below g w wr ∧ Hid (∀ k a b, Valid k a b → ptext k a b = s.data.toList → K ≤ k)) (fun v _ => 9 - (intOf v).toNat)
  case atStart => exact ⟨1, by omega, by omega, rfl, by subst hg; exact Blk.new _ _ _, by subst hg; exact (Below.refl _ _).alloc (Nat.le_refl _) _, fun k a b hv _ => hv.1⟩
  case round =>
    obtain ⟨K, h1, h9, rfl, hbk, hbel, HA⟩ := hrel
    have HG := Lib.hid hbk
    have HB := Lib.hid hbel
    clear hbk hbel
    by_cases h8 : K ≤ 8
    · have h8i : (K : Int) ≤ 8 := by omega
      obtain ⟨S, hS⟩ : ∃ S : ByteArray, ⟨(wA K).toArray⟩ = S := ⟨_, rfl⟩
      obtain ⟨T, hT⟩ : ∃ T : ByteArray, ⟨(wB K).toArray⟩ = T := ⟨_, rfl⟩
      obtain ⟨B, hB⟩ : ∃ B : Bool, two K = B := ⟨_, rfl⟩
      have HF := Lib.hid (forms_at K S T B hS hT hB h1 h8)
      have lS : S.data.toList = wA K := by rw [← hS]
      have lT : T.data.toList = wB K := by rw [← hT]
      have HST := Lib.hid (And.intro lS (And.intro lT hB))
      clear hS hT lS lT hB
      have skip_ : (∀ a b, Valid K a b → ptext K a b ≠ s.data.toList) → ∀ k a b, Valid k a b → ptext k a b = s.data.toList → K + 1 ≤ k := by
        intro h k a b hv e
        have := HA.out k a b hv e
        rcases Nat.lt_or_ge K k with h' | h'
        · exact h'
        · obtain rfl : k = K := by omega
          exact absurd e (h a b hv)
      have Hskip := Lib.hid skip_
      clear skip_
      go_wp2_with fail
      refine (HF.out _).mono ?_
      rintro e w' ⟨rfl, rfl⟩
      by_cases hpre : S.size ≤ s.size ∧ (s.extract 0 S.size).toList = S.toList
      · obtain ⟨hsz, hex⟩ := hpre
        have hszi : ¬ (s.size : Int) < (S.size : Int) := by omega
        have hszj : (S.size : Int) ≤ (s.size : Int) := by omega
        have hexb : ((s.extract 0 S.size).toList == S.toList) = true := by rw [beq_iff_eq]; exact hex
        have hexc : ((s.extract 0 S.size).toList != S.toList) = false := by rw [bne_eq_false_iff_eq]; exact hex
        have lSw : (wA K).length = S.size := by rw [← HST.out.1, size_list]
        have lTw : (wB K).length = T.size := by rw [← HST.out.2.1, size_list]
        obtain ⟨D, hD⟩ : ∃ D, digs (s.data.toList.drop S.size) = D := ⟨_, rfl⟩
        obtain ⟨N, hN⟩ : ∃ N, parN D = N := ⟨_, rfl⟩
        obtain ⟨q, hq⟩ : ∃ q, S.size + D.length = q := ⟨_, rfl⟩
        obtain ⟨O, hO⟩ : ∃ O, (parE D == 0) = O := ⟨_, rfl⟩
        have hqs : q ≤ s.size := by
          have h1 : (digs (s.data.toList.drop S.size)).length ≤ (s.data.toList.drop S.size).length := (List.takeWhile_sublist _).length_le
          rw [hD, List.length_drop, Hlen.out] at h1
          omega
        have hNl : N < 18446744073709551616 := by rw [← hN]; exact par_lt D
        have HNum := Lib.hid (qnumber_at s S.size D N q O hD ⟨hN, hq, hO⟩ hsz hs)
        have Hcand := Lib.hid (show ∀ a b, Valid K a b → ptext K a b = s.data.toList → N = a ∧ O = true from fun a b hv e => by
          have h1 := cand hv e
          rw [lSw, hD, hN] at h1
          exact ⟨h1.1, by rw [← hO, h1.2]; rfl⟩)
        have Hcand2 := Lib.hid (show ∀ a b, Valid K a b → ptext K a b = s.data.toList → two K = true → T.size < s.size - q ∧ (s.extract q (q + T.size)).toList = T.toList ∧ parN (digs (s.data.toList.drop (q + T.size))) = b from fun a b hv e ht => by
          have h1 := cand2 hv e ht q (by rw [lSw, hD]; exact hq)
          rw [lTw, Hlen.out] at h1
          refine ⟨h1.1, ?_, h1.2.2⟩
          rw [ByteArray.toList_eq, ByteArray.toList_eq, extract_list, HST.out.2.1, ← h1.2.1, ← List.take_drop])
        clear hsz hD hN hq hO
        go_wp2_with fail
        refine (HNum.out _).mono ?_
        rintro e w' ⟨rfl, rfl⟩
        have hqi : (q : Int) ≤ (s.size : Int) := by omega
        have hq0 : (0 : Int) ≤ (q : Int) := by omega
        by_cases hcond : O = true ∧ B = true ∧ T.size < s.size - q ∧ (s.extract q (q + T.size)).toList = T.toList
        · obtain ⟨hO, hBt, hlen, heq⟩ := hcond
          subst hO
          subst hBt
          have hli : (T.size : Int) < (s.size : Int) - (q : Int) := by omega
          have hqT : (q : Int) + (T.size : Int) ≤ (s.size : Int) := by omega
          have hqT0 : (q : Int) ≤ (q : Int) + (T.size : Int) := by omega
          obtain ⟨u, hu⟩ : ∃ u : Nat, q + T.size = u := ⟨_, rfl⟩
          have hui : (q : Int) + (T.size : Int) = (u : Int) := by omega
          rw [hu] at heq
          have heqb : ((s.extract q u).toList == T.toList) = true := by rw [beq_iff_eq]; exact heq
          have hus : u ≤ s.size := by omega
          obtain ⟨M, hM⟩ : ∃ M, parN (digs (s.data.toList.drop u)) = M := ⟨_, rfl⟩
          obtain ⟨q2, hq2⟩ : ∃ q2, u + (digs (s.data.toList.drop u)).length = q2 := ⟨_, rfl⟩
          obtain ⟨O2, hO2⟩ : ∃ O2, (parE (digs (s.data.toList.drop u)) == 0) = O2 := ⟨_, rfl⟩
          have hMl : M < 18446744073709551616 := by rw [← hM]; exact par_lt _
          have HNum2 := Lib.hid (qnumber_at s u _ M q2 O2 rfl ⟨hM, hq2, hO2⟩ hus hs)
          have hvalid : Valid K N M := ⟨h1, h8, hNl, hMl, .inl HST.out.2.2⟩
          have Hcomp := Lib.hid (show ∀ a b, Valid K a b → ptext K a b = s.data.toList → ptext K N M = s.data.toList from fun a b hv e => by
            have h3 := Hcand.out a b hv e
            have h4 := Hcand2.out a b hv e HST.out.2.2
            rw [hu, hM] at h4
            rw [h3.1, h4.2.2]
            exact e)
          have hcw : IntKind.i64.wrap ((q : Int) + (T.size : Int)) = (u : Int) := by rw [IntKind.wrap_i64]; omega
          clear hM hq2 hO2 heq hu hlen
          go_wp2_with fail
          refine (HNum2.out _).mono ?_
          rintro e w' ⟨rfl, rfl⟩
          clear hui hqT hqT0 hli heqb hcw
          go_wp2_with fail
          obtain ⟨R, hR⟩ : ∃ R : ByteArray, ⟨(ptext K N M).toArray⟩ = R := ⟨_, rfl⟩
          have lR : R.data.toList = ptext K N M := by rw [← hR]
          refine (qpr_at K N M R hR hvalid _).mono ?_
          rintro e w5 ⟨rfl, h5⟩
          have HP := Lib.hid (Blk.below (Blk.new wr 24 #[.int .i64 (K : Int), .int .u64 (N : Int), .int .u64 (M : Int)]) h5 (by simp))
          have HG5 := Lib.hid (Blk.below (Blk.alloc HG.out (.cells #[.int .i64 (K : Int), .int .u64 (N : Int), .int .u64 (M : Int)] 24)) h5 (by have := HG.out.lt; simp; omega))
          have hgs := HB.out.size
          have HB5 := Lib.hid ((HB.out.alloc (by have := HB.out.size; omega) (.cells #[.int .i64 (K : Int), .int .u64 (N : Int), .int .u64 (M : Int)] 24)).trans (h5.mono (by simp; omega)))
          clear h5 hR
          by_cases hit : ptext K N M = s.data.toList
          · have hRs : R = s := list_inj (by rw [lR]; exact hit)
            have HFo := Lib.hid (show Found s.data.toList K N M 0 from .inl ⟨rfl, hvalid, hit⟩)
            subst hRs
            have c0 := HP.out.cell 0
            have c1 := HP.out.cell 1
            have c2 := HP.out.cell 2
            have d0 := HG5.out.cell 0
            have d1 := HG5.out.cell 1
            have d2 := HG5.out.cell 2
            simp only [List.getElem?_toArray, List.getElem?_cons_zero, List.getElem?_cons_succ] at c0 c1 c2 d0 d1 d2
            have f0 := HG5.out.frozen 0
            have f1 := HG5.out.frozen 1
            have f2 := HG5.out.frozen 2
            clear hit lR hvalid
            go_wp2_with fail
            refine ret_agg_tmp rfl g 24 #[.int .i64 (K : Int), .int .u64 (N : Int), .int .u64 (M : Int)] _ rfl (store3 HG5.out _ _ _) rfl Tryd.underlying24 rfl (by kernel_rfl) ?_
            exact ⟨K, N, M, 0, rfl, HFo.out, below3 (by rw [hg]; exact HB5.out) (by omega)⟩
          · have hnext := Lib.hid (Hskip.out fun a b hv e => hit (Hcomp.out a b hv e))
            have htest : (R.toList == s.toList) = false := by
              rw [beq_eq_false_iff_ne]; intro h
              rw [ByteArray.toList_eq, ByteArray.toList_eq, lR] at h
              exact hit h
            clear hit lR hvalid
            go_wp2_with fail
            go_roundw
            case rel => exact ⟨K + 1, by omega, by omega, by go_num, HG5.out, HB5.out, hnext⟩
            case measure => simp [intOf]; omega
        · have hvalid : Valid K N 0 := ⟨h1, h8, hNl, by omega, .inr rfl⟩
          have Hcomp0 := Lib.hid (show ∀ a b, Valid K a b → ptext K a b = s.data.toList → O = true ∧ ptext K N 0 = s.data.toList from fun a b hv e => by
            have h3 := Hcand.out a b hv e
            cases ht : two K with
            | true =>
              have h4 := Hcand2.out a b hv e ht
              exact absurd ⟨h3.2, HST.out.2.2.symm.trans ht, h4.1, h4.2.1⟩ hcond
            | false =>
              have hb0 := hv.2.2.2.2.resolve_left (by rw [ht]; decide)
              rw [h3.1]
              subst hb0
              exact ⟨h3.2, e⟩)
          cases hOO : O with
          | false =>
            have Hcomp := Lib.hid (show ∀ a b, Valid K a b → ptext K a b ≠ s.data.toList from fun a b hv e => by
              have := (Hcomp0.out a b hv e).1; rw [hOO] at this; cases this)
            clear hcond Hcomp0
            subst hOO
            go_wp2_with fail
            obtain ⟨R, hR⟩ : ∃ R : ByteArray, ⟨(ptext K N 0).toArray⟩ = R := ⟨_, rfl⟩
            have lR : R.data.toList = ptext K N 0 := by rw [← hR]
            refine (qpr_at K N 0 R hR hvalid _).mono ?_
            rintro e w5 ⟨rfl, h5⟩
            have HP := Lib.hid (Blk.below (Blk.new wr 24 #[.int .i64 (K : Int), .int .u64 (N : Int), .int .u64 (0)]) h5 (by simp))
            have HG5 := Lib.hid (Blk.below (Blk.alloc HG.out (.cells #[.int .i64 (K : Int), .int .u64 (N : Int), .int .u64 (0)] 24)) h5 (by have := HG.out.lt; simp; omega))
            have hgs := HB.out.size
            have HB5 := Lib.hid ((HB.out.alloc (by have := HB.out.size; omega) (.cells #[.int .i64 (K : Int), .int .u64 (N : Int), .int .u64 (0)] 24)).trans (h5.mono (by simp; omega)))
            clear h5 hR
            have hnext := Lib.hid (Hskip.out Hcomp.out)
            clear lR hvalid
            go_wp2_with fail
            go_roundw
            case rel => exact ⟨K + 1, by omega, by omega, by go_num, HG5.out, HB5.out, hnext⟩
            case measure => simp [intOf]; omega
          | true =>
            have Hcomp := Lib.hid (show ∀ a b, Valid K a b → ptext K a b = s.data.toList → ptext K N 0 = s.data.toList from fun a b hv e => (Hcomp0.out a b hv e).2)
            clear Hcomp0
            cases hBB : B with
            | false =>
              clear hcond
              subst hOO
              subst hBB
              go_wp2_with fail
              obtain ⟨R, hR⟩ : ∃ R : ByteArray, ⟨(ptext K N 0).toArray⟩ = R := ⟨_, rfl⟩
              have lR : R.data.toList = ptext K N 0 := by rw [← hR]
              refine (qpr_at K N 0 R hR hvalid _).mono ?_
              rintro e w5 ⟨rfl, h5⟩
              have HP := Lib.hid (Blk.below (Blk.new wr 24 #[.int .i64 (K : Int), .int .u64 (N : Int), .int .u64 (0)]) h5 (by simp))
              have HG5 := Lib.hid (Blk.below (Blk.alloc HG.out (.cells #[.int .i64 (K : Int), .int .u64 (N : Int), .int .u64 (0)] 24)) h5 (by have := HG.out.lt; simp; omega))
              have hgs := HB.out.size
              have HB5 := Lib.hid ((HB.out.alloc (by have := HB.out.size; omega) (.cells #[.int .i64 (K : Int), .int .u64 (N : Int), .int .u64 (0)] 24)).trans (h5.mono (by simp; omega)))
              clear h5 hR
              by_cases hit : ptext K N 0 = s.data.toList
              · have hRs : R = s := list_inj (by rw [lR]; exact hit)
                have HFo := Lib.hid (show Found s.data.toList K N 0 0 from .inl ⟨rfl, hvalid, hit⟩)
                subst hRs
                have c0 := HP.out.cell 0
                have c1 := HP.out.cell 1
                have c2 := HP.out.cell 2
                have d0 := HG5.out.cell 0
                have d1 := HG5.out.cell 1
                have d2 := HG5.out.cell 2
                simp only [List.getElem?_toArray, List.getElem?_cons_zero, List.getElem?_cons_succ] at c0 c1 c2 d0 d1 d2
                have f0 := HG5.out.frozen 0
                have f1 := HG5.out.frozen 1
                have f2 := HG5.out.frozen 2
                clear hit lR hvalid
                go_wp2_with fail
                refine ret_agg_tmp rfl g 24 #[.int .i64 (K : Int), .int .u64 (N : Int), .int .u64 (0 : Int)] _ rfl (store3 HG5.out _ _ _) rfl Tryd.underlying24 rfl (by kernel_rfl) ?_
                exact ⟨K, N, 0, 0, rfl, HFo.out, below3 (by rw [hg]; exact HB5.out) (by omega)⟩
              · have hnext := Lib.hid (Hskip.out fun a b hv e => hit (Hcomp.out a b hv e))
                have htest : (R.toList == s.toList) = false := by
                  rw [beq_eq_false_iff_ne]; intro h
                  rw [ByteArray.toList_eq, ByteArray.toList_eq, lR] at h
                  exact hit h
                clear hit lR hvalid
                go_wp2_with fail
                go_roundw
                case rel => exact ⟨K + 1, by omega, by omega, by go_num, HG5.out, HB5.out, hnext⟩
                case measure => simp [intOf]; omega
            | true =>
              by_cases hr2 : T.size < s.size - q
              · have hli : (T.size : Int) < (s.size : Int) - (q : Int) := by omega
                have hqT : (q : Int) + (T.size : Int) ≤ (s.size : Int) := by omega
                have hqT0 : (q : Int) ≤ (q : Int) + (T.size : Int) := by omega
                obtain ⟨u, hu⟩ : ∃ u : Nat, q + T.size = u := ⟨_, rfl⟩
                have hui : (q : Int) + (T.size : Int) = (u : Int) := by omega
                have heqb : ((s.extract q u).toList == T.toList) = false := by
                  rw [beq_eq_false_iff_ne]; intro h
                  exact hcond ⟨hOO, hBB, hr2, by rw [hu]; exact h⟩
                have hcw : IntKind.i64.wrap ((q : Int) + (T.size : Int)) = (u : Int) := by rw [IntKind.wrap_i64]; omega
                clear hcond hr2 hu
                subst hOO
                subst hBB
                go_wp2_with fail
                clear hui hqT hqT0 hli heqb hcw
                obtain ⟨R, hR⟩ : ∃ R : ByteArray, ⟨(ptext K N 0).toArray⟩ = R := ⟨_, rfl⟩
                have lR : R.data.toList = ptext K N 0 := by rw [← hR]
                refine (qpr_at K N 0 R hR hvalid _).mono ?_
                rintro e w5 ⟨rfl, h5⟩
                have HP := Lib.hid (Blk.below (Blk.new wr 24 #[.int .i64 (K : Int), .int .u64 (N : Int), .int .u64 (0)]) h5 (by simp))
                have HG5 := Lib.hid (Blk.below (Blk.alloc HG.out (.cells #[.int .i64 (K : Int), .int .u64 (N : Int), .int .u64 (0)] 24)) h5 (by have := HG.out.lt; simp; omega))
                have hgs := HB.out.size
                have HB5 := Lib.hid ((HB.out.alloc (by have := HB.out.size; omega) (.cells #[.int .i64 (K : Int), .int .u64 (N : Int), .int .u64 (0)] 24)).trans (h5.mono (by simp; omega)))
                clear h5 hR
                by_cases hit : ptext K N 0 = s.data.toList
                · have hRs : R = s := list_inj (by rw [lR]; exact hit)
                  have HFo := Lib.hid (show Found s.data.toList K N 0 0 from .inl ⟨rfl, hvalid, hit⟩)
                  subst hRs
                  have c0 := HP.out.cell 0
                  have c1 := HP.out.cell 1
                  have c2 := HP.out.cell 2
                  have d0 := HG5.out.cell 0
                  have d1 := HG5.out.cell 1
                  have d2 := HG5.out.cell 2
                  simp only [List.getElem?_toArray, List.getElem?_cons_zero, List.getElem?_cons_succ] at c0 c1 c2 d0 d1 d2
                  have f0 := HG5.out.frozen 0
                  have f1 := HG5.out.frozen 1
                  have f2 := HG5.out.frozen 2
                  clear hit lR hvalid
                  go_wp2_with fail
                  refine ret_agg_tmp rfl g 24 #[.int .i64 (K : Int), .int .u64 (N : Int), .int .u64 (0 : Int)] _ rfl (store3 HG5.out _ _ _) rfl Tryd.underlying24 rfl (by kernel_rfl) ?_
                  exact ⟨K, N, 0, 0, rfl, HFo.out, below3 (by rw [hg]; exact HB5.out) (by omega)⟩
                · have hnext := Lib.hid (Hskip.out fun a b hv e => hit (Hcomp.out a b hv e))
                  have htest : (R.toList == s.toList) = false := by
                    rw [beq_eq_false_iff_ne]; intro h
                    rw [ByteArray.toList_eq, ByteArray.toList_eq, lR] at h
                    exact hit h
                  clear hit lR hvalid
                  go_wp2_with fail
                  go_roundw
                  case rel => exact ⟨K + 1, by omega, by omega, by go_num, HG5.out, HB5.out, hnext⟩
                  case measure => simp [intOf]; omega
              · have hli : ¬ (T.size : Int) < (s.size : Int) - (q : Int) := by omega
                clear hcond hr2
                subst hOO
                subst hBB
                go_wp2_with fail
                clear hli
                obtain ⟨R, hR⟩ : ∃ R : ByteArray, ⟨(ptext K N 0).toArray⟩ = R := ⟨_, rfl⟩
                have lR : R.data.toList = ptext K N 0 := by rw [← hR]
                refine (qpr_at K N 0 R hR hvalid _).mono ?_
                rintro e w5 ⟨rfl, h5⟩
                have HP := Lib.hid (Blk.below (Blk.new wr 24 #[.int .i64 (K : Int), .int .u64 (N : Int), .int .u64 (0)]) h5 (by simp))
                have HG5 := Lib.hid (Blk.below (Blk.alloc HG.out (.cells #[.int .i64 (K : Int), .int .u64 (N : Int), .int .u64 (0)] 24)) h5 (by have := HG.out.lt; simp; omega))
                have hgs := HB.out.size
                have HB5 := Lib.hid ((HB.out.alloc (by have := HB.out.size; omega) (.cells #[.int .i64 (K : Int), .int .u64 (N : Int), .int .u64 (0)] 24)).trans (h5.mono (by simp; omega)))
                clear h5 hR
                by_cases hit : ptext K N 0 = s.data.toList
                · have hRs : R = s := list_inj (by rw [lR]; exact hit)
                  have HFo := Lib.hid (show Found s.data.toList K N 0 0 from .inl ⟨rfl, hvalid, hit⟩)
                  subst hRs
                  have c0 := HP.out.cell 0
                  have c1 := HP.out.cell 1
                  have c2 := HP.out.cell 2
                  have d0 := HG5.out.cell 0
                  have d1 := HG5.out.cell 1
                  have d2 := HG5.out.cell 2
                  simp only [List.getElem?_toArray, List.getElem?_cons_zero, List.getElem?_cons_succ] at c0 c1 c2 d0 d1 d2
                  have f0 := HG5.out.frozen 0
                  have f1 := HG5.out.frozen 1
                  have f2 := HG5.out.frozen 2
                  clear hit lR hvalid
                  go_wp2_with fail
                  refine ret_agg_tmp rfl g 24 #[.int .i64 (K : Int), .int .u64 (N : Int), .int .u64 (0 : Int)] _ rfl (store3 HG5.out _ _ _) rfl Tryd.underlying24 rfl (by kernel_rfl) ?_
                  exact ⟨K, N, 0, 0, rfl, HFo.out, below3 (by rw [hg]; exact HB5.out) (by omega)⟩
                · have hnext := Lib.hid (Hskip.out fun a b hv e => hit (Hcomp.out a b hv e))
                  have htest : (R.toList == s.toList) = false := by
                    rw [beq_eq_false_iff_ne]; intro h
                    rw [ByteArray.toList_eq, ByteArray.toList_eq, lR] at h
                    exact hit h
                  clear hit lR hvalid
                  go_wp2_with fail
                  go_roundw
                  case rel => exact ⟨K + 1, by omega, by omega, by go_num, HG5.out, HB5.out, hnext⟩
                  case measure => simp [intOf]; omega
      · have hnext := Lib.hid (Hskip.out (by
          intro a b hv e
          obtain ⟨e1, _, _⟩ := text_parts hv e
          have hl : S.size = (wA K).length := by rw [← size_list, HST.out.1]
          apply hpre
          have hsl : S.size ≤ s.size := by
            rw [← size_list s, e1, List.length_append, hl]; omega
          refine ⟨hsl, ?_⟩
          rw [ByteArray.toList_eq, ByteArray.toList_eq, extract_list, HST.out.1, List.drop_zero, e1, hl, List.take_left' rfl]))
        by_cases hsz : s.size < S.size
        · have hszi : (s.size : Int) < (S.size : Int) := by omega
          clear hpre hsz
          go_wp2_with fail
          go_roundw
          case rel => exact ⟨K + 1, by omega, by omega, by go_num, HG.out, HB.out, hnext⟩
          case measure => simp [intOf]; omega
        · have hszi : ¬ (s.size : Int) < (S.size : Int) := by omega
          have hszj : (S.size : Int) ≤ (s.size : Int) := by omega
          have hexc : ((s.extract 0 S.size).toList == S.toList) = false := by
            rw [beq_eq_false_iff_ne]; intro h; exact hpre ⟨by omega, h⟩
          clear hpre hsz
          go_wp2_with fail
          go_roundw
          case rel => exact ⟨K + 1, by omega, by omega, by go_num, HG.out, HB.out, hnext⟩
          case measure => simp [intOf]; omega
    · have h8i : ¬ (K : Int) ≤ 8 := by omega
      have hnone := Lib.hid (show Found s.data.toList 0 0 0 40 from .inr ⟨rfl, rfl, rfl, rfl, fun k a b hv e => by
        have := HA.out k a b hv e; have := hv.2.1; omega⟩)
      have c0 : wr.cell? ⟨g, 0, none⟩ = some (.int .i64 0) := HG.out.cell 0
      have c1 : wr.cell? ⟨g, 1, none⟩ = some (.int .u64 0) := HG.out.cell 1
      have c2 : wr.cell? ⟨g, 2, none⟩ = some (.int .u64 0) := HG.out.cell 2
      have f0 := HG.out.frozen 0
      have f1 := HG.out.frozen 1
      have f2 := HG.out.frozen 2
      clear h1 h9 h8
      go_wp2_with fail
      refine ret_agg_tmp rfl g 24 #[.int .i64 0, .int .u64 0, .int .u64 0] _ rfl (store3 HG.out _ _ _) rfl Tryd.underlying24 rfl (by kernel_rfl) ?_
      exact ⟨0, 0, 0, 40, rfl, hnone.out, below3 (by rw [hg]; exact HB.out) (by omega)⟩
end Go.Proofs.YtakfplkdjapooaaDoor.Sp
