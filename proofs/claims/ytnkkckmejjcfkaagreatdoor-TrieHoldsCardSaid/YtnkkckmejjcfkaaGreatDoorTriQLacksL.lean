/- The document's own Lacks. -/
import Derived.Test.YtnkkckmejjcfkaaGreatDoorTriQLacks
import Derived.Test.YtnkkckmejjcfkaaGreatDoorGzK
import Derived.Test.YtnkkckmejjcfkaaGreatDoorGzI
namespace Go.Proofs.YtnkkckmejjcfkaaGreatDoor.Sp
open Go Go.RowKit
set_option maxRecDepth 100000

set_option maxHeartbeats 4000000 in
theorem qlacks_leaf (root key : ByteArray) (bs : List ByteArray) (qp qv : ByteArray) (a : Option Addr) (n c : Nat) (w : World) (hk : key.size ≤ 140737488351232) (hv : qv.size ≤ 140737488355000) (hn : n ≤ 9223372036854775807) (hl : Strs w a n bs) (hT : Tabs w) :
    Calls Tryz.prog 27 #[.string root, .string key, prfV a n c ⟨bs, true, qp, qv⟩] w fun e w' => e = .returned (.bool (lacksB root (keyP key) ⟨bs, true, qp, qv⟩)) ∧ Below w.heap.size w w' := by
  unfold prfV
  simp only
  have hbl := hl.1
  have HK := Lib.hid (fun w hT => qkey_any key w hk hT)
  have hP32 := keyP_32 key
  obtain ⟨P, hP⟩ : ∃ P, keyP key = P := ⟨_, rfl⟩
  rw [hP] at HK hP32 ⊢
  have HRt := Lib.hid (fun w hl => qright_any bs a n c hn w hl)
  have HL := Lib.hid hl
  have HT := Lib.hid hT
  have HNo := Lib.hid (fun w ht => qnothing_any w ht)
  obtain ⟨O, hO⟩ : ∃ O, rightB bs = O := ⟨_, rfl⟩
  rw [hO] at HRt
  have Bz := Lib.hid ((Below.refl w.heap.size w).alloc (Nat.le_refl _) (.cells #[.slice a n c, .bool true, .string qp, .string qv] 39))
  have Kz := Lib.hid (Blk.new w 39 #[.slice a n c, .bool true, .string qp, .string qv])
  obtain ⟨X, hX⟩ : ∃ X, lacksB root P ⟨bs, true, qp, qv⟩ = X := ⟨_, rfl⟩
  have HX := Lib.hid (show X = true ↔ rightB bs = true ∧ qp.size = 32 ∧ qp ≠ P ∧ (∀ k, k < bs.length → bitN qp k = bitN P k) ∧ upF P 0 (leafB qp qv) bs = root from by rw [← hX]; exact lacks_leaf)
  rw [hX]
  obtain ⟨Nb, hNb⟩ : ∃ Nb, nothingB = Nb := ⟨_, rfl⟩
  rw [hNb] at HNo
  have HO := Lib.hid hO
  have HBl := Lib.hid hbl
  obtain ⟨b1, e1⟩ : ∃ b, (qp.toList == P.toList) = b := ⟨_, rfl⟩
  have HE1 := Lib.hid (show b1 = decide (qp = P) from by rw [← e1, beq_of])
  clear hT hl hP hk hn hX hNb hO hbl
  go_enter Tryz.func27, Tryz.ntmps27
  go_wp2_with fail
  refine (HK.out _ (HT.out.below Bz.out)).mono ?_
  rintro e w1 ⟨rfl, h1⟩
  have B1 := Lib.hid (Bz.out.trans (h1.mono Bz.out.size))
  have K1 := Kz.out.below h1 Kz.out.lt
  have d0 := K1.cell 0
  have K1' := Lib.hid K1
  simp only [List.getElem?_toArray, List.getElem?_cons_zero] at d0
  clear h1 K1
  go_wp2_with fail
  refine (HRt.out _ (HL.out.below B1.out)).mono ?_
  rintro e w2 ⟨rfl, rfl⟩
  cases O with
  | false =>
    have hf : X = false := by rw [← Bool.not_eq_true, HX.out, HO.out]; simp
    subst hf
    go_wp2_with fail
    go_ret
    exact ⟨rfl, B1.out⟩
  | true =>
    have hbs := right_iff.1 HO.out
    have hlen : n ≤ 256 := by rw [← HBl.out]; exact hbs.1
    have HM := Lib.hid hbs.2
    clear hbs
    go_wp2_with fail
    refine (HNo.out _ (HT.out.below B1.out)).mono ?_
    rintro e w3 ⟨rfl, h3⟩
    have B3 := Lib.hid (B1.out.trans (h3.mono B1.out.size))
    have K3 := K1'.out.below h3 K1'.out.lt
    clear d0
    have d0 := K3.cell 0
    have d1 := K3.cell 1
    have d2 := K3.cell 2
    have d3 := K3.cell 3
    simp only [List.getElem?_toArray, List.getElem?_cons_zero, List.getElem?_cons_succ] at d0 d1 d2 d3
    have HK3 := Lib.hid K3
    clear h3 K3
    cases b1 with
    | true =>
      have hf : X = false := by
        rw [← Bool.not_eq_true, HX.out]
        rintro ⟨_, _, h, _⟩
        exact h (of_decide_eq_true HE1.out.symm)
      subst hf
      go_wp2_with fail
      go_ret
      exact ⟨rfl, B3.out⟩
    | false =>
      by_cases h32 : qp.size = 32
      · have h32i : (qp.size : Int) = 32 := by omega
        have HQ32 := Lib.hid h32
        clear h32
        go_wp2_with fail
        go_loopw [10] (fun y wr => ∃ k : Nat, k ≤ n ∧ y = .int .i64 (k : Int) ∧ (∀ j, j < k → bitN qp j = bitN P j) ∧ w3 = wr) (fun y _ => n - (intOf y).toNat)
        case atStart => exact ⟨0, by omega, rfl, fun j hj => by omega, rfl⟩
        case round =>
          obtain ⟨k, hkn, rfl, hall, rfl⟩ := hrel
          have HAll := Lib.hid hall
          clear hall
          by_cases hlt : k < n
          · have hki : (k : Int) < (n : Int) := by omega
            have Hb1 := Lib.hid (qbit_any qp k (by rw [HQ32.out]; omega) (by rw [HQ32.out]; omega))
            have Hb2 := Lib.hid (qbit_any P k (by omega) (by omega))
            obtain ⟨u, hu⟩ : ∃ u, bitN qp k = u := ⟨_, rfl⟩
            obtain ⟨v, hvv⟩ : ∃ v, bitN P k = v := ⟨_, rfl⟩
            rw [hu] at Hb1
            rw [hvv] at Hb2
            have HU := Lib.hid (And.intro hu hvv)
            have Hlt := Lib.hid hlt
            clear hu hvv hlt
            go_wp2_with fail
            refine (Hb1.out _).mono ?_
            rintro e w4 ⟨rfl, rfl⟩
            go_wp2_with fail
            refine (Hb2.out _).mono ?_
            rintro e w5 ⟨rfl, rfl⟩
            by_cases huv : u = v
            · have huvi : (u : Int) = (v : Int) := by omega
              subst huv
              have HAll2 := Lib.hid (show ∀ j, j < k + 1 → bitN qp j = bitN P j from fun j hj => by
                rcases Nat.lt_or_ge j k with h | h
                · exact HAll.out j h
                · obtain rfl : j = k := by omega
                  rw [HU.out.1, HU.out.2])
              go_wp2_with fail
              go_roundw
              case rel => exact ⟨k + 1, Hlt.out, by go_num, HAll2.out, by first | trivial | rfl⟩
              case measure => simp [intOf]; have := Hlt.out; omega
            · have huvi : ¬ (u : Int) = (v : Int) := by omega
              have hf : X = false := by
                rw [← Bool.not_eq_true, HX.out]
                rintro ⟨_, _, _, h, _⟩
                exact huv (by rw [← HU.out.1, ← HU.out.2]; exact h k (by rw [HBl.out]; exact Hlt.out))
              subst hf
              go_wp2_with fail
              go_ret
              exact ⟨rfl, B3.out⟩
          · have hki : ¬ (k : Int) < (n : Int) := by omega
            obtain rfl : k = n := by omega
            have HLf := Lib.hid (fun w ht => qleaf_any qp qv w (by rw [HQ32.out]; omega) ht)
            have HUp := Lib.hid (fun w hl ht => qup_any P (leafB qp qv) bs a k c hP32 (sumT_32 _) hlen HM.out w hl ht)
            obtain ⟨Lf, hLf⟩ : ∃ Lf, leafB qp qv = Lf := ⟨_, rfl⟩
            rw [hLf] at HLf HUp HX
            obtain ⟨U, hU⟩ : ∃ U, upF P 0 Lf bs = U := ⟨_, rfl⟩
            rw [hU] at HUp HX
            have HX2 := Lib.hid (show X = (U.toList == root.toList) from by
              rw [beq_of, Bool.eq_iff_iff, HX.out, decide_eq_true_iff]
              constructor
              · rintro ⟨_, _, _, _, h⟩; exact h
              · intro h
                refine ⟨HO.out, HQ32.out, ?_, fun j hj => HAll.out j (by rw [← HBl.out]; exact hj), h⟩
                intro he
                have := HE1.out
                rw [decide_eq_true he] at this
                cases this)
            clear hLf hU hlt
            go_wp2_with fail
            refine (HLf.out _ (HT.out.below B3.out)).mono ?_
            rintro e w4 ⟨rfl, h4⟩
            have B4 := Lib.hid (B3.out.trans (h4.mono B3.out.size))
            have K4 := HK3.out.below h4 HK3.out.lt
            clear d0 d1 d2 d3
            have d0 := K4.cell 0
            simp only [List.getElem?_toArray, List.getElem?_cons_zero] at d0
            clear h4 K4
            go_wp2_with fail
            refine (HUp.out w4 (HL.out.below B4.out) (HT.out.below B4.out)).mono ?_
            rintro e w5 ⟨a5, c5, rfl, hs5, h5, hf5, hc5⟩
            have B5 := Lib.hid (B4.out.trans (h5.mono B4.out.size))
            clear hs5 h5 hf5 hc5
            go_wp2_with fail
            go_ret
            exact ⟨by rw [HX2.out]; rfl, B5.out⟩
      · have h32i : ¬ (qp.size : Int) = 32 := by omega
        have hf : X = false := by
          rw [← Bool.not_eq_true, HX.out]
          rintro ⟨_, h, _⟩
          exact h32 h
        subst hf
        clear h32
        go_wp2_with fail
        go_ret
        exact ⟨rfl, B3.out⟩
theorem qlacks_any (root key : ByteArray) (q : Prf) (a : Option Addr) (n c : Nat) (w : World) (hk : key.size ≤ 140737488351232) (hv : q.value.size ≤ 140737488355000) (hn : n ≤ 9223372036854775807) (hl : Strs w a n q.beside) (hT : Tabs w) :
    Calls Tryz.prog 27 #[.string root, .string key, prfV a n c q] w fun e w' => e = .returned (.bool (lacksB root (keyP key) q)) ∧ Below w.heap.size w w' := by
  obtain ⟨bs, lf, qp, qv⟩ := q
  cases lf with
  | true => exact qlacks_leaf root key bs qp qv a n c w hk hv hn hl hT
  | false => exact qlacks_none root key bs qp qv a n c w hk hn hl hT
end Go.Proofs.YtnkkckmejjcfkaaGreatDoor.Sp
