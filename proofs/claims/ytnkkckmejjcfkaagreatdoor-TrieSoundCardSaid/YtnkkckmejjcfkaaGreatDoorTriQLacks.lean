/- The document's own Lacks, where no leaf is shown. -/
import Derived.Test.YtnkkckmejjcfkaaGreatDoorGzX
namespace Go.Proofs.YtnkkckmejjcfkaaGreatDoor.Sp
open Go Go.RowKit
set_option maxRecDepth 100000

theorem empty_of (t : ByteArray) : t.toList.isEmpty = decide (t = .empty) := by
  rw [Bool.eq_iff_iff, decide_eq_true_iff, List.isEmpty_iff, ByteArray.toList_eq]
  constructor
  · intro h; exact list_inj h
  · intro h; rw [h]; rfl
set_option maxHeartbeats 2000000 in
theorem qlacks_none (root key : ByteArray) (bs : List ByteArray) (qp qv : ByteArray) (a : Option Addr) (n c : Nat) (w : World) (hk : key.size ≤ 140737488351232) (hn : n ≤ 9223372036854775807) (hl : Strs w a n bs) (hT : Tabs w) :
    Calls Tryz.prog 27 #[.string root, .string key, prfV a n c ⟨bs, false, qp, qv⟩] w fun e w' => e = .returned (.bool (lacksB root (keyP key) ⟨bs, false, qp, qv⟩)) ∧ Below w.heap.size w w' := by
  unfold prfV
  simp only
  have HK := Lib.hid (fun w hT => qkey_any key w hk hT)
  have hP32 := keyP_32 key
  obtain ⟨P, hP⟩ : ∃ P, keyP key = P := ⟨_, rfl⟩
  rw [hP] at HK hP32 ⊢
  have HRt := Lib.hid (fun w hl => qright_any bs a n c hn w hl)
  have HL := Lib.hid hl
  have HT := Lib.hid hT
  have HNo := Lib.hid (fun w ht => qnothing_any w ht)
  obtain ⟨O, hO⟩ : ∃ O, rightB bs = O := ⟨_, rfl⟩
  rw [hO] at HRt
  have Bz := Lib.hid ((Below.refl w.heap.size w).alloc (Nat.le_refl _) (.cells #[.slice a n c, .bool false, .string qp, .string qv] 39))
  have Kz := Lib.hid (Blk.new w 39 #[.slice a n c, .bool false, .string qp, .string qv])
  clear hT hl hP hk hn
  by_cases hall : O = true ∧ qp = .empty ∧ qv = .empty
  · obtain ⟨rfl, rfl, rfl⟩ := hall
    have hbs := right_iff.1 hO
    have hlen : n ≤ 256 := by rw [← HL.out.1]; exact hbs.1
    have HUp := Lib.hid (fun w hl ht => qup_any P nothingB bs a n c hP32 (sumT_32 _) hlen hbs.2 w hl ht)
    obtain ⟨U, hU⟩ : ∃ U, upF P 0 nothingB bs = U := ⟨_, rfl⟩
    have HX := Lib.hid (show lacksB root P ⟨bs, false, .empty, .empty⟩ = (U.toList == root.toList) from by
      rw [beq_of]
      by_cases h : U = root
      · rw [decide_eq_true h, lacks_iff]; exact ⟨hO, by simp, by rw [← h, ← hU]; rfl⟩
      · rw [decide_eq_false h, ← Bool.not_eq_true, lacks_iff]; rintro ⟨_, _, h5⟩; exact h (by rw [← hU, ← h5]; rfl))
    rw [hU] at HUp
    obtain ⟨Nb, hNb⟩ : ∃ Nb, nothingB = Nb := ⟨_, rfl⟩
    rw [hNb] at HNo HUp
    rw [HX.out]
    have q0 : ByteArray.empty.toList.isEmpty = true := by rw [empty_of]; exact decide_eq_true rfl
    clear hO hbs hU hNb hlen hP32
    go_enter Tryz.func27, Tryz.ntmps27
    go_wp2_with fail
    refine (HK.out _ (HT.out.below Bz.out)).mono ?_
    rintro e w1 ⟨rfl, h1⟩
    have B1 := Lib.hid (Bz.out.trans (h1.mono Bz.out.size))
    have K1 := Kz.out.below h1 Kz.out.lt
    have d0 := K1.cell 0
    have K1' := Lib.hid K1
    clear h1 K1
    go_wp2_with fail
    refine (HRt.out _ (HL.out.below B1.out)).mono ?_
    rintro e w2 ⟨rfl, rfl⟩
    go_wp2_with fail
    refine (HNo.out _ (HT.out.below B1.out)).mono ?_
    rintro e w3 ⟨rfl, h3⟩
    have B3 := Lib.hid (B1.out.trans (h3.mono B1.out.size))
    have K3 := K1'.out.below h3 K1'.out.lt
    clear d0
    have d0 := K3.cell 0
    have d1 := K3.cell 1
    have d2 := K3.cell 2
    have d3 := K3.cell 3
    clear h3 K3
    go_wp2_with fail
    refine (HUp.out w3 (HL.out.below B3.out) (HT.out.below B3.out)).mono ?_
    rintro e w4 ⟨a4, c4, rfl, hs4, h4, hf4, hc4⟩
    have B4 := Lib.hid (B3.out.trans (h4.mono B3.out.size))
    clear hs4 h4 hf4 hc4
    go_wp2_with fail
    go_ret
    exact ⟨rfl, B4.out⟩
  · have HX := Lib.hid (show lacksB root P ⟨bs, false, qp, qv⟩ = false from by
      rw [← Bool.not_eq_true, lacks_iff]
      rintro ⟨h1, h2, _⟩
      simp only [Bool.false_eq_true, if_false] at h2
      exact hall ⟨by rw [← hO]; exact h1, h2.1, h2.2⟩)
    rw [HX.out]
    obtain ⟨b1, e1⟩ : ∃ b, qp.toList.isEmpty = b := ⟨_, rfl⟩
    obtain ⟨b2, e2⟩ : ∃ b, qv.toList.isEmpty = b := ⟨_, rfl⟩
    have HNo2 := Lib.hid (show ¬ (O = true ∧ b1 = true ∧ b2 = true) from fun ⟨h1, h3, h4⟩ => hall ⟨h1, by rw [← e1, empty_of, decide_eq_true_iff] at h3; exact h3, by rw [← e2, empty_of, decide_eq_true_iff] at h4; exact h4⟩)
    clear hall hO hP32
    go_enter Tryz.func27, Tryz.ntmps27
    go_wp2_with fail
    refine (HK.out _ (HT.out.below Bz.out)).mono ?_
    rintro e w1 ⟨rfl, h1⟩
    have B1 := Lib.hid (Bz.out.trans (h1.mono Bz.out.size))
    have K1 := Kz.out.below h1 Kz.out.lt
    have d0 := K1.cell 0
    have K1' := Lib.hid K1
    clear h1 K1
    go_wp2_with fail
    refine (HRt.out _ (HL.out.below B1.out)).mono ?_
    rintro e w2 ⟨rfl, rfl⟩
    cases O with
    | false =>
      go_wp2_with fail
      go_ret
      exact ⟨rfl, B1.out⟩
    | true =>
      go_wp2_with fail
      refine (HNo.out _ (HT.out.below B1.out)).mono ?_
      rintro e w3 ⟨rfl, h3⟩
      have B3 := Lib.hid (B1.out.trans (h3.mono B1.out.size))
      have K3 := K1'.out.below h3 K1'.out.lt
      clear d0
      have d1 := K3.cell 1
      have d2 := K3.cell 2
      have d3 := K3.cell 3
      clear h3 K3
      cases b1 with
      | false =>
        go_wp2_with fail
        go_ret
        exact ⟨rfl, B3.out⟩
      | true =>
        cases b2 with
        | false =>
          go_wp2_with fail
          go_ret
          exact ⟨rfl, B3.out⟩
        | true => exact absurd HNo2.out (by simp)
end Go.Proofs.YtnkkckmejjcfkaaGreatDoor.Sp
