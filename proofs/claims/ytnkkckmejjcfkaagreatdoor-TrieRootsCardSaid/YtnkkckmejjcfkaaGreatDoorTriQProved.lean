/- The document's own inputs of a proof. -/
import Derived.Test.YtnkkckmejjcfkaaGreatDoorTriQLacksL
import Derived.Test.YtnkkckmejjcfkaaGreatDoorTriRdT
namespace Go.Proofs.YtnkkckmejjcfkaaGreatDoor.Sp
open Go Go.RowKit
set_option maxRecDepth 100000

/-- The inputs that a proof takes, for a key. -/
def provedA (key : ByteArray) (q : Prf) : List ByteArray := inT 6 [key] :: endIn q.end :: (if rightB q.beside then upIn (keyP key) 0 (endH q.end) q.beside else [])
theorem provedA_len (key : ByteArray) (q : Prf) : 2 ≤ (provedA key q).length ∧ (provedA key q).length ≤ 258 := by
  unfold provedA
  rw [List.length_cons, List.length_cons]
  split
  · rename_i h
    rw [upIn_len]
    have := (right_iff.1 h).1
    omega
  · simp
theorem own_one_ (w : World) (s : ByteArray) (base : Nat) (hb : base ≤ w.heap.size) : OwnT (w.alloc (.cells #[.string s] 9)) base (.slice (some ⟨w.heap.size, 0, none⟩) 1 1) [s] := by
  refine ⟨by simp, .inr ⟨w.heap.size, 1, #[.string s], rfl, hb, heap_alloc_new w _, Nat.le_refl _, by unfold maxLen; omega, by simp, by simp⟩⟩

set_option maxHeartbeats 4000000 in
theorem qproved_any (key : ByteArray) (q : Prf) (a : Option Addr) (n c : Nat) (w : World) (hk : key.size ≤ 140737488351232) (hv : q.path.size + q.value.size ≤ 281474976710647) (hn : n ≤ 9223372036854775807) (hl : Strs w a n q.beside) (hT : Tabs w) :
    Calls Tryz.prog 29 #[.string key, prfV a n c q] w fun e w' => ∃ (a' : Option Addr) (c' : Nat), e = .returned (.slice a' (provedA key q).length c') ∧ Strs w' a' (provedA key q).length (provedA key q) ∧ Below w.heap.size w w' ∧ (∀ p, a' = some p → w.heap.size ≤ p.block ∧ p.block < w'.heap.size) ∧ (provedA key q).length ≤ c' := by
  obtain ⟨bs, lf, qp, qv⟩ := q
  unfold prfV
  simp only at hv hl ⊢
  have hbl := hl.1
  obtain ⟨R, hR⟩ : ∃ R, provedA key ⟨bs, lf, qp, qv⟩ = R := ⟨_, rfl⟩
  have HR := Lib.hid hR
  have hRl := provedA_len key ⟨bs, lf, qp, qv⟩
  rw [hR] at hRl ⊢
  have HK := Lib.hid (fun w hT => qkey_any key w hk hT)
  have hP32 := keyP_32 key
  obtain ⟨P, hP⟩ : ∃ P, keyP key = P := ⟨_, rfl⟩
  have HP := Lib.hid hP
  rw [hP] at HK hP32
  have HRt := Lib.hid (fun w hl => qright_any bs a n c hn w hl)
  have HL := Lib.hid hl
  have HT := Lib.hid hT
  have HNo := Lib.hid (fun w ht => qnothing_any w ht)
  have HI6 := Lib.hid (fun g c w h => qin_one 6 (by omega) key g c w h hk)
  have HI7 := Lib.hid (fun g c w h => qin_two 7 (by omega) qp qv g c w h hv)
  have HI9 := Lib.hid qin_none
  have HLf := Lib.hid (fun w ht => qleaf_any qp qv w hv ht)
  obtain ⟨i6, e6⟩ : ∃ i, inT 6 [key] = i := ⟨_, rfl⟩
  obtain ⟨i7, e7⟩ : ∃ i, inT 7 [qp, qv] = i := ⟨_, rfl⟩
  obtain ⟨i9, e9⟩ : ∃ i, inT 9 [] = i := ⟨_, rfl⟩
  rw [show inT (UInt8.ofNat 6) [key] = i6 from e6] at HI6
  rw [show inT (UInt8.ofNat 7) [qp, qv] = i7 from e7] at HI7
  rw [e9] at HI9
  obtain ⟨O, hO⟩ : ∃ O, rightB bs = O := ⟨_, rfl⟩
  rw [hO] at HRt
  have HO := Lib.hid hO
  have HE := Lib.hid (And.intro e6 (And.intro e7 e9))
  have Bz := Lib.hid ((Below.refl w.heap.size w).alloc (Nat.le_refl _) (.cells #[.slice a n c, .bool lf, .string qp, .string qv] 39))
  have Kz := Lib.hid (Blk.new w 39 #[.slice a n c, .bool lf, .string qp, .string qv])
  obtain ⟨i0, hi0, hz0, hz1, hz2⟩ := info_parts infoText
  clear hT hl hP hk hn hR e6 e7 e9 hO hv
  go_enter Tryz.func29, Tryz.ntmps29
  go_wp2_with fail
  obtain ⟨wz, hwz⟩ : ∃ wz, (w.alloc (.cells #[.slice a n c, .bool lf, .string qp, .string qv] 39)).alloc (.cells #[.string key] 9) = wz := ⟨_, rfl⟩
  have Ba := Lib.hid (show Below w.heap.size w wz from by rw [← hwz]; exact Bz.out.alloc Bz.out.size _)
  have Ka := Lib.hid (show Blk wz w.heap.size 39 #[.slice a n c, .bool lf, .string qp, .string qv] from by rw [← hwz]; exact Kz.out.alloc _)
  have Sa := Lib.hid (show Strs wz (some ⟨w.heap.size + 1, 0, none⟩) 1 [key] from by
    have h9 := strs_blk (ss := [key]) (n := 1) (Blk.new (w.alloc (.cells #[.slice a n c, .bool lf, .string qp, .string qv] 39)) 9 _) rfl
    rw [World.size_alloc] at h9; rw [← hwz]; exact h9)
  rw [hwz]
  clear hwz
  refine (HI6.out (w.heap.size + 1) 1 wz Sa.out).mono ?_
  rintro e w1 ⟨rfl, h1⟩
  have B1 := Lib.hid (Ba.out.trans (h1.mono Ba.out.size))
  have K1 := Lib.hid (Ka.out.below h1 Ka.out.lt)
  clear h1
  go_wp2_with fail
  have B2 := Lib.hid (B1.out.alloc B1.out.size (.cells #[.string i6] 9))
  have K2 := Lib.hid (K1.out.alloc (.cells #[.string i6] 9))
  have O2 := Lib.hid (own_one_ w1 i6 w.heap.size B1.out.size)
  obtain ⟨G, hG⟩ : ∃ G, w1.heap.size = G := ⟨_, rfl⟩
  rw [hG] at O2 ⊢
  clear hG
  obtain ⟨w2, hw2⟩ : ∃ w2, w1.alloc (.cells #[.string i6] 9) = w2 := ⟨_, rfl⟩
  rw [hw2] at B2 K2 O2 ⊢
  clear hw2
  refine (HNo.out w2 (HT.out.below B2.out)).mono ?_
  rintro e w3 ⟨rfl, h3⟩
  have B3 := Lib.hid (B2.out.trans (h3.mono B2.out.size))
  have k3 := K2.out.below h3 K2.out.lt
  have K3 := Lib.hid k3
  have O3 := Lib.hid (own_below O2.out h3)
  have d0 := k3.cell 0
  have d1 := k3.cell 1
  have d2 := k3.cell 2
  have d3 := k3.cell 3
  simp only [List.getElem?_toArray, List.getElem?_cons_zero, List.getElem?_cons_succ] at d0 d1 d2 d3
  have b3 := B3.out.size
  clear h3 k3
  cases lf with
  | true =>
    go_wp2_with fail
    refine (HI7.out w3.heap.size 2 _ (strs_blk (ss := [qp, qv]) (Blk.new w3 9 _) rfl)).mono ?_
    rintro e w4 ⟨rfl, h4⟩
    have B3a := Lib.hid (B3.out.alloc B3.out.size (.cells #[.string qp, .string qv] 9))
    have B4 := Lib.hid (B3a.out.trans (h4.mono B3a.out.size))
    have K3a := K3.out.alloc (.cells #[.string qp, .string qv] 9)
    have K4 := Lib.hid (K3a.below h4 K3a.lt)
    have O4 := Lib.hid (own_below (O3.out.alloc (.cells #[.string qp, .string qv] 9)) h4)
    have b4 := B4.out.size
    clear h4 K3a d0 d1 d2 d3
    go_wp2_with (at_builtin; refine wpList_append_own _ rfl (.tmp 17) (.tmp 24) 37 rfl w.heap.size 9 i0 (.string .empty) 1 16 Tryz.underlying37 hi0 hz0 hz1 hz2 rfl (by decide) (.slice (some ⟨G, 0, none⟩) 1 1) 1 [.string i6] rfl (O4.out.alloc _) ⟨w4.heap.size, 0, none⟩ 1 1 [.string i7] rfl rfl (by intro j u hj; exact new_cell _ _ _ hj) (by intro u hu; simp at hu; subst hu; rfl) (by unfold maxLen; omega) (by omega) (by simp; omega) ?_)
    intro v5 w5 hown5 hgrow5 _
    have B5 := Lib.hid (show Below w.heap.size w w5 from (B4.out.alloc b4 _).grown hgrow5 (by simp; omega) (fun k' hk' => (O4.out.lt k' hk').1))
    have hne5 := own_blk_ne O4.out K4.out (by decide)
    have k5 := (K4.out.alloc (.cells #[.string i7] 9)).grown hgrow5 (fun e => hne5 e.symm)
    have K5 := Lib.hid k5
    have HO5 := Lib.hid (show OwnT w5 w.heap.size v5 [i6, i7] from hown5)
    have d0 := k5.cell 0
    have d1 := k5.cell 1
    have d2 := k5.cell 2
    have d3 := k5.cell 3
    simp only [List.getElem?_toArray, List.getElem?_cons_zero, List.getElem?_cons_succ] at d0 d1 d2 d3
    clear hown5 hgrow5 hne5 k5
    go_wp2_with fail
    refine (HLf.out w5 (HT.out.below B5.out)).mono ?_
    rintro e w6 ⟨rfl, h6⟩
    have B6 := Lib.hid (B5.out.trans (h6.mono B5.out.size))
    have k6 := K5.out.below h6 K5.out.lt
    have K6 := Lib.hid k6
    have O6 := Lib.hid (own_below HO5.out h6)
    clear d0 d1 d2 d3
    have d0 := k6.cell 0
    simp only [List.getElem?_toArray, List.getElem?_cons_zero] at d0
    have HRe := Lib.hid (show R = [i6, i7] ++ (if O then upIn P 0 (leafB qp qv) bs else []) from by
      rw [← HR.out]; unfold provedA; rw [HE.out.1, HP.out, HO.out]
      show [i6] ++ inT 7 [qp, qv] :: _ = _
      rw [HE.out.2.1]; rfl)
    have HUp := Lib.hid (fun (hO : rightB bs = true) w hl ht => qup_any P (leafB qp qv) bs a n c hP32 (sumT_32 _) (by rw [← hbl]; exact (right_iff.1 hO).1) (right_iff.1 hO).2 w hl ht)
    have HUl := Lib.hid (upIn_len bs P 0 (leafB qp qv))
    obtain ⟨Hh, eH⟩ : ∃ Hh, leafB qp qv = Hh := ⟨_, rfl⟩
    obtain ⟨Ee, eE⟩ : ∃ Ee, i7 = Ee := ⟨_, rfl⟩
    rw [eH] at HUp HUl HRe ⊢
    rw [eE] at O6 HRe
    clear eE eH k6
    go_wp2_with fail
    refine (HRt.out w6 (HL.out.below B6.out)).mono ?_
    rintro e w7 ⟨rfl, rfl⟩
    cases O with
    | false =>
      rw [if_neg (by simp), List.append_nil] at HRe
      have o6 : OwnT w6 w.heap.size v5 R := by rw [HRe.out]; exact O6.out
      obtain ⟨a8, c8, hv8, hS8, hf8, hc8⟩ := o6.strs_
      subst hv8
      have HX := Lib.hid (And.intro hS8 (And.intro hf8 hc8))
      clear o6 hS8 hf8 hc8
      go_wp2_with fail
      go_ret
      exact ⟨a8, c8, rfl, HX.out.1, B6.out, HX.out.2.1, HX.out.2.2⟩
    | true =>
      rw [if_pos rfl] at HRe
      obtain ⟨IL, eIL⟩ : ∃ IL, upIn P 0 Hh bs = IL := ⟨_, rfl⟩
      obtain ⟨U, eU⟩ : ∃ U, upF P 0 Hh bs = U := ⟨_, rfl⟩
      have HUp2 := Lib.hid (HUp.out HO.out)
      rw [eIL] at HUp2 HUl HRe
      rw [eU] at HUp2
      have hn256 : IL.length ≤ 256 := by rw [HUl.out]; exact (right_iff.1 HO.out).1
      clear eIL eU
      go_wp2_with fail
      have T6 := Lib.hid (HT.out.below B6.out)
      have hgl := K6.out.lt
      go_region_held3 (fun w' => w'.cell? ⟨w.heap.size, 0, none⟩ = some (.slice a n c)) ((first | (with_reducible assumption) | exact d0 | exact d5)) ((first
        | (go_at_call 40; refine (HK.out _ (by first | exact T6.out | exact T6.out.drew_)).mono ?_; rintro e w8 ⟨rfl, h8⟩; have h8 : Below w6.heap.size w6 w8 := (by first | exact h8 | exact below_of_drew h8 | exact below_of_drew (below_of_drew h8)); have B8 := Lib.hid (B6.out.trans (h8.mono B6.out.size)); have O8 := Lib.hid (own_below O6.out h8); have d5 : w8.cell? ⟨w.heap.size, 0, none⟩ = some (.slice a n c) := (K6.out.below h8 hgl).cell 0; clear h8)
        | (go_at_call 54; refine (HUp2.out _ (by first | exact HL.out.below B8.out | exact HL.out.below B8.out.drew) (by first | exact HT.out.below B8.out | exact HT.out.below B8.out.drew)).mono ?_; rintro e w9 ⟨a9, c9, rfl, hs9, h9, hf9, hc9⟩; have h9 : Below w8.heap.size w8 w9 := (by first | exact h9 | exact below_of_drew h9 | exact below_of_drew (below_of_drew h9)); have B9 := Lib.hid (B8.out.trans (h9.mono B8.out.size)); have O9 := Lib.hid (own_below O8.out h9); have S9 := Lib.hid (strs_reads_ hs9); have b9 := B9.out.size; have d6 : w9.cell? ⟨w.heap.size, 0, none⟩ = some (.slice a n c) := (h9.cell (p := ⟨w.heap.size, 0, none⟩) (block_lt_of_cell d5)).trans d5; clear hs9 h9 hf9 hc9)))
      all_goals
        have hone : ∀ u ∈ IL.map Value.string, u.oneCell' = true := fun u hu => by
          obtain ⟨t, _, rfl⟩ := List.mem_map.1 hu; rfl
        go_wp2_with (at_builtin; refine wpList_append_any _ rfl (.tmp 50) (.tmp 51) 37 rfl w.heap.size 9 i0 (.string .empty) 1 16 Tryz.underlying37 hi0 hz0 hz1 hz2 rfl (by decide) v5 2 [.string i6, .string Ee] rfl O9.out w9.heap.size a9 IL.length c9 (IL.map Value.string) rfl S9.out hone (by unfold maxLen; omega) (by omega) b9 ?_)
        intro v10 w10 hown10 hgrow10 _
        have B10 := Lib.hid (show Below w.heap.size w w10 from B9.out.grown hgrow10 b9 (fun k' hk' => (O9.out.lt k' hk').1))
        have o10 : OwnT w10 w.heap.size v10 R := by
          unfold OwnT
          rw [HRe.out, List.map_append, List.length_append]
          exact hown10
        obtain ⟨a11, c11, hv11, hS11, hf11, hc11⟩ := o10.strs_
        subst hv11
        have HX := Lib.hid (And.intro hS11 (And.intro hf11 hc11))
        clear hown10 hgrow10 o10 hS11 hf11 hc11
        go_wp2_with fail
        go_ret
        exact ⟨a11, c11, rfl, HX.out.1, B10.out, HX.out.2.1, HX.out.2.2⟩
  | false =>
    go_wp2_with fail
    refine (HI9.out w3).mono ?_
    rintro e w4 ⟨rfl, h4⟩
    have B4 := Lib.hid (B3.out.trans (h4.mono B3.out.size))
    have K4 := Lib.hid (K3.out.below h4 K3.out.lt)
    have O4 := Lib.hid (own_below O3.out h4)
    have b4 := B4.out.size
    clear h4 d0 d1 d2 d3
    go_wp2_with (at_builtin; refine wpList_append_own _ rfl (.tmp 31) (.tmp 33) 37 rfl w.heap.size 9 i0 (.string .empty) 1 16 Tryz.underlying37 hi0 hz0 hz1 hz2 rfl (by decide) (.slice (some ⟨G, 0, none⟩) 1 1) 1 [.string i6] rfl (O4.out.alloc _) ⟨w4.heap.size, 0, none⟩ 1 1 [.string i9] rfl rfl (by intro j u hj; exact new_cell _ _ _ hj) (by intro u hu; simp at hu; subst hu; rfl) (by unfold maxLen; omega) (by omega) (by simp; omega) ?_)
    intro v5 w6 hown5 hgrow5 _
    have B6 := Lib.hid (show Below w.heap.size w w6 from (B4.out.alloc b4 _).grown hgrow5 (by simp; omega) (fun k' hk' => (O4.out.lt k' hk').1))
    have hne5 := own_blk_ne O4.out K4.out (by decide)
    have k6 := (K4.out.alloc (.cells #[.string i9] 9)).grown hgrow5 (fun e => hne5 e.symm)
    have K6 := Lib.hid k6
    have O6 := Lib.hid (show OwnT w6 w.heap.size v5 [i6, i9] from hown5)
    have d0 := k6.cell 0
    simp only [List.getElem?_toArray, List.getElem?_cons_zero] at d0
    clear hown5 hgrow5 hne5
    have HRe := Lib.hid (show R = [i6, i9] ++ (if O then upIn P 0 nothingB bs else []) from by
      rw [← HR.out]; unfold provedA; rw [HE.out.1, HP.out, HO.out]
      show [i6] ++ inT 9 [] :: _ = _
      rw [HE.out.2.2]; rfl)
    have HUp := Lib.hid (fun (hO : rightB bs = true) w hl ht => qup_any P nothingB bs a n c hP32 (sumT_32 _) (by rw [← hbl]; exact (right_iff.1 hO).1) (right_iff.1 hO).2 w hl ht)
    have HUl := Lib.hid (upIn_len bs P 0 nothingB)
    obtain ⟨Hh, eH⟩ : ∃ Hh, nothingB = Hh := ⟨_, rfl⟩
    obtain ⟨Ee, eE⟩ : ∃ Ee, i9 = Ee := ⟨_, rfl⟩
    rw [eH] at HUp HUl HRe ⊢
    rw [eE] at O6 HRe
    clear eE eH k6
    go_wp2_with fail
    refine (HRt.out w6 (HL.out.below B6.out)).mono ?_
    rintro e w7 ⟨rfl, rfl⟩
    cases O with
    | false =>
      rw [if_neg (by simp), List.append_nil] at HRe
      have o6 : OwnT w6 w.heap.size v5 R := by rw [HRe.out]; exact O6.out
      obtain ⟨a8, c8, hv8, hS8, hf8, hc8⟩ := o6.strs_
      subst hv8
      have HX := Lib.hid (And.intro hS8 (And.intro hf8 hc8))
      clear o6 hS8 hf8 hc8
      go_wp2_with fail
      go_ret
      exact ⟨a8, c8, rfl, HX.out.1, B6.out, HX.out.2.1, HX.out.2.2⟩
    | true =>
      rw [if_pos rfl] at HRe
      obtain ⟨IL, eIL⟩ : ∃ IL, upIn P 0 Hh bs = IL := ⟨_, rfl⟩
      obtain ⟨U, eU⟩ : ∃ U, upF P 0 Hh bs = U := ⟨_, rfl⟩
      have HUp2 := Lib.hid (HUp.out HO.out)
      rw [eIL] at HUp2 HUl HRe
      rw [eU] at HUp2
      have hn256 : IL.length ≤ 256 := by rw [HUl.out]; exact (right_iff.1 HO.out).1
      clear eIL eU
      go_wp2_with fail
      have T6 := Lib.hid (HT.out.below B6.out)
      have hgl := K6.out.lt
      go_region_held3 (fun w' => w'.cell? ⟨w.heap.size, 0, none⟩ = some (.slice a n c)) ((first | (with_reducible assumption) | exact d0 | exact d5)) ((first
        | (go_at_call 40; refine (HK.out _ (by first | exact T6.out | exact T6.out.drew_)).mono ?_; rintro e w8 ⟨rfl, h8⟩; have h8 : Below w6.heap.size w6 w8 := (by first | exact h8 | exact below_of_drew h8 | exact below_of_drew (below_of_drew h8)); have B8 := Lib.hid (B6.out.trans (h8.mono B6.out.size)); have O8 := Lib.hid (own_below O6.out h8); have d5 : w8.cell? ⟨w.heap.size, 0, none⟩ = some (.slice a n c) := (K6.out.below h8 hgl).cell 0; clear h8)
        | (go_at_call 54; refine (HUp2.out _ (by first | exact HL.out.below B8.out | exact HL.out.below B8.out.drew) (by first | exact HT.out.below B8.out | exact HT.out.below B8.out.drew)).mono ?_; rintro e w9 ⟨a9, c9, rfl, hs9, h9, hf9, hc9⟩; have h9 : Below w8.heap.size w8 w9 := (by first | exact h9 | exact below_of_drew h9 | exact below_of_drew (below_of_drew h9)); have B9 := Lib.hid (B8.out.trans (h9.mono B8.out.size)); have O9 := Lib.hid (own_below O8.out h9); have S9 := Lib.hid (strs_reads_ hs9); have b9 := B9.out.size; have d6 : w9.cell? ⟨w.heap.size, 0, none⟩ = some (.slice a n c) := (h9.cell (p := ⟨w.heap.size, 0, none⟩) (block_lt_of_cell d5)).trans d5; clear hs9 h9 hf9 hc9)))
      all_goals
        have hone : ∀ u ∈ IL.map Value.string, u.oneCell' = true := fun u hu => by
          obtain ⟨t, _, rfl⟩ := List.mem_map.1 hu; rfl
        go_wp2_with (at_builtin; refine wpList_append_any _ rfl (.tmp 50) (.tmp 51) 37 rfl w.heap.size 9 i0 (.string .empty) 1 16 Tryz.underlying37 hi0 hz0 hz1 hz2 rfl (by decide) v5 2 [.string i6, .string Ee] rfl O9.out w9.heap.size a9 IL.length c9 (IL.map Value.string) rfl S9.out hone (by unfold maxLen; omega) (by omega) b9 ?_)
        intro v10 w10 hown10 hgrow10 _
        have B10 := Lib.hid (show Below w.heap.size w w10 from B9.out.grown hgrow10 b9 (fun k' hk' => (O9.out.lt k' hk').1))
        have o10 : OwnT w10 w.heap.size v10 R := by
          unfold OwnT
          rw [HRe.out, List.map_append, List.length_append]
          exact hown10
        obtain ⟨a11, c11, hv11, hS11, hf11, hc11⟩ := o10.strs_
        subst hv11
        have HX := Lib.hid (And.intro hS11 (And.intro hf11 hc11))
        clear hown10 hgrow10 o10 hS11 hf11 hc11
        go_wp2_with fail
        go_ret
        exact ⟨a11, c11, rfl, HX.out.1, B10.out, HX.out.2.1, HX.out.2.2⟩
end Go.Proofs.YtnkkckmejjcfkaaGreatDoor.Sp
