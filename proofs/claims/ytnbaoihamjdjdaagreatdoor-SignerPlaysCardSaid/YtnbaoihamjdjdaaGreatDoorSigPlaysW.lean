/- The walk of SignerPlays. -/
import Derived.Test.YtnbaoihamjdjdaaGreatDoorSigAwake
import Derived.Test.YtnbaoihamjdjdaaGreatDoorSigZ
namespace Go.Proofs.YtnbaoihamjdjdaaGreatDoor.Sp
open Go Go.RowKit
set_option maxRecDepth 100000
variable {Sg : World → (Nat → Prop) → Nat → ByteArray → Nat → Nat → Prop}

theorem Sq.below {w w' : World} {F : Nat → Prop} {g : Nat} {seed : ByteArray} {h n : Nat} (s : Sq w F g seed h n) (hb : Below w.heap.size w w') : Sq w' F g seed h n := s.keep (fun k hk => hb.block k (s.lt k hk)) hb.size
theorem Sq.other {w w' : World} {F G : Nat → Prop} {g : Nat} {seed : ByteArray} {h n : Nat} (s : Sq w F g seed h n) (ht : Turned G w w') (hd : ∀ k, F k → ¬ G k) : Sq w' F g seed h n := s.keep (fun k hk => ht.block k (s.lt k hk) (hd k hk)) ht.size

set_option maxHeartbeats 2000000 in
theorem plays_no_a (R : SigR Sg) (seed : ByteArray) (x y : Int) (ms : List ByteArray) (a : Option Addr) (N cap : Nat) (hs : seed.size ≤ 140737488351232) (hx : -9223372036854775808 ≤ x ∧ x ≤ 9223372036854775807) (hy : -9223372036854775808 ≤ y ∧ y ≤ 9223372036854775807) (_hN : N ≤ 9223372036854775807) (_hms : ∀ m ∈ ms, m.size ≤ 140737488351232) (w : World) (_hA : Strs w a N ms) (hT : Tab w) (hU : Tabs w) (h4 : 4 < x) (h7 : x ≤ 7) (hno : x - 4 < 0 ∨ 7 < x - 4 ∨ y < 0 ∨ (2 : Int) ^ (x - 4).toNat < y) :
    Calls Tryz.prog 3 #[.string seed, .int .i64 x, .int .i64 y, .slice a N cap] w fun e w' => e = .returned (.bool true) ∧ Below w.heap.size w w' := by
  have H1 := Lib.hid (R.new_no seed (x - 4) y · hs (by omega) hy hno)
  have H2 := Lib.hid (qnew_no seed (x - 4) y · (by omega) hy hno)
  have hw4 : IntKind.i64.wrap (x - 4) = x - 4 := by rw [IntKind.wrap_i64]; omega
  have HT := Lib.hid hT
  have HU := Lib.hid hU
  clear hT hU hno _hA _hms
  go_enter Tryz.func3, Tryz.ntmps3
  go_wp2_with fail
  refine (awake_any R w HT.out).mono ?_
  rintro e w0 ⟨rfl, h0⟩
  have B0 := Lib.hid h0
  have T0 := Lib.hid (tab_below HT.out h0)
  have U0 := Lib.hid (HU.out.below h0)
  clear h0
  go_wp2_with fail
  refine (H1.out w0 T0.out).mono ?_
  rintro e w1 ⟨rfl, h1⟩
  have B1 := Lib.hid (B0.out.trans (h1.mono B0.out.size))
  clear h1
  go_wp2_with fail
  refine (H2.out w1).mono ?_
  rintro e w2 ⟨rfl, h2⟩
  have B2 := Lib.hid (B1.out.trans (h2.mono B1.out.size))
  clear h2
  go_wp2_with fail
  go_ret
  exact ⟨rfl, B2.out⟩

set_option maxHeartbeats 2000000 in
theorem plays_no_b (R : SigR Sg) (seed : ByteArray) (x y : Int) (ms : List ByteArray) (a : Option Addr) (N cap : Nat) (hs : seed.size ≤ 140737488351232) (hx : -9223372036854775808 ≤ x ∧ x ≤ 9223372036854775807) (hy : -9223372036854775808 ≤ y ∧ y ≤ 9223372036854775807) (_hN : N ≤ 9223372036854775807) (_hms : ∀ m ∈ ms, m.size ≤ 140737488351232) (w : World) (_hA : Strs w a N ms) (hT : Tab w) (hU : Tabs w) (h4 : ¬ 4 < x) (hno : x < 0 ∨ 7 < x ∨ y < 0 ∨ (2 : Int) ^ (x).toNat < y) :
    Calls Tryz.prog 3 #[.string seed, .int .i64 x, .int .i64 y, .slice a N cap] w fun e w' => e = .returned (.bool true) ∧ Below w.heap.size w w' := by
  have H1 := Lib.hid (R.new_no seed (x) y · hs (by omega) hy hno)
  have H2 := Lib.hid (qnew_no seed (x) y · (by omega) hy hno)
  have HT := Lib.hid hT
  have HU := Lib.hid hU
  clear hT hU hno _hA _hms
  go_enter Tryz.func3, Tryz.ntmps3
  go_wp2_with fail
  refine (awake_any R w HT.out).mono ?_
  rintro e w0 ⟨rfl, h0⟩
  have B0 := Lib.hid h0
  have T0 := Lib.hid (tab_below HT.out h0)
  have U0 := Lib.hid (HU.out.below h0)
  clear h0
  go_wp2_with fail
  refine (H1.out w0 T0.out).mono ?_
  rintro e w1 ⟨rfl, h1⟩
  have B1 := Lib.hid (B0.out.trans (h1.mono B0.out.size))
  clear h1
  go_wp2_with fail
  refine (H2.out w1).mono ?_
  rintro e w2 ⟨rfl, h2⟩
  have B2 := Lib.hid (B1.out.trans (h2.mono B1.out.size))
  clear h2
  go_wp2_with fail
  go_ret
  exact ⟨rfl, B2.out⟩

set_option maxHeartbeats 2000000 in
theorem plays_no_c (R : SigR Sg) (seed : ByteArray) (x y : Int) (ms : List ByteArray) (a : Option Addr) (N cap : Nat) (hs : seed.size ≤ 140737488351232) (hx : -9223372036854775808 ≤ x ∧ x ≤ 9223372036854775807) (hy : -9223372036854775808 ≤ y ∧ y ≤ 9223372036854775807) (_hN : N ≤ 9223372036854775807) (_hms : ∀ m ∈ ms, m.size ≤ 140737488351232) (w : World) (_hA : Strs w a N ms) (hT : Tab w) (hU : Tabs w) (h4 : 4 < x) (h7 : ¬ x ≤ 7) (hno : x < 0 ∨ 7 < x ∨ y < 0 ∨ (2 : Int) ^ (x).toNat < y) :
    Calls Tryz.prog 3 #[.string seed, .int .i64 x, .int .i64 y, .slice a N cap] w fun e w' => e = .returned (.bool true) ∧ Below w.heap.size w w' := by
  have H1 := Lib.hid (R.new_no seed (x) y · hs (by omega) hy hno)
  have H2 := Lib.hid (qnew_no seed (x) y · (by omega) hy hno)
  have HT := Lib.hid hT
  have HU := Lib.hid hU
  clear hT hU hno _hA _hms
  go_enter Tryz.func3, Tryz.ntmps3
  go_wp2_with fail
  refine (awake_any R w HT.out).mono ?_
  rintro e w0 ⟨rfl, h0⟩
  have B0 := Lib.hid h0
  have T0 := Lib.hid (tab_below HT.out h0)
  have U0 := Lib.hid (HU.out.below h0)
  clear h0
  go_wp2_with fail
  refine (H1.out w0 T0.out).mono ?_
  rintro e w1 ⟨rfl, h1⟩
  have B1 := Lib.hid (B0.out.trans (h1.mono B0.out.size))
  clear h1
  go_wp2_with fail
  refine (H2.out w1).mono ?_
  rintro e w2 ⟨rfl, h2⟩
  have B2 := Lib.hid (B1.out.trans (h2.mono B1.out.size))
  clear h2
  go_wp2_with fail
  go_ret
  exact ⟨rfl, B2.out⟩

set_option maxHeartbeats 8000000 in
theorem plays_ok_a (R : SigR Sg) (seed : ByteArray) (x y : Int) (ms : List ByteArray) (a : Option Addr) (N cap : Nat) (hs : seed.size ≤ 140737488351232) (hx : -9223372036854775808 ≤ x ∧ x ≤ 9223372036854775807) (hy : -9223372036854775808 ≤ y ∧ y ≤ 9223372036854775807) (hN : N ≤ 9223372036854775807) (hms : ∀ m ∈ ms, m.size ≤ 140737488351232) (w : World) (hA : Strs w a N ms) (hT : Tab w) (hU : Tabs w) (h n : Nat) (h7 : h ≤ 7) (hn : n ≤ 2 ^ h) (ey : y = (n : Int)) (h4 : 4 < x) (hx7 : x ≤ 7) (ex : x - 4 = (h : Int)) :
    Calls Tryz.prog 3 #[.string seed, .int .i64 x, .int .i64 y, .slice a N cap] w fun e w' => e = .returned (.bool true) ∧ Below w.heap.size w w' := by
  subst ey
  obtain ⟨K, hK⟩ : ∃ K, keyB seed h = K := ⟨_, rfl⟩
  have hpub := fun (w : World) (F : Nat → Prop) (g n : Nat) (s : Sg w F g seed h n) (t : Tab w) => R.pub w F g seed h n s t
  rw [hK] at hpub
  have HPb := Lib.hid hpub
  have HK := Lib.hid hK
  have HA := Lib.hid hA
  have HMs := Lib.hid hms
  have hAl := hA.1
  have Hn := Lib.hid hn
  have hw4 : IntKind.i64.wrap (h : Int) = (h : Int) := by rw [IntKind.wrap_i64]; omega
  have HT := Lib.hid hT
  have HU := Lib.hid hU
  clear hT hU hA hms hK hpub hn
  go_enter Tryz.func3, Tryz.ntmps3
  go_wp2_with fail
  refine (awake_any R w HT.out).mono ?_
  rintro e w0 ⟨rfl, h0⟩
  have B0 := Lib.hid h0
  have T0 := Lib.hid (tab_below HT.out h0)
  have U0 := Lib.hid (HU.out.below h0)
  clear h0
  go_wp2_with fail
  refine (R.new_ok seed h n w0 hs h7 Hn.out T0.out).mono ?_
  rintro e w1 ⟨ga, G1, rfl, s1, f1, h1⟩
  have S1 := Lib.hid s1
  have B1 := Lib.hid (B0.out.trans (h1.mono B0.out.size))
  have F1 := Lib.hid (fun q (hq : G1 q) => Nat.le_trans B0.out.size (f1 q hq))
  have U1 := Lib.hid (HU.out.below B1.out)
  clear s1 f1 h1
  go_wp2_with fail
  refine (qnew_ok seed h n w1 hs h7 Hn.out U1.out).mono ?_
  rintro e w2 ⟨gb, G2, rfl, s2, f2, h2⟩
  have O2 := Lib.hid s2
  have S2 := Lib.hid (R.below S1.out h2)
  have B2 := Lib.hid (B1.out.trans (h2.mono B1.out.size))
  have F2 := Lib.hid (fun q (hq : G2 q) => Nat.le_trans B1.out.size (f2 q hq))
  have D2 := Lib.hid (show ∀ q, G1 q → G2 q → False from fun q h3 h4 => by have := R.lt S1.out q h3; have := f2 q h4; omega)
  clear s2 f2 h2
  go_wp2_with fail
  go_loopw [14] (fun t wr => ∃ (k c : Nat) (Ga Gb : Nat → Prop), k ≤ N ∧ t = .int .i64 (k : Int) ∧ c ≤ 2 ^ h ∧ Sg wr Ga ga seed h c ∧ Sq wr Gb gb seed h c ∧ (∀ q, Ga q → Gb q → False) ∧ (∀ q, Ga q → w.heap.size ≤ q) ∧ (∀ q, Gb q → w.heap.size ≤ q) ∧ Below w.heap.size w wr) (fun t _ => N - (intOf t).toNat)
  case atStart => exact ⟨0, n, G1, G2, Nat.zero_le _, rfl, Hn.out, S2.out, O2.out, D2.out, F1.out, F2.out, B2.out⟩
  case round =>
    obtain ⟨k, c, Ga, Gb, hk, rfl, hc, sa, ob, hd, fa, fb, br⟩ := hrel
    have Hc := Lib.hid hc
    have Sa := Lib.hid sa
    have Ob := Lib.hid ob
    have Dr := Lib.hid hd
    have Fa := Lib.hid fa
    have Fb := Lib.hid fb
    have Br := Lib.hid br
    have Tr := Lib.hid (tab_below HT.out br)
    clear hc sa ob hd fa fb br
    by_cases hlt : k < N
    · have hki : (k : Int) < (N : Int) := by omega
      have hk0 : (0 : Int) ≤ (k : Int) := by omega
      by_cases h20 : k < 20
      · have h20i : (k : Int) < 20 := by omega
        obtain ⟨Y, hY⟩ : ∃ Y, ms.getD k .empty = Y := ⟨_, rfl⟩
        have hYs : Y.size ≤ 140737488351232 := by rw [← hY]; exact HMs.out _ (getD_mem_ ms k (by omega))
        obtain ⟨b, off, rfl, hcs⟩ := HA.out.2 (by omega)
        have cw := hcs k hlt
        rw [hY] at cw
        have hbw := block_lt_of_cell cw
        have ck := (Br.out.cell (p := ⟨b, off + k, none⟩) hbw).trans cw
        clear hcs hY hlt
        by_cases hcm : c < 2 ^ h
        · have HCM := Lib.hid hcm
          obtain ⟨A, hAe⟩ : ∃ A, sigB seed h c Y = A := ⟨_, rfl⟩
          have hsa := R.sign_ok wr Ga ga seed h c Y Sa.out hcm hYs Tr.out
          have hsb := fun (w : World) (F : Nat → Prop) (s : Sq w F gb seed h c) (t : Tabs w) => qsign_ok w F gb seed h c Y s h7 hcm hs hYs t
          rw [hAe] at hsa hsb
          have HSa := Lib.hid hsa
          have HSb := Lib.hid hsb
          clear hsa hsb hAe hcm
          go_wp2_with fail
          refine (HSa.out).mono ?_
          rintro e w3 ⟨G3, rfl, s3, t3, i3⟩
          have S3 := Lib.hid s3
          have O3 := Lib.hid (Ob.out.other t3 (fun q h1 h2 => Dr.out q h2 h1))
          have D3 := Lib.hid (show ∀ q, G3 q → Gb q → False from fun q hq hp => (i3 q hq).elim (fun h1 => Dr.out q h1 hp) (fun h1 => by have := Ob.out.lt q hp; omega))
          have B3 := Lib.hid (t3.below Br.out Fa.out Br.out.size)
          have F3 := Lib.hid (i3.from Fa.out Br.out.size)
          have T3 := Lib.hid (tab_below HT.out B3.out)
          have U3 := Lib.hid (HU.out.below B3.out)
          clear s3 t3 i3
          have ck3 := (B3.out.cell (p := ⟨b, off + k, none⟩) hbw).trans cw
          clear ck
          go_wp2_with fail
          refine (HSb.out w3 Gb O3.out U3.out).mono ?_
          rintro e w4 ⟨G4, rfl, s4, t4, i4⟩
          have O4 := Lib.hid s4
          have S4 := Lib.hid (R.other S3.out t4 (fun q h1 h2 => D3.out q h1 h2))
          have D4 := Lib.hid (show ∀ q, G3 q → G4 q → False from fun q hp hq => (i4 q hq).elim (fun h1 => D3.out q hp h1) (fun h1 => by have := R.lt S3.out q hp; omega))
          have B4 := Lib.hid (t4.below B3.out Fb.out B3.out.size)
          have F4 := Lib.hid (i4.from Fb.out B3.out.size)
          have T4 := Lib.hid (tab_below HT.out B4.out)
          have U4 := Lib.hid (HU.out.below B4.out)
          clear s4 t4 i4
          clear ck3
          go_wp2_with fail
          refine (R.spent w4 G3 ga seed h (c + 1) S4.out T4.out).mono ?_
          rintro e w5 ⟨G5, rfl, s5, t5, i5⟩
          have S5 := Lib.hid s5
          have O5 := Lib.hid (O4.out.other t5 (fun q h1 h2 => D4.out q h2 h1))
          have D5 := Lib.hid (show ∀ q, G5 q → G4 q → False from fun q hq hp => (i5 q hq).elim (fun h1 => D4.out q h1 hp) (fun h1 => by have := O4.out.lt q hp; omega))
          have B5 := Lib.hid (t5.below B4.out F3.out B4.out.size)
          have F5 := Lib.hid (i5.from F3.out B4.out.size)
          have T5 := Lib.hid (tab_below HT.out B5.out)
          have U5 := Lib.hid (HU.out.below B5.out)
          clear s5 t5 i5
          go_wp2_with fail
          refine (qspent_any w5 G4 gb seed h (c + 1) O5.out).mono ?_
          rintro e w6 ⟨rfl, rfl⟩
          go_wp2_with fail
          go_roundw
          case rel => exact ⟨k + 1, c + 1, G5, G4, by omega, by go_num, HCM.out, S5.out, O5.out, D5.out, F5.out, F4.out, B5.out⟩
          case measure => simp [intOf]; omega
        · have hce : c = 2 ^ h := by have := Hc.out; omega
          have HSa := Lib.hid (R.sign_no wr Ga ga seed h c Y Sa.out hce hYs Tr.out)
          have HSb := Lib.hid (fun (w : World) (F : Nat → Prop) (s : Sq w F gb seed h c) => qsign_no w F gb seed h c Y s h7 hce)
          clear hce hcm
          go_wp2_with fail
          refine (HSa.out).mono ?_
          rintro e w3 ⟨G3, rfl, s3, t3, i3⟩
          have S3 := Lib.hid s3
          have O3 := Lib.hid (Ob.out.other t3 (fun q h1 h2 => Dr.out q h2 h1))
          have D3 := Lib.hid (show ∀ q, G3 q → Gb q → False from fun q hq hp => (i3 q hq).elim (fun h1 => Dr.out q h1 hp) (fun h1 => by have := Ob.out.lt q hp; omega))
          have B3 := Lib.hid (t3.below Br.out Fa.out Br.out.size)
          have F3 := Lib.hid (i3.from Fa.out Br.out.size)
          have T3 := Lib.hid (tab_below HT.out B3.out)
          have U3 := Lib.hid (HU.out.below B3.out)
          clear s3 t3 i3
          have ck3 := (B3.out.cell (p := ⟨b, off + k, none⟩) hbw).trans cw
          clear ck
          go_wp2_with fail
          refine (HSb.out w3 Gb O3.out).mono ?_
          rintro e w4 ⟨rfl, h4⟩
          have S4 := Lib.hid (R.below S3.out h4)
          have O4 := Lib.hid (O3.out.below h4)
          have B4 := Lib.hid (B3.out.trans (h4.mono B3.out.size))
          have T4 := Lib.hid (tab_below HT.out B4.out)
          have U4 := Lib.hid (HU.out.below B4.out)
          clear h4
          have D4 := Lib.hid D3.out
          have F4 := Lib.hid F3.out
          clear ck3
          go_wp2_with fail
          refine (R.spent w4 G3 ga seed h c S4.out T4.out).mono ?_
          rintro e w5 ⟨G5, rfl, s5, t5, i5⟩
          have S5 := Lib.hid s5
          have O5 := Lib.hid (O4.out.other t5 (fun q h1 h2 => D4.out q h2 h1))
          have D5 := Lib.hid (show ∀ q, G5 q → Gb q → False from fun q hq hp => (i5 q hq).elim (fun h1 => D4.out q h1 hp) (fun h1 => by have := O4.out.lt q hp; omega))
          have B5 := Lib.hid (t5.below B4.out F4.out B4.out.size)
          have F5 := Lib.hid (i5.from F4.out B4.out.size)
          have T5 := Lib.hid (tab_below HT.out B5.out)
          have U5 := Lib.hid (HU.out.below B5.out)
          clear s5 t5 i5
          go_wp2_with fail
          refine (qspent_any w5 Gb gb seed h c O5.out).mono ?_
          rintro e w6 ⟨rfl, rfl⟩
          go_wp2_with fail
          go_roundw
          case rel => exact ⟨k + 1, c, G5, Gb, by omega, by go_num, Hc.out, S5.out, O5.out, D5.out, F5.out, Fb.out, B5.out⟩
          case measure => simp [intOf]; omega
      · have h20i : ¬ (k : Int) < 20 := by omega
        clear hlt h20
        go_wp2_with fail
        refine (HPb.out wr Ga ga c Sa.out Tr.out).mono ?_
        rintro e w3 ⟨G3, rfl, s3, t3, i3⟩
        have S3 := Lib.hid s3
        have O3 := Lib.hid (Ob.out.other t3 (fun q h1 h2 => Dr.out q h2 h1))
        have D3 := Lib.hid (show ∀ q, G3 q → Gb q → False from fun q hq hp => (i3 q hq).elim (fun h1 => Dr.out q h1 hp) (fun h1 => by have := Ob.out.lt q hp; omega))
        have B3 := Lib.hid (t3.below Br.out Fa.out Br.out.size)
        have F3 := Lib.hid (i3.from Fa.out Br.out.size)
        have T3 := Lib.hid (tab_below HT.out B3.out)
        have U3 := Lib.hid (HU.out.below B3.out)
        clear s3 t3 i3
        go_wp2_with fail
        refine (qpub_any w3 Gb gb seed h c O3.out h7 U3.out).mono ?_
        rw [HK.out]
        rintro e w4 ⟨rfl, h4⟩
        have B4 := Lib.hid (B3.out.trans (h4.mono B3.out.size))
        clear h4
        go_wp2_with fail
        go_ret
        exact ⟨rfl, B4.out⟩
    · have hki : ¬ (k : Int) < (N : Int) := by omega
      clear hlt
      go_wp2_with fail
      refine (HPb.out wr Ga ga c Sa.out Tr.out).mono ?_
      rintro e w3 ⟨G3, rfl, s3, t3, i3⟩
      have S3 := Lib.hid s3
      have O3 := Lib.hid (Ob.out.other t3 (fun q h1 h2 => Dr.out q h2 h1))
      have D3 := Lib.hid (show ∀ q, G3 q → Gb q → False from fun q hq hp => (i3 q hq).elim (fun h1 => Dr.out q h1 hp) (fun h1 => by have := Ob.out.lt q hp; omega))
      have B3 := Lib.hid (t3.below Br.out Fa.out Br.out.size)
      have F3 := Lib.hid (i3.from Fa.out Br.out.size)
      have T3 := Lib.hid (tab_below HT.out B3.out)
      have U3 := Lib.hid (HU.out.below B3.out)
      clear s3 t3 i3
      go_wp2_with fail
      refine (qpub_any w3 Gb gb seed h c O3.out h7 U3.out).mono ?_
      rw [HK.out]
      rintro e w4 ⟨rfl, h4⟩
      have B4 := Lib.hid (B3.out.trans (h4.mono B3.out.size))
      clear h4
      go_wp2_with fail
      go_ret
      exact ⟨rfl, B4.out⟩

set_option maxHeartbeats 8000000 in
theorem plays_ok_b (R : SigR Sg) (seed : ByteArray) (x y : Int) (ms : List ByteArray) (a : Option Addr) (N cap : Nat) (hs : seed.size ≤ 140737488351232) (hx : -9223372036854775808 ≤ x ∧ x ≤ 9223372036854775807) (hy : -9223372036854775808 ≤ y ∧ y ≤ 9223372036854775807) (hN : N ≤ 9223372036854775807) (hms : ∀ m ∈ ms, m.size ≤ 140737488351232) (w : World) (hA : Strs w a N ms) (hT : Tab w) (hU : Tabs w) (h n : Nat) (h7 : h ≤ 7) (hn : n ≤ 2 ^ h) (ey : y = (n : Int)) (h4 : ¬ 4 < x) (ex : x = (h : Int)) :
    Calls Tryz.prog 3 #[.string seed, .int .i64 x, .int .i64 y, .slice a N cap] w fun e w' => e = .returned (.bool true) ∧ Below w.heap.size w w' := by
  subst ey
  obtain ⟨K, hK⟩ : ∃ K, keyB seed h = K := ⟨_, rfl⟩
  have hpub := fun (w : World) (F : Nat → Prop) (g n : Nat) (s : Sg w F g seed h n) (t : Tab w) => R.pub w F g seed h n s t
  rw [hK] at hpub
  have HPb := Lib.hid hpub
  have HK := Lib.hid hK
  have HA := Lib.hid hA
  have HMs := Lib.hid hms
  have hAl := hA.1
  have Hn := Lib.hid hn
  subst ex
  have HT := Lib.hid hT
  have HU := Lib.hid hU
  clear hT hU hA hms hK hpub hn
  go_enter Tryz.func3, Tryz.ntmps3
  go_wp2_with fail
  refine (awake_any R w HT.out).mono ?_
  rintro e w0 ⟨rfl, h0⟩
  have B0 := Lib.hid h0
  have T0 := Lib.hid (tab_below HT.out h0)
  have U0 := Lib.hid (HU.out.below h0)
  clear h0
  go_wp2_with fail
  refine (R.new_ok seed h n w0 hs h7 Hn.out T0.out).mono ?_
  rintro e w1 ⟨ga, G1, rfl, s1, f1, h1⟩
  have S1 := Lib.hid s1
  have B1 := Lib.hid (B0.out.trans (h1.mono B0.out.size))
  have F1 := Lib.hid (fun q (hq : G1 q) => Nat.le_trans B0.out.size (f1 q hq))
  have U1 := Lib.hid (HU.out.below B1.out)
  clear s1 f1 h1
  go_wp2_with fail
  refine (qnew_ok seed h n w1 hs h7 Hn.out U1.out).mono ?_
  rintro e w2 ⟨gb, G2, rfl, s2, f2, h2⟩
  have O2 := Lib.hid s2
  have S2 := Lib.hid (R.below S1.out h2)
  have B2 := Lib.hid (B1.out.trans (h2.mono B1.out.size))
  have F2 := Lib.hid (fun q (hq : G2 q) => Nat.le_trans B1.out.size (f2 q hq))
  have D2 := Lib.hid (show ∀ q, G1 q → G2 q → False from fun q h3 h4 => by have := R.lt S1.out q h3; have := f2 q h4; omega)
  clear s2 f2 h2
  go_wp2_with fail
  go_loopw [14] (fun t wr => ∃ (k c : Nat) (Ga Gb : Nat → Prop), k ≤ N ∧ t = .int .i64 (k : Int) ∧ c ≤ 2 ^ h ∧ Sg wr Ga ga seed h c ∧ Sq wr Gb gb seed h c ∧ (∀ q, Ga q → Gb q → False) ∧ (∀ q, Ga q → w.heap.size ≤ q) ∧ (∀ q, Gb q → w.heap.size ≤ q) ∧ Below w.heap.size w wr) (fun t _ => N - (intOf t).toNat)
  case atStart => exact ⟨0, n, G1, G2, Nat.zero_le _, rfl, Hn.out, S2.out, O2.out, D2.out, F1.out, F2.out, B2.out⟩
  case round =>
    obtain ⟨k, c, Ga, Gb, hk, rfl, hc, sa, ob, hd, fa, fb, br⟩ := hrel
    have Hc := Lib.hid hc
    have Sa := Lib.hid sa
    have Ob := Lib.hid ob
    have Dr := Lib.hid hd
    have Fa := Lib.hid fa
    have Fb := Lib.hid fb
    have Br := Lib.hid br
    have Tr := Lib.hid (tab_below HT.out br)
    clear hc sa ob hd fa fb br
    by_cases hlt : k < N
    · have hki : (k : Int) < (N : Int) := by omega
      have hk0 : (0 : Int) ≤ (k : Int) := by omega
      by_cases h20 : k < 20
      · have h20i : (k : Int) < 20 := by omega
        obtain ⟨Y, hY⟩ : ∃ Y, ms.getD k .empty = Y := ⟨_, rfl⟩
        have hYs : Y.size ≤ 140737488351232 := by rw [← hY]; exact HMs.out _ (getD_mem_ ms k (by omega))
        obtain ⟨b, off, rfl, hcs⟩ := HA.out.2 (by omega)
        have cw := hcs k hlt
        rw [hY] at cw
        have hbw := block_lt_of_cell cw
        have ck := (Br.out.cell (p := ⟨b, off + k, none⟩) hbw).trans cw
        clear hcs hY hlt
        by_cases hcm : c < 2 ^ h
        · have HCM := Lib.hid hcm
          obtain ⟨A, hAe⟩ : ∃ A, sigB seed h c Y = A := ⟨_, rfl⟩
          have hsa := R.sign_ok wr Ga ga seed h c Y Sa.out hcm hYs Tr.out
          have hsb := fun (w : World) (F : Nat → Prop) (s : Sq w F gb seed h c) (t : Tabs w) => qsign_ok w F gb seed h c Y s h7 hcm hs hYs t
          rw [hAe] at hsa hsb
          have HSa := Lib.hid hsa
          have HSb := Lib.hid hsb
          clear hsa hsb hAe hcm
          go_wp2_with fail
          refine (HSa.out).mono ?_
          rintro e w3 ⟨G3, rfl, s3, t3, i3⟩
          have S3 := Lib.hid s3
          have O3 := Lib.hid (Ob.out.other t3 (fun q h1 h2 => Dr.out q h2 h1))
          have D3 := Lib.hid (show ∀ q, G3 q → Gb q → False from fun q hq hp => (i3 q hq).elim (fun h1 => Dr.out q h1 hp) (fun h1 => by have := Ob.out.lt q hp; omega))
          have B3 := Lib.hid (t3.below Br.out Fa.out Br.out.size)
          have F3 := Lib.hid (i3.from Fa.out Br.out.size)
          have T3 := Lib.hid (tab_below HT.out B3.out)
          have U3 := Lib.hid (HU.out.below B3.out)
          clear s3 t3 i3
          have ck3 := (B3.out.cell (p := ⟨b, off + k, none⟩) hbw).trans cw
          clear ck
          go_wp2_with fail
          refine (HSb.out w3 Gb O3.out U3.out).mono ?_
          rintro e w4 ⟨G4, rfl, s4, t4, i4⟩
          have O4 := Lib.hid s4
          have S4 := Lib.hid (R.other S3.out t4 (fun q h1 h2 => D3.out q h1 h2))
          have D4 := Lib.hid (show ∀ q, G3 q → G4 q → False from fun q hp hq => (i4 q hq).elim (fun h1 => D3.out q hp h1) (fun h1 => by have := R.lt S3.out q hp; omega))
          have B4 := Lib.hid (t4.below B3.out Fb.out B3.out.size)
          have F4 := Lib.hid (i4.from Fb.out B3.out.size)
          have T4 := Lib.hid (tab_below HT.out B4.out)
          have U4 := Lib.hid (HU.out.below B4.out)
          clear s4 t4 i4
          clear ck3
          go_wp2_with fail
          refine (R.spent w4 G3 ga seed h (c + 1) S4.out T4.out).mono ?_
          rintro e w5 ⟨G5, rfl, s5, t5, i5⟩
          have S5 := Lib.hid s5
          have O5 := Lib.hid (O4.out.other t5 (fun q h1 h2 => D4.out q h2 h1))
          have D5 := Lib.hid (show ∀ q, G5 q → G4 q → False from fun q hq hp => (i5 q hq).elim (fun h1 => D4.out q h1 hp) (fun h1 => by have := O4.out.lt q hp; omega))
          have B5 := Lib.hid (t5.below B4.out F3.out B4.out.size)
          have F5 := Lib.hid (i5.from F3.out B4.out.size)
          have T5 := Lib.hid (tab_below HT.out B5.out)
          have U5 := Lib.hid (HU.out.below B5.out)
          clear s5 t5 i5
          go_wp2_with fail
          refine (qspent_any w5 G4 gb seed h (c + 1) O5.out).mono ?_
          rintro e w6 ⟨rfl, rfl⟩
          go_wp2_with fail
          go_roundw
          case rel => exact ⟨k + 1, c + 1, G5, G4, by omega, by go_num, HCM.out, S5.out, O5.out, D5.out, F5.out, F4.out, B5.out⟩
          case measure => simp [intOf]; omega
        · have hce : c = 2 ^ h := by have := Hc.out; omega
          have HSa := Lib.hid (R.sign_no wr Ga ga seed h c Y Sa.out hce hYs Tr.out)
          have HSb := Lib.hid (fun (w : World) (F : Nat → Prop) (s : Sq w F gb seed h c) => qsign_no w F gb seed h c Y s h7 hce)
          clear hce hcm
          go_wp2_with fail
          refine (HSa.out).mono ?_
          rintro e w3 ⟨G3, rfl, s3, t3, i3⟩
          have S3 := Lib.hid s3
          have O3 := Lib.hid (Ob.out.other t3 (fun q h1 h2 => Dr.out q h2 h1))
          have D3 := Lib.hid (show ∀ q, G3 q → Gb q → False from fun q hq hp => (i3 q hq).elim (fun h1 => Dr.out q h1 hp) (fun h1 => by have := Ob.out.lt q hp; omega))
          have B3 := Lib.hid (t3.below Br.out Fa.out Br.out.size)
          have F3 := Lib.hid (i3.from Fa.out Br.out.size)
          have T3 := Lib.hid (tab_below HT.out B3.out)
          have U3 := Lib.hid (HU.out.below B3.out)
          clear s3 t3 i3
          have ck3 := (B3.out.cell (p := ⟨b, off + k, none⟩) hbw).trans cw
          clear ck
          go_wp2_with fail
          refine (HSb.out w3 Gb O3.out).mono ?_
          rintro e w4 ⟨rfl, h4⟩
          have S4 := Lib.hid (R.below S3.out h4)
          have O4 := Lib.hid (O3.out.below h4)
          have B4 := Lib.hid (B3.out.trans (h4.mono B3.out.size))
          have T4 := Lib.hid (tab_below HT.out B4.out)
          have U4 := Lib.hid (HU.out.below B4.out)
          clear h4
          have D4 := Lib.hid D3.out
          have F4 := Lib.hid F3.out
          clear ck3
          go_wp2_with fail
          refine (R.spent w4 G3 ga seed h c S4.out T4.out).mono ?_
          rintro e w5 ⟨G5, rfl, s5, t5, i5⟩
          have S5 := Lib.hid s5
          have O5 := Lib.hid (O4.out.other t5 (fun q h1 h2 => D4.out q h2 h1))
          have D5 := Lib.hid (show ∀ q, G5 q → Gb q → False from fun q hq hp => (i5 q hq).elim (fun h1 => D4.out q h1 hp) (fun h1 => by have := O4.out.lt q hp; omega))
          have B5 := Lib.hid (t5.below B4.out F4.out B4.out.size)
          have F5 := Lib.hid (i5.from F4.out B4.out.size)
          have T5 := Lib.hid (tab_below HT.out B5.out)
          have U5 := Lib.hid (HU.out.below B5.out)
          clear s5 t5 i5
          go_wp2_with fail
          refine (qspent_any w5 Gb gb seed h c O5.out).mono ?_
          rintro e w6 ⟨rfl, rfl⟩
          go_wp2_with fail
          go_roundw
          case rel => exact ⟨k + 1, c, G5, Gb, by omega, by go_num, Hc.out, S5.out, O5.out, D5.out, F5.out, Fb.out, B5.out⟩
          case measure => simp [intOf]; omega
      · have h20i : ¬ (k : Int) < 20 := by omega
        clear hlt h20
        go_wp2_with fail
        refine (HPb.out wr Ga ga c Sa.out Tr.out).mono ?_
        rintro e w3 ⟨G3, rfl, s3, t3, i3⟩
        have S3 := Lib.hid s3
        have O3 := Lib.hid (Ob.out.other t3 (fun q h1 h2 => Dr.out q h2 h1))
        have D3 := Lib.hid (show ∀ q, G3 q → Gb q → False from fun q hq hp => (i3 q hq).elim (fun h1 => Dr.out q h1 hp) (fun h1 => by have := Ob.out.lt q hp; omega))
        have B3 := Lib.hid (t3.below Br.out Fa.out Br.out.size)
        have F3 := Lib.hid (i3.from Fa.out Br.out.size)
        have T3 := Lib.hid (tab_below HT.out B3.out)
        have U3 := Lib.hid (HU.out.below B3.out)
        clear s3 t3 i3
        go_wp2_with fail
        refine (qpub_any w3 Gb gb seed h c O3.out h7 U3.out).mono ?_
        rw [HK.out]
        rintro e w4 ⟨rfl, h4⟩
        have B4 := Lib.hid (B3.out.trans (h4.mono B3.out.size))
        clear h4
        go_wp2_with fail
        go_ret
        exact ⟨rfl, B4.out⟩
    · have hki : ¬ (k : Int) < (N : Int) := by omega
      clear hlt
      go_wp2_with fail
      refine (HPb.out wr Ga ga c Sa.out Tr.out).mono ?_
      rintro e w3 ⟨G3, rfl, s3, t3, i3⟩
      have S3 := Lib.hid s3
      have O3 := Lib.hid (Ob.out.other t3 (fun q h1 h2 => Dr.out q h2 h1))
      have D3 := Lib.hid (show ∀ q, G3 q → Gb q → False from fun q hq hp => (i3 q hq).elim (fun h1 => Dr.out q h1 hp) (fun h1 => by have := Ob.out.lt q hp; omega))
      have B3 := Lib.hid (t3.below Br.out Fa.out Br.out.size)
      have F3 := Lib.hid (i3.from Fa.out Br.out.size)
      have T3 := Lib.hid (tab_below HT.out B3.out)
      have U3 := Lib.hid (HU.out.below B3.out)
      clear s3 t3 i3
      go_wp2_with fail
      refine (qpub_any w3 Gb gb seed h c O3.out h7 U3.out).mono ?_
      rw [HK.out]
      rintro e w4 ⟨rfl, h4⟩
      have B4 := Lib.hid (B3.out.trans (h4.mono B3.out.size))
      clear h4
      go_wp2_with fail
      go_ret
      exact ⟨rfl, B4.out⟩

theorem plays_law (R : SigR Sg) (seed : ByteArray) (x y : Int) (ms : List ByteArray) (a : Option Addr) (N cap : Nat) (hs : seed.size ≤ 140737488351232) (hx : -9223372036854775808 ≤ x ∧ x ≤ 9223372036854775807) (hy : -9223372036854775808 ≤ y ∧ y ≤ 9223372036854775807) (hN : N ≤ 9223372036854775807) (hms : ∀ m ∈ ms, m.size ≤ 140737488351232) (w : World) (hA : Strs w a N ms) (hT : Tab w) (hU : Tabs w) :
    Calls Tryz.prog 3 #[.string seed, .int .i64 x, .int .i64 y, .slice a N cap] w fun e w' => e = .returned (.bool true) ∧ Below w.heap.size w w' := by
  by_cases h4 : 4 < x
  · by_cases h7 : x ≤ 7
    · by_cases hno : x - 4 < 0 ∨ 7 < x - 4 ∨ y < 0 ∨ (2 : Int) ^ (x - 4).toNat < y
      · exact plays_no_a R seed x y ms a N cap hs hx hy hN hms w hA hT hU h4 h7 hno
      · have hy0 : 0 ≤ y := by omega
        have hp : y ≤ (2 : Int) ^ (x - 4).toNat := by omega
        have e2 : ((2 ^ (x - 4).toNat : Nat) : Int) = (2 : Int) ^ (x - 4).toNat := by simp
        exact plays_ok_a R seed x y ms a N cap hs hx hy hN hms w hA hT hU (x - 4).toNat y.toNat (by omega) (by omega) (by omega) h4 h7 (by omega)
    · exact plays_no_c R seed x y ms a N cap hs hx hy hN hms w hA hT hU h4 h7 (.inr (.inl (by omega)))
  · by_cases hno : x < 0 ∨ 7 < x ∨ y < 0 ∨ (2 : Int) ^ x.toNat < y
    · exact plays_no_b R seed x y ms a N cap hs hx hy hN hms w hA hT hU h4 hno
    · have hp : y ≤ (2 : Int) ^ x.toNat := by omega
      have e2 : ((2 ^ x.toNat : Nat) : Int) = (2 : Int) ^ x.toNat := by simp
      exact plays_ok_b R seed x y ms a N cap hs hx hy hN hms w hA hT hU x.toNat y.toNat (by omega) (by omega) (by omega) h4 (by omega)
end Go.Proofs.YtnbaoihamjdjdaaGreatDoor.Sp
