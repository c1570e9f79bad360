/- The walk of SignerGoes. -/
import Derived.Test.YtnbaoihamjdjdaaDoorSigAwake
import Derived.Test.YtnbaoihamjdjdaaDoorSigPick
namespace Go.Proofs.YtnbaoihamjdjdaaDoor.Sp
open Go Go.RowKit
set_option maxRecDepth 100000
variable {Sg : World → (Nat → Prop) → Nat → ByteArray → Nat → Nat → Prop}

set_option maxHeartbeats 4000000 in
theorem goes_law (R : SigR Sg) (seed : ByteArray) (x y : Int) (msg : ByteArray) (hs : seed.size ≤ 140737488351232) (hx : -9223372036854775808 ≤ x ∧ x ≤ 9223372036854775807) (hy : -9223372036854775808 ≤ y ∧ y ≤ 9223372036854775807) (hm : msg.size ≤ 140737488351232) (w : World) (hT : Tab w) :
    Calls Tryd.prog 4 #[.string seed, .int .i64 x, .int .i64 y, .string msg] w fun e w' => e = .returned (.bool true) ∧ Below w.heap.size w w' := by
  obtain ⟨h, h4, p1⟩ := pick_any x 4 (by omega) (by omega) hx.1 hx.2
  have h2 : 0 < 2 ^ h := Nat.pow_pos (by omega)
  have h8 : 2 ^ h ≤ 8 := Nat.le_trans (Nat.pow_le_pow_right (by omega) (show h ≤ 3 by omega)) (by decide)
  obtain ⟨M, hM⟩ : ∃ M : Nat, 2 ^ h = M := ⟨_, rfl⟩
  obtain ⟨n, hn, p2⟩ := pick_any y (2 ^ h) h2 (by omega) hy.1 hy.2
  obtain ⟨K, hK⟩ : ∃ K, keyB seed h = K := ⟨_, rfl⟩
  obtain ⟨A, hA⟩ : ∃ A, sigB seed h n msg = A := ⟨_, rfl⟩
  have hMi : (2 : Int) ^ h = (M : Int) := by rw [← hM]; simp
  have hMw : IntKind.i64.wrap (M : Int) = (M : Int) := by rw [IntKind.wrap_i64]; omega
  rw [hM] at p2
  have HT := Lib.hid hT
  have HM := Lib.hid hM
  have HK := Lib.hid hK
  have HA := Lib.hid hA
  have P1 := Lib.hid p1
  have P2 := Lib.hid p2
  have H4 := Lib.hid h4
  have hn8 : n < 8 := by omega
  have HN := Lib.hid hn
  have hh0 : (0 : Int) ≤ (h : Int) := by omega
  have hh64 : (h : Int) < 64 := by omega
  clear hT p1 p2 hK hA hM
  go_enter Tryd.func4, Tryd.ntmps4
  go_wp2_with fail
  refine (awake_any R w HT.out).mono ?_
  rintro e w0 ⟨rfl, h0⟩
  have B0 := Lib.hid h0
  have T0 := Lib.hid (tab_below HT.out h0)
  clear h0
  go_wp2_with fail
  refine (P1.out _).mono ?_
  rintro e v1 ⟨rfl, rfl⟩
  go_wp2_with fail
  refine (P2.out _).mono ?_
  rintro e v2 ⟨rfl, rfl⟩
  go_wp2_with fail
  refine (R.new_ok seed h 0 _ hs (by omega) (by omega) T0.out).mono ?_
  rintro e w1 ⟨g1, G1, rfl, s1, f1, h1⟩
  have S1 := Lib.hid s1
  have B1 := Lib.hid (B0.out.trans (h1.mono B0.out.size))
  have bs1 := B0.out.size
  have F1 := Lib.hid (fun q (hq : G1 q) => Nat.le_trans bs1 (f1 q hq))
  have T1 := Lib.hid (tab_below HT.out B1.out)
  clear s1 f1 h1 bs1
  go_wp2_with fail
  refine (R.new_ok seed h n w1 hs (by omega) (by have := HM.out; omega) T1.out).mono ?_
  rintro e w2 ⟨g2, G2, rfl, s2, f2, h2b⟩
  have S2 := Lib.hid s2
  have O2 := Lib.hid (R.below S1.out h2b)
  have D2 := Lib.hid (show ∀ q, G1 q → G2 q → False from fun q h1 h3 => by have := R.lt S1.out q h1; have := f2 q h3; omega)
  have B2 := Lib.hid (B1.out.trans (h2b.mono B1.out.size))
  have bs2 := B1.out.size
  have F2 := Lib.hid (fun q (hq : G2 q) => Nat.le_trans bs2 (f2 q hq))
  have T2 := Lib.hid (tab_below HT.out B2.out)
  clear s2 f2 h2b bs2
  go_wp2_with fail
  go_loopw [16] (fun i wr => ∃ (k : Nat) (G : Nat → Prop), k ≤ n ∧ i = .int .i64 (k : Int) ∧ Sg wr G g1 seed h k ∧ Sg wr G2 g2 seed h n ∧ (∀ q, G q → G2 q → False) ∧ (∀ q, G q → w.heap.size ≤ q) ∧ Below w.heap.size w wr) (fun i _ => n - (intOf i).toNat)
  case atStart => exact ⟨0, G1, Nat.zero_le _, rfl, O2.out, S2.out, D2.out, F1.out, B2.out⟩
  case round =>
    obtain ⟨k, G0, hk, rfl, sa, sb, hd, hf, hb⟩ := hrel
    have Sa := Lib.hid sa
    have Sb := Lib.hid sb
    have Dr := Lib.hid hd
    have Fr := Lib.hid hf
    have Br := Lib.hid hb
    have Tr := Lib.hid (tab_below HT.out hb)
    have HMN := Lib.hid (show n < 2 ^ h from HN.out)
    clear sa sb hd hf hb
    by_cases hlt : k < n
    · have hki : (k : Int) < (n : Int) := by omega
      go_wp2_with fail
      have P3 := R.sign_ok wr G0 g1 seed h k ⟨#[111, 116, 104, 101, 114]⟩ Sa.out (by have := HMN.out; omega) (by decide) Tr.out
      refine P3.mono ?_
      rintro e w3 ⟨G3, rfl, s3, t3, i3⟩
      have S3 := Lib.hid s3
      have O3 := Lib.hid (R.other Sb.out t3 (fun q h1 h2 => Dr.out q h2 h1))
      have D3 := Lib.hid (show ∀ q, G3 q → G2 q → False from fun q (hq : G3 q) (hp : G2 q) => by
        rcases i3 q hq with h1 | h1
        · exact Dr.out q h1 hp
        · have := R.lt Sb.out q hp; omega)
      have B3 := Lib.hid (t3.below Br.out Fr.out Br.out.size)
      have F3 := Lib.hid (i3.from Fr.out Br.out.size)
      have T3 := Lib.hid (tab_below HT.out B3.out)
      clear s3 t3 i3 P3
      go_wp2_with fail
      go_roundw
      case rel => exact ⟨k + 1, G3, hlt, by go_num, S3.out, O3.out, D3.out, F3.out, B3.out⟩
      case measure => simp [intOf]; omega
    · have hki : ¬ (k : Int) < (n : Int) := by omega
      obtain rfl : k = n := by omega
      go_wp2_with fail
      have P3 := R.sign_ok wr G0 g1 seed h k msg Sa.out HMN.out hm Tr.out
      rw [HA.out] at P3
      refine P3.mono ?_
      rintro e w3 ⟨G3, rfl, s3, t3, i3⟩
      have S3 := Lib.hid s3
      have O3 := Lib.hid (R.other Sb.out t3 (fun q h1 h2 => Dr.out q h2 h1))
      have D3 := Lib.hid (show ∀ q, G3 q → G2 q → False from fun q (hq : G3 q) (hp : G2 q) => by
        rcases i3 q hq with h1 | h1
        · exact Dr.out q h1 hp
        · have := R.lt Sb.out q hp; omega)
      have B3 := Lib.hid (t3.below Br.out Fr.out Br.out.size)
      have F3 := Lib.hid (i3.from Fr.out Br.out.size)
      have T3 := Lib.hid (tab_below HT.out B3.out)
      clear s3 t3 i3 P3
      go_wp2_with fail
      have P4 := R.sign_ok w3 G2 g2 seed h k msg O3.out HMN.out hm T3.out
      rw [HA.out] at P4
      refine P4.mono ?_
      rintro e w4 ⟨G4, rfl, s4, t4, i4⟩
      have S4 := Lib.hid s4
      have O4 := Lib.hid (R.other S3.out t4 (fun q h1 h2 => D3.out q h1 h2))
      have D4 := Lib.hid (show ∀ q, G3 q → G4 q → False from fun q (hp : G3 q) (hq : G4 q) => by
        rcases i4 q hq with h1 | h1
        · exact D3.out q hp h1
        · have := R.lt S3.out q hp; omega)
      have B4 := Lib.hid (t4.below B3.out F2.out B3.out.size)
      have F4 := Lib.hid (i4.from F2.out B3.out.size)
      have T4 := Lib.hid (tab_below HT.out B4.out)
      clear s4 t4 i4 P4
      go_wp2_with fail
      have P5 := R.pub w4 G3 g1 seed h (k + 1) O4.out T4.out
      rw [HK.out] at P5
      refine P5.mono ?_
      rintro e w5 ⟨G5, rfl, s5, t5, i5⟩
      have S5 := Lib.hid s5
      have O5 := Lib.hid (R.other S4.out t5 (fun q h1 h2 => D4.out q h2 h1))
      have D5 := Lib.hid (show ∀ q, G5 q → G4 q → False from fun q (hq : G5 q) (hp : G4 q) => by
        rcases i5 q hq with h1 | h1
        · exact D4.out q h1 hp
        · have := R.lt S4.out q hp; omega)
      have B5 := Lib.hid (t5.below B4.out F3.out B4.out.size)
      have F5 := Lib.hid (i5.from F3.out B4.out.size)
      have T5 := Lib.hid (tab_below HT.out B5.out)
      clear s5 t5 i5 P5
      go_wp2_with fail
      have P6 := R.pub w5 G4 g2 seed h (k + 1) O5.out T5.out
      rw [HK.out] at P6
      refine P6.mono ?_
      rintro e w6 ⟨G6, rfl, s6, t6, i6⟩
      have S6 := Lib.hid s6
      have O6 := Lib.hid (R.other S5.out t6 (fun q h1 h2 => D5.out q h1 h2))
      have D6 := Lib.hid (show ∀ q, G5 q → G6 q → False from fun q (hp : G5 q) (hq : G6 q) => by
        rcases i6 q hq with h1 | h1
        · exact D5.out q hp h1
        · have := R.lt S5.out q hp; omega)
      have B6 := Lib.hid (t6.below B5.out F4.out B5.out.size)
      have F6 := Lib.hid (i6.from F4.out B5.out.size)
      have T6 := Lib.hid (tab_below HT.out B6.out)
      clear s6 t6 i6 P6
      go_wp2_with fail
      have P7 := R.spent w6 G5 g1 seed h (k + 1) O6.out T6.out
      refine P7.mono ?_
      rintro e w7 ⟨G7, rfl, s7, t7, i7⟩
      have S7 := Lib.hid s7
      have O7 := Lib.hid (R.other S6.out t7 (fun q h1 h2 => D6.out q h2 h1))
      have D7 := Lib.hid (show ∀ q, G7 q → G6 q → False from fun q (hq : G7 q) (hp : G6 q) => by
        rcases i7 q hq with h1 | h1
        · exact D6.out q h1 hp
        · have := R.lt S6.out q hp; omega)
      have B7 := Lib.hid (t7.below B6.out F5.out B6.out.size)
      have F7 := Lib.hid (i7.from F5.out B6.out.size)
      have T7 := Lib.hid (tab_below HT.out B7.out)
      clear s7 t7 i7 P7
      go_wp2_with fail
      have P8 := R.spent w7 G6 g2 seed h (k + 1) O7.out T7.out
      refine P8.mono ?_
      rintro e w8 ⟨G8, rfl, s8, t8, i8⟩
      have S8 := Lib.hid s8
      have O8 := Lib.hid (R.other S7.out t8 (fun q h1 h2 => D7.out q h1 h2))
      have D8 := Lib.hid (show ∀ q, G7 q → G8 q → False from fun q (hp : G7 q) (hq : G8 q) => by
        rcases i8 q hq with h1 | h1
        · exact D7.out q hp h1
        · have := R.lt S7.out q hp; omega)
      have B8 := Lib.hid (t8.below B7.out F6.out B7.out.size)
      have F8 := Lib.hid (i8.from F6.out B7.out.size)
      have T8 := Lib.hid (tab_below HT.out B8.out)
      clear s8 t8 i8 P8
      go_wp2_with fail
      go_ret
      exact ⟨rfl, B8.out⟩
end Go.Proofs.YtnbaoihamjdjdaaDoor.Sp
