/- The walk of AmountRefuses. -/
import Derived.Test.YtaebhecnekdcfaaDoorAmtAwake
import Derived.Test.YtaebhecnekdcfaaDoorAmtQPar
namespace Go.Proofs.YtaebhecnekdcfaaDoor.Sp
open Go Go.RowKit

def HeadOk (l : List UInt8) : Prop := l ≠ [] ∧ (l.length = 1 ∨ l.head? ≠ some 48)
theorem form_iff (l : List UInt8) : Form l ↔ HeadOk l ∧ Digs l l.length := by
  unfold Form HeadOk Digs
  rw [List.take_length]
  constructor
  · rintro ⟨h1, h2, h3⟩; exact ⟨⟨h1, h3⟩, h2⟩
  · rintro ⟨⟨h1, h3⟩, h2⟩; exact ⟨h1, h2, h3⟩
theorem digs_zero (l : List UInt8) : Digs l 0 := by intro b hb; simp at hb
theorem digs_succ (t : ByteArray) (k : Nat) (h : k < t.size) : Digs t.data.toList (k + 1) ↔ Digs t.data.toList k ∧ isDig t[k] := by
  unfold Digs
  rw [byte_ t k h]
  constructor
  · intro H
    exact ⟨fun b hb => H b (List.mem_append_left _ hb), H _ (List.mem_append_right _ (List.mem_singleton.2 rfl))⟩
  · rintro ⟨H, hd⟩ b hb
    rcases List.mem_append.1 hb with hb | hb
    · exact H b hb
    · rw [List.mem_singleton] at hb; subst hb; exact hd

theorem par_long (l : List UInt8) (hf : Form l) (h : 20 < l.length) : parN l = 0 ∧ parE l = 31 := by
  have h1 := dec_len (dval l) 20 (by omega)
  rw [dec_dval l hf] at h1
  have h2 : ¬ dval l < 100000000000000000000 := fun h3 => by have := h1.2 h3; omega
  rw [parN, parE, if_pos hf, if_pos hf, valN, valE, if_neg (by omega), if_neg (by omega)]
  exact ⟨rfl, rfl⟩
theorem par_mid (l : List UInt8) (hf : Form l) (h : l.length ≤ 20) : parE l = 0 ∨ (l.length = 20 ∧ parE l = 31 ∧ parN l = 0) := by
  rw [parN, parE, if_pos hf, if_pos hf, valN, valE]
  by_cases hv : dval l < 18446744073709551616
  · left; rw [if_pos hv]
  · right
    rw [if_neg hv, if_neg hv]
    refine ⟨?_, rfl, rfl⟩
    have h1 := (dec_len (dval l) 19 (by omega))
    rw [dec_dval l hf] at h1
    rcases Nat.lt_or_ge 19 l.length with h2 | h2
    · omega
    · have h3 : dval l < 10000000000000000000 := h1.1 h2
      omega

set_option maxRecDepth 100000 in
set_option maxHeartbeats 4000000 in
theorem refuses_law (t : ByteArray) (ht : t.size ≤ 9223372036854775807) (w : World) (hT : Tens w) :
    Calls Tryd.prog 8 #[.string t] w fun e w' => e = .returned (.bool true) ∧ Below w.heap.size w w' := by
  have Hlen := Lib.hid (size_list t)
  have HT := Lib.hid hT
  obtain ⟨N, eN⟩ : ∃ N, parN t.data.toList = N := ⟨_, rfl⟩
  obtain ⟨E, eE⟩ : ∃ E, parE t.data.toList = E := ⟨_, rfl⟩
  have Hbad := Lib.hid (show ¬ Form t.data.toList → N = 0 ∧ E = 30 from fun h => ⟨by rw [← eN, parN, if_neg h], by rw [← eE, parE, if_neg h]⟩)
  have Hlong := Lib.hid (show Form t.data.toList → 20 < t.size → N = 0 ∧ E = 31 from fun h h1 => by
    rw [← eN, ← eE]; exact par_long _ h (by rw [Hlen.out]; exact h1))
  have Hmid := Lib.hid (show Form t.data.toList → t.size ≤ 20 → E = 0 ∨ (t.size = 20 ∧ E = 31 ∧ N = 0) from fun h h1 => by
    rw [← eN, ← eE, ← Hlen.out]; exact par_mid _ h (by rw [Hlen.out]; exact h1))
  have Hp := Lib.hid (And.intro eN eE)
  clear hT eN eE
  go_enter Tryd.func8, Tryd.ntmps8
  go_wp2_with fail
  refine (awake_any w HT.out).mono ?_
  rintro e w1 ⟨rfl, h1⟩
  have B1 := Lib.hid h1
  clear h1
  go_wp2_with fail
  refine (parse_at t N E Hp.out ht w1).mono ?_
  rintro e w' ⟨rfl, rfl⟩
  have hcases : (t.size = 0 ∧ ¬ HeadOk t.data.toList) ∨ (∃ h : 0 < t.size, t[0].toNat = 48 ∧ t.size ≠ 1 ∧ ¬ HeadOk t.data.toList) ∨ (∃ h : 0 < t.size, t[0].toNat = 48 ∧ t.size = 1 ∧ HeadOk t.data.toList) ∨ (∃ h : 0 < t.size, t[0].toNat ≠ 48 ∧ HeadOk t.data.toList) := by
    rcases Nat.eq_zero_or_pos t.size with h0 | h0
    · left; exact ⟨h0, fun h => h.1 (List.eq_nil_of_length_eq_zero (by rw [Hlen.out, h0]))⟩
    · right
      have hne : t.data.toList ≠ [] := by intro h; have := Hlen.out; rw [h] at this; simp at this; omega
      have hh := head_zero t h0
      by_cases h48 : t[0].toNat = 48
      · by_cases h1 : t.size = 1
        · right; left; exact ⟨h0, h48, h1, hne, .inl (by rw [Hlen.out, h1])⟩
        · left
          refine ⟨h0, h48, h1, ?_⟩
          rintro ⟨_, h | h⟩
          · exact h1 (by rw [← Hlen.out]; exact h)
          · rw [hh] at h; exact h (by rw [show t[0] = 48 from UInt8.toNat_inj.1 h48])
      · right; right
        refine ⟨h0, h48, hne, .inr ?_⟩
        rw [hh]; intro e; injection e with e; exact h48 (by rw [e]; rfl)
  rcases hcases with ⟨h0, hF⟩ | ⟨h0, h48, h1, hF⟩ | ⟨h0, h48, h1, hF⟩ | ⟨h0, h48, hF⟩
  · have h0i : ¬ (0 : Int) < (t.size : Int) := by omega
    have HF := Lib.hid hF
    clear h0 hF
    go_wp2_with fail
    go_loop [6, 7] (fun v i => ∃ (k : Nat) (f : Bool), k ≤ t.size ∧ v = .bool f ∧ i = .int .i64 (k : Int) ∧ Hid (f = true ↔ HeadOk t.data.toList ∧ Digs t.data.toList k)) (fun _ i => t.size - (intOf i).toNat)
    case atStart => exact ⟨0, false, Nat.zero_le _, rfl, rfl, ⟨(fun h => by cases h), fun h => absurd h.1 HF.out⟩⟩
    case round =>
      obtain ⟨k, f, hk, rfl, rfl, HA⟩ := hrel
      by_cases hlt : k < t.size
      · have hki : (k : Int) < (t.size : Int) := by omega
        have hk0 : (0 : Int) ≤ (k : Int) := by omega
        cases f with
        | false =>
          have HA2 := Lib.hid (show false = true ↔ HeadOk t.data.toList ∧ Digs t.data.toList (k + 1) from by
            constructor
            · intro h; cases h
            · rintro ⟨h1, h2⟩; exact HA.out.2 ⟨h1, ((digs_succ t k hlt).1 h2).1⟩)
          clear HA
          go_wp2_with fail
          go_round
          case rel => exact ⟨k + 1, false, by omega, rfl, by go_num, HA2⟩
          case measure => simp [intOf]; omega
        | true =>
          by_cases hd : isDig t[k]
          · have HA2 := Lib.hid (show true = true ↔ HeadOk t.data.toList ∧ Digs t.data.toList (k + 1) from by
              constructor
              · intro h; exact ⟨(HA.out.1 h).1, (digs_succ t k hlt).2 ⟨(HA.out.1 h).2, hd⟩⟩
              · intro _; rfl)
            unfold isDig at hd
            have h1i : (48 : Int) ≤ (t[k].toNat : Int) := by omega
            have h2i : (t[k].toNat : Int) ≤ 57 := by omega
            clear HA hd
            go_wp2_with fail
            go_round
            case rel => exact ⟨k + 1, true, by omega, rfl, by go_num, HA2⟩
            case measure => simp [intOf]; omega
          · have HA2 := Lib.hid (show false = true ↔ HeadOk t.data.toList ∧ Digs t.data.toList (k + 1) from by
              constructor
              · intro h; cases h
              · rintro ⟨h1, h2⟩; exact absurd ((digs_succ t k hlt).1 h2).2 hd)
            unfold isDig at hd
            by_cases h1 : t[k].toNat < 48
            · have h1i : ¬ (48 : Int) ≤ (t[k].toNat : Int) := by omega
              clear HA hd h1
              go_wp2_with fail
              go_round
              case rel => exact ⟨k + 1, false, by omega, rfl, by go_num, HA2⟩
              case measure => simp [intOf]; omega
            · have h1i : (48 : Int) ≤ (t[k].toNat : Int) := by omega
              have h2i : ¬ (t[k].toNat : Int) ≤ 57 := by omega
              clear HA hd h1
              go_wp2_with fail
              go_round
              case rel => exact ⟨k + 1, false, by omega, rfl, by go_num, HA2⟩
              case measure => simp [intOf]; omega
      · have HK := Lib.hid (show k = t.data.toList.length by rw [Hlen.out]; omega)
        have hki : ¬ (k : Int) < (t.size : Int) := by omega
        clear hk hlt
        cases f with
        | false =>
          have hB := Hbad.out (fun h => by
            have h2 := (form_iff _).1 h
            rw [← HK.out] at h2
            have := HA.out.2 h2
            cases this)
          obtain ⟨rfl, rfl⟩ := hB
          go_wp2_with fail
          all_goals (go_ret; exact ⟨rfl, B1.out⟩)
        | true =>
          have HFm := Lib.hid (show Form t.data.toList from by
            rw [form_iff, ← HK.out]; exact HA.out.1 rfl)
          by_cases h20 : 20 < t.size
          · have h20i : (20 : Int) < (t.size : Int) := by omega
            obtain ⟨rfl, rfl⟩ := Hlong.out HFm.out h20
            clear h20
            go_wp2_with fail
            all_goals (go_ret; exact ⟨rfl, B1.out⟩)
          · have h20i : ¬ (20 : Int) < (t.size : Int) := by omega
            rcases Hmid.out HFm.out (by omega) with rfl | ⟨hs, rfl, rfl⟩
            · clear h20
              go_wp2_with fail
              all_goals (go_ret; exact ⟨rfl, B1.out⟩)
            · have hsi : (t.size : Int) = 20 := by omega
              clear h20 hs
              go_wp2_with fail
              all_goals (go_ret; exact ⟨rfl, B1.out⟩)
  · have h0i : (0 : Int) < (t.size : Int) := by omega
    have h48i : (t[0].toNat : Int) = 48 := by omega
    have h1i : ((t.size : Int) == 1) = false := by rw [beq_eq_false_iff_ne]; omega
    have HF := Lib.hid hF
    clear hF h1 h48
    go_wp2_with fail
    go_loop [6, 7] (fun v i => ∃ (k : Nat) (f : Bool), k ≤ t.size ∧ v = .bool f ∧ i = .int .i64 (k : Int) ∧ Hid (f = true ↔ HeadOk t.data.toList ∧ Digs t.data.toList k)) (fun _ i => t.size - (intOf i).toNat)
    case atStart => exact ⟨0, false, Nat.zero_le _, rfl, rfl, ⟨(fun h => by cases h), fun h => absurd h.1 HF.out⟩⟩
    case round =>
      obtain ⟨k, f, hk, rfl, rfl, HA⟩ := hrel
      by_cases hlt : k < t.size
      · have hki : (k : Int) < (t.size : Int) := by omega
        have hk0 : (0 : Int) ≤ (k : Int) := by omega
        cases f with
        | false =>
          have HA2 := Lib.hid (show false = true ↔ HeadOk t.data.toList ∧ Digs t.data.toList (k + 1) from by
            constructor
            · intro h; cases h
            · rintro ⟨h1, h2⟩; exact HA.out.2 ⟨h1, ((digs_succ t k hlt).1 h2).1⟩)
          clear HA
          go_wp2_with fail
          go_round
          case rel => exact ⟨k + 1, false, by omega, rfl, by go_num, HA2⟩
          case measure => simp [intOf]; omega
        | true =>
          by_cases hd : isDig t[k]
          · have HA2 := Lib.hid (show true = true ↔ HeadOk t.data.toList ∧ Digs t.data.toList (k + 1) from by
              constructor
              · intro h; exact ⟨(HA.out.1 h).1, (digs_succ t k hlt).2 ⟨(HA.out.1 h).2, hd⟩⟩
              · intro _; rfl)
            unfold isDig at hd
            have h1i : (48 : Int) ≤ (t[k].toNat : Int) := by omega
            have h2i : (t[k].toNat : Int) ≤ 57 := by omega
            clear HA hd
            go_wp2_with fail
            go_round
            case rel => exact ⟨k + 1, true, by omega, rfl, by go_num, HA2⟩
            case measure => simp [intOf]; omega
          · have HA2 := Lib.hid (show false = true ↔ HeadOk t.data.toList ∧ Digs t.data.toList (k + 1) from by
              constructor
              · intro h; cases h
              · rintro ⟨h1, h2⟩; exact absurd ((digs_succ t k hlt).1 h2).2 hd)
            unfold isDig at hd
            by_cases h1 : t[k].toNat < 48
            · have h1i : ¬ (48 : Int) ≤ (t[k].toNat : Int) := by omega
              clear HA hd h1
              go_wp2_with fail
              go_round
              case rel => exact ⟨k + 1, false, by omega, rfl, by go_num, HA2⟩
              case measure => simp [intOf]; omega
            · have h1i : (48 : Int) ≤ (t[k].toNat : Int) := by omega
              have h2i : ¬ (t[k].toNat : Int) ≤ 57 := by omega
              clear HA hd h1
              go_wp2_with fail
              go_round
              case rel => exact ⟨k + 1, false, by omega, rfl, by go_num, HA2⟩
              case measure => simp [intOf]; omega
      · have HK := Lib.hid (show k = t.data.toList.length by rw [Hlen.out]; omega)
        have hki : ¬ (k : Int) < (t.size : Int) := by omega
        clear hk hlt
        cases f with
        | false =>
          have hB := Hbad.out (fun h => by
            have h2 := (form_iff _).1 h
            rw [← HK.out] at h2
            have := HA.out.2 h2
            cases this)
          obtain ⟨rfl, rfl⟩ := hB
          go_wp2_with fail
          all_goals (go_ret; exact ⟨rfl, B1.out⟩)
        | true =>
          have HFm := Lib.hid (show Form t.data.toList from by
            rw [form_iff, ← HK.out]; exact HA.out.1 rfl)
          by_cases h20 : 20 < t.size
          · have h20i : (20 : Int) < (t.size : Int) := by omega
            obtain ⟨rfl, rfl⟩ := Hlong.out HFm.out h20
            clear h20
            go_wp2_with fail
            all_goals (go_ret; exact ⟨rfl, B1.out⟩)
          · have h20i : ¬ (20 : Int) < (t.size : Int) := by omega
            rcases Hmid.out HFm.out (by omega) with rfl | ⟨hs, rfl, rfl⟩
            · clear h20
              go_wp2_with fail
              all_goals (go_ret; exact ⟨rfl, B1.out⟩)
            · have hsi : (t.size : Int) = 20 := by omega
              clear h20 hs
              go_wp2_with fail
              all_goals (go_ret; exact ⟨rfl, B1.out⟩)
  · have h0i : (0 : Int) < (t.size : Int) := by omega
    have h48i : (t[0].toNat : Int) = 48 := by omega
    have h1i : (t.size : Int) = 1 := by omega
    have HF := Lib.hid hF
    clear hF h1 h48
    go_wp2_with fail
    go_loop [6, 7] (fun v i => ∃ (k : Nat) (f : Bool), k ≤ t.size ∧ v = .bool f ∧ i = .int .i64 (k : Int) ∧ Hid (f = true ↔ HeadOk t.data.toList ∧ Digs t.data.toList k)) (fun _ i => t.size - (intOf i).toNat)
    case atStart => exact ⟨0, true, Nat.zero_le _, rfl, rfl, ⟨fun _ => ⟨HF.out, digs_zero _⟩, fun _ => rfl⟩⟩
    case round =>
      obtain ⟨k, f, hk, rfl, rfl, HA⟩ := hrel
      by_cases hlt : k < t.size
      · have hki : (k : Int) < (t.size : Int) := by omega
        have hk0 : (0 : Int) ≤ (k : Int) := by omega
        cases f with
        | false =>
          have HA2 := Lib.hid (show false = true ↔ HeadOk t.data.toList ∧ Digs t.data.toList (k + 1) from by
            constructor
            · intro h; cases h
            · rintro ⟨h1, h2⟩; exact HA.out.2 ⟨h1, ((digs_succ t k hlt).1 h2).1⟩)
          clear HA
          go_wp2_with fail
          go_round
          case rel => exact ⟨k + 1, false, by omega, rfl, by go_num, HA2⟩
          case measure => simp [intOf]; omega
        | true =>
          by_cases hd : isDig t[k]
          · have HA2 := Lib.hid (show true = true ↔ HeadOk t.data.toList ∧ Digs t.data.toList (k + 1) from by
              constructor
              · intro h; exact ⟨(HA.out.1 h).1, (digs_succ t k hlt).2 ⟨(HA.out.1 h).2, hd⟩⟩
              · intro _; rfl)
            unfold isDig at hd
            have h1i : (48 : Int) ≤ (t[k].toNat : Int) := by omega
            have h2i : (t[k].toNat : Int) ≤ 57 := by omega
            clear HA hd
            go_wp2_with fail
            go_round
            case rel => exact ⟨k + 1, true, by omega, rfl, by go_num, HA2⟩
            case measure => simp [intOf]; omega
          · have HA2 := Lib.hid (show false = true ↔ HeadOk t.data.toList ∧ Digs t.data.toList (k + 1) from by
              constructor
              · intro h; cases h
              · rintro ⟨h1, h2⟩; exact absurd ((digs_succ t k hlt).1 h2).2 hd)
            unfold isDig at hd
            by_cases h1 : t[k].toNat < 48
            · have h1i : ¬ (48 : Int) ≤ (t[k].toNat : Int) := by omega
              clear HA hd h1
              go_wp2_with fail
              go_round
              case rel => exact ⟨k + 1, false, by omega, rfl, by go_num, HA2⟩
              case measure => simp [intOf]; omega
            · have h1i : (48 : Int) ≤ (t[k].toNat : Int) := by omega
              have h2i : ¬ (t[k].toNat : Int) ≤ 57 := by omega
              clear HA hd h1
              go_wp2_with fail
              go_round
              case rel => exact ⟨k + 1, false, by omega, rfl, by go_num, HA2⟩
              case measure => simp [intOf]; omega
      · have HK := Lib.hid (show k = t.data.toList.length by rw [Hlen.out]; omega)
        have hki : ¬ (k : Int) < (t.size : Int) := by omega
        clear hk hlt
        cases f with
        | false =>
          have hB := Hbad.out (fun h => by
            have h2 := (form_iff _).1 h
            rw [← HK.out] at h2
            have := HA.out.2 h2
            cases this)
          obtain ⟨rfl, rfl⟩ := hB
          go_wp2_with fail
          all_goals (go_ret; exact ⟨rfl, B1.out⟩)
        | true =>
          have HFm := Lib.hid (show Form t.data.toList from by
            rw [form_iff, ← HK.out]; exact HA.out.1 rfl)
          by_cases h20 : 20 < t.size
          · have h20i : (20 : Int) < (t.size : Int) := by omega
            obtain ⟨rfl, rfl⟩ := Hlong.out HFm.out h20
            clear h20
            go_wp2_with fail
            all_goals (go_ret; exact ⟨rfl, B1.out⟩)
          · have h20i : ¬ (20 : Int) < (t.size : Int) := by omega
            rcases Hmid.out HFm.out (by omega) with rfl | ⟨hs, rfl, rfl⟩
            · clear h20
              go_wp2_with fail
              all_goals (go_ret; exact ⟨rfl, B1.out⟩)
            · have hsi : (t.size : Int) = 20 := by omega
              clear h20 hs
              go_wp2_with fail
              all_goals (go_ret; exact ⟨rfl, B1.out⟩)
  · have h0i : (0 : Int) < (t.size : Int) := by omega
    have h48i : ¬ (t[0].toNat : Int) = 48 := by omega
    have HF := Lib.hid hF
    clear hF h48
    go_wp2_with fail
    go_loop [6, 7] (fun v i => ∃ (k : Nat) (f : Bool), k ≤ t.size ∧ v = .bool f ∧ i = .int .i64 (k : Int) ∧ Hid (f = true ↔ HeadOk t.data.toList ∧ Digs t.data.toList k)) (fun _ i => t.size - (intOf i).toNat)
    case atStart => exact ⟨0, true, Nat.zero_le _, rfl, rfl, ⟨fun _ => ⟨HF.out, digs_zero _⟩, fun _ => rfl⟩⟩
    case round =>
      obtain ⟨k, f, hk, rfl, rfl, HA⟩ := hrel
      by_cases hlt : k < t.size
      · have hki : (k : Int) < (t.size : Int) := by omega
        have hk0 : (0 : Int) ≤ (k : Int) := by omega
        cases f with
        | false =>
          have HA2 := Lib.hid (show false = true ↔ HeadOk t.data.toList ∧ Digs t.data.toList (k + 1) from by
            constructor
            · intro h; cases h
            · rintro ⟨h1, h2⟩; exact HA.out.2 ⟨h1, ((digs_succ t k hlt).1 h2).1⟩)
          clear HA
          go_wp2_with fail
          go_round
          case rel => exact ⟨k + 1, false, by omega, rfl, by go_num, HA2⟩
          case measure => simp [intOf]; omega
        | true =>
          by_cases hd : isDig t[k]
          · have HA2 := Lib.hid (show true = true ↔ HeadOk t.data.toList ∧ Digs t.data.toList (k + 1) from by
              constructor
              · intro h; exact ⟨(HA.out.1 h).1, (digs_succ t k hlt).2 ⟨(HA.out.1 h).2, hd⟩⟩
              · intro _; rfl)
            unfold isDig at hd
            have h1i : (48 : Int) ≤ (t[k].toNat : Int) := by omega
            have h2i : (t[k].toNat : Int) ≤ 57 := by omega
            clear HA hd
            go_wp2_with fail
            go_round
            case rel => exact ⟨k + 1, true, by omega, rfl, by go_num, HA2⟩
            case measure => simp [intOf]; omega
          · have HA2 := Lib.hid (show false = true ↔ HeadOk t.data.toList ∧ Digs t.data.toList (k + 1) from by
              constructor
              · intro h; cases h
              · rintro ⟨h1, h2⟩; exact absurd ((digs_succ t k hlt).1 h2).2 hd)
            unfold isDig at hd
            by_cases h1 : t[k].toNat < 48
            · have h1i : ¬ (48 : Int) ≤ (t[k].toNat : Int) := by omega
              clear HA hd h1
              go_wp2_with fail
              go_round
              case rel => exact ⟨k + 1, false, by omega, rfl, by go_num, HA2⟩
              case measure => simp [intOf]; omega
            · have h1i : (48 : Int) ≤ (t[k].toNat : Int) := by omega
              have h2i : ¬ (t[k].toNat : Int) ≤ 57 := by omega
              clear HA hd h1
              go_wp2_with fail
              go_round
              case rel => exact ⟨k + 1, false, by omega, rfl, by go_num, HA2⟩
              case measure => simp [intOf]; omega
      · have HK := Lib.hid (show k = t.data.toList.length by rw [Hlen.out]; omega)
        have hki : ¬ (k : Int) < (t.size : Int) := by omega
        clear hk hlt
        cases f with
        | false =>
          have hB := Hbad.out (fun h => by
            have h2 := (form_iff _).1 h
            rw [← HK.out] at h2
            have := HA.out.2 h2
            cases this)
          obtain ⟨rfl, rfl⟩ := hB
          go_wp2_with fail
          all_goals (go_ret; exact ⟨rfl, B1.out⟩)
        | true =>
          have HFm := Lib.hid (show Form t.data.toList from by
            rw [form_iff, ← HK.out]; exact HA.out.1 rfl)
          by_cases h20 : 20 < t.size
          · have h20i : (20 : Int) < (t.size : Int) := by omega
            obtain ⟨rfl, rfl⟩ := Hlong.out HFm.out h20
            clear h20
            go_wp2_with fail
            all_goals (go_ret; exact ⟨rfl, B1.out⟩)
          · have h20i : ¬ (20 : Int) < (t.size : Int) := by omega
            rcases Hmid.out HFm.out (by omega) with rfl | ⟨hs, rfl, rfl⟩
            · clear h20
              go_wp2_with fail
              all_goals (go_ret; exact ⟨rfl, B1.out⟩)
            · have hsi : (t.size : Int) = 20 := by omega
              clear h20 hs
              go_wp2_with fail
              all_goals (go_ret; exact ⟨rfl, B1.out⟩)
end Go.Proofs.YtaebhecnekdcfaaDoor.Sp
