/- The walk of SignerBack. -/
import Derived.Test.YtnbaoihamjdjdaaDoorSigAwake
import Derived.Test.YtnbaoihamjdjdaaDoorSigPick
import Derived.Test.YtnbaoihamjdjdaaDoorTreB
namespace Go.Proofs.YtnbaoihamjdjdaaDoor.Sp
open Go Go.RowKit
set_option maxRecDepth 100000
variable {Sg : World → (Nat → Prop) → Nat → ByteArray → Nat → Nat → Prop}

/-- The message that a leaf signs. -/
def msgAt (ms : List ByteArray) (k : Nat) : ByteArray := if k < ms.length then ms.getD k .empty else ⟨#[109]⟩
/-- The heads of the first k signatures. -/
def heads (seed : ByteArray) (h : Nat) (ms : List ByteArray) (k : Nat) : List ByteArray := (List.range k).map fun j => (sigB seed h j (msgAt ms j)).extract 0 8
theorem heads_len (seed : ByteArray) (h : Nat) (ms : List ByteArray) (k : Nat) : (heads seed h ms k).length = k := by simp [heads]
theorem heads_succ (seed : ByteArray) (h : Nat) (ms : List ByteArray) (k : Nat) : heads seed h ms (k + 1) = heads seed h ms k ++ [(sigB seed h k (msgAt ms k)).extract 0 8] := by simp [heads, List.range_succ]
theorem heads_get (seed : ByteArray) (h : Nat) (ms : List ByteArray) (k j : Nat) (hj : j < k) : (heads seed h ms k).getD j .empty = (sigB seed h j (msgAt ms j)).extract 0 8 := by
  rw [List.getD_eq_getElem?_getD, heads, List.getElem?_map, List.getElem?_range hj]; rfl
theorem heads_ne (seed : ByteArray) (h : Nat) (ms : List ByteArray) (k j : Nat) (hj : j < k) (hk : k < 256) : (heads seed h ms k).getD j .empty ≠ (sigB seed h k (msgAt ms k)).extract 0 8 := by
  rw [heads_get _ _ _ _ _ hj]
  exact head_ne seed h j k _ _ (by omega) hk (by omega)
theorem list_ne {x y : ByteArray} (h : x ≠ y) : (x.toList == y.toList) = false := by
  cases e : (x.toList == y.toList) with
  | false => rfl
  | true =>
    exfalso
    apply h
    have e2 := eq_of_beq e
    rw [Lib.toList_data, Lib.toList_data] at e2
    have h6 := Array.toList_inj.1 e2
    cases x; cases y; simp only at h6; rw [h6]

theorem own_turned {w w' : World} {F : Nat → Prop} {base : Nat} {e : TypeId} {size n : Nat} {v : Value} {xs : List Value} (h : w.ownsRow base e size v n xs) (ht : Turned F w w') (hd : ∀ q, v.ownBlock = some q → ¬ F q) : w'.ownsRow base e size v n xs := by
  obtain ⟨hl, h3⟩ := h
  refine ⟨hl, ?_⟩
  rcases h3 with h3 | ⟨q, cap, cur, e2, hq, hc, r⟩
  · exact .inl h3
  · refine .inr ⟨q, cap, cur, e2, hq, ?_, r⟩
    have hlt : q < w.heap.size := (Array.getElem?_eq_some_iff.1 hc).1
    exact (ht.block q hlt (hd q (by rw [e2]; rfl))).trans hc
theorem own_apart {w : World} {F F' : Nat → Prop} {base : Nat} {e : TypeId} {size n : Nat} {v : Value} {xs : List Value} (h : w.ownsRow base e size v n xs) (hi : Within F F' w) (hd : ∀ q, v.ownBlock = some q → ¬ F q) : ∀ q, v.ownBlock = some q → ¬ F' q := fun q hq hf =>
  (hi q hf).elim (hd q hq) (fun h1 => by have := (World.ownsRow.lt h q hq).2; omega)

set_option maxHeartbeats 8000000 in
theorem back_law (R : SigR Sg) (seed : ByteArray) (x : Int) (ms : List ByteArray) (a : Option Addr) (n cap : Nat) (hs : seed.size ≤ 140737488351232) (hx : -9223372036854775808 ≤ x ∧ x ≤ 9223372036854775807) (hn : n ≤ 9223372036854775807) (hms : ∀ m ∈ ms, m.size ≤ 140737488351232) (w : World) (hA : Strs w a n ms) (hT : Tab w) :
    Calls Tryd.prog 3 #[.string seed, .int .i64 x, .slice a n cap] w fun e w' => e = .returned (.bool true) ∧ Below w.heap.size w w' := by
  obtain ⟨h, h4, p1⟩ := pick_any x 4 (by omega) (by omega) hx.1 hx.2
  have h8 : 2 ^ h ≤ 8 := Nat.le_trans (Nat.pow_le_pow_right (by omega) (show h ≤ 3 by omega)) (by decide)
  obtain ⟨M, hM⟩ : ∃ M : Nat, 2 ^ h = M := ⟨_, rfl⟩
  have hMi : (2 : Int) ^ h = (M : Int) := by rw [← hM]; simp
  have hMw : IntKind.i64.wrap (M : Int) = (M : Int) := by rw [IntKind.wrap_i64]; omega
  have hMl : M ≤ 8 := by omega
  obtain ⟨K, hK⟩ : ∃ K, keyB seed h = K := ⟨_, rfl⟩
  have hKs : K.size = 40 := by rw [← hK]; exact key_size _ _
  have hpub := fun (w : World) (F : Nat → Prop) (g n : Nat) (s : Sg w F g seed h n) (t : Tab w) => R.pub w F g seed h n s t
  rw [hK] at hpub
  have HPb := Lib.hid hpub
  have HK := Lib.hid hK
  have HT := Lib.hid hT
  have HM := Lib.hid hM
  have HA := Lib.hid hA
  have HMs := Lib.hid hms
  have P1 := Lib.hid p1
  have H4 := Lib.hid h4
  have hAl := hA.1
  have hh0 : (0 : Int) ≤ (h : Int) := by omega
  clear hT hK hM hA hms hpub p1
  go_enter Tryd.func3, Tryd.ntmps3
  go_wp2_with fail
  refine (awake_any R w HT.out).mono ?_
  rintro e w0 ⟨rfl, h0⟩
  have B0 := Lib.hid h0
  have T0 := Lib.hid (tab_below HT.out h0)
  clear h0
  go_wp2_with fail
  refine (P1.out _).mono ?_
  rintro e v1 ⟨rfl, rfl⟩
  go_wp2_with fail
  refine (R.new_ok seed h 0 _ hs (by omega) (Nat.zero_le _) T0.out).mono ?_
  rintro e w1 ⟨g, G, rfl, s1, f1, h1⟩
  have S1 := Lib.hid s1
  have B1 := Lib.hid (B0.out.trans (h1.mono B0.out.size))
  have F1 := Lib.hid (fun q (hq : G q) => Nat.le_trans B0.out.size (f1 q hq))
  have T1 := Lib.hid (tab_below HT.out B1.out)
  clear s1 f1 h1
  go_wp2_with fail
  refine (HPb.out w1 G g 0 S1.out T1.out).mono ?_
  rintro e w2 ⟨G2, rfl, s2, t2, i2⟩
  have S2 := Lib.hid s2
  have B2 := Lib.hid (t2.below B1.out F1.out B1.out.size)
  have F2 := Lib.hid (i2.from F1.out B1.out.size)
  clear s2 t2 i2
  go_wp2_with fail
  go_loopw [12, 13] (fun l t wr => ∃ (k : Nat) (G : Nat → Prop), k ≤ M ∧ t = .int .i64 (k : Int) ∧ Sg wr G g seed h k ∧ OwnT wr w2.heap.size l (heads seed h ms k) ∧ (∀ q, l.ownBlock = some q → ¬ G q) ∧ (∀ q, G q → w.heap.size ≤ q) ∧ Below w.heap.size w wr ∧ w2.heap.size ≤ wr.heap.size) (fun _ t _ => M - (intOf t).toNat)
  case atStart => exact ⟨0, G2, by omega, rfl, S2.out, World.ownsRow_nil _ _ _ _, (fun q hq => by cases hq), F2.out, B2.out, Nat.le_refl _⟩
  case round =>
    obtain ⟨k, G3, hk, rfl, s3, o3, d3, f3, b3, z3⟩ := hrel
    have S3 := Lib.hid s3
    have O3 := Lib.hid o3
    have D3 := Lib.hid d3
    have F3 := Lib.hid f3
    have B3 := Lib.hid b3
    have T3 := Lib.hid (tab_below HT.out b3)
    have Z2 := B2.out.size
    clear s3 o3 d3 f3 b3
    by_cases hlt : k < M
    · have hki : (k : Int) < (M : Int) := by omega
      have hk0 : (0 : Int) ≤ (k : Int) := by omega
      obtain ⟨Y, hY⟩ : ∃ Y, msgAt ms k = Y := ⟨_, rfl⟩
      have hYs : Y.size ≤ 140737488351232 := by
        rw [← hY]; unfold msgAt
        split
        · rename_i hkl
          exact HMs.out _ (by rw [List.getD_eq_getElem?_getD, List.getElem?_eq_getElem hkl]; exact List.getElem_mem hkl)
        · decide
      obtain ⟨A, hA⟩ : ∃ A, sigB seed h k Y = A := ⟨_, rfl⟩
      have hAs : A.size = 172 + 36 * h := by rw [← hA]; exact sig_size _ _ _ _ (by rw [HM.out]; exact hlt)
      have hsig := R.sign_ok wr G3 g seed h k Y S3.out (by rw [HM.out]; exact hlt) hYs T3.out
      rw [hA] at hsig
      have HSg := Lib.hid hsig
      have hv : verB K Y A = true := verB_yes (by rw [← HK.out, ← hA]; exact valid_sign _ h k _ (by omega) (by rw [HM.out]; exact hlt))
      have hver := fun w (t : Tab w) => R.verify K Y A w (by omega) hYs (by omega) t
      rw [hv] at hver
      have HV := Lib.hid hver
      obtain ⟨N, hN⟩ : ∃ N, A.extract 0 8 = N := ⟨_, rfl⟩
      have hne := Lib.hid (fun j (hj : j < k) => by have := heads_ne seed h ms k j hj (by omega); rw [hY, hA, hN] at this; exact this)
      have hnx := Lib.hid (show heads seed h ms (k + 1) = heads seed h ms k ++ [N] from by rw [heads_succ, hY, hA, hN])
      have hA8 : ¬ (A.size : Int) < 8 := by omega
      have hA8' : (8 : Int) ≤ (A.size : Int) := by omega
      have hkw : IntKind.i64.wrap ((k : Int) + 1) = ((k + 1 : Nat) : Int) := by rw [IntKind.wrap_i64]; omega
      clear hA hsig hv hver
      by_cases hkn : k < n
      · have hkni : (k : Int) < (n : Int) := by omega
        obtain ⟨b, off, rfl, hc⟩ := (HA.out.below B3.out).2 (by omega)
        have ck := hc k hkn
        have hYe : ms.getD k .empty = Y := by rw [← hY, msgAt, if_pos (by omega)]
        rw [hYe] at ck
        clear hc hY hYe
        go_wp2_with fail
        clear ck
        refine HSg.out.mono ?_
        rintro e w4 ⟨G4, rfl, s4, t4, i4⟩
        have S4 := Lib.hid s4
        have B4 := Lib.hid (t4.below B3.out F3.out B3.out.size)
        have F4 := Lib.hid (i4.from F3.out B3.out.size)
        have O4 := Lib.hid (own_turned O3.out t4 D3.out)
        have D4 := Lib.hid (own_apart O3.out i4 D3.out)
        have T4 := Lib.hid (tab_below HT.out B4.out)
        have Z4 := Lib.hid (Nat.le_trans z3 t4.size)
        clear s4 t4 i4
        go_wp2_with fail
        refine (HV.out w4 T4.out).mono ?_
        rintro e w5 ⟨rfl, h5⟩
        have S5 := Lib.hid (R.below S4.out h5)
        have O5 := Lib.hid (own_below O4.out h5)
        have B5 := Lib.hid (B4.out.trans (h5.mono B4.out.size))
        have T5 := Lib.hid (tab_below HT.out B5.out)
        have Z5 := Lib.hid (Nat.le_trans Z4.out h5.size)
        clear h5
        go_wp2_with fail
        refine (R.spent w5 G4 g seed h (k + 1) S5.out T5.out).mono ?_
        rintro e w6 ⟨G6, rfl, s6, t6, i6⟩
        have S6 := Lib.hid s6
        have B6 := Lib.hid (t6.below B5.out F4.out B5.out.size)
        have F6 := Lib.hid (i6.from F4.out B5.out.size)
        have O6 := Lib.hid (own_turned O5.out t6 D4.out)
        have D6 := Lib.hid (own_apart O5.out i6 D4.out)
        have Z6 := Lib.hid (Nat.le_trans Z5.out t6.size)
        clear s6 t6 i6
        obtain ⟨av, cv, hv, hSv, hbv, hcv⟩ := (show OwnT w6 w2.heap.size u12 (heads seed h ms k) from O6.out).strs_
        rw [heads_len] at hv hSv hcv
        subst hv
        have V6 := Lib.hid hSv
        clear hSv hbv
        go_wp2_with fail
        go_loopw [17] (fun t ws => ∃ j : Nat, j ≤ k ∧ t = .int .i64 (j : Int) ∧ Strs ws av k (heads seed h ms k) ∧ ws.heap = w6.heap ∧ Below w6.heap.size w6 ws) (fun t _ => k - (intOf t).toNat)
        case atStart => exact ⟨0, by omega, rfl, V6.out, rfl, Below.refl _ _⟩
        case round =>
          obtain ⟨j, hj, rfl, hsj, hhj, hbj⟩ := hrel
          have VJ := Lib.hid hsj
          have HJ := Lib.hid hhj
          have BJ := Lib.hid hbj
          clear hsj hhj hbj
          by_cases hjk : j < k
          · have hji : (j : Int) < (k : Int) := by omega
            have hj0 : (0 : Int) ≤ (j : Int) := by omega
            obtain ⟨Hj, hHj⟩ : ∃ Hj, (heads seed h ms k).getD j .empty = Hj := ⟨_, rfl⟩
            obtain ⟨b2, off2, rfl, hc⟩ := VJ.out.2 (by omega)
            have cj := hc j hjk
            rw [hHj] at cj
            have hnj := hne.out j hjk
            rw [hHj] at hnj
            have hfj := list_ne hnj
            clear hc hHj hjk hnj
            go_wp2_with fail
            go_quiet (fail)
            go_wp2_with fail
            go_roundw
            case rel => exact ⟨j + 1, by omega, by go_num, VJ.out, HJ.out, below_drewN BJ.out _⟩
            case measure => simp [intOf]; omega
          · have hji : ¬ (j : Int) < (k : Int) := by omega
            have S7 := Lib.hid (R.below S6.out BJ.out)
            have O7 := Lib.hid (show OwnT wr w2.heap.size (.slice av k cv) (heads seed h ms k) from own_below O6.out BJ.out)
            have B7 := Lib.hid (B6.out.trans (BJ.out.mono B6.out.size))
            have Z7 := Lib.hid (Nat.le_trans Z6.out BJ.out.size)
            obtain ⟨Xs, eXs⟩ : ∃ Xs : List Value, (heads seed h ms k).map Value.string = Xs := ⟨_, rfl⟩
            have HOk := Lib.hid (show wr.ownsRow w2.heap.size 9 1 (.slice av k cv) k Xs from by have := O7.out; unfold OwnT at this; rw [heads_len, eXs] at this; exact this)
            have EXs := Lib.hid eXs
            obtain ⟨i0, hi0, hz0, hz1, hz2⟩ := info_parts infoText
            have hk8 : k + 1 ≤ maxLen := by unfold maxLen; omega
            have hkb : (k + 1) * 16 ≤ 140737488355328 := by omega
            clear hjk hj eXs
            go_wp2_with (at_builtin; refine wpList_append_lies _ rfl (.tmp 95) (.tmp 98) 22 rfl w2.heap.size 9 i0 (.string .empty) 1 16 Tryd.underlying22 hi0 hz0 hz1 hz2 rfl (by decide) (.slice av k cv) k Xs rfl (HOk.out.alloc _) ⟨wr.heap.size, 0, none⟩ 1 1 [.string N] rfl rfl ?c1 ?c2 (by decide) ?c3 ?c4 ?c5 (wr.heap.size + 1) ?c6 ?_)
            case c2 => rfl
            case c5 => have := Z7.out; simp; omega
            intro gg cap2 w9 hown9 hgrow hat hgl
            have O9 := Lib.hid (show OwnT w9 w2.heap.size (.slice (some ⟨gg, 0, none⟩) (k + 1) cap2) (heads seed h ms (k + 1)) from by
              unfold OwnT
              rw [hnx.out, List.map_append, List.length_append, heads_len, EXs.out]
              exact hown9)
            have D9 := Lib.hid (show ∀ q, (Value.slice (some ⟨gg, 0, none⟩) (k + 1) cap2).ownBlock = some q → ¬ G6 q from fun q hq hg => by
              simp only [Value.ownBlock, Option.some.injEq] at hq
              subst hq
              rcases hat with hat | hat
              · exact D6.out gg hat hg
              · have := R.lt S7.out gg hg
                omega)
            have S9 := Lib.hid (R.keep S7.out (fun q hq => (hgrow.block q (by have := R.lt S7.out q hq; simp; omega) (fun e => D6.out q e.symm hq)).trans (Below.heap_alloc wr _ q (R.lt S7.out q hq))) (by have := hgrow.size; simp at this; omega))
            have B9 := Lib.hid ((B7.out.alloc B7.out.size _).grown hgrow (by have := B7.out.size; simp; omega) (fun q hq => by have := (HOk.out.lt q hq).1; omega))
            have Z9 := Lib.hid (show w2.heap.size ≤ w9.heap.size from by have := hgrow.size; have := Z7.out; simp at *; omega)
            clear hown9 hgrow hat hgl hk8 hkb
            go_wp2_with fail
            go_roundw
            case rel => exact ⟨k + 1, G6, by omega, by go_num, S9.out, O9.out, D9.out, F6.out, B9.out, Z9.out⟩
            case measure => simp [intOf]; omega
      · have hkni : ¬ (k : Int) < (n : Int) := by omega
        have hYe : (⟨#[109]⟩ : ByteArray) = Y := by rw [← hY, msgAt, if_neg (by omega)]
        clear hY
        go_wp2_with fail
        refine HSg.out.mono ?_
        clear hYe
        rintro e w4 ⟨G4, rfl, s4, t4, i4⟩
        have S4 := Lib.hid s4
        have B4 := Lib.hid (t4.below B3.out F3.out B3.out.size)
        have F4 := Lib.hid (i4.from F3.out B3.out.size)
        have O4 := Lib.hid (own_turned O3.out t4 D3.out)
        have D4 := Lib.hid (own_apart O3.out i4 D3.out)
        have T4 := Lib.hid (tab_below HT.out B4.out)
        have Z4 := Lib.hid (Nat.le_trans z3 t4.size)
        clear s4 t4 i4
        go_wp2_with fail
        refine (HV.out w4 T4.out).mono ?_
        rintro e w5 ⟨rfl, h5⟩
        have S5 := Lib.hid (R.below S4.out h5)
        have O5 := Lib.hid (own_below O4.out h5)
        have B5 := Lib.hid (B4.out.trans (h5.mono B4.out.size))
        have T5 := Lib.hid (tab_below HT.out B5.out)
        have Z5 := Lib.hid (Nat.le_trans Z4.out h5.size)
        clear h5
        go_wp2_with fail
        refine (R.spent w5 G4 g seed h (k + 1) S5.out T5.out).mono ?_
        rintro e w6 ⟨G6, rfl, s6, t6, i6⟩
        have S6 := Lib.hid s6
        have B6 := Lib.hid (t6.below B5.out F4.out B5.out.size)
        have F6 := Lib.hid (i6.from F4.out B5.out.size)
        have O6 := Lib.hid (own_turned O5.out t6 D4.out)
        have D6 := Lib.hid (own_apart O5.out i6 D4.out)
        have Z6 := Lib.hid (Nat.le_trans Z5.out t6.size)
        clear s6 t6 i6
        obtain ⟨av, cv, hv, hSv, hbv, hcv⟩ := (show OwnT w6 w2.heap.size u12 (heads seed h ms k) from O6.out).strs_
        rw [heads_len] at hv hSv hcv
        subst hv
        have V6 := Lib.hid hSv
        clear hSv hbv
        go_wp2_with fail
        go_loopw [17] (fun t ws => ∃ j : Nat, j ≤ k ∧ t = .int .i64 (j : Int) ∧ Strs ws av k (heads seed h ms k) ∧ ws.heap = w6.heap ∧ Below w6.heap.size w6 ws) (fun t _ => k - (intOf t).toNat)
        case atStart => exact ⟨0, by omega, rfl, V6.out, rfl, Below.refl _ _⟩
        case round =>
          obtain ⟨j, hj, rfl, hsj, hhj, hbj⟩ := hrel
          have VJ := Lib.hid hsj
          have HJ := Lib.hid hhj
          have BJ := Lib.hid hbj
          clear hsj hhj hbj
          by_cases hjk : j < k
          · have hji : (j : Int) < (k : Int) := by omega
            have hj0 : (0 : Int) ≤ (j : Int) := by omega
            obtain ⟨Hj, hHj⟩ : ∃ Hj, (heads seed h ms k).getD j .empty = Hj := ⟨_, rfl⟩
            obtain ⟨b2, off2, rfl, hc⟩ := VJ.out.2 (by omega)
            have cj := hc j hjk
            rw [hHj] at cj
            have hnj := hne.out j hjk
            rw [hHj] at hnj
            have hfj := list_ne hnj
            clear hc hHj hjk hnj
            go_wp2_with fail
            go_quiet (fail)
            go_wp2_with fail
            go_roundw
            case rel => exact ⟨j + 1, by omega, by go_num, VJ.out, HJ.out, below_drewN BJ.out _⟩
            case measure => simp [intOf]; omega
          · have hji : ¬ (j : Int) < (k : Int) := by omega
            have S7 := Lib.hid (R.below S6.out BJ.out)
            have O7 := Lib.hid (show OwnT wr w2.heap.size (.slice av k cv) (heads seed h ms k) from own_below O6.out BJ.out)
            have B7 := Lib.hid (B6.out.trans (BJ.out.mono B6.out.size))
            have Z7 := Lib.hid (Nat.le_trans Z6.out BJ.out.size)
            obtain ⟨Xs, eXs⟩ : ∃ Xs : List Value, (heads seed h ms k).map Value.string = Xs := ⟨_, rfl⟩
            have HOk := Lib.hid (show wr.ownsRow w2.heap.size 9 1 (.slice av k cv) k Xs from by have := O7.out; unfold OwnT at this; rw [heads_len, eXs] at this; exact this)
            have EXs := Lib.hid eXs
            obtain ⟨i0, hi0, hz0, hz1, hz2⟩ := info_parts infoText
            have hk8 : k + 1 ≤ maxLen := by unfold maxLen; omega
            have hkb : (k + 1) * 16 ≤ 140737488355328 := by omega
            clear hjk hj eXs
            go_wp2_with (at_builtin; refine wpList_append_lies _ rfl (.tmp 95) (.tmp 98) 22 rfl w2.heap.size 9 i0 (.string .empty) 1 16 Tryd.underlying22 hi0 hz0 hz1 hz2 rfl (by decide) (.slice av k cv) k Xs rfl (HOk.out.alloc _) ⟨wr.heap.size, 0, none⟩ 1 1 [.string N] rfl rfl ?e1 ?e2 (by decide) ?e3 ?e4 ?e5 (wr.heap.size + 1) ?e6 ?_)
            case e2 => rfl
            case e5 => have := Z7.out; simp; omega
            intro gg cap2 w9 hown9 hgrow hat hgl
            have O9 := Lib.hid (show OwnT w9 w2.heap.size (.slice (some ⟨gg, 0, none⟩) (k + 1) cap2) (heads seed h ms (k + 1)) from by
              unfold OwnT
              rw [hnx.out, List.map_append, List.length_append, heads_len, EXs.out]
              exact hown9)
            have D9 := Lib.hid (show ∀ q, (Value.slice (some ⟨gg, 0, none⟩) (k + 1) cap2).ownBlock = some q → ¬ G6 q from fun q hq hg => by
              simp only [Value.ownBlock, Option.some.injEq] at hq
              subst hq
              rcases hat with hat | hat
              · exact D6.out gg hat hg
              · have := R.lt S7.out gg hg
                omega)
            have S9 := Lib.hid (R.keep S7.out (fun q hq => (hgrow.block q (by have := R.lt S7.out q hq; simp; omega) (fun e => D6.out q e.symm hq)).trans (Below.heap_alloc wr _ q (R.lt S7.out q hq))) (by have := hgrow.size; simp at this; omega))
            have B9 := Lib.hid ((B7.out.alloc B7.out.size _).grown hgrow (by have := B7.out.size; simp; omega) (fun q hq => by have := (HOk.out.lt q hq).1; omega))
            have Z9 := Lib.hid (show w2.heap.size ≤ w9.heap.size from by have := hgrow.size; have := Z7.out; simp at *; omega)
            clear hown9 hgrow hat hgl hk8 hkb
            go_wp2_with fail
            go_roundw
            case rel => exact ⟨k + 1, G6, by omega, by go_num, S9.out, O9.out, D9.out, F6.out, B9.out, Z9.out⟩
            case measure => simp [intOf]; omega
    · have hki : ¬ (k : Int) < (M : Int) := by omega
      obtain rfl : k = M := by omega
      clear hlt
      go_wp2_with fail
      refine (R.sign_no wr G3 g seed h k ⟨#[109]⟩ S3.out HM.out.symm (by decide) T3.out).mono ?_
      rintro e w4 ⟨G4, rfl, s4, t4, i4⟩
      have S4 := Lib.hid s4
      have B4 := Lib.hid (t4.below B3.out F3.out B3.out.size)
      have F4 := Lib.hid (i4.from F3.out B3.out.size)
      have T4 := Lib.hid (tab_below HT.out B4.out)
      clear s4 t4 i4
      go_wp2_with fail
      refine (HPb.out w4 G4 g k S4.out T4.out).mono ?_
      rintro e w5 ⟨G5, rfl, s5, t5, i5⟩
      have B5 := Lib.hid (t5.below B4.out F4.out B4.out.size)
      clear s5 t5 i5
      go_wp2_with fail
      go_ret
      exact ⟨rfl, B5.out⟩
end Go.Proofs.YtnbaoihamjdjdaaDoor.Sp
