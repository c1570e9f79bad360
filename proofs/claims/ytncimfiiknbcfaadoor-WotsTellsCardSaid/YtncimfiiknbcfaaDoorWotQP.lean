/- The document's own public key, signature, and the public key of a signature. -/
import Derived.Test.YtncimfiiknbcfaaDoorWotQD
import Derived.Test.YtncimfiiknbcfaaDoorOwns
namespace Go.Proofs.YtncimfiiknbcfaaDoor.Sp
open Go Go.RowKit
set_option maxRecDepth 100000

set_option maxHeartbeats 2000000 in
theorem qpublic_any (seed : ByteArray) (l : Int) (hl : -9223372036854775808 ≤ l ∧ l ≤ 9223372036854775807) (hs : seed.size ≤ 140737488351232) (w : World) (hT : Tabs w) :
    Calls Tryd.prog 15 #[.string seed, .int .i64 l] w fun e w' => e = .returned (.string (publicB seed l)) ∧ Below w.heap.size w w' := by
  obtain ⟨f, hf⟩ : ∃ f : Nat → ByteArray, f = fun (c : Nat) => walkB (c : Int) 0 15 (secretB seed l (c : Int)) := ⟨_, rfl⟩
  have hfs : ∀ c, (f c).size = 16 := fun c => by rw [hf]; exact walkB_size _ _ _ _ (secretB_size _ _ _)
  obtain ⟨R, hR⟩ : ∃ R : ByteArray, publicB seed l = R := ⟨_, rfl⟩
  have HR := Lib.hid (show R = ⟨(sum (inB 4 (endsTo f 10))).toArray⟩ from by rw [← hR, hf]; rfl)
  rw [hR]
  have Hfs := Lib.hid hfs
  have HT := Lib.hid hT
  have Hf := Lib.hid hf
  clear hR hfs hT hf
  go_enter Tryd.func15, Tryd.ntmps15
  go_wp2_with fail
  go_loopw [5, 6] (fun x y wr => ∃ k : Nat, k ≤ 10 ∧ y = .int .i64 (k : Int) ∧ OwnT wr w.heap.size x (endsTo f k) ∧ Tabs wr ∧ Below w.heap.size w wr) (fun _ y _ => 10 - (intOf y).toNat)
  case atStart => exact ⟨0, by omega, rfl, World.ownsRow_nil _ _ _ _, HT.out, Below.refl _ _⟩
  case round =>
    obtain ⟨k, hk, rfl, hown, ht, hbel⟩ := hrel
    have HO := Lib.hid hown
    have HTr := Lib.hid ht
    have HB := Lib.hid hbel
    have hbz := hbel.size
    clear hown ht hbel
    by_cases hlt : k < 10
    · have hki : (k : Int) < 10 := by omega
      obtain ⟨Sx, hSx⟩ : ∃ Sx, secretB seed l (k : Int) = Sx := ⟨_, rfl⟩
      have HS := Lib.hid (qsecret_any seed l (k : Int) hl (by omega) hs)
      rw [hSx] at HS
      obtain ⟨W, hW⟩ : ∃ W, f k = W := ⟨_, rfl⟩
      have hWw : walkB (k : Int) 0 15 Sx = W := by rw [← hW, Hf.out, ← hSx]
      have HW := Lib.hid (qwalk_any (k : Int) 0 15 Sx (by omega) (by omega) (by omega) (by rw [← hSx, secretB_size]; omega))
      rw [hWw] at HW
      have hnext := Lib.hid (show endsTo f (k + 1) = endsTo f k ++ [W] from by rw [endsTo_succ, hW])
      obtain ⟨Xs, eXs⟩ : ∃ Xs : List Value, (endsTo f k).map Value.string = Xs := ⟨_, rfl⟩
      have HOk := Lib.hid (show wr.ownsRow w.heap.size 9 1 u5 k Xs from by have := HO.out; unfold OwnT at this; rw [endsTo_length, eXs] at this; exact this)
      have EXs := Lib.hid eXs
      clear hSx hW hWw eXs hlt
      obtain ⟨i0, hi0, hz0, hz1, hz2⟩ := info_parts infoText
      have hk8 : k + 1 ≤ maxLen := by unfold maxLen; omega
      have hkb : (k + 1) * 16 ≤ 140737488355328 := by omega
      go_wp2_with fail
      refine (HS.out wr HTr.out).mono ?_
      rintro e w1 ⟨rfl, h1⟩
      have T1 := Lib.hid (HTr.out.below h1)
      have B1 := Lib.hid (HB.out.trans (h1.mono HB.out.size))
      have O1 := Lib.hid (own_below HOk.out h1)
      clear h1 HOk HO
      go_wp2_with fail
      refine (HW.out w1 T1.out).mono ?_
      rintro e w2 ⟨rfl, h2⟩
      have T2 := Lib.hid (T1.out.below h2)
      have B2 := Lib.hid (B1.out.trans (h2.mono B1.out.size))
      have O2 := Lib.hid (own_below O1.out h2)
      have b2 := B2.out.size
      clear h2 O1
      go_wp2_with (at_builtin; refine wpList_append_own _ rfl (.tmp 11) (.tmp 18) 37 rfl w.heap.size 9 i0 (.string .empty) 1 16 Tryd.underlying37 hi0 hz0 hz1 hz2 rfl (by decide) u5 k Xs rfl (O2.out.alloc _) ⟨w2.heap.size, 0, none⟩ 1 1 [.string W] rfl rfl ?c1 ?c2 ?c3 ?c4 ?c5 ?_)
      case c1 => intro j u hj; exact new_cell _ _ _ hj
      case c2 => intro u hu; simp at hu; subst hu; rfl
      case c3 => exact hk8
      case c4 => exact hkb
      case c5 => simp; omega
      intro v' w3 hown3 hgrow _
      have HO3 := Lib.hid (show OwnT w3 w.heap.size v' (endsTo f (k + 1)) from by
        unfold OwnT
        rw [hnext.out, List.map_append, List.length_append, endsTo_length, EXs.out]
        exact hown3)
      have HB3 := Lib.hid (show Below w.heap.size w w3 from by
        refine (B2.out.alloc b2 _).grown hgrow (by simp; omega) ?_
        intro k' hk'
        exact (O2.out.lt k' hk').1)
      have HT3 := Lib.hid (show Tabs w3 from HT.out.below HB3.out)
      clear hown3 hgrow hk8 hkb
      go_wp2_with fail
      go_roundw
      case rel => exact ⟨k + 1, by omega, by go_num, HO3.out, HT3.out, HB3.out⟩
      case measure => simp [intOf]; omega
    · have hki : ¬ (k : Int) < 10 := by omega
      obtain rfl : k = 10 := by omega
      obtain ⟨a, c, hv, hS⟩ := HO.out.strs
      rw [endsTo_length] at hv hS
      subst hv
      have HSt := Lib.hid hS
      have HL := Lib.hid (show len2 (endsTo f 10) 10 ≤ 140737488351300 from by
        have h := len2_16 (endsTo f 10) (endsTo_size f Hfs.out 10)
        rw [endsTo_length] at h
        omega)
      clear hS HO
      go_wp2_with fail
      refine (qtag_of 4 (by omega) a 10 c (endsTo f 10) wr HSt.out (by omega) HL.out HTr.out R HR.out).mono ?_
      rintro e w3 ⟨rfl, h3⟩
      have B3 := Lib.hid (HB.out.trans (h3.mono HB.out.size))
      clear h3
      go_wp2_with fail
      go_ret
      exact ⟨rfl, B3.out⟩

set_option maxHeartbeats 2000000 in
theorem qsign_any (seed : ByteArray) (l : Int) (msg : ByteArray) (hl : -9223372036854775808 ≤ l ∧ l ≤ 9223372036854775807) (hs : seed.size ≤ 140737488351232) (hm : msg.size ≤ 140737488351232) (w : World) (hT : Tabs w) :
    Calls Tryd.prog 17 #[.string seed, .int .i64 l, .string msg] w fun e w' => e = .returned (.string (signB seed l msg)) ∧ Below w.heap.size w w' := by
  have HT := Lib.hid hT
  obtain ⟨Z, hZ⟩ : ∃ Z, signB seed l msg = Z := ⟨_, rfl⟩
  have HZ := Lib.hid hZ
  rw [hZ]
  clear hT hZ
  go_enter Tryd.func17, Tryd.ntmps17
  go_wp2_with fail
  refine (qdigits_any msg hm w HT.out).mono ?_
  rintro e w0 ⟨a, cap, rfl, hcells, h0⟩
  have HC0 := Lib.hid hcells
  have T0 := Lib.hid (HT.out.below h0)
  have B0 := Lib.hid h0
  clear hcells h0
  go_wp2_with fail
  go_loopw [8, 9] (fun x y wr => ∃ k : Nat, k ≤ 10 ∧ y = .int .i64 (k : Int) ∧ x = .string (signUpto seed l msg k) ∧ Cells wr a 10 (fun j => intV ((digitsN msg).getD j 0)) ∧ Tabs wr ∧ Below w.heap.size w wr) (fun _ y _ => 10 - (intOf y).toNat)
  case atStart => exact ⟨0, by omega, rfl, rfl, HC0.out, T0.out, B0.out⟩
  case round =>
    obtain ⟨k, hk, rfl, rfl, hc, ht, hbel⟩ := hrel
    have HTr := Lib.hid ht
    have HB := Lib.hid hbel
    have HC := Lib.hid hc
    clear ht hbel
    obtain ⟨G, hG⟩ : ∃ G, signUpto seed l msg k = G := ⟨_, rfl⟩
    have hGs : G.size = 16 * k := by rw [← hG, signUpto_size]
    rw [hG]
    by_cases hlt : k < 10
    · have hki : (k : Int) < 10 := by omega
      have hk0 : (0 : Int) ≤ (k : Int) := by omega
      obtain ⟨b, off, rfl, hcell⟩ := hc (by omega)
      obtain ⟨d, hd⟩ : ∃ d, (digitsN msg).getD k 0 = d := ⟨_, rfl⟩
      have hd15 : d ≤ 15 := by rw [← hd]; exact digits_le msg k
      have ck := hcell k hlt
      simp only [hd, intV] at ck
      obtain ⟨Sx, hSx⟩ : ∃ Sx, secretB seed l (k : Int) = Sx := ⟨_, rfl⟩
      have HS := Lib.hid (qsecret_any seed l (k : Int) hl (by omega) hs)
      rw [hSx] at HS
      obtain ⟨W, hW⟩ : ∃ W, walkB (k : Int) 0 (d : Int) Sx = W := ⟨_, rfl⟩
      have hWs : W.size = 16 := by rw [← hW]; exact walkB_size _ _ _ _ (by rw [← hSx]; exact secretB_size _ _ _)
      have HW := Lib.hid (qwalk_any (k : Int) 0 (d : Int) Sx (by omega) (by omega) (by omega) (by rw [← hSx, secretB_size]; omega))
      rw [hW] at HW
      have hnext := Lib.hid (show G ++ W = signUpto seed l msg (k + 1) from by rw [signUpto, hd, hG, hSx, hW])
      have hcat : ¬ 9223372036854775807 < G.size + W.size := by omega
      have hcat2 : ¬ 9223372036854775807 < 16 * k + 16 := by omega
      clear hSx hW hd hcell hlt hG
      have hbw : b < wr.heap.size := block_lt_of_cell ck
      go_wp2_with fail
      go_region_law ((first
        | (go_simp; go_at_call 29; refine (HS.out _ (by first | exact HTr.out | exact Tabs.drew_ HTr.out)).mono ?_; rintro e w1 ⟨rfl, h1⟩; have h1 : Below wr.heap.size wr w1 := (by first | exact h1 | exact below_of_drew h1 | exact below_of_drew (below_of_drew h1)); have T1 := Lib.hid (HTr.out.below h1); have B1 := Lib.hid (HB.out.trans (h1.mono HB.out.size)); have C1 := Lib.hid (HC.out.below_ h1); have ck1 : w1.cell? ⟨b, off + k, none⟩ = some (.int .i64 (d : Int)) := (h1.cell (p := ⟨b, off + k, none⟩) hbw).trans ck; clear h1)
        | (go_simp; go_at_call 23; refine (HW.out _ (by first | exact T1.out | exact Tabs.drew_ T1.out)).mono ?_; rintro e w2 ⟨rfl, h2⟩; have h2 : Below w1.heap.size w1 w2 := (by first | exact h2 | exact below_of_drew h2 | exact below_of_drew (below_of_drew h2)); have T2 := Lib.hid (T1.out.below h2); have B2 := Lib.hid (B1.out.trans (h2.mono B1.out.size)); have C2 := Lib.hid (C1.out.below_ h2); clear h2)))
      all_goals
        go_wp2_with fail
        go_roundw
        case rel => exact ⟨k + 1, by omega, by go_num, by rw [hnext.out], C2.out, T2.out, B2.out⟩
        case measure => simp [intOf]; omega
    · have hki : ¬ (k : Int) < 10 := by omega
      obtain rfl : k = 10 := by omega
      have hGZ : G = Z := by rw [← hG]; exact HZ.out
      subst hGZ
      clear hG hc hGs
      go_wp2_with fail
      go_ret
      exact ⟨rfl, HB.out⟩

set_option maxHeartbeats 4000000 in
theorem qfrom_any (sig msg : ByteArray) (hs : sig.size ≤ 9223372036854775807) (hm : msg.size ≤ 140737488351232) (w : World) (hT : Tabs w) :
    Calls Tryd.prog 19 #[.string sig, .string msg] w fun e w' => e = .returned (.string (fromB sig msg)) ∧ Below w.heap.size w w' := by
  have HT := Lib.hid hT
  clear hT
  by_cases hsz : sig.size = 160
  · obtain ⟨f, hf⟩ : ∃ f : Nat → ByteArray, f = fun (c : Nat) => walkB (c : Int) ((digitsN msg).getD c 0 : Nat) 15 (sig.extract (16 * c) (16 * c + 16)) := ⟨_, rfl⟩
    obtain ⟨R, hR⟩ : ∃ R : ByteArray, fromB sig msg = R := ⟨_, rfl⟩
    have HR := Lib.hid (show R = ⟨(sum (inB 4 (endsTo f 10))).toArray⟩ from by rw [← hR, fromB, if_pos hsz, hf]; rfl)
    have hfs : ∀ c, c < 10 → (f c).size = 16 := fun c hc => by
      rw [hf]
      refine walkB_size _ _ _ _ ?_
      rw [ByteArray.size_extract]; omega
    rw [hR]
    have Hfs := Lib.hid hfs
    have Hf := Lib.hid hf
    have hszi : (sig.size : Int) = 160 := by omega
    clear hR hfs hf hs
    go_enter Tryd.func19, Tryd.ntmps19
    go_wp2_with fail
    refine (qdigits_any msg hm w HT.out).mono ?_
    rintro e w0 ⟨a, cap, rfl, hcells, h0⟩
    have HC0 := Lib.hid hcells
    have T0 := Lib.hid (HT.out.below h0)
    have B0 := Lib.hid h0
    clear hcells h0
    go_wp2_with fail
    go_loopw [6, 7] (fun x y wr => ∃ k : Nat, k ≤ 10 ∧ y = .int .i64 (k : Int) ∧ OwnT wr w0.heap.size x (endsTo f k) ∧ Cells wr a 10 (fun j => intV ((digitsN msg).getD j 0)) ∧ Tabs wr ∧ Below w0.heap.size w0 wr) (fun _ y _ => 10 - (intOf y).toNat)
    case atStart => exact ⟨0, by omega, rfl, World.ownsRow_nil _ _ _ _, HC0.out, T0.out, Below.refl _ _⟩
    case round =>
      obtain ⟨k, hk, rfl, hown, hc, ht, hbel⟩ := hrel
      have HO := Lib.hid hown
      have HTr := Lib.hid ht
      have HB := Lib.hid hbel
      have HC := Lib.hid hc
      have hbz := hbel.size
      clear hown ht hbel
      by_cases hlt : k < 10
      · have hki : (k : Int) < 10 := by omega
        have hk0 : (0 : Int) ≤ (k : Int) := by omega
        obtain ⟨b, off, rfl, hcell⟩ := hc (by omega)
        obtain ⟨d, hd⟩ : ∃ d, (digitsN msg).getD k 0 = d := ⟨_, rfl⟩
        have hd15 : d ≤ 15 := by rw [← hd]; exact digits_le msg k
        have ck := hcell k hlt
        simp only [hd, intV] at ck
        obtain ⟨p, hp⟩ : ∃ p : Nat, 16 * k = p := ⟨_, rfl⟩
        have hpi : 16 * (k : Int) = (p : Int) := by omega
        have hpw : IntKind.i64.wrap (p : Int) = (p : Int) := by rw [IntKind.wrap_i64]; omega
        obtain ⟨q, hq⟩ : ∃ q : Nat, p + 16 = q := ⟨_, rfl⟩
        have hqi : (p : Int) + 16 = (q : Int) := by omega
        have hqw : IntKind.i64.wrap (q : Int) = (q : Int) := by rw [IntKind.wrap_i64]; omega
        have hpq : (p : Int) ≤ (q : Int) := by omega
        have hqs : (q : Int) ≤ (sig.size : Int) := by omega
        have hq160 : (q : Int) ≤ 160 := by omega
        have hp0 : (0 : Int) ≤ (p : Int) := by omega
        obtain ⟨V, hV⟩ : ∃ V, sig.extract p q = V := ⟨_, rfl⟩
        have hVs : V.size = 16 := by rw [← hV, ByteArray.size_extract]; omega
        obtain ⟨W, hW⟩ : ∃ W, f k = W := ⟨_, rfl⟩
        have hWw : walkB (k : Int) (d : Int) 15 V = W := by rw [← hW, Hf.out, ← hV, ← hq, ← hp, ← hd]
        have HW := Lib.hid (qwalk_any (k : Int) (d : Int) 15 V (by omega) (by omega) (by omega) (by omega))
        rw [hWw] at HW
        have hnext := Lib.hid (show endsTo f (k + 1) = endsTo f k ++ [W] from by rw [endsTo_succ, hW])
        obtain ⟨Xs, eXs⟩ : ∃ Xs : List Value, (endsTo f k).map Value.string = Xs := ⟨_, rfl⟩
        have HOk := Lib.hid (show wr.ownsRow w0.heap.size 9 1 u6 k Xs from by have := HO.out; unfold OwnT at this; rw [endsTo_length, eXs] at this; exact this)
        have EXs := Lib.hid eXs
        obtain ⟨i0, hi0, hz0, hz1, hz2⟩ := info_parts infoText
        have hk8 : k + 1 ≤ maxLen := by unfold maxLen; omega
        have hkb : (k + 1) * 16 ≤ 140737488355328 := by omega
        clear hW hWw eXs hlt hp hq hd hcell
        have hbw : b < wr.heap.size := block_lt_of_cell ck
        clear HO
        go_wp2_with fail
        go_region_law ((first
          | (refine step_append_lies _ (by rfl) _ _ _ (by rfl) w0.heap.size 9 i0 _ 1 16 Tryd.underlying37 hi0 hz0 hz1 hz2 rfl Nat.one_pos u6 k Xs (by rfl) (by first | exact World.ownsRow.alloc O2.out _ | exact (World.ownsRow.alloc O2.out _).drew) ⟨w2.heap.size, 0, none⟩ 1 1 _ (by rfl) (by rfl) (World.news_of_block (heap_alloc_new w2 _)) (by simp [Value.oneCell']) Nat.one_pos hk8 hkb (by simp; omega) (w2.heap.size + 1) (by simp) ?_; intro gg cap3 w3 hown3 hgrow hat hgl; have HO3 := Lib.hid (show OwnT w3 w0.heap.size (.slice (some ⟨gg, 0, none⟩) (k + 1) cap3) (endsTo f (k + 1)) from (by unfold OwnT; rw [hnext.out, List.map_append, List.length_append, endsTo_length, EXs.out]; exact hown3)); have HB3 := Lib.hid (show Below w0.heap.size w0 w3 from (by first | exact (B2.out.alloc b2 _).grown hgrow (by simp; omega) (fun k' hk' => (O2.out.lt k' hk').1) | exact ((B2.out.alloc b2 _).drew).grown hgrow (by simp; omega) (fun k' hk' => (O2.out.lt k' hk').1))); clear hown3 hgrow hat hgl)
          | (go_simp; go_at_call 23; refine (HW.out _ (by first | exact HTr.out | exact Tabs.drew_ HTr.out)).mono ?_; rintro e w2 ⟨rfl, h2⟩; have h2 : Below wr.heap.size wr w2 := (by first | exact h2 | exact below_of_drew h2 | exact below_of_drew (below_of_drew h2)); have B2 := Lib.hid (HB.out.trans (h2.mono HB.out.size)); have O2 := Lib.hid (own_below HOk.out h2); have b2 := B2.out.size; have ck2 : w2.cell? ⟨b, off + k, none⟩ = some (.int .i64 (d : Int)) := (h2.cell (p := ⟨b, off + k, none⟩) hbw).trans ck; clear h2)))
        all_goals
          have HT3 := Lib.hid (show Tabs w3 from T0.out.below HB3.out)
          have HC3 := Lib.hid (HC0.out.below_ HB3.out)
          go_wp2_with fail
          go_roundw
          case rel => exact ⟨k + 1, by omega, by go_num, HO3.out, HC3.out, HT3.out, HB3.out⟩
          case measure => simp [intOf]; omega
      · have hki : ¬ (k : Int) < 10 := by omega
        obtain rfl : k = 10 := by omega
        obtain ⟨a2, c2, hv, hS⟩ := HO.out.strs
        rw [endsTo_length] at hv hS
        subst hv
        have HSt := Lib.hid hS
        have HL := Lib.hid (show len2 (endsTo f 10) 10 ≤ 140737488351300 from by
          have h := len2_16 (endsTo f 10) (by
            intro x hx
            simp only [endsTo, List.mem_map, List.mem_range] at hx
            obtain ⟨c, hc10, rfl⟩ := hx
            exact Hfs.out c hc10)
          rw [endsTo_length] at h
          omega)
        clear hS HO hc
        go_wp2_with fail
        refine (qtag_of 4 (by omega) a2 10 c2 (endsTo f 10) wr HSt.out (by omega) HL.out HTr.out R HR.out).mono ?_
        rintro e w3 ⟨rfl, h3⟩
        have B3 := Lib.hid (B0.out.trans ((HB.out.trans (h3.mono HB.out.size)).mono B0.out.size))
        clear h3
        go_wp2_with fail
        go_ret
        exact ⟨rfl, B3.out⟩
  · have hR : fromB sig msg = .empty := by rw [fromB, if_neg hsz]
    rw [hR]
    have hszb : ¬ (sig.size : Int) = 160 := by omega
    clear hR hsz
    go_enter Tryd.func19, Tryd.ntmps19
    go_wp2_with fail
    go_ret
    exact ⟨rfl, Below.refl _ _⟩
end Go.Proofs.YtncimfiiknbcfaaDoor.Sp
