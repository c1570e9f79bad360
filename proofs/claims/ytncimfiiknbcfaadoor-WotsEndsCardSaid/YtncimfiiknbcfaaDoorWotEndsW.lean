/- The walk of WotsEnds. -/
import Derived.Test.YtncimfiiknbcfaaDoorWotAwake
import Derived.Test.YtncimfiiknbcfaaDoorShaTagP
namespace Go.Proofs.YtncimfiiknbcfaaDoor.Sp
open Go Go.RowKit

theorem ends_public (seed : ByteArray) (l : Int) (msg : ByteArray) :
    publicB seed l = ⟨(sum (inB 4 (endsTo (fun (c : Nat) => walkB (c : Int) ((digitsN msg).getD c 0 : Nat) 15 ((signB seed l msg).extract (16 * c) (16 * c + 16))) 10))).toArray⟩ := by
  rw [← from_sign seed l msg, fromB, if_pos (sign_size seed l msg)]
  rfl

set_option maxHeartbeats 4000000 in
theorem ends_law (seed : ByteArray) (l : Int) (msg : ByteArray) (hl : -9223372036854775808 ≤ l ∧ l ≤ 9223372036854775807) (hs : seed.size ≤ 140737488351232) (hm : msg.size ≤ 140737488351232) (w : World) (hT : Tab w) :
    Calls Tryd.prog 9 #[.string seed, .int .i64 l, .string msg] w fun e w' => e = .returned (.bool true) ∧ Below w.heap.size w w' := by
  have HT := Lib.hid hT
  clear hT
  obtain ⟨R, hR⟩ : ∃ R : ByteArray, publicB seed l = R := ⟨_, rfl⟩
  have hR1 := ends_public seed l msg
  obtain ⟨sig, hsig⟩ : ∃ sig, signB seed l msg = sig := ⟨_, rfl⟩
  have hsz : sig.size = 160 := by rw [← hsig]; exact sign_size _ _ _
  have H1 := Lib.hid (wpublic_any seed l hl hs)
  have H2 := Lib.hid (wsign_any seed l msg hl hs hm)
  rw [hR] at H1 hR1
  rw [hsig] at H2 hR1
  obtain ⟨f, hf⟩ : ∃ f : Nat → ByteArray, f = fun (c : Nat) => walkB (c : Int) ((digitsN msg).getD c 0 : Nat) 15 (sig.extract (16 * c) (16 * c + 16)) := ⟨_, rfl⟩
  have HR := Lib.hid (show R = ⟨(sum (inB 4 (endsTo f 10))).toArray⟩ from by rw [hR1, hf])
  have hfs : ∀ c, c < 10 → (f c).size = 16 := fun c hc => by
    rw [hf]
    refine walkB_size _ _ _ _ ?_
    rw [ByteArray.size_extract]; omega
  have Hfs := Lib.hid hfs
  have Hf := Lib.hid hf
  have hszi : (sig.size : Int) = 160 := by omega
  clear hR hfs hf hR1 hsig
  go_enter Tryd.func9, Tryd.ntmps9
  go_wp2_with fail
  refine (awake_any w HT.out).mono ?_
  rintro e w1 ⟨rfl, h1⟩
  have B1 := Lib.hid h1
  clear h1
  go_wp2_with fail
  refine (H2.out w1 (tab_below HT.out B1.out)).mono ?_
  rintro e w2 ⟨rfl, h2⟩
  have B2 := Lib.hid (B1.out.trans (h2.mono B1.out.size))
  clear h2
  go_wp2_with fail
  refine (wdigits_any msg hm w2 (tab_below HT.out B2.out)).mono ?_
  rintro e w0 ⟨a, cap, rfl, hcells, h0⟩
  have HC0 := Lib.hid hcells
  have B0 := Lib.hid (B2.out.trans (h0.mono B2.out.size))
  have T0 := Lib.hid (tab_below HT.out B0.out)
  clear hcells h0
  go_wp2_with fail
  go_loopw [10, 11] (fun x y wr => ∃ k : Nat, k ≤ 10 ∧ y = .int .i64 (k : Int) ∧ OwnT wr w0.heap.size x (endsTo f k) ∧ Cells wr a 10 (fun j => intV ((digitsN msg).getD j 0)) ∧ Tab wr ∧ Below w0.heap.size w0 wr) (fun _ y _ => 10 - (intOf y).toNat)
  case atStart => exact ⟨0, by omega, rfl, World.ownsRow_nil _ _ _ _, HC0.out, T0.out, Below.refl _ _⟩
  case round =>
    obtain ⟨k, hk, rfl, hown, hc, ht, hbel⟩ := hrel
    have HO := Lib.hid hown
    have HTr := Lib.hid ht
    have HB := Lib.hid hbel
    have HC := Lib.hid hc
    have hbz := hbel.size
    clear hown ht hbel
    by_cases hlt : k < 10
    · have hki : (k : Int) < 10 := by omega
      have hk0 : (0 : Int) ≤ (k : Int) := by omega
      obtain ⟨b, off, rfl, hcell⟩ := hc (by omega)
      obtain ⟨d, hd⟩ : ∃ d, (digitsN msg).getD k 0 = d := ⟨_, rfl⟩
      have hd15 : d ≤ 15 := by rw [← hd]; exact digits_le msg k
      have ck := hcell k hlt
      simp only [hd, intV] at ck
      obtain ⟨p, hp⟩ : ∃ p : Nat, 16 * k = p := ⟨_, rfl⟩
      have hpi : 16 * (k : Int) = (p : Int) := by omega
      have hpw : IntKind.i64.wrap (p : Int) = (p : Int) := by rw [IntKind.wrap_i64]; omega
      obtain ⟨q, hq⟩ : ∃ q : Nat, p + 16 = q := ⟨_, rfl⟩
      have hqi : (p : Int) + 16 = (q : Int) := by omega
      have hqw : IntKind.i64.wrap (q : Int) = (q : Int) := by rw [IntKind.wrap_i64]; omega
      have hpq : (p : Int) ≤ (q : Int) := by omega
      have hqs : (q : Int) ≤ (sig.size : Int) := by omega
      have hq160 : (q : Int) ≤ 160 := by omega
      have hp0 : (0 : Int) ≤ (p : Int) := by omega
      obtain ⟨V, hV⟩ : ∃ V, sig.extract p q = V := ⟨_, rfl⟩
      have hVs : V.size = 16 := by rw [← hV, ByteArray.size_extract]; omega
      obtain ⟨W, hW⟩ : ∃ W, f k = W := ⟨_, rfl⟩
      have hWw : walkB (k : Int) (d : Int) 15 V = W := by rw [← hW, Hf.out, ← hV, ← hq, ← hp, ← hd]
      have HW := Lib.hid (wwalk_any (k : Int) (d : Int) 15 V (by omega) (by omega) (by omega) (by omega))
      rw [hWw] at HW
      have hnext := Lib.hid (show endsTo f (k + 1) = endsTo f k ++ [W] from by rw [endsTo_succ, hW])
      obtain ⟨Xs, eXs⟩ : ∃ Xs : List Value, (endsTo f k).map Value.string = Xs := ⟨_, rfl⟩
      have HOk := Lib.hid (show wr.ownsRow w0.heap.size 9 1 u10 k Xs from by have := HO.out; unfold OwnT at this; rw [endsTo_length, eXs] at this; exact this)
      have EXs := Lib.hid eXs
      obtain ⟨i0, hi0, hz0, hz1, hz2⟩ := info_parts infoText
      have hk8 : k + 1 ≤ maxLen := by unfold maxLen; omega
      have hkb : (k + 1) * 16 ≤ 140737488355328 := by omega
      clear hW hWw eXs hlt hp hq hd hcell
      have hbw : b < wr.heap.size := block_lt_of_cell ck
      clear HO
      go_wp2_with fail
      go_region_law ((first
        | (refine step_append_lies _ (by rfl) _ _ _ (by rfl) w0.heap.size 9 i0 _ 1 16 Tryd.underlying37 hi0 hz0 hz1 hz2 rfl Nat.one_pos u10 k Xs (by rfl) (by first | exact World.ownsRow.alloc O2.out _ | exact (World.ownsRow.alloc O2.out _).drew) ⟨w2.heap.size, 0, none⟩ 1 1 _ (by rfl) (by rfl) (World.news_of_block (heap_alloc_new w2 _)) (by simp [Value.oneCell']) Nat.one_pos hk8 hkb (by simp; omega) (w2.heap.size + 1) (by simp) ?_; intro gg cap3 w3 hown3 hgrow hat hgl; have HO3 := Lib.hid (show OwnT w3 w0.heap.size (.slice (some ⟨gg, 0, none⟩) (k + 1) cap3) (endsTo f (k + 1)) from (by unfold OwnT; rw [hnext.out, List.map_append, List.length_append, endsTo_length, EXs.out]; exact hown3)); have HB3 := Lib.hid (show Below w0.heap.size w0 w3 from (by first | exact (B2.out.alloc b2 _).grown hgrow (by simp; omega) (fun k' hk' => (O2.out.lt k' hk').1) | exact ((B2.out.alloc b2 _).drew).grown hgrow (by simp; omega) (fun k' hk' => (O2.out.lt k' hk').1))); clear hown3 hgrow hat hgl)
        | (go_simp; go_at_call 22; refine (HW.out _ (by first | exact HTr.out | exact tab_drew_ HTr.out)).mono ?_; rintro e w2 ⟨rfl, h2⟩; have h2 : Below wr.heap.size wr w2 := (by first | exact h2 | exact below_of_drew h2 | exact below_of_drew (below_of_drew h2)); have B2 := Lib.hid (HB.out.trans (h2.mono HB.out.size)); have O2 := Lib.hid (own_below HOk.out h2); have b2 := B2.out.size; have ck2 : w2.cell? ⟨b, off + k, none⟩ = some (.int .i64 (d : Int)) := (h2.cell (p := ⟨b, off + k, none⟩) hbw).trans ck; clear h2)))
      all_goals
        have HT3 := Lib.hid (show Tab w3 from tab_below T0.out HB3.out)
        have HC3 := Lib.hid (HC0.out.below_ HB3.out)
        go_wp2_with fail
        go_roundw
        case rel => exact ⟨k + 1, by omega, by go_num, HO3.out, HC3.out, HT3.out, HB3.out⟩
        case measure => simp [intOf]; omega
    · have hki : ¬ (k : Int) < 10 := by omega
      obtain rfl : k = 10 := by omega
      obtain ⟨a2, c2, hv, hS⟩ := HO.out.strs
      rw [endsTo_length] at hv hS
      subst hv
      have HSt := Lib.hid hS
      have HL := Lib.hid (show len2 (endsTo f 10) 10 ≤ 140737488351300 from by
        have h := len2_16 (endsTo f 10) (by
          intro x hx
          simp only [endsTo, List.mem_map, List.mem_range] at hx
          obtain ⟨c, hc10, rfl⟩ := hx
          exact Hfs.out c hc10)
        rw [endsTo_length] at h
        omega)
      clear hS HO hc
      go_wp2_with fail
      refine (H1.out wr HTr.out).mono ?_
      rintro e w3 ⟨rfl, h3⟩
      have HS3 := Lib.hid (HSt.out.below h3)
      have T3 := Lib.hid (tab_below HTr.out h3)
      have B3 := Lib.hid (B0.out.trans ((HB.out.trans (h3.mono HB.out.size)).mono B0.out.size))
      clear h3
      go_wp2_with fail
      refine (wtag_of 4 (by omega) a2 10 c2 (endsTo f 10) w3 HS3.out (by omega) HL.out T3.out R HR.out).mono ?_
      rintro e w4 ⟨rfl, h4⟩
      have B4 := Lib.hid (B3.out.trans (h4.mono B3.out.size))
      clear h4
      go_wp2_with fail
      go_ret
      exact ⟨rfl, B4.out⟩
end Go.Proofs.YtncimfiiknbcfaaDoor.Sp
