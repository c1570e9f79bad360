/- The walk of SignerKeys. -/
import Derived.Test.YtnbaoihamjdjdaaDoorSigAwake
import Derived.Test.YtnbaoihamjdjdaaDoorSigPick
import Derived.Test.YtnbaoihamjdjdaaDoorCodWf
import Derived.Test.YtnbaoihamjdjdaaDoorTreR
import Derived.Test.YtnbaoihamjdjdaaDoorWotB
namespace Go.Proofs.YtnbaoihamjdjdaaDoor.Sp
open Go Go.RowKit
set_option maxRecDepth 100000
variable {Sg : World → (Nat → Prop) → Nat → ByteArray → Nat → Nat → Prop}

theorem Strs.turned {w w' : World} {F : Nat → Prop} {a : Option Addr} {n : Nat} {ss : List ByteArray} (h : Strs w a n ss) (ht : Turned F w w') (hd : ∀ p, a = some p → ¬ F p.block) : Strs w' a n ss := by
  refine ⟨h.1, fun hn => ?_⟩
  obtain ⟨b, off, e, hc⟩ := h.2 hn
  refine ⟨b, off, e, fun j hj => ?_⟩
  have hb : b < w.heap.size := block_lt_of_cell (hc j hj)
  exact (World.cell?_of_block (w := w) (w' := w') (a := ⟨b, off + j, none⟩) (ht.block b hb (hd _ e))).trans (hc j hj)
theorem leaves_upto (seed : ByteArray) (k : Nat) : (List.range (k + 1)).map (fun (i : Nat) => publicB seed (i : Int)) = (List.range k).map (fun (i : Nat) => publicB seed (i : Int)) ++ [publicB seed (k : Int)] := by simp [List.range_succ]
/-- Disjoint memories. -/
def Disj (F G : Nat → Prop) : Prop := ∀ k, F k → ¬ G k
theorem Disj.grown_l {F F' G : Nat → Prop} {w : World} (h : Disj F G) (hi : Within F F' w) (hG : ∀ k, G k → k < w.heap.size) : Disj F' G := fun k hk hg => (hi k hk).elim (fun h1 => h k h1 hg) (fun h1 => by have := hG k hg; omega)
theorem Disj.symm_ {F G : Nat → Prop} (h : Disj F G) : Disj G F := fun k hk hf => h k hf hk
theorem Disj.grown_r {F G G' : Nat → Prop} {w : World} (h : Disj F G) (hi : Within G G' w) (hF : ∀ k, F k → k < w.heap.size) : Disj F G' := (h.symm_.grown_l hi hF).symm_

set_option maxHeartbeats 8000000 in
theorem keys_law (R : SigR Sg) (P : TreeR) (seed : ByteArray) (x y : Int) (msg : ByteArray) (hs : seed.size ≤ 140737488351232) (hx : -9223372036854775808 ≤ x ∧ x ≤ 9223372036854775807) (hy : -9223372036854775808 ≤ y ∧ y ≤ 9223372036854775807) (hm : msg.size ≤ 140737488351232) (w : World) (hT : Tab w) :
    Calls Tryd.prog 6 #[.string seed, .int .i64 x, .int .i64 y, .string msg] w fun e w' => e = .returned (.bool true) ∧ Below w.heap.size w w' := by
  obtain ⟨h, h4, p1⟩ := pick_any x 4 (by omega) (by omega) hx.1 hx.2
  have h2 : 0 < 2 ^ h := Nat.pow_pos (by omega)
  have h8 : 2 ^ h ≤ 8 := Nat.le_trans (Nat.pow_le_pow_right (by omega) (show h ≤ 3 by omega)) (by decide)
  obtain ⟨i, hi, p2⟩ := pick_any y (2 ^ h) h2 (by omega) hy.1 hy.2
  obtain ⟨M, hM⟩ : ∃ M : Nat, 2 ^ h = M := ⟨_, rfl⟩
  have hMi : (2 : Int) ^ h = (M : Int) := by rw [← hM]; simp
  have hMw : IntKind.i64.wrap (M : Int) = (M : Int) := by rw [IntKind.wrap_i64]; omega
  have hMl : M ≤ 8 := by omega
  rw [hM] at p2
  obtain ⟨K, hK⟩ : ∃ K, keyB seed h = K := ⟨_, rfl⟩
  obtain ⟨A, hA⟩ : ∃ A, sigB seed h i msg = A := ⟨_, rfl⟩
  obtain ⟨S, hS⟩ : ∃ S, signB seed (i : Int) msg = S := ⟨_, rfl⟩
  have hSs : S.size = 160 := by rw [← hS]; exact sign_size _ _ _
  obtain ⟨L, hL⟩ : ∃ L, leavesB seed h = L := ⟨_, rfl⟩
  have hLl : L.length = M := by rw [← hL, leaves_len, hM]
  have hL32 : ∀ q ∈ L, q.size = 32 := by rw [← hL]; exact leaves_size _ _
  obtain ⟨Q, hQ⟩ : ∃ Q, pathB L (i : Int) = Q := ⟨_, rfl⟩
  have hQp : Q = pathUp h (leavesB seed h) i := by rw [← hQ, ← hL]; exact path_leaves seed h i (by omega) hi
  have hQl : Q.length = h := by rw [hQp, path_len]
  have hQ32 : ∀ q ∈ Q, q.size = 32 := by rw [hQp]; exact path_size h _ i (leaves_len seed h) (by rw [leaves_len]; exact hi) (leaves_size seed h)
  obtain ⟨X, hX⟩ : ∃ X, rootB L = X := ⟨_, rfl⟩
  have hXt : X = topB seed h := by rw [← hX, ← hL]; exact root_leaves seed h (by omega)
  have hXs : X.size = 32 := by rw [hXt]; exact topB_size _ _
  have hAe : (⟨(be 8 i ++ (textL S ++ Q.flatMap textL)).toArray⟩ : ByteArray) = A := by rw [← hA, ← hS, hQp]; rfl
  have hKe : (⟨(be 8 h).toArray⟩ : ByteArray) ++ X = K := by rw [← hK, hXt]; rfl
  have hsm : ∀ q ∈ L, ∀ r ∈ L, q.size + r.size ≤ TM := fun q hq r hr => by rw [hL32 q hq, hL32 r hr]; unfold TM; omega
  have HPt := Lib.hid (fun a c w hs ht => P.path L a M c (i : Int) w (by omega) (by omega) hsm hs ht)
  rw [hQ] at HPt
  have HRt := Lib.hid (fun a c w hs ht => P.root L a M c w (by omega) hsm hs ht)
  rw [hX] at HRt
  have HWs := Lib.hid (fun w ht => wsign_any seed (i : Int) msg (by omega) hs hm w ht)
  rw [hS] at HWs
  have hpub := fun (w : World) (F : Nat → Prop) (g n : Nat) (s : Sg w F g seed h n) (t : Tab w) => R.pub w F g seed h n s t
  rw [hK] at hpub
  have HPb := Lib.hid hpub
  have hsig := fun (w : World) (F : Nat → Prop) (g : Nat) (s : Sg w F g seed h i) (t : Tab w) => R.sign_ok w F g seed h i msg s hi hm t
  rw [hA] at hsig
  have HSg := Lib.hid hsig
  have HT := Lib.hid hT
  have HM := Lib.hid hM
  have HLl := Lib.hid hLl
  have HLe := Lib.hid hL
  have HQl := Lib.hid hQl
  have HQ32 := Lib.hid hQ32
  have HAe := Lib.hid hAe
  have HKe := Lib.hid hKe
  have P1 := Lib.hid p1
  have P2 := Lib.hid p2
  have H4 := Lib.hid h4
  have HI := Lib.hid hi
  have hh0 : (0 : Int) ≤ (h : Int) := by omega
  have hw1 : IntKind.u64.wrap (h : Int) = (h : Int) := by rw [IntKind.wrap_u64]; omega
  have hw2 : IntKind.u64.wrap (i : Int) = (i : Int) := by rw [IntKind.wrap_u64]; omega
  clear hT hK hA hS hL hQ hX hQp hXt hAe hKe hsm hpub hsig hM hLl hL32 hQl hQ32 p1 p2 hi h2
  go_enter Tryd.func6, Tryd.ntmps6
  go_wp2_with fail
  refine (awake_any R w HT.out).mono ?_
  rintro e w0 ⟨rfl, h0⟩
  have B0 := Lib.hid h0
  have T0 := Lib.hid (tab_below HT.out h0)
  clear h0
  go_wp2_with fail
  refine (P1.out _).mono ?_
  rintro e v1 ⟨rfl, rfl⟩
  go_wp2_with fail
  refine (P2.out _).mono ?_
  rintro e v2 ⟨rfl, rfl⟩
  go_wp2_with fail
  refine (R.new_ok seed h i _ hs (by omega) (by have := HI.out; omega) T0.out).mono ?_
  rintro e w1 ⟨g, G, rfl, s1, f1, h1⟩
  have S1 := Lib.hid s1
  have B1 := Lib.hid (B0.out.trans (h1.mono B0.out.size))
  have F1 := Lib.hid (fun q (hq : G q) => Nat.le_trans B0.out.size (f1 q hq))
  have T1 := Lib.hid (tab_below HT.out B1.out)
  clear s1 f1 h1
  go_wp2_with fail
  go_loopw [14, 15] (fun l t wr => ∃ k : Nat, k ≤ M ∧ t = .int .i64 (k : Int) ∧ OwnT wr w1.heap.size l ((List.range k).map (fun (i : Nat) => publicB seed (i : Int))) ∧ Below w1.heap.size w1 wr) (fun _ t _ => M - (intOf t).toNat)
  case atStart => exact ⟨0, by omega, rfl, World.ownsRow_nil _ _ _ _, Below.refl _ _⟩
  case round =>
    obtain ⟨k, hk, rfl, hown, hbel⟩ := hrel
    have HO := Lib.hid hown
    have HB := Lib.hid hbel
    have hbz := hbel.size
    have TR := Lib.hid (tab_below T1.out hbel)
    clear hown hbel
    by_cases hlt : k < M
    · have hki : (k : Int) < (M : Int) := by omega
      obtain ⟨W, hW⟩ : ∃ W, publicB seed (k : Int) = W := ⟨_, rfl⟩
      have HW := Lib.hid (wpublic_any seed (k : Int) (by omega) hs)
      rw [hW] at HW
      have hnext := Lib.hid (leaves_upto seed k)
      rw [hW] at hnext
      obtain ⟨l0, hl0⟩ : ∃ l0, (List.range k).map (fun (i : Nat) => publicB seed (i : Int)) = l0 := ⟨_, rfl⟩
      rw [hl0] at HO hnext
      have hll : l0.length = k := by rw [← hl0]; simp
      obtain ⟨Xs, eXs⟩ : ∃ Xs : List Value, l0.map Value.string = Xs := ⟨_, rfl⟩
      have HOk := Lib.hid (show wr.ownsRow w1.heap.size 9 1 u14 k Xs from by have := HO.out; unfold OwnT at this; rw [hll, eXs] at this; exact this)
      have EXs := Lib.hid eXs
      have HLL := Lib.hid hll
      clear hW hl0 hll eXs hlt
      obtain ⟨i0, hi0, hz0, hz1, hz2⟩ := info_parts infoText
      have hk8 : k + 1 ≤ maxLen := by unfold maxLen; omega
      have hkb : (k + 1) * 16 ≤ 140737488355328 := by omega
      go_wp2_with fail
      refine (HW.out wr TR.out).mono ?_
      rintro e w2 ⟨rfl, h2⟩
      have B2 := Lib.hid (HB.out.trans (h2.mono HB.out.size))
      have O2 := Lib.hid (own_below HOk.out h2)
      have b2 := B2.out.size
      clear h2 HOk HO
      go_wp2_with (at_builtin; refine wpList_append_own _ rfl (.tmp 52) (.tmp 56) 22 rfl w1.heap.size 9 i0 (.string .empty) 1 16 Tryd.underlying22 hi0 hz0 hz1 hz2 rfl (by decide) u14 k Xs rfl (O2.out.alloc _) ⟨w2.heap.size, 0, none⟩ 1 1 [.string W] rfl rfl ?c1 ?c2 ?c3 ?c4 ?c5 ?_)
      case c1 => intro j u hj; exact new_cell _ _ _ hj
      case c2 => intro u hu; simp at hu; subst hu; rfl
      case c3 => exact hk8
      case c4 => exact hkb
      case c5 => simp; omega
      intro v' w3 hown3 hgrow _
      have HO3 := Lib.hid (show OwnT w3 w1.heap.size v' (l0 ++ [W]) from by
        unfold OwnT
        rw [List.map_append, List.length_append, HLL.out, EXs.out]
        exact hown3)
      have HB3 := Lib.hid (show Below w1.heap.size w1 w3 from by
        refine (B2.out.alloc b2 _).grown hgrow (by simp; omega) ?_
        intro k' hk'
        exact (O2.out.lt k' hk').1)
      clear hown3 hgrow hk8 hkb
      go_wp2_with fail
      go_roundw
      case rel => exact ⟨k + 1, by omega, by go_num, by rw [hnext.out]; exact HO3.out, HB3.out⟩
      case measure => simp [intOf]; omega
    · have hki : ¬ (k : Int) < (M : Int) := by omega
      obtain rfl : k = M := by omega
      have hLe : (List.range k).map (fun (i : Nat) => publicB seed (i : Int)) = L := by rw [← HLe.out, ← HM.out]; rfl
      rw [hLe] at HO
      obtain ⟨al, cl, hv, hSl, hbl, hcl⟩ := HO.out.strs_
      rw [HLl.out] at hv hSl hcl
      subst hv
      have SL := Lib.hid hSl
      have BL := Lib.hid hbl
      clear hSl hbl hLe HO hlt
      go_wp2_with fail
      refine (newWriter_f wr).mono ?_
      rintro e w3 ⟨rfl, f3, h3⟩
      have WA3 := Lib.hid f3
      have B3 := Lib.hid h3
      clear f3 h3
      go_wp2_with fail
      refine (newWriter_f w3).mono ?_
      rintro e w4 ⟨rfl, f4, h4⟩
      have WW4 := Lib.hid f4
      have WA4 := Lib.hid (WA3.out.below h4)
      have B4 := Lib.hid (B3.out.trans (h4.mono B3.out.size))
      have D4 := Lib.hid (show Disj (footW wr.heap.size (.slice none 0 0)) (footW w3.heap.size (.slice none 0 0)) from fun q hq hp => by
        have h1 := WA3.out.lt q hq
        rcases hp with rfl | hp
        · omega
        · cases hp)
      have LA4 := Lib.hid (show ∀ q, footW wr.heap.size (.slice none 0 0) q → wr.heap.size ≤ q from fun q hq => by
        rcases hq with rfl | hq
        · exact Nat.le_refl _
        · cases hq)
      have LW4 := Lib.hid (show ∀ q, footW w3.heap.size (.slice none 0 0) q → wr.heap.size ≤ q from fun q hq => by
        rcases hq with rfl | hq
        · exact B3.out.size
        · cases hq)
      obtain ⟨ga, hga⟩ : ∃ ga, wr.heap.size = ga := ⟨_, rfl⟩
      obtain ⟨gw, hgw⟩ : ∃ gw, w3.heap.size = gw := ⟨_, rfl⟩
      rw [hga] at WA3 WA4 D4 LA4 LW4 ⊢
      rw [hgw] at WW4 D4 LW4 ⊢
      have HGA := Lib.hid hga
      have LA := Lib.hid (show ∀ q, footW ga (.slice none 0 0) q → wr.heap.size ≤ q from fun q hq => by rw [HGA.out]; exact LA4.out q hq)
      have LW := Lib.hid (show ∀ q, footW gw (.slice none 0 0) q → wr.heap.size ≤ q from fun q hq => by rw [HGA.out]; exact LW4.out q hq)
      clear f4 h4 hga hgw LA4 LW4
      go_wp2_with fail
      refine (wnum_f ga h (.slice none 0 0) [] (by omega) w4 WA4.out (by simp)).mono ?_
      rintro e w5 ⟨va, rfl, f5, t5, i5⟩
      have WA5 := Lib.hid f5
      have WW5 := Lib.hid (WW4.out.other t5 D4.out.symm_)
      have D5 := Lib.hid (D4.out.grown_l i5 WW4.out.lt)
      have B5 := Lib.hid (t5.below B4.out LA.out B4.out.size)
      have LA5 := Lib.hid (i5.from LA.out B4.out.size)
      clear f5 t5 i5
      go_wp2_with fail
      refine (wnum_f gw i (.slice none 0 0) [] (by have := HI.out; have := HM.out; omega) w5 WW5.out (by simp)).mono ?_
      rintro e w6 ⟨vw, rfl, f6, t6, i6⟩
      have WW6 := Lib.hid f6
      have WA6 := Lib.hid (WA5.out.other t6 D5.out)
      have D6 := Lib.hid (D5.out.grown_r i6 WA5.out.lt)
      have B6 := Lib.hid (t6.below B5.out LW.out B5.out.size)
      have LW6 := Lib.hid (i6.from LW.out B5.out.size)
      have T6 := Lib.hid (tab_below TR.out B6.out)
      clear f6 t6 i6
      go_wp2_with fail
      refine (HWs.out w6 T6.out).mono ?_
      rintro e w7 ⟨rfl, h7⟩
      have WW7 := Lib.hid (WW6.out.below h7)
      have WA7 := Lib.hid (WA6.out.below h7)
      have B7 := Lib.hid (B6.out.trans (h7.mono B6.out.size))
      clear h7
      go_wp2_with fail
      refine (wtext_f gw S vw _ w7 WW7.out (by simp [be_length]; omega)).mono ?_
      rintro e w8 ⟨vx, rfl, f8, t8, i8⟩
      have WW8 := Lib.hid f8
      have WA8 := Lib.hid (WA7.out.other t8 D6.out)
      have D8 := Lib.hid (D6.out.grown_r i8 WA7.out.lt)
      have B8 := Lib.hid (t8.below B7.out LW6.out B7.out.size)
      have LW8 := Lib.hid (i8.from LW6.out B7.out.size)
      have T8 := Lib.hid (tab_below TR.out B8.out)
      clear f8 t8 i8
      go_wp2_with fail
      refine (HPt.out al cl w8 (SL.out.below B8.out) T8.out).mono ?_
      rintro e w9 ⟨ap, cp, rfl, sp, h9, np, lp⟩
      rw [HQl.out] at sp lp ⊢
      have SP := Lib.hid sp
      have NP := Lib.hid (show ∀ p, ap = some p → ¬ footW gw vx p.block from fun p hp hf => by have := np p hp; have := WW8.out.lt _ hf; omega)
      have WW9 := Lib.hid (WW8.out.below h9)
      have WA9 := Lib.hid (WA8.out.below h9)
      have B9 := Lib.hid (B8.out.trans (h9.mono B8.out.size))
      obtain ⟨l0, hl0⟩ : ∃ l0, [] ++ be 8 i ++ (be 4 S.size ++ S.data.toList) = l0 := ⟨_, rfl⟩
      rw [hl0] at WW9
      have hl0l : l0.length = 172 := by rw [← hl0]; simp [be_length]; omega
      have HL0 := Lib.hid hl0
      clear sp h9 np lp WW8 WA8 WW7 WA7 WW6 WA6 hl0
      go_wp2_with fail
      go_loopw [19] (fun t ws => ∃ (q : Nat) (v : Value), q ≤ h ∧ t = .int .i64 (q : Int) ∧ Wf ws gw v (l0 ++ (Q.take q).flatMap textL) ∧ Wf ws ga va ([] ++ be 8 h) ∧ Disj (footW ga va) (footW gw v) ∧ (∀ z, footW gw v z → wr.heap.size ≤ z) ∧ (∀ p, ap = some p → ¬ footW gw v p.block) ∧ Strs ws ap h Q ∧ Below wr.heap.size wr ws) (fun t _ => h - (intOf t).toNat)
      case atStart => exact ⟨0, vx, by omega, rfl, by simpa using WW9.out, WA9.out, D8.out, LW8.out, NP.out, SP.out, B9.out⟩
      case round =>
        obtain ⟨q, v, hq, rfl, hw, ha, hd, hlw, hnp, hsp, hb⟩ := hrel
        have XW := Lib.hid hw
        have XA := Lib.hid ha
        have XD := Lib.hid hd
        have XL := Lib.hid hlw
        have XN := Lib.hid hnp
        have XS := Lib.hid hsp
        have XB := Lib.hid hb
        clear hw ha hd hlw hnp hsp hb
        by_cases hqh : q < h
        · have hqi : (q : Int) < (h : Int) := by omega
          have hq0 : (0 : Int) ≤ (q : Int) := by omega
          obtain ⟨Y, hY⟩ : ∃ Y, Q.getD q .empty = Y := ⟨_, rfl⟩
          have hYs : Y.size = 32 := by rw [← hY]; exact HQ32.out _ (getD_mem_ Q q (by rw [HQl.out]; exact hqh))
          have hsucc := Lib.hid (show l0 ++ (Q.take q).flatMap textL ++ (be 4 Y.size ++ Y.data.toList) = l0 ++ (Q.take (q + 1)).flatMap textL from by
            rw [take_at .empty Q q (by rw [HQl.out]; exact hqh), List.flatMap_append, hY, List.append_assoc]; simp [textL])
          have hlen : (l0 ++ (Q.take q).flatMap textL).length + 4 + Y.size ≤ 140737488355328 := by
            rw [List.length_append, hl0l, flat_len _ (fun z hz => HQ32.out z (List.mem_of_mem_take hz)), List.length_take, hYs]; omega
          obtain ⟨b, off, rfl, hc⟩ := XS.out.2 (by omega)
          have ck := hc q hqh
          rw [hY] at ck
          clear hY hc hqh
          go_wp2_with fail
          refine (wtext_f gw Y v _ wr XW.out hlen).mono ?_
          rintro e w10 ⟨v2, rfl, f10, t10, i10⟩
          rw [hsucc.out] at f10
          have WW10 := Lib.hid f10
          have WA10 := Lib.hid (XA.out.other t10 XD.out)
          have D10 := Lib.hid (XD.out.grown_r i10 XA.out.lt)
          have B10 := Lib.hid (t10.below XB.out XL.out XB.out.size)
          have LW10 := Lib.hid (i10.from XL.out XB.out.size)
          have S10 := Lib.hid (XS.out.turned t10 XN.out)
          have N10 := Lib.hid (show ∀ p, some (⟨b, off, none⟩ : Addr) = some p → ¬ footW gw v2 p.block from fun p hp hf => (i10 _ hf).elim (XN.out p hp) (fun h1 => by
            injection hp with hp
            subst hp
            have h5 : b < wr.heap.size := block_lt_of_cell ck
            have h6 : wr.heap.size ≤ b := h1
            omega))
          clear f10 t10 i10
          go_wp2_with fail
          go_roundw
          case rel => exact ⟨q + 1, v2, by omega, by go_num, WW10.out, WA10.out, D10.out, LW10.out, N10.out, S10.out, B10.out⟩
          case measure => simp [intOf]; omega
        · have hqi : ¬ (q : Int) < (h : Int) := by omega
          obtain rfl : q = h := by omega
          have hfin : (⟨(l0 ++ (Q.take q).flatMap textL).toArray⟩ : ByteArray) = A := by
            rw [List.take_of_length_le (by rw [HQl.out]; exact Nat.le_refl _), ← HL0.out, ← HAe.out]
            simp [textL]
          have HF := Lib.hid hfin
          have Sx := Lib.hid (R.below S1.out (HB.out.trans (XB.out.mono hbz)))
          have Bx := Lib.hid (B1.out.trans ((HB.out.trans (XB.out.mono hbz)).mono B1.out.size))
          have Tx := Lib.hid (tab_below HT.out Bx.out)
          have Gl := Lib.hid (R.lt S1.out)
          clear hfin hqh XN XS
          go_wp2_with fail
          refine (HSg.out wr G g Sx.out Tx.out).mono ?_
          rintro e w11 ⟨G11, rfl, s11, t11, i11⟩
          have S11 := Lib.hid s11
          have B11 := Lib.hid (t11.below Bx.out F1.out Bx.out.size)
          have T11 := Lib.hid (tab_below HT.out B11.out)
          have F11 := Lib.hid (i11.from F1.out Bx.out.size)
          have WW11 := Lib.hid (XW.out.other t11 (fun z hz hg => by have := XL.out z hz; have := Gl.out z hg; omega))
          have WA11 := Lib.hid (XA.out.other t11 (fun z hz hg => by have := LA5.out z hz; have := Gl.out z hg; omega))
          have SL11 := Lib.hid ((SL.out.below XB.out).turned t11 (fun p hp hg => by have := (BL.out p hp).1; have := Gl.out _ hg; omega))
          have I11 := Lib.hid i11
          clear s11 t11 i11
          go_wp2_with fail
          have PB := bytes_f gw v _ w11 WW11.out
          rw [HF.out] at PB
          refine PB.mono ?_
          rintro e w12 ⟨rfl, rfl⟩
          clear PB
          go_wp2_with fail
          refine (HPb.out w11 G11 g (i + 1) S11.out T11.out).mono ?_
          rintro e w13 ⟨G13, rfl, s13, t13, i13⟩
          have B13 := Lib.hid (t13.below B11.out F11.out B11.out.size)
          have T13 := Lib.hid (tab_below HT.out B13.out)
          have WA13 := Lib.hid (WA11.out.other t13 (fun z hz hg => (I11.out z hg).elim (fun h1 => by have := LA5.out z hz; have := Gl.out z h1; omega) (fun h1 => by have := XA.out.lt z hz; omega)))
          have SL13 := Lib.hid (SL11.out.turned t13 (fun p hp hg => (I11.out _ hg).elim (fun h1 => by have := (BL.out p hp).1; have := Gl.out _ h1; omega) (fun h1 => by have := (BL.out p hp).2; have := XB.out.size; omega)))
          clear s13 t13 i13
          go_wp2_with fail
          obtain ⟨Z, hZ⟩ : ∃ Z : ByteArray, (⟨([] ++ be 8 q).toArray⟩ : ByteArray) = Z := ⟨_, rfl⟩
          have hZX : Z ++ X = K := by rw [← hZ]; exact HKe.out
          have hZs : Z.size = 8 := by rw [← hZ]; show (be 8 q).toArray.size = 8; rw [List.size_toArray, be_length]
          have hcat : ¬ 9223372036854775807 < Z.size + X.size := by omega
          have PA := bytes_f ga va _ w13 WA13.out
          rw [hZ] at PA
          refine PA.mono ?_
          rintro e w14 ⟨rfl, rfl⟩
          clear PA hZ
          go_wp2_with fail
          refine (HRt.out al cl w13 SL13.out T13.out).mono ?_
          rintro e w15 ⟨rfl, h15⟩
          have B15 := Lib.hid (B13.out.trans (h15.mono B13.out.size))
          clear h15
          go_wp2_with fail
          go_ret
          exact ⟨rfl, B15.out⟩
end Go.Proofs.YtnbaoihamjdjdaaDoor.Sp
