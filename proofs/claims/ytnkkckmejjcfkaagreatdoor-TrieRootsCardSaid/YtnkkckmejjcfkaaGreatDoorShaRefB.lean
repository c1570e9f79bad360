/- The document's own answer for package sha: Block. -/
import Derived.Test.YtnkkckmejjcfkaaGreatDoorGzJ
import Derived.Deep.DeepCutAuto
namespace Go.Proofs.YtnkkckmejjcfkaaGreatDoor.Sp
open Go Go.RowKit

attribute [local go_sem] add_U addm_U xor_U and_U not_U shr3_U shr10_U

/-- The document's own table of constants, as it lies in memory. -/
def KTab (w : World) : Prop := ∀ i, i < 64 → w.cell? ⟨2, i, none⟩ = some (.int .u32 (U (kW i)))
theorem KTab.lt {w : World} (h : KTab w) : 2 < w.heap.size := block_lt_of_cell (h 0 (by omega))
theorem KTab.below {w w' : World} {B : Nat} (h : KTab w) (hb : Below B w w') (hB : 2 < B) : KTab w' := fun i hi => (hb.cell (p := ⟨2, i, none⟩) hB).trans (h i hi)

theorem rrot_i (x : W) (m : Int) (h1 : 1 ≤ m) (h2 : m ≤ 31) (w : World) :
    Calls Tryz.prog 98 #[.int .u32 (U x), .int .i64 m] w fun e w' => e = .returned (.int .u32 (U (rotr x m.toNat))) ∧ ∃ k, w' = w.drewN k := by
  have h := rrot_any x m.toNat (by omega) (by omega) w
  rw [show ((m.toNat : Nat) : Int) = m by omega] at h
  exact h

/-- What a slice of words looks like that holds one at least. -/
theorem OwnW.form {w : World} {base : Nat} {v : Value} {ws : List W} (h : OwnW w base v ws) (hn : 0 < ws.length) :
    ∃ g cap cs, v = .slice (some ⟨g, 0, none⟩) ws.length cap ∧ base ≤ g ∧ Blk w g 100 cs ∧ ∀ j, j < ws.length → cs[j]? = some (.int .u32 (U (gW ws j))) := by
  rcases h.2 with ⟨_, h0⟩ | ⟨g, cap, cur, hv, hb, hg, _, _, _, htake⟩
  · omega
  · refine ⟨g, cap, cur, hv, hb, hg, fun j hj => ?_⟩
    rw [Nat.mul_one] at htake
    have h1 : (cur.toList.take ws.length)[j]? = some (wordV (gW ws j)) := by
      rw [htake, List.getElem?_map, List.getElem?_eq_getElem hj]
      unfold gW
      rw [List.getD_eq_getElem?_getD, List.getElem?_eq_getElem hj]; rfl
    rw [List.getElem?_take_of_lt hj] at h1
    rw [← Array.getElem?_toList]; exact h1

theorem add_ws (s t : St) (j : Nat) (hj : j < 8) : gW (s.add t).ws j = gW s.ws j + gW t.ws j := by
  rcases j with _ | _ | _ | _ | _ | _ | _ | _ | j
  all_goals first | rfl | omega
/-- The eight words of a state lie in a block. -/
def Eight8 (cs : Array Value) (T : St) : Prop := ∀ j, j < 8 → cs[j]? = some (.int .u32 (U (gW T.ws j)))

set_option maxHeartbeats 4000000 in
set_option maxRecDepth 100000 in
theorem rblock_yes (s b : ByteArray) (hs : s.size = 32) (hb : b.size = 64) (w : World) (hK : KTab w) (R : ByteArray) (hR : R = textB (compress (decode s.data.toList) b.data.toList).ws) :
    Calls Tryz.prog 90 #[.string s, .string b] w fun e w' => e = .returned (.string R) ∧ Below w.heap.size w w' := by
  obtain ⟨i0, hi0, hz0, hz1, hz2⟩ := info_parts infoWord
  have HK := Lib.hid hK
  have HR := Lib.hid hR
  have HS := Lib.hid hs
  have HB := Lib.hid hb
  have g1 : ((s.size : Int) != 32) = false := by rw [hs]; rfl
  have g2 : ((b.size : Int) != 64) = false := by rw [hb]; rfl
  clear hs hb hK hR
  go_enter Tryz.func90, Tryz.ntmps90
  go_wp2_with fail
  refine (rwords_any b 16 (by rw [HB.out]) (by omega) _).mono ?_
  rintro e w1 ⟨v5, rfl, hown5, hb1⟩
  have O5 := Lib.hid hown5
  have B1 := Lib.hid hb1
  clear hown5 hb1 g1 g2
  go_wp2_with fail
  go_loopw [5, 6] (fun v i wr => ∃ k : Nat, 16 ≤ k ∧ k ≤ 64 ∧ OwnW wr w.heap.size v (sched b.data.toList (k - 16)) ∧ i = .int .i64 (k : Int) ∧ Below w.heap.size w wr) (fun _ i _ => 64 - (intOf i).toNat)
  case atStart => exact ⟨16, by omega, by omega, O5.out, rfl, B1.out⟩
  case round =>
    clear O5 B1
    obtain ⟨k, hk0, hk, hown, rfl, hbel⟩ := hrel
    obtain ⟨S, eS⟩ : ∃ S, S = sched b.data.toList (k - 16) := ⟨_, rfl⟩
    have hSl : S.length = k := by rw [eS, sched_length]; omega
    rw [← eS] at hown
    obtain ⟨g, cap, cs, rfl, hgb, hblk, hcs⟩ := hown.form (by omega)
    rw [hSl] at hcs
    have HO := Lib.hid hown
    have HBe := Lib.hid hbel
    have HBlk := Lib.hid hblk
    have HCS := Lib.hid hcs
    have ES := Lib.hid eS
    have HSl := Lib.hid hSl
    have hsz := hbel.size
    clear hown hbel hblk eS hcs
    rw [hSl]
    by_cases hlt : k < 64
    · obtain ⟨x2, e2⟩ : ∃ x, x = gW S (k - 2) := ⟨_, rfl⟩
      obtain ⟨x7, e7⟩ : ∃ x, x = gW S (k - 7) := ⟨_, rfl⟩
      obtain ⟨x15, e15⟩ : ∃ x, x = gW S (k - 15) := ⟨_, rfl⟩
      obtain ⟨x16, e16⟩ : ∃ x, x = gW S (k - 16) := ⟨_, rfl⟩
      have c2 : wr.cell? ⟨g, k - 2, none⟩ = some (.int .u32 (U x2)) := by rw [e2]; exact (HBlk.out.cell _).trans (HCS.out _ (by omega))
      have c7 : wr.cell? ⟨g, k - 7, none⟩ = some (.int .u32 (U x7)) := by rw [e7]; exact (HBlk.out.cell _).trans (HCS.out _ (by omega))
      have c15 : wr.cell? ⟨g, k - 15, none⟩ = some (.int .u32 (U x15)) := by rw [e15]; exact (HBlk.out.cell _).trans (HCS.out _ (by omega))
      have c16 : wr.cell? ⟨g, k - 16, none⟩ = some (.int .u32 (U x16)) := by rw [e16]; exact (HBlk.out.cell _).trans (HCS.out _ (by omega))
      obtain ⟨y, ey⟩ : ∃ y, y = next S k := ⟨_, rfl⟩
      have f0 : rotr x15 7 ^^^ rotr x15 18 ^^^ x15 >>> 3 = ss0 x15 := rfl
      have f1 : rotr x2 17 ^^^ rotr x2 19 ^^^ x2 >>> 10 = ss1 x2 := rfl
      have f2 : ss1 x2 + x7 + ss0 x15 + x16 = y := by rw [ey, e2, e7, e15, e16]; rfl
      have EY := Lib.hid ey
      clear e2 e7 e15 e16 ey hSl
      obtain ⟨a2, b2, d2, e2⟩ := at_diff k 2 (by omega) hlt
      obtain ⟨a7, b7, d7, e7⟩ := at_diff k 7 (by omega) hlt
      obtain ⟨a15, b15, d15, e15⟩ := at_diff k 15 (by omega) hlt
      obtain ⟨a16, b16, d16, e16⟩ := at_diff k 16 (by omega) hlt
      simp only [Int.cast_ofNat_Int] at a2 b2 d2 e2 a7 b7 d7 e7 a15 b15 d15 e15 a16 b16 d16 e16
      have hki : (k : Int) < 64 := by omega
      have l2 : (k : Int) - 2 < (k : Int) := by omega
      have l7 : (k : Int) - 7 < (k : Int) := by omega
      have l15 : (k : Int) - 15 < (k : Int) := by omega
      have l16 : (k : Int) - 16 < (k : Int) := by omega
      have m2 : (2 : Int) ≤ (k : Int) := by omega
      have m7 : (7 : Int) ≤ (k : Int) := by omega
      have m15 : (15 : Int) ≤ (k : Int) := by omega
      have m16 : (16 : Int) ≤ (k : Int) := by omega
      go_wp2_with fail
      go_quiet ((go_at_call 98; exact Calls.quiet_of (rrot_i _ _ (by decide) (by decide) _)))
      have q2 : (wr.drewN nq).cell? ⟨g, k - 2, none⟩ = some (.int .u32 (U x2)) := c2
      have q7 : (wr.drewN nq).cell? ⟨g, k - 7, none⟩ = some (.int .u32 (U x7)) := c7
      have q16 : (wr.drewN nq).cell? ⟨g, k - 16, none⟩ = some (.int .u32 (U x16)) := c16
      have QO := Lib.hid (show OwnW (wr.drewN nq) w.heap.size (Value.slice (some ⟨g, 0, none⟩) S.length cap) S from HO.out)
      have QB := Lib.hid (below_drewN HBe.out nq)
      clear c2 c7 c15 c16 HO HBe HBlk HCS hsz
      generalize wr.drewN nq = wq at *
      clear nq
      go_wp2_with fail
      go_quiet ((go_at_call 98; exact Calls.quiet_of (rrot_i _ _ (by decide) (by decide) _)))
      have r7 : (wq.drewN nq).cell? ⟨g, k - 7, none⟩ = some (.int .u32 (U x7)) := q7
      have r16 : (wq.drewN nq).cell? ⟨g, k - 16, none⟩ = some (.int .u32 (U x16)) := q16
      have RO := Lib.hid (show OwnW (wq.drewN nq) w.heap.size (Value.slice (some ⟨g, 0, none⟩) S.length cap) S from QO.out)
      have RB := Lib.hid (below_drewN QB.out nq)
      clear q2 q7 q16 QO QB
      generalize wq.drewN nq = wx at *
      clear nq
      obtain ⟨Xs, eX⟩ : ∃ Xs : List Value, Xs = S.map wordV := ⟨_, rfl⟩
      have HOk := Lib.hid (show wx.ownsRow w.heap.size 100 1 (Value.slice (some ⟨g, 0, none⟩) k cap) k Xs from by have := RO.out; unfold OwnW at this; rw [HSl.out] at this; rw [eX]; exact this)
      have EX := Lib.hid eX
      have hA : k + 1 ≤ maxLen := by unfold maxLen; omega
      have hB : (k + 1) * 4 ≤ 140737488355328 := by omega
      have hsx : w.heap.size ≤ wx.heap.size := RB.out.size
      have hbase : w.heap.size ≤ wx.heap.size + 1 := by omega
      clear eX
      have hOut := Lib.hid (show ∀ (w1 : World) (v : Value), w1.ownsRow w.heap.size 100 1 v (k + 1) (Xs ++ [.int .u32 (U y)]) → OwnW w1 w.heap.size v (sched b.data.toList (k + 1 - 16)) from by
        intro w1 v h1
        have e3 : sched b.data.toList (k + 1 - 16) = S ++ [next S k] := by
          rw [ES.out, show k + 1 - 16 = (k - 16) + 1 by omega, sched, show 16 + (k - 16) = k by omega]
        unfold OwnW
        rw [e3, List.length_append, HSl.out, List.map_append, ← EX.out]
        rw [← EY.out]
        exact h1)
      have hBel := Lib.hid (show ∀ (w1 : World) (o : Obj), (wx.alloc o).drew.grownBy w1 (Value.slice (some ⟨g, 0, none⟩) k cap).ownBlock → Below w.heap.size w w1 from by
        intro w1 o hg
        exact ((RB.out.alloc hsx _).drew).grown hg (by simp; omega) (fun k' hk' => (HOk.out.lt k' hk').1))
      go_wp2_with fail
      go_region_law ((refine step_append_lies _ (by rfl) _ _ _ (by rfl) w.heap.size 100 i0 _ 1 4 Tryz.underlying119 hi0 hz0 hz1 hz2 rfl Nat.one_pos (Value.slice (some ⟨g, 0, none⟩) k cap) k Xs (by rfl) ((World.ownsRow.alloc HOk.out _).drew) ⟨wx.heap.size, 0, none⟩ 1 1 _ (by rfl) (by rfl) (World.news_of_block (heap_alloc_new wx _)) (by simp [Value.oneCell']) Nat.one_pos hA hB (by simpa using hbase) (wx.heap.size + 1) (by simp) ?_; intro gg cp w1 hown1 hgrow hat hgl; have HN := Lib.hid (hOut.out _ _ hown1); have HBn := Lib.hid (hBel.out _ _ hgrow); clear hown1 hgrow hat hgl))
      all_goals
        go_wp2_with fail
        go_roundw
        case rel => exact ⟨k + 1, by omega, by omega, HN.out, by go_num, HBn.out⟩
        case measure => simp [intOf]; omega
    · obtain rfl : k = 64 := by omega
      simp only [Int.cast_ofNat_Int]
      clear hk hk0 hlt hSl
      go_wp2_with fail
      refine (rwords_any s 8 (by rw [HS.out]) (by omega) _).mono ?_
      rintro e w2 ⟨v9, rfl, hown9, hb2⟩
      obtain ⟨V, eV⟩ : ∃ V, V = words s.data.toList 8 := ⟨_, rfl⟩
      have hVl : V.length = 8 := by rw [eV, words_length]
      rw [← eV] at hown9
      obtain ⟨gv, cv, csv, rfl, hgv, hblkv, hcsv⟩ := hown9.form (by omega)
      rw [hVl] at hcsv
      rw [hVl]
      have EV := Lib.hid eV
      have HV := Lib.hid hblkv
      have HCV := Lib.hid hcsv
      have HG2 := Lib.hid (HBlk.out.below hb2 HBlk.out.lt)
      have B2 := Lib.hid (HBe.out.trans (hb2.mono HBe.out.size))
      have hgw : g < w2.heap.size := HG2.out.lt
      have hgvw : gv < w2.heap.size := hblkv.lt
      have hgvb : w.heap.size ≤ gv := by omega
      clear hown9 hb2 eV hVl hblkv hcsv HBlk HBe HO hsz
      go_wp2_with fail
      refine (rwords_any s 8 (by rw [HS.out]) (by omega) _).mono ?_
      rintro e w3 ⟨v10, rfl, hown10, hb3⟩
      have hVl : (words s.data.toList 8).length = 8 := words_length _ _
      obtain ⟨gx, cx, csx, rfl, hgx, hblkx, hcsx⟩ := hown10.form (by omega)
      rw [hVl] at hcsx
      rw [hVl]
      obtain ⟨s0, es0⟩ : ∃ s0, s0 = decode s.data.toList := ⟨_, rfl⟩
      have hs0 : s0.ws = words s.data.toList 8 := by rw [es0]; unfold Sp.decode; rw [of_ws _ hVl]
      have ES0 := Lib.hid es0
      have HS0 := Lib.hid hs0
      have HX := Lib.hid hblkx
      have HCX := Lib.hid (show Eight8 csx s0 from fun j hj => by rw [hs0]; exact hcsx j hj)
      have HV3 := Lib.hid (HV.out.below hb3 hgvw)
      have HG3 := Lib.hid (HG2.out.below hb3 hgw)
      have B3 := Lib.hid (B2.out.trans (hb3.mono B2.out.size))
      have HK3 := Lib.hid (HK.out.below B3.out HK.out.lt)
      have hne : gv ≠ gx := by omega
      have hg3 : g < w3.heap.size := HG3.out.lt
      have hgv3 : gv < w3.heap.size := HV3.out.lt
      clear hown10 hb3 hVl hblkx hcsx es0 hs0 HG2 HV B2 hgw hgvw hgx
      go_wp2_with fail
      go_loopw [10, 11] (fun v i wr => ∃ (k gx cx : Nat) (csx : Array Value), k ≤ 64 ∧ v = .slice (some ⟨gx, 0, none⟩) 8 cx ∧ i = .int .i64 (k : Int) ∧ gv ≠ gx ∧ Blk wr gx 100 csx ∧ Eight8 csx (rounds S k s0) ∧ Below w3.heap.size w3 wr) (fun _ i _ => 64 - (intOf i).toNat)
      case atStart => exact ⟨0, gx, cx, csx, by omega, rfl, rfl, hne, HX.out, HCX.out, Below.refl _ _⟩
      case round =>
        clear HX HCX hne
        obtain ⟨k, gx, cx, csx, hk, rfl, rfl, hne, hblk, h8, hbel⟩ := hrel
        obtain ⟨T, eT⟩ : ∃ T, T = rounds S k s0 := ⟨_, rfl⟩
        rw [← eT] at h8
        have ET := Lib.hid eT
        have HX := Lib.hid hblk
        have H8 := Lib.hid h8
        have HBe := Lib.hid hbel
        have hsz := hbel.size
        clear hblk h8 hbel eT
        by_cases hlt : k < 64
        · obtain ⟨wk, ewk⟩ : ∃ x, x = gW S k := ⟨_, rfl⟩
          obtain ⟨kk, ekk⟩ : ∃ x, x = kW k := ⟨_, rfl⟩
          have e0 : wr.cell? ⟨gx, 0, none⟩ = some (.int .u32 (U T.a)) := (HX.out.cell 0).trans (H8.out 0 (by omega))
          have e1 : wr.cell? ⟨gx, 1, none⟩ = some (.int .u32 (U T.b)) := (HX.out.cell 1).trans (H8.out 1 (by omega))
          have e2 : wr.cell? ⟨gx, 2, none⟩ = some (.int .u32 (U T.c)) := (HX.out.cell 2).trans (H8.out 2 (by omega))
          have e3 : wr.cell? ⟨gx, 3, none⟩ = some (.int .u32 (U T.d)) := (HX.out.cell 3).trans (H8.out 3 (by omega))
          have e4 : wr.cell? ⟨gx, 4, none⟩ = some (.int .u32 (U T.e)) := (HX.out.cell 4).trans (H8.out 4 (by omega))
          have e5 : wr.cell? ⟨gx, 5, none⟩ = some (.int .u32 (U T.f)) := (HX.out.cell 5).trans (H8.out 5 (by omega))
          have e6 : wr.cell? ⟨gx, 6, none⟩ = some (.int .u32 (U T.g)) := (HX.out.cell 6).trans (H8.out 6 (by omega))
          have e7 : wr.cell? ⟨gx, 7, none⟩ = some (.int .u32 (U T.h)) := (HX.out.cell 7).trans (H8.out 7 (by omega))
          have cW : wr.cell? ⟨g, k, none⟩ = some (.int .u32 (U wk)) := by
            rw [ewk]; exact ((HG3.out.below HBe.out hg3).cell k).trans (HCS.out k (by omega))
          have cK : wr.cell? ⟨2, k, none⟩ = some (.int .u32 (U kk)) := by
            rw [ekk]; exact (HK3.out.below HBe.out HK3.out.lt) k hlt
          obtain ⟨t, et⟩ : ∃ t, T.h + (rotr T.e 6 ^^^ rotr T.e 11 ^^^ rotr T.e 25) + (T.e &&& T.f ^^^ ~~~T.e &&& T.g) + kk + wk = t := ⟨_, rfl⟩
          obtain ⟨u, eu⟩ : ∃ u, (rotr T.a 2 ^^^ rotr T.a 13 ^^^ rotr T.a 22) + (T.a &&& T.b ^^^ T.a &&& T.c ^^^ T.b &&& T.c) = u := ⟨_, rfl⟩
          have hRn := Lib.hid (show rounds S (k + 1) s0 = ⟨t + u, T.a, T.b, T.c, T.d + t, T.e, T.f, T.g⟩ from by
            rw [← et, ← eu, ewk, ekk, ET.out]; rfl)
          have hki : (k : Int) < 64 := by omega
          have hk0 : (0 : Int) ≤ (k : Int) := by omega
          clear ewk ekk
          go_wp2_with fail
          go_quiet ((go_at_call 98; exact Calls.quiet_of (rrot_i _ _ (by decide) (by decide) _)))
          have q0 : (wr.drewN nq).cell? ⟨gx, 0, none⟩ = some (.int .u32 (U T.a)) := e0
          have q1 : (wr.drewN nq).cell? ⟨gx, 1, none⟩ = some (.int .u32 (U T.b)) := e1
          have q2 : (wr.drewN nq).cell? ⟨gx, 2, none⟩ = some (.int .u32 (U T.c)) := e2
          have q3 : (wr.drewN nq).cell? ⟨gx, 3, none⟩ = some (.int .u32 (U T.d)) := e3
          have q4 : (wr.drewN nq).cell? ⟨gx, 4, none⟩ = some (.int .u32 (U T.e)) := e4
          have q5 : (wr.drewN nq).cell? ⟨gx, 5, none⟩ = some (.int .u32 (U T.f)) := e5
          have q6 : (wr.drewN nq).cell? ⟨gx, 6, none⟩ = some (.int .u32 (U T.g)) := e6
          have QB := Lib.hid (below_drewN HBe.out nq)
          clear e0 e1 e2 e3 e4 e5 e6 e7 cW cK HX HBe hsz et
          generalize wr.drewN nq = wq at *
          clear nq
          go_wp2_with fail
          go_quiet ((go_at_call 98; exact Calls.quiet_of (rrot_i _ _ (by decide) (by decide) _)))
          have e0 : (wq.drewN nq).cell? ⟨gx, 0, none⟩ = some (.int .u32 (U T.a)) := q0
          have e1 : (wq.drewN nq).cell? ⟨gx, 1, none⟩ = some (.int .u32 (U T.b)) := q1
          have e2 : (wq.drewN nq).cell? ⟨gx, 2, none⟩ = some (.int .u32 (U T.c)) := q2
          have e3 : (wq.drewN nq).cell? ⟨gx, 3, none⟩ = some (.int .u32 (U T.d)) := q3
          have e4 : (wq.drewN nq).cell? ⟨gx, 4, none⟩ = some (.int .u32 (U T.e)) := q4
          have e5 : (wq.drewN nq).cell? ⟨gx, 5, none⟩ = some (.int .u32 (U T.f)) := q5
          have e6 : (wq.drewN nq).cell? ⟨gx, 6, none⟩ = some (.int .u32 (U T.g)) := q6
          have RB := Lib.hid (below_drewN QB.out nq)
          have hsx : w3.heap.size ≤ (wq.drewN nq).heap.size := RB.out.size
          clear q0 q1 q2 q3 q4 q5 q6 QB eu
          generalize wq.drewN nq = wx at *
          clear nq
          go_wp2_with fail
          go_still_tail 26, (by kernel_rfl)
          clear e0 e1 e2 e3 e4 e5 e6
          go_wp2_with fail
          go_roundw
          case rel =>
            refine ⟨k + 1, wx.heap.size, 8, _, by omega, rfl, by go_num, by omega, heap_alloc_new _ _, ?_, (RB.out.drew).alloc hsx _⟩
            rw [hRn.out]
            intro j hj
            rcases j with _ | _ | _ | _ | _ | _ | _ | _ | j
            all_goals first | rfl | omega
          case measure => simp [intOf]; omega
        · obtain rfl : k = 64 := by omega
          simp only [Int.cast_ofNat_Int]
          clear hk hlt
          have HV0 := Lib.hid (HV3.out.below HBe.out hgv3)
          have B4 := Lib.hid (B3.out.trans (HBe.out.mono B3.out.size))
          have hgxw : gx < wr.heap.size := HX.out.lt
          clear HBe HG3 HV3 B3 HK3 hsz hg3 hgv3 HCS
          obtain ⟨wo, ewo⟩ : ∃ wo : World, wo = wr := ⟨_, rfl⟩
          subst ewo
          go_wp2_with fail
          go_loopw [14] (fun i wz => ∃ (k : Nat) (cz : Array Value), k ≤ 8 ∧ i = .int .i64 (k : Int) ∧ Blk wz gv 100 cz ∧ (∀ j, j < 8 → cz[j]? = some (.int .u32 (U (if j < k then gW V j + gW T.ws j else gW V j)))) ∧ Blk wz gx 100 csx ∧ Below w.heap.size w wz) (fun i _ => 8 - (intOf i).toNat)
          case atStart => exact ⟨0, csv, by omega, rfl, HV0.out, fun j hj => by rw [if_neg (by omega)]; exact HCV.out j hj, HX.out, B4.out⟩
          case round =>
            clear HV0 HCV HX B4
            obtain ⟨k, cz, hk, rfl, hblk, hcz, hx, hbel⟩ := hrel
            have HZ := Lib.hid hblk
            have HCZ := Lib.hid hcz
            have HX := Lib.hid hx
            have HBe := Lib.hid hbel
            have hsz := hbel.size
            clear hblk hcz hx hbel
            by_cases hlt : k < 8
            · obtain ⟨vk, evk⟩ : ∃ x, x = gW V k := ⟨_, rfl⟩
              obtain ⟨xk, exk⟩ : ∃ x, x = gW T.ws k := ⟨_, rfl⟩
              have cv : wr.cell? ⟨gv, k, none⟩ = some (.int .u32 (U vk)) := by
                rw [evk]; have h1 := HCZ.out k hlt; rw [if_neg (by omega)] at h1; exact (HZ.out.cell k).trans h1
              have cx : wr.cell? ⟨gx, k, none⟩ = some (.int .u32 (U xk)) := by
                rw [exk]; exact (HX.out.cell k).trans (H8.out k hlt)
              have hfro := HZ.out.frozen k
              have hki : (k : Int) < 8 := by omega
              have hk0 : (0 : Int) ≤ (k : Int) := by omega
              have EV1 := Lib.hid evk
              have EX1 := Lib.hid exk
              clear evk exk
              go_wp2_with fail
              go_still_tail 12, (by kernel_rfl)
              go_wp2_with fail
              go_roundw
              case rel =>
                refine ⟨k + 1, _, by omega, by go_num, (HZ.out.drew).set_ k _, ?_, (HX.out.drew).far (by simp; omega) _, (HBe.out.drew).setCell hgvb _⟩
                intro j hj
                rw [Array.getElem?_setIfInBounds]
                have hcj := HCZ.out j hj
                by_cases hjk : k = j
                · subst hjk
                  have hlen : k < cz.size := by
                    rcases Nat.lt_or_ge k cz.size with h | h
                    · exact h
                    · rw [Array.getElem?_eq_none h] at hcj; cases hcj
                  rw [if_pos rfl, if_pos hlen, if_pos (by omega), ← EV1.out, ← EX1.out]
                · rw [if_neg hjk, hcj]
                  by_cases hjl : j < k
                  · rw [if_pos hjl, if_pos (by omega)]
                  · rw [if_neg hjl, if_neg (by omega)]
              case measure => simp [intOf]; omega
            · obtain rfl : k = 8 := by omega
              have HW := Lib.hid (show WCells wr gv 0 8 (compress s0 b.data.toList).ws from by
                refine ⟨rfl, fun j hj => ?_⟩
                rw [Nat.zero_add]
                refine (HZ.out.cell j).trans ((HCZ.out j hj).trans ?_)
                rw [if_pos hj]
                unfold Sp.compress
                rw [add_ws _ _ j hj, HS0.out, ← EV.out]
                unfold wordV
                rw [ET.out, ES.out])
              simp only [Int.cast_ofNat_Int]
              clear hk hlt
              go_wp2_with fail
              refine (text_any gv 0 8 _ _ _ HW.out (by omega)).mono ?_
              rintro e w9 ⟨rfl, hb9⟩
              have B9 := Lib.hid (HBe.out.trans (hb9.mono hsz))
              clear hb9
              go_wp2_with fail
              go_ret
              exact ⟨ret_text (show textB (Sp.compress s0 b.data.toList).ws = R by rw [HR.out, ← ES0.out]), B9.out⟩

end Go.Proofs.YtnkkckmejjcfkaaGreatDoor.Sp
