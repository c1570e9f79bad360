/- Package signer: New. -/
import Derived.Test.YtnbaoihamjdjdaaGreatDoorSigR
import Derived.Test.YtnbaoihamjdjdaaGreatDoorWotB
import Derived.Test.YtnbaoihamjdjdaaGreatDoorTrgA
import Derived.Test.YtnbaoihamjdjdaaGreatDoorTreB
import Derived.Deep.RegionLaw
import Derived.Test.YtnbaoihamjdjdaaGreatDoorTrgB
import Derived.Deep.RegionHeld3
import Derived.Test.YtnbaoihamjdjdaaGreatDoorCodWf
import Derived.BigQuiet
namespace Go.Proofs.YtnbaoihamjdjdaaGreatDoor.Sp
open Go Go.RowKit
set_option maxRecDepth 100000

/-- The program's signer: its seed, its height, how many leaves are spent, the leaves. -/
def Sg0 (w : World) (F : Nat → Prop) (g : Nat) (seed : ByteArray) (h n : Nat) : Prop :=
  ∃ (al : Option Addr) (cl : Nat), Blk w g 41 #[.string seed, .int .i64 (h : Int), .int .i64 (n : Int), .slice al (2 ^ h) cl] ∧ Strs w al (2 ^ h) (leavesB seed h) ∧ F g ∧ (∀ p, al = some p → F p.block ∧ p.block ≠ g) ∧ (∀ k, F k → k < w.heap.size) ∧ seed.size ≤ 140737488351232 ∧ h ≤ 7 ∧ n ≤ 2 ^ h
theorem Sg0.lt {w : World} {F : Nat → Prop} {g : Nat} {seed : ByteArray} {h n : Nat} (s : Sg0 w F g seed h n) : ∀ k, F k → k < w.heap.size := by
  obtain ⟨_, _, _, _, _, _, hl, _⟩ := s
  exact hl
theorem Strs.same0 {w w' : World} {a : Option Addr} {n : Nat} {ss : List ByteArray} (h : Strs w a n ss) (hb : ∀ p, a = some p → w'.heap[p.block]? = w.heap[p.block]?) : Strs w' a n ss := by
  refine ⟨h.1, fun hn => ?_⟩
  obtain ⟨b, off, e, hc⟩ := h.2 hn
  exact ⟨b, off, e, fun j hj => (World.cell?_of_block (w := w) (w' := w') (a := ⟨b, off + j, none⟩) (hb ⟨b, off, none⟩ e)).trans (hc j hj)⟩
theorem Sg0.keep {w w' : World} {F : Nat → Prop} {g : Nat} {seed : ByteArray} {h n : Nat} (s : Sg0 w F g seed h n) (hb : ∀ k, F k → w'.heap[k]? = w.heap[k]?) (hz : w.heap.size ≤ w'.heap.size) : Sg0 w' F g seed h n := by
  obtain ⟨al, cl, h1, h2, h3, h4, h5, h6⟩ := s
  exact ⟨al, cl, (hb g h3).trans h1, h2.same0 (fun p hp => hb _ (h4 p hp).1), h3, h4, fun k hk => Nat.lt_of_lt_of_le (h5 k hk) hz, h6⟩

set_option maxHeartbeats 4000000 in
theorem gnew_ok (seed : ByteArray) (h n : Nat) (w : World) (hs : seed.size ≤ 140737488351232) (h7 : h ≤ 7) (hn : n ≤ 2 ^ h) (hT : Tab w) :
    Calls Tryz.prog 6 #[.string seed, .int .i64 (h : Int), .int .i64 (n : Int)] w fun e w' => ∃ g F, e = .returned (.tuple #[.pointer (some ⟨g, 0, none⟩), .int .i64 0]) ∧ Sg0 w' F g seed h n ∧ (∀ k, F k → w.heap.size ≤ k) ∧ Below w.heap.size w w' := by
  have h8 := two_le h h7
  obtain ⟨M, hM⟩ : ∃ M : Nat, 2 ^ h = M := ⟨_, rfl⟩
  have hMi : (2 : Int) ^ h = (M : Int) := by rw [← hM]; simp
  have hMw : IntKind.i64.wrap (M : Int) = (M : Int) := by rw [IntKind.wrap_i64]; omega
  have hMl : M ≤ 128 := by omega
  have hnM : ¬ (M : Int) < (n : Int) := by omega
  have hn0 : ¬ (n : Int) < 0 := by omega
  have hh0 : ¬ (h : Int) < 0 := by omega
  have hh7 : ¬ 7 < (h : Int) := by omega
  have HT := Lib.hid hT
  have HM := Lib.hid hM
  have HN := Lib.hid hn
  clear hT hn h8 hM
  go_enter Tryz.func6, Tryz.ntmps6
  go_wp2_with fail
  refine (clone_any seed _ (by omega)).mono ?_
  rintro e w1 ⟨rfl, h1⟩
  have B1 := Lib.hid h1
  have T1 := Lib.hid (tab_below HT.out h1)
  clear h1
  obtain ⟨g, hg⟩ : ∃ g, w1.heap.size = g := ⟨_, rfl⟩
  have hwg : w.heap.size ≤ g := by rw [← hg]; exact B1.out.size
  have HG := Lib.hid hg
  go_wp2_with fail
  try rw [hg]
  clear hg
  go_loopw [34] (fun t wr => ∃ (k : Nat) (v : Value), k ≤ M ∧ t = .int .i64 (k : Int) ∧ Blk wr g 41 #[.string seed, .int .i64 (h : Int), .int .i64 (n : Int), v] ∧ OwnT wr g v ((List.range k).map (fun (i : Nat) => publicB seed (i : Int))) ∧ Below w1.heap.size w1 wr) (fun t _ => M - (intOf t).toNat)
  case atStart => exact ⟨0, .slice none 0 0, by omega, rfl, by rw [← HG.out]; exact Blk.new _ _ _, World.ownsRow_nil _ _ _ _, (Below.refl _ _).alloc (Nat.le_refl _) _⟩
  case round =>
    obtain ⟨k, v, hk, rfl, hb, ho, hbel⟩ := hrel
    have HB := Lib.hid hb
    have HO := Lib.hid ho
    have HL := Lib.hid hbel
    have hbz := hbel.size
    rw [HG.out] at hbz
    have TR := Lib.hid (tab_below T1.out hbel)
    have hgl := hb.lt
    have hne := Lib.hid (own_blk_ne ho hb (by decide))
    have cs := hb.cell 0
    have c0 := hb.cell 3
    have f0 := hb.frozen 3
    clear hb ho hbel
    by_cases hlt : k < M
    · have hki : (k : Int) < (M : Int) := by omega
      obtain ⟨W, hW⟩ : ∃ W, publicB seed (k : Int) = W := ⟨_, rfl⟩
      have HW := Lib.hid (wpublic_any seed (k : Int) (by omega) hs)
      rw [hW] at HW
      obtain ⟨l0, hl0⟩ : ∃ l0, (List.range k).map (fun (i : Nat) => publicB seed (i : Int)) = l0 := ⟨_, rfl⟩
      have hnext := Lib.hid (show (List.range (k + 1)).map (fun (i : Nat) => publicB seed (i : Int)) = l0 ++ [W] from by rw [← hl0, ← hW]; simp [List.range_succ])
      rw [hl0] at HO
      have hll : l0.length = k := by rw [← hl0]; simp
      obtain ⟨Xs, eXs⟩ : ∃ Xs : List Value, l0.map Value.string = Xs := ⟨_, rfl⟩
      have HOk := Lib.hid (show wr.ownsRow g 9 1 v k Xs from by have := HO.out; unfold OwnT at this; rw [hll, eXs] at this; exact this)
      have EXs := Lib.hid eXs
      have HLL := Lib.hid hll
      clear hW hl0 hll eXs hlt HO
      obtain ⟨i0, hi0, hz0, hz1, hz2⟩ := info_parts infoText
      have hk8 : k + 1 ≤ maxLen := by unfold maxLen; omega
      have hkb : (k + 1) * 16 ≤ 140737488355328 := by omega
      go_wp2_with fail
      go_region_law ((first
        | (refine step_append_lies _ (by rfl) _ _ _ (by rfl) g 9 i0 _ 1 16 Tryz.underlying22 hi0 hz0 hz1 hz2 rfl Nat.one_pos v k Xs (by rfl) (by first | exact World.ownsRow.alloc O2.out _ | exact (World.ownsRow.alloc O2.out _).drew) ⟨w2.heap.size, 0, none⟩ 1 1 _ (by rfl) (by rfl) (World.news_of_block (heap_alloc_new w2 _)) (by simp [Value.oneCell']) Nat.one_pos hk8 hkb (by simp; omega) (w2.heap.size + 1) (by simp) ?_; intro gg cap3 w3 hown3 hgrow hat hgl; have hB3 := K2.out.kept (by first | exact (Below.refl _ _).alloc (Nat.le_refl _) _ | exact ((Below.refl _ _).alloc (Nat.le_refl _) _).drew) hgrow hne.out; have c3 := hB3.cell 3; have f3 := hB3.frozen 3; have K3 := Lib.hid hB3; have O3 := Lib.hid (show OwnT w3 g (.slice (some ⟨gg, 0, none⟩) (k + 1) cap3) (l0 ++ [W]) from (by unfold OwnT; rw [List.map_append, List.length_append, HLL.out, EXs.out]; exact hown3)); have B3 := Lib.hid (show Below w1.heap.size w1 w3 from (by rw [HG.out]; first | exact (B2.out.alloc b2 _).grown hgrow (by simp; omega) (fun k' hk' => (O2.out.lt k' hk').1) | exact ((B2.out.alloc b2 _).drew).grown hgrow (by simp; omega) (fun k' hk' => (O2.out.lt k' hk').1))); clear hown3 hgrow hat hgl hB3)
        | (go_simp; go_at_call 18; refine (HW.out _ (by first | exact TR.out | exact tab_drew_ TR.out)).mono ?_; rintro e w2 ⟨rfl, h2⟩; have h2 : Below wr.heap.size wr w2 := (by first | exact h2 | exact below_of_drew h2 | exact below_of_drew (below_of_drew h2)); have B2 := Lib.hid (show Below g w1 w2 from (by rw [← HG.out]; exact HL.out.trans (h2.mono HL.out.size))); have O2 := Lib.hid (own_below HOk.out h2); have K2 := Lib.hid (HB.out.below h2 hgl); have b2 : g ≤ w2.heap.size := Nat.le_trans hbz h2.size; have c2 := (HB.out.below h2 hgl).cell 3; have c2b := ((HB.out.below h2 hgl).alloc (.cells #[.string W] 9)).cell 3; clear h2)))
      all_goals
        have K4 := Lib.hid (K3.out.set_ 3 (.slice (some ⟨gg, 0, none⟩) (k + 1) cap3))
        have O4 := Lib.hid (show OwnT _ g (.slice (some ⟨gg, 0, none⟩) (k + 1) cap3) (l0 ++ [W]) from own_set O3.out K3.out (by decide) 3 (.slice (some ⟨gg, 0, none⟩) (k + 1) cap3))
        have B4 := Lib.hid (B3.out.setCell (p := ⟨g, 3, none⟩) (by rw [HG.out]; exact Nat.le_refl _) (.slice (some ⟨gg, 0, none⟩) (k + 1) cap3))
        clear c0 f0 hk8 hkb
        go_wp2_with fail
        go_roundw
        case rel => exact ⟨k + 1, _, by omega, by go_num, K4.out, by rw [hnext.out]; exact O4.out, B4.out⟩
        case measure => simp [intOf]; omega
    · have hki : ¬ (k : Int) < (M : Int) := by omega
      obtain rfl : k = M := by omega
      obtain ⟨al, cl, hv, hSl, hbl, hcl⟩ := HO.out.strs_
      have hLl : ((List.range k).map (fun (i : Nat) => publicB seed (i : Int))).length = k := by simp
      rw [hLl] at hv hSl hcl
      subst hv
      have SL := Lib.hid hSl
      have BL := Lib.hid hbl
      clear hSl hbl hLl HO hlt
      go_wp2_with fail
      go_ret2
      refine ⟨g, rfl, fun q => q = g ∨ ∃ p, al = some p ∧ q = p.block, ⟨al, cl, ?_, ?_, .inl rfl, fun p hp => ⟨.inr ⟨p, hp, rfl⟩, fun e => ?_⟩, ?_, hs, h7, HN.out⟩, ?_, B1.out.trans (HL.out.mono B1.out.size)⟩
      · rw [HM.out]; exact HB.out
      · rw [HM.out]
        have hLe : (List.range k).map (fun (i : Nat) => publicB seed (i : Int)) = leavesB seed h := by unfold leavesB; rw [HM.out]
        rw [← hLe]; exact SL.out
      · exact hne.out (by rw [hp]; show some p.block = _; rw [e])
      · rintro q (rfl | ⟨p, hp, rfl⟩)
        · exact HB.out.lt
        · exact (BL.out p hp).2
      · rintro q (rfl | ⟨p, hp, rfl⟩)
        · exact hwg
        · exact Nat.le_trans hwg (BL.out p hp).1

theorem gnew_no (seed : ByteArray) (h n : Int) (w : World) (hh : -9223372036854775808 ≤ h ∧ h ≤ 9223372036854775807) (hn : -9223372036854775808 ≤ n ∧ n ≤ 9223372036854775807) (hno : h < 0 ∨ 7 < h ∨ n < 0 ∨ (2 : Int) ^ h.toNat < n) :
    Calls Tryz.prog 6 #[.string seed, .int .i64 h, .int .i64 n] w fun e w' => e = .returned (.tuple #[.pointer none, .int .i64 1]) ∧ Below w.heap.size w w' := by
  by_cases h0 : h < 0
  · go_enter Tryz.func6, Tryz.ntmps6
    go_wp2_with fail
    go_ret2
    exact ⟨rfl, Below.refl _ _⟩
  · by_cases h7 : 7 < h
    · go_enter Tryz.func6, Tryz.ntmps6
      go_wp2_with fail
      go_ret2
      exact ⟨rfl, Below.refl _ _⟩
    · by_cases n0 : n < 0
      · go_enter Tryz.func6, Tryz.ntmps6
        go_wp2_with fail
        go_ret2
        exact ⟨rfl, Below.refl _ _⟩
      · obtain ⟨k, rfl⟩ : ∃ k : Nat, h = (k : Int) := ⟨h.toNat, by omega⟩
        have hk := two_le k (by omega)
        obtain ⟨M, hM⟩ : ∃ M : Nat, 2 ^ k = M := ⟨_, rfl⟩
        have hMi : (2 : Int) ^ k = (M : Int) := by rw [← hM]; simp
        have hMw : IntKind.i64.wrap (M : Int) = (M : Int) := by rw [IntKind.wrap_i64]; omega
        have hMn : (M : Int) < n := by
          rcases hno with h1 | h1 | h1 | h1
          · omega
          · omega
          · omega
          · rw [Int.toNat_natCast, hMi] at h1; exact h1
        clear hno hM hk
        go_enter Tryz.func6, Tryz.ntmps6
        go_wp2_with fail
        go_ret2
        exact ⟨rfl, Below.refl _ _⟩
end Go.Proofs.YtnbaoihamjdjdaaGreatDoor.Sp

/- Package signer: Public, Spent. -/
namespace Go.Proofs.YtnbaoihamjdjdaaGreatDoor.Sp
open Go Go.RowKit
set_option maxRecDepth 100000

theorem gleaves_small (seed : ByteArray) (h : Nat) : ∀ x ∈ leavesB seed h, ∀ y ∈ leavesB seed h, x.size + y.size ≤ TM := fun x hx y hy => by
  rw [leaves_size seed h x hx, leaves_size seed h y hy]; unfold TM; omega

set_option maxHeartbeats 2000000 in
theorem gpub_any (w : World) (F : Nat → Prop) (g : Nat) (seed : ByteArray) (h n : Nat) (s : Sg0 w F g seed h n) (hT : Tab w) :
    Calls Tryz.prog 12 #[.pointer (some ⟨g, 0, none⟩)] w fun e w' => e = .returned (.string (keyB seed h)) ∧ Below w.heap.size w w' := by
  obtain ⟨al, cl, hb, hs, _, _, _, _, h7, _⟩ := s
  have h8 := two_le h h7
  obtain ⟨M, hM⟩ : ∃ M : Nat, 2 ^ h = M := ⟨_, rfl⟩
  rw [hM] at hb hs
  obtain ⟨K, hK⟩ : ∃ K, keyB seed h = K := ⟨_, rfl⟩
  obtain ⟨R, hR⟩ : ∃ R : ByteArray, (⟨([] ++ be 8 h).toArray⟩ : ByteArray) = R := ⟨_, rfl⟩
  have hRs : R.size = 8 := by
    rw [← hR, ← size_list]
    show ([] ++ be 8 h).length = 8
    rw [List.nil_append, be_length]
  obtain ⟨X, hX⟩ : ∃ X, rootB (leavesB seed h) = X := ⟨_, rfl⟩
  have hXs : X.size = 32 := by rw [← hX, root_leaves seed h h7]; exact topB_size _ _
  have hcat : R ++ X = K := by rw [← hR, ← hX, ← hK, root_leaves seed h h7]; rfl
  have hadd : ¬ 9223372036854775807 < R.size + X.size := by omega
  have HRt := Lib.hid (fun a c w hs ht => treeR.root (leavesB seed h) a M c w (by omega) (gleaves_small seed h) hs ht)
  rw [hX] at HRt
  have HBy := Lib.hid (fun w1 hq => bytes_any w.heap.size w.heap.size ([] ++ be 8 h) w1 hq)
  rw [hR] at HBy
  rw [hK]
  have HT := Lib.hid hT
  have HS := Lib.hid hs
  have HB := Lib.hid hb
  have hgl := hb.lt
  have hw1 : IntKind.u64.wrap (h : Int) = (h : Int) := by rw [IntKind.wrap_u64]; omega
  clear hT hs hb hK hX hM h8 hR
  go_enter Tryz.func12, Tryz.ntmps12
  go_wp2_with fail
  refine (newWriter_any w).mono ?_
  rintro e w2 ⟨rfl, h2⟩
  have Q2 := Lib.hid (show Wr w2 w.heap.size w.heap.size [] from by rw [h2]; exact ⟨Nat.le_refl _, _, Blk.new _ _ _, World.ownsRow_nil _ _ _ _⟩)
  have B2 := Lib.hid (show Below w.heap.size w w2 from by rw [h2]; exact (Below.refl _ _).alloc (Nat.le_refl _) _)
  have K2 := Lib.hid (HB.out.below B2.out hgl)
  have c1 := K2.out.cell 1
  clear h2
  go_wp2_with fail
  refine (wnum_any w.heap.size w.heap.size h [] (by omega) w2 Q2.out (by simp)).mono ?_
  rintro e w3 ⟨rfl, h3, o3⟩
  have Q3 := Lib.hid h3
  have B3 := Lib.hid (B2.out.trans o3)
  have K3 := Lib.hid (HB.out.below B3.out hgl)
  have S3 := Lib.hid (HS.out.below B3.out)
  have T3 := Lib.hid (tab_below HT.out B3.out)
  have c2 := K3.out.cell 3
  clear h3 o3 c1
  go_wp2_with fail
  have hg3 : g < w3.heap.size := K3.out.lt
  go_region_held3 (fun w' => w'.cell? ⟨g, 3, none⟩ = some (.slice al M cl)) ((first | exact c2 | (with_reducible assumption))) ((first
    | (go_at_call 25; refine (HBy.out _ (by exact Q3.out)).mono ?_; rintro e w4 ⟨rfl, rfl⟩)
    | (go_at_call 32; refine (HRt.out _ _ _ (by exact S3.out) (by first | exact T3.out | exact tab_drew_ T3.out)).mono ?_; rintro e w5 ⟨rfl, h5⟩; have h5 : Below w3.heap.size w3 w5 := (by first | exact h5 | exact below_of_drew h5 | exact below_of_drew (below_of_drew h5)); have B5 := Lib.hid (B3.out.trans (h5.mono B3.out.size)); have c5 : w5.cell? ⟨g, 3, none⟩ = some (.slice al M cl) := (h5.cell (p := ⟨g, 3, none⟩) hg3).trans c2; clear h5)))
  all_goals
    go_wp2_with fail
    go_ret
    exact ⟨rfl, B5.out⟩

theorem gspent_any (w : World) (F : Nat → Prop) (g : Nat) (seed : ByteArray) (h n : Nat) (s : Sg0 w F g seed h n) :
    Calls Tryz.prog 10 #[.pointer (some ⟨g, 0, none⟩)] w fun e w' => e = .returned (.int .i64 (n : Int)) ∧ w = w' := by
  obtain ⟨al, cl, hb, _⟩ := s
  have c3 := hb.cell 2
  clear hb
  go_enter Tryz.func10, Tryz.ntmps10
  go_wp2_with fail
  go_ret
  exact ⟨rfl, rfl⟩
end Go.Proofs.YtnbaoihamjdjdaaGreatDoor.Sp

/- Package signer: Sign. -/
namespace Go.Proofs.YtnbaoihamjdjdaaGreatDoor.Sp
open Go Go.RowKit
set_option maxRecDepth 100000

theorem gsign_no (w : World) (F : Nat → Prop) (g : Nat) (seed : ByteArray) (h n : Nat) (msg : ByteArray) (s : Sg0 w F g seed h n) (hn : n = 2 ^ h) :
    Calls Tryz.prog 8 #[.pointer (some ⟨g, 0, none⟩), .string msg] w fun e w' => e = .returned (.tuple #[.string .empty, .int .i64 70]) ∧ Below w.heap.size w w' := by
  obtain ⟨al, cl, hb, _, _, _, _, _, h7, _⟩ := s
  have h8 := two_le h h7
  obtain ⟨M, hM⟩ : ∃ M : Nat, 2 ^ h = M := ⟨_, rfl⟩
  rw [hn, hM] at hb
  have c2 := hb.cell 2
  have c3 := hb.cell 3
  clear hb hn hM h8
  go_enter Tryz.func8, Tryz.ntmps8
  go_wp2_with fail
  go_quiet (fail)
  go_wp2_with fail
  go_ret2
  exact ⟨rfl, below_drewN (Below.refl _ _) _⟩

theorem tab_set {w : World} {g i : Nat} {t : TypeId} {s : ByteArray} {a b c : Value} {u : Value} (h : Tab w) (hb : Blk w g t #[.string s, a, b, c]) : Tab (w.setCell ⟨g, i, none⟩ u) := by
  have c0 : w.cell? ⟨g, 0, none⟩ = some (.string s) := hb.cell 0
  refine fun j hj => ((Only.refl g w).set_ i u).cell (h j hj) ?_
  intro e
  have h0 : w.cell? ⟨g, 0, none⟩ = some (.int .u32 (U (kW 0))) := by rw [← e]; exact h 0 (by omega)
  rw [c0] at h0
  cases h0
theorem Strs.turned0 {w w' : World} {a : Option Addr} {n : Nat} {ss : List ByteArray} {G : Nat → Prop} (h : Strs w a n ss) (ht : Turned G w w') (hn : ∀ p, a = some p → ¬ G p.block) : Strs w' a n ss := by
  refine ⟨h.1, fun hp => ?_⟩
  obtain ⟨b, off, e, hc⟩ := h.2 hp
  exact ⟨b, off, e, fun j hj => (World.cell?_of_block (w := w) (w' := w') (a := ⟨b, off + j, none⟩) (ht.block b (World.block_lt_of_cell? w _ (hc j hj)) (hn _ e))).trans (hc j hj)⟩

set_option maxHeartbeats 8000000 in
theorem gsign_ok (w : World) (F : Nat → Prop) (g : Nat) (seed : ByteArray) (h n : Nat) (msg : ByteArray) (s : Sg0 w F g seed h n) (hn : n < 2 ^ h) (hm : msg.size ≤ 140737488351232) (hT : Tab w) :
    Calls Tryz.prog 8 #[.pointer (some ⟨g, 0, none⟩), .string msg] w (SgTo Sg0 w F g seed h (n + 1) (.tuple #[.string (sigB seed h n msg), .int .i64 0])) := by
  obtain ⟨al, cl, hb, hs, hFg, hFa, hFl, hsd, h7, hn2⟩ := s
  have h8 := two_le h h7
  obtain ⟨S, hS⟩ : ∃ S, signB seed (n : Int) msg = S := ⟨_, rfl⟩
  have hSs : S.size = 160 := by rw [← hS]; exact sign_size _ _ _
  obtain ⟨Q, hQ⟩ : ∃ Q, pathB (leavesB seed h) (n : Int) = Q := ⟨_, rfl⟩
  have hQp : Q = pathUp h (leavesB seed h) n := by rw [← hQ]; exact path_leaves seed h n h7 hn
  have hQl : Q.length = h := by rw [hQp, path_len]
  have hQ32 : ∀ q ∈ Q, q.size = 32 := by rw [hQp]; exact path_size h _ n (leaves_len seed h) (by rw [leaves_len]; exact hn) (leaves_size seed h)
  have hA : ∀ X : List UInt8, X = [] ++ be 8 n ++ (be 4 S.size ++ S.data.toList) ++ Q.flatMap textL → (⟨X.toArray⟩ : ByteArray) = sigB seed h n msg := fun X hX => by
    rw [hX, sigB, sigL, hS, hQp, textL, List.nil_append, List.append_assoc]
  obtain ⟨M, hM⟩ : ∃ M : Nat, 2 ^ h = M := ⟨_, rfl⟩
  have hnM : n < M := by omega
  have hMl : M ≤ 128 := by omega
  rw [hM] at hb hs
  have HPt := Lib.hid (fun a c w hs ht => treeR.path (leavesB seed h) a M c (n : Int) w (by omega) (by omega) (gleaves_small seed h) hs ht)
  rw [hQ] at HPt
  have HSn := Lib.hid (fun w ht => wsign_any seed (n : Int) msg (by omega) hsd hm w ht)
  rw [hS] at HSn
  have K0 := Lib.hid hb
  have S0 := Lib.hid hs
  have HFg := Lib.hid hFg
  have HFa := Lib.hid hFa
  have HFl := Lib.hid hFl
  have HT := Lib.hid hT
  have HM := Lib.hid hM
  have HA := Lib.hid hA
  have HQl := Lib.hid hQl
  have HQ32 := Lib.hid hQ32
  have hgl := hb.lt
  have c0 := hb.cell 0
  have c2 := hb.cell 2
  have c3 := hb.cell 3
  have f2 := hb.frozen 2
  have hni : ¬ (M : Int) ≤ (n : Int) := by omega
  have hni2 : ¬ M ≤ n := by omega
  have hnw : IntKind.i64.wrap ((n : Int) + 1) = ((n + 1 : Nat) : Int) := by rw [IntKind.wrap_i64]; omega
  have hw2 : IntKind.u64.wrap (n : Int) = (n : Int) := by rw [IntKind.wrap_u64]; omega
  clear hT hb hs hFg hFa hFl hA hS hQ hQp hQl hQ32 hM hn h8
  go_enter Tryz.func8, Tryz.ntmps8
  go_wp2_with fail
  go_quiet (fail)
  go_wp2_with fail
  have hz1 : ∀ (W : World) (u : Value), (W.setCell ⟨g, 2, none⟩ u).heap.size = W.heap.size := fun W u => by
    show (W.heap.modify g _).size = _
    rw [Array.size_modify]
  obtain ⟨w1, hw1⟩ : ∃ w1, (w.drewN nq).setCell ⟨g, 2, none⟩ (.int .i64 ((n : Int) + 1)) = w1 := ⟨_, rfl⟩
  have K1 := Lib.hid (show Blk w1 g 41 #[.string seed, .int .i64 (h : Int), .int .i64 ((n : Int) + 1), .slice al M cl] from by rw [← hw1]; exact (K0.out.drewN nq).set_ 2 _)
  have S1 := Lib.hid (show Strs w1 al M (leavesB seed h) from by
    rw [← hw1]
    exact S0.out.same0 (fun p hp => Below.heap_setCell (w.drewN nq) ⟨g, 2, none⟩ _ p.block (HFa.out p hp).2))
  have T1 := Lib.hid (show Tab w1 from by rw [← hw1]; exact tab_set (w := w.drewN nq) HT.out (K0.out.drewN nq))
  have Z1 := Lib.hid (show w1.heap.size = w.heap.size from by rw [← hw1]; exact hz1 _ _)
  have U1 := Lib.hid (show Turned F w w1 from by
    rw [← hw1]
    exact ⟨rfl, rfl, rfl, by rw [hz1]; exact Nat.le_refl _, fun k hk hF => Below.heap_setCell (w.drewN nq) ⟨g, 2, none⟩ _ k (fun e => hF (by rw [e]; exact HFg.out))⟩)
  rw [hw1]
  have hg1 : g < w1.heap.size := K1.out.lt
  clear hw1 c0 c2 c3 f2 hgl hz1
  refine (newWriter_f w1).mono ?_
  rintro e w2 ⟨rfl, f2, b2⟩
  obtain ⟨gw, hgw⟩ : ∃ gw, w1.heap.size = gw := ⟨_, rfl⟩
  have HGW := Lib.hid hgw
  have B2 := Lib.hid b2
  rw [hgw] at f2 ⊢
  have F2 := Lib.hid f2
  clear f2 b2 hgw
  have L2 : ∀ k, footW gw (.slice none 0 0) k → w1.heap.size ≤ k := by
    rintro k (rfl | hk)
    · rw [HGW.out]; exact Nat.le_refl _
    · cases hk
  have HL2 := Lib.hid L2
  clear L2
  go_wp2_with fail
  refine (wnum_f gw n (.slice none 0 0) [] (by omega) w2 F2.out (by simp)).mono ?_
  rintro e w3 ⟨v3, rfl, f3, t3, i3⟩
  have F3 := Lib.hid f3
  have B3 := Lib.hid (t3.below B2.out HL2.out B2.out.size)
  have L3 := Lib.hid (i3.from HL2.out B2.out.size)
  have K3 := Lib.hid (K1.out.below B3.out hg1)
  have T3 := Lib.hid (tab_below T1.out B3.out)
  have c0 := K3.out.cell 0
  clear f3 t3 i3
  go_wp2_with fail
  refine (HSn.out w3 T3.out).mono ?_
  rintro e w4 ⟨rfl, h4⟩
  have F4 := Lib.hid (F3.out.below h4)
  have B4 := Lib.hid (B3.out.trans (h4.mono B3.out.size))
  clear h4 c0
  go_wp2_with fail
  refine (wtext_f gw S v3 _ w4 F4.out (by simp [be_length]; omega)).mono ?_
  rintro e w5 ⟨v5, rfl, f5, t5, i5⟩
  have F5 := Lib.hid f5
  have B5 := Lib.hid (t5.below B4.out L3.out B4.out.size)
  have L5 := Lib.hid (i5.from L3.out B4.out.size)
  have K5 := Lib.hid (K1.out.below B5.out hg1)
  have S5 := Lib.hid (S1.out.below B5.out)
  have T5 := Lib.hid (tab_below T1.out B5.out)
  have c3 := K5.out.cell 3
  clear f5 t5 i5
  go_wp2_with fail
  refine (HPt.out al cl w5 S5.out T5.out).mono ?_
  rintro e w6 ⟨ap, cp, rfl, sp, h6, np, lp⟩
  rw [HQl.out] at sp lp ⊢
  have SP := Lib.hid sp
  have NP := Lib.hid (show ∀ p, ap = some p → ¬ footW gw v5 p.block from fun p hp hf => by have := np p hp; have := F5.out.lt _ hf; omega)
  have F6 := Lib.hid (F5.out.below h6)
  have B6 := Lib.hid (B5.out.trans (h6.mono B5.out.size))
  have N6 := Lib.hid (show ∀ p, ap = some p → w1.heap.size ≤ p.block from fun p hp => Nat.le_trans B5.out.size (np p hp))
  obtain ⟨l0, hl0⟩ : ∃ l0, [] ++ be 8 n ++ (be 4 S.size ++ S.data.toList) = l0 := ⟨_, rfl⟩
  rw [hl0] at F6
  have hl0l : l0.length = 172 := by rw [← hl0]; simp [be_length]; omega
  have HL0 := Lib.hid hl0
  clear sp h6 np lp hl0 c3
  go_wp2_with fail
  go_loopw [52] (fun t ws => ∃ (q : Nat) (v : Value), q ≤ h ∧ t = .int .i64 (q : Int) ∧ Wf ws gw v (l0 ++ (Q.take q).flatMap textL) ∧ (∀ z, footW gw v z → w1.heap.size ≤ z) ∧ (∀ p, ap = some p → ¬ footW gw v p.block) ∧ Strs ws ap h Q ∧ Below w1.heap.size w1 ws) (fun t _ => h - (intOf t).toNat)
  case atStart => exact ⟨0, v5, by omega, rfl, by simpa using F6.out, L5.out, NP.out, SP.out, B6.out⟩
  case round =>
    obtain ⟨q, v, hq, rfl, hw, hlw, hnp, hsp, hb⟩ := hrel
    have XW := Lib.hid hw
    have XL := Lib.hid hlw
    have XN := Lib.hid hnp
    have XS := Lib.hid hsp
    have XB := Lib.hid hb
    clear hw hlw hnp hsp hb
    by_cases hqh : q < h
    · have hqi : (q : Int) < (h : Int) := by omega
      have hq0 : (0 : Int) ≤ (q : Int) := by omega
      obtain ⟨Y, hY⟩ : ∃ Y, Q.getD q .empty = Y := ⟨_, rfl⟩
      have hYs : Y.size = 32 := by rw [← hY]; exact HQ32.out _ (getD_mem_ Q q (by rw [HQl.out]; exact hqh))
      have hsucc := Lib.hid (show l0 ++ (Q.take q).flatMap textL ++ (be 4 Y.size ++ Y.data.toList) = l0 ++ (Q.take (q + 1)).flatMap textL from by
        rw [take_at .empty Q q (by rw [HQl.out]; exact hqh), List.flatMap_append, hY, List.append_assoc]; simp [textL])
      have hlen : (l0 ++ (Q.take q).flatMap textL).length + 4 + Y.size ≤ 140737488355328 := by
        rw [List.length_append, hl0l, flat_len _ (fun z hz => HQ32.out z (List.mem_of_mem_take hz)), List.length_take, hYs]; omega
      obtain ⟨b, off, rfl, hc⟩ := XS.out.2 (by omega)
      have ck := hc q hqh
      rw [hY] at ck
      clear hY hc hqh
      go_wp2_with fail
      refine (wtext_f gw Y v _ wr XW.out hlen).mono ?_
      rintro e w10 ⟨v2, rfl, f10, t10, i10⟩
      rw [hsucc.out] at f10
      have WW10 := Lib.hid f10
      have B10 := Lib.hid (t10.below XB.out XL.out XB.out.size)
      have LW10 := Lib.hid (i10.from XL.out XB.out.size)
      have S10 := Lib.hid (XS.out.turned0 t10 XN.out)
      have N10 := Lib.hid (show ∀ p, some (⟨b, off, none⟩ : Addr) = some p → ¬ footW gw v2 p.block from fun p hp hf => (i10 _ hf).elim (XN.out p hp) (fun h1 => by
        injection hp with hp
        subst hp
        have h5 : b < wr.heap.size := World.block_lt_of_cell? _ _ ck
        have h6 : wr.heap.size ≤ b := h1
        omega))
      clear f10 t10 i10
      go_wp2_with fail
      go_roundw
      case rel => exact ⟨q + 1, v2, by omega, by go_num, WW10.out, LW10.out, N10.out, S10.out, B10.out⟩
      case measure => simp [intOf]; omega
    · have hqi : ¬ (q : Int) < (h : Int) := by omega
      obtain rfl : q = h := by omega
      have hfin := HA.out (l0 ++ (Q.take q).flatMap textL) (by rw [← HL0.out, List.take_of_length_le (by rw [HQl.out]; exact Nat.le_refl _)])
      have HF := Lib.hid hfin
      clear hfin hqh
      go_wp2_with fail
      have PB := bytes_f gw v _ wr XW.out
      rw [HF.out] at PB
      refine PB.mono ?_
      rintro e w8 ⟨rfl, rfl⟩
      clear PB
      go_wp2_with fail
      go_ret2
      refine ⟨F, rfl, ⟨al, cl, ?_, ?_, HFg.out, HFa.out, fun q hq => ?_, hsd, h7, ?_⟩, U1.out.trans (Within.refl F w) (Turned.of_below XB.out), Within.refl _ _⟩
      · rw [HM.out]
        have K8 := K1.out.below XB.out hg1
        rw [show ((n + 1 : Nat) : Int) = (n : Int) + 1 by omega]
        exact K8
      · rw [HM.out]
        exact S1.out.below XB.out
      · have := HFl.out q hq
        have := XB.out.size
        have := Z1.out
        omega
      · rw [HM.out]; omega
end Go.Proofs.YtnbaoihamjdjdaaGreatDoor.Sp
