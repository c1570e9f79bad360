/- The document's own signer: New. -/
import Derived.Test.YtnbaoihamjdjdaaGreatDoorSigR
import Derived.Test.YtnbaoihamjdjdaaGreatDoorWotZ
import Derived.Test.YtnbaoihamjdjdaaGreatDoorTreZ
import Derived.Test.YtnbaoihamjdjdaaGreatDoorTreR
import Derived.Test.YtnbaoihamjdjdaaGreatDoorCodRefT
import Derived.BigQuiet
namespace Go.Proofs.YtnbaoihamjdjdaaGreatDoor.Sp
open Go Go.RowKit
set_option maxRecDepth 100000

/-- A signer of the document's own. -/
def Sq (w : World) (F : Nat → Prop) (g : Nat) (seed : ByteArray) (h n : Nat) : Prop :=
  ∃ (al : Option Addr) (cl : Nat), Blk w g 44 #[.string seed, .int .i64 (h : Int), .slice al (2 ^ h) cl, .int .i64 (n : Int)] ∧ Strs w al (2 ^ h) (leavesB seed h) ∧ F g ∧ (∀ p, al = some p → F p.block ∧ p.block ≠ g) ∧ ∀ k, F k → k < w.heap.size
theorem Sq.lt {w : World} {F : Nat → Prop} {g : Nat} {seed : ByteArray} {h n : Nat} (s : Sq w F g seed h n) : ∀ k, F k → k < w.heap.size := by
  obtain ⟨_, _, _, _, _, _, hl⟩ := s
  exact hl
theorem Strs.same {w w' : World} {a : Option Addr} {n : Nat} {ss : List ByteArray} (h : Strs w a n ss) (hb : ∀ p, a = some p → w'.heap[p.block]? = w.heap[p.block]?) : Strs w' a n ss := by
  refine ⟨h.1, fun hn => ?_⟩
  obtain ⟨b, off, e, hc⟩ := h.2 hn
  exact ⟨b, off, e, fun j hj => (World.cell?_of_block (w := w) (w' := w') (a := ⟨b, off + j, none⟩) (hb ⟨b, off, none⟩ e)).trans (hc j hj)⟩
theorem Sq.keep {w w' : World} {F : Nat → Prop} {g : Nat} {seed : ByteArray} {h n : Nat} (s : Sq w F g seed h n) (hb : ∀ k, F k → w'.heap[k]? = w.heap[k]?) (hz : w.heap.size ≤ w'.heap.size) : Sq w' F g seed h n := by
  obtain ⟨al, cl, h1, h2, h3, h4, h5⟩ := s
  exact ⟨al, cl, (hb g h3).trans h1, h2.same (fun p hp => hb _ (h4 p hp).1), h3, h4, fun k hk => Nat.lt_of_lt_of_le (h5 k hk) hz⟩
theorem tabs_drew {w : World} (h : Tabs w) : Tabs w.drew := h

set_option maxHeartbeats 4000000 in
theorem qnew_ok (seed : ByteArray) (h n : Nat) (w : World) (hs : seed.size ≤ 140737488351232) (h7 : h ≤ 7) (hn : n ≤ 2 ^ h) (hT : Tabs w) :
    Calls Tryz.prog 7 #[.string seed, .int .i64 (h : Int), .int .i64 (n : Int)] w fun e w' => ∃ g F, e = .returned (.tuple #[.pointer (some ⟨g, 0, none⟩), .int .i64 0]) ∧ Sq w' F g seed h n ∧ (∀ k, F k → w.heap.size ≤ k) ∧ Below w.heap.size w w' := by
  have h8 := two_le h h7
  obtain ⟨M, hM⟩ : ∃ M : Nat, 2 ^ h = M := ⟨_, rfl⟩
  have hMi : (2 : Int) ^ h = (M : Int) := by rw [← hM]; simp
  have hMw : IntKind.i64.wrap (M : Int) = (M : Int) := by rw [IntKind.wrap_i64]; omega
  have hMl : M ≤ 128 := by omega
  have hnM : (n : Int) ≤ (M : Int) := by omega
  have hn0 : ¬ (n : Int) < 0 := by omega
  have hh0 : ¬ (h : Int) < 0 := by omega
  have hh7 : ¬ 7 < (h : Int) := by omega
  have HT := Lib.hid hT
  have HM := Lib.hid hM
  clear hT hn h8 hM
  go_enter Tryz.func7, Tryz.ntmps7
  go_wp2_with fail
  go_loopw [9] (fun t wr => ∃ (k : Nat) (v : Value), k ≤ M ∧ t = .int .i64 (k : Int) ∧ Blk wr w.heap.size 44 #[.string seed, .int .i64 (h : Int), v, .int .i64 (n : Int)] ∧ OwnT wr w.heap.size v ((List.range k).map (fun (i : Nat) => publicB seed (i : Int))) ∧ Below w.heap.size w wr) (fun t _ => M - (intOf t).toNat)
  case atStart => exact ⟨0, .slice none 0 0, by omega, rfl, Blk.new _ _ _, World.ownsRow_nil _ _ _ _, (Below.refl _ _).alloc (Nat.le_refl _) _⟩
  case round =>
    obtain ⟨k, v, hk, rfl, hb, ho, hbel⟩ := hrel
    have HB := Lib.hid hb
    have HO := Lib.hid ho
    have HL := Lib.hid hbel
    have hbz := hbel.size
    have TR := Lib.hid (HT.out.below hbel)
    have hgl := hb.lt
    have hne := Lib.hid (own_blk_ne ho hb (by decide))
    have c0 := hb.cell 2
    have f0 := hb.frozen 2
    clear hb ho hbel
    by_cases hlt : k < M
    · have hki : (k : Int) < (M : Int) := by omega
      obtain ⟨W, hW⟩ : ∃ W, publicB seed (k : Int) = W := ⟨_, rfl⟩
      have HW := Lib.hid (qpublic_any seed (k : Int) (by omega) hs)
      rw [hW] at HW
      obtain ⟨l0, hl0⟩ : ∃ l0, (List.range k).map (fun (i : Nat) => publicB seed (i : Int)) = l0 := ⟨_, rfl⟩
      have hnext := Lib.hid (show (List.range (k + 1)).map (fun (i : Nat) => publicB seed (i : Int)) = l0 ++ [W] from by rw [← hl0, ← hW]; simp [List.range_succ])
      rw [hl0] at HO
      have hll : l0.length = k := by rw [← hl0]; simp
      obtain ⟨Xs, eXs⟩ : ∃ Xs : List Value, l0.map Value.string = Xs := ⟨_, rfl⟩
      have HOk := Lib.hid (show wr.ownsRow w.heap.size 9 1 v k Xs from by have := HO.out; unfold OwnT at this; rw [hll, eXs] at this; exact this)
      have EXs := Lib.hid eXs
      have HLL := Lib.hid hll
      clear hW hl0 hll eXs hlt HO
      obtain ⟨i0, hi0, hz0, hz1, hz2⟩ := info_parts infoText
      have hk8 : k + 1 ≤ maxLen := by unfold maxLen; omega
      have hkb : (k + 1) * 16 ≤ 140737488355328 := by omega
      go_wp2_with fail
      go_region_law ((first
        | (refine step_append_lies _ (by rfl) _ _ _ (by rfl) w.heap.size 9 i0 _ 1 16 Tryz.underlying22 hi0 hz0 hz1 hz2 rfl Nat.one_pos v k Xs (by rfl) (by first | exact World.ownsRow.alloc O2.out _ | exact (World.ownsRow.alloc O2.out _).drew) ⟨w2.heap.size, 0, none⟩ 1 1 _ (by rfl) (by rfl) (World.news_of_block (heap_alloc_new w2 _)) (by simp [Value.oneCell']) Nat.one_pos hk8 hkb (by simp; omega) (w2.heap.size + 1) (by simp) ?_; intro gg cap3 w3 hown3 hgrow hat hgl; have hB3 := K2.out.kept (by first | exact (Below.refl _ _).alloc (Nat.le_refl _) _ | exact ((Below.refl _ _).alloc (Nat.le_refl _) _).drew) hgrow hne.out; have c3 := hB3.cell 2; have f3 := hB3.frozen 2; have K3 := Lib.hid hB3; have O3 := Lib.hid (show OwnT w3 w.heap.size (.slice (some ⟨gg, 0, none⟩) (k + 1) cap3) (l0 ++ [W]) from (by unfold OwnT; rw [List.map_append, List.length_append, HLL.out, EXs.out]; exact hown3)); have B3 := Lib.hid (show Below w.heap.size w w3 from (by first | exact (B2.out.alloc b2 _).grown hgrow (by simp; omega) (fun k' hk' => (O2.out.lt k' hk').1) | exact ((B2.out.alloc b2 _).drew).grown hgrow (by simp; omega) (fun k' hk' => (O2.out.lt k' hk').1))); clear hown3 hgrow hat hgl hB3)
        | (go_simp; go_at_call 19; refine (HW.out _ (by first | exact TR.out | exact tabs_drew TR.out)).mono ?_; rintro e w2 ⟨rfl, h2⟩; have h2 : Below wr.heap.size wr w2 := (by first | exact h2 | exact below_of_drew h2 | exact below_of_drew (below_of_drew h2)); have B2 := Lib.hid (HL.out.trans (h2.mono HL.out.size)); have O2 := Lib.hid (own_below HOk.out h2); have K2 := Lib.hid (HB.out.below h2 hgl); have b2 := B2.out.size; have c2 := (HB.out.below h2 hgl).cell 2; have c2b := ((HB.out.below h2 hgl).alloc (.cells #[.string W] 9)).cell 2; clear h2)))
      all_goals
        have K4 := Lib.hid (K3.out.set_ 2 (.slice (some ⟨gg, 0, none⟩) (k + 1) cap3))
        have O4 := Lib.hid (show OwnT _ w.heap.size (.slice (some ⟨gg, 0, none⟩) (k + 1) cap3) (l0 ++ [W]) from own_set O3.out K3.out (by decide) 2 (.slice (some ⟨gg, 0, none⟩) (k + 1) cap3))
        have B4 := Lib.hid (B3.out.setCell (p := ⟨w.heap.size, 2, none⟩) (Nat.le_refl _) (.slice (some ⟨gg, 0, none⟩) (k + 1) cap3))
        clear c0 f0 hk8 hkb
        go_wp2_with fail
        go_roundw
        case rel => exact ⟨k + 1, _, by omega, by go_num, K4.out, by rw [hnext.out]; exact O4.out, B4.out⟩
        case measure => simp [intOf]; omega
    · have hki : ¬ (k : Int) < (M : Int) := by omega
      obtain rfl : k = M := by omega
      obtain ⟨al, cl, hv, hSl, hbl, hcl⟩ := HO.out.strs_
      have hLl : ((List.range k).map (fun (i : Nat) => publicB seed (i : Int))).length = k := by simp
      rw [hLl] at hv hSl hcl
      subst hv
      have SL := Lib.hid hSl
      have BL := Lib.hid hbl
      clear hSl hbl hLl HO hlt
      go_wp2_with fail
      go_ret2
      refine ⟨w.heap.size, rfl, fun q => q = w.heap.size ∨ ∃ p, al = some p ∧ q = p.block, ⟨al, cl, ?_, ?_, .inl rfl, fun p hp => ⟨.inr ⟨p, hp, rfl⟩, fun e => ?_⟩, ?_⟩, ?_, HL.out⟩
      · rw [HM.out]; exact HB.out
      · rw [HM.out]
        have hLe : (List.range k).map (fun (i : Nat) => publicB seed (i : Int)) = leavesB seed h := by unfold leavesB; rw [HM.out]
        rw [← hLe]; exact SL.out
      · exact hne.out (by rw [hp]; show some p.block = _; rw [e])
      · rintro q (rfl | ⟨p, hp, rfl⟩)
        · exact HB.out.lt
        · exact (BL.out p hp).2
      · rintro q (rfl | ⟨p, hp, rfl⟩)
        · exact Nat.le_refl _
        · exact (BL.out p hp).1

theorem qnew_no (seed : ByteArray) (h n : Int) (w : World) (hh : -9223372036854775808 ≤ h ∧ h ≤ 9223372036854775807) (hn : -9223372036854775808 ≤ n ∧ n ≤ 9223372036854775807) (hno : h < 0 ∨ 7 < h ∨ n < 0 ∨ (2 : Int) ^ h.toNat < n) :
    Calls Tryz.prog 7 #[.string seed, .int .i64 h, .int .i64 n] w fun e w' => e = .returned (.tuple #[.pointer none, .int .i64 1]) ∧ Below w.heap.size w w' := by
  by_cases h0 : h < 0
  · go_enter Tryz.func7, Tryz.ntmps7
    go_wp2_with fail
    go_ret2
    exact ⟨rfl, Below.refl _ _⟩
  · by_cases h7 : 7 < h
    · go_enter Tryz.func7, Tryz.ntmps7
      go_wp2_with fail
      go_ret2
      exact ⟨rfl, Below.refl _ _⟩
    · by_cases n0 : n < 0
      · go_enter Tryz.func7, Tryz.ntmps7
        go_wp2_with fail
        go_ret2
        exact ⟨rfl, Below.refl _ _⟩
      · obtain ⟨k, rfl⟩ : ∃ k : Nat, h = (k : Int) := ⟨h.toNat, by omega⟩
        have hk := two_le k (by omega)
        obtain ⟨M, hM⟩ : ∃ M : Nat, 2 ^ k = M := ⟨_, rfl⟩
        have hMi : (2 : Int) ^ k = (M : Int) := by rw [← hM]; simp
        have hMw : IntKind.i64.wrap (M : Int) = (M : Int) := by rw [IntKind.wrap_i64]; omega
        have hMn : (M : Int) < n := by
          rcases hno with h1 | h1 | h1 | h1
          · omega
          · omega
          · omega
          · rw [Int.toNat_natCast, hMi] at h1; exact h1
        clear hno hM hk
        go_enter Tryz.func7, Tryz.ntmps7
        go_wp2_with fail
        go_ret2
        exact ⟨rfl, Below.refl _ _⟩
end Go.Proofs.YtnbaoihamjdjdaaGreatDoor.Sp

/- The document's own signer: Public. -/
namespace Go.Proofs.YtnbaoihamjdjdaaGreatDoor.Sp
open Go Go.RowKit
set_option maxRecDepth 100000

theorem qroot_t (l : List ByteArray) (a : Option Addr) (n cap : Nat) (hn : n ≤ 9223372036854775807) (hM : ∀ x ∈ l, ∀ y ∈ l, x.size + y.size ≤ TM) (w : World) (hl : Strs w a n l) (hT : Tabs w) :
    Calls Tryz.prog 33 #[.slice a n cap] w fun e w' => e = .returned (.string (rootB l)) ∧ Below w.heap.size w w' :=
  qroot_of Tabs (fun _ h => h.drew_) (fun _ _ h hb => h.below hb) TM (by decide) (fun a b w h ht => qnode_any a b w h ht) l a n cap hn hM w hl hT
theorem qpath_t (l : List ByteArray) (a : Option Addr) (n cap : Nat) (hn : n ≤ 9223372036854775807) (i : Int) (hM : ∀ x ∈ l, ∀ y ∈ l, x.size + y.size ≤ TM) (w : World) (hl : Strs w a n l) (hT : Tabs w) :
    Calls Tryz.prog 30 #[.slice a n cap, .int .i64 i] w (TextsTo (pathB l i) w) :=
  qpath_of Tabs (fun _ h => h.drew_) (fun _ _ h hb => h.below hb) TM (by decide) (fun a b w h ht => qnode_any a b w h ht) l a n cap hn i hM w hl hT
theorem leaves_small (seed : ByteArray) (h : Nat) : ∀ x ∈ leavesB seed h, ∀ y ∈ leavesB seed h, x.size + y.size ≤ TM := fun x hx y hy => by
  rw [leaves_size seed h x hx, leaves_size seed h y hy]; unfold TM; omega
theorem key_cat (seed : ByteArray) (h : Nat) (h7 : h ≤ 7) (R : ByteArray) (hR : R = ByteArray.empty ++ ⟨(be 8 h).toArray⟩) : R ++ rootB (leavesB seed h) = keyB seed h := by
  rw [root_leaves seed h h7, hR]
  apply list_inj
  rw [Go.Joins.data_append, Go.Joins.data_append, key_list]
  rfl

set_option maxHeartbeats 2000000 in
theorem qpub_any (w : World) (F : Nat → Prop) (g : Nat) (seed : ByteArray) (h n : Nat) (s : Sq w F g seed h n) (h7 : h ≤ 7) (hT : Tabs w) :
    Calls Tryz.prog 13 #[.pointer (some ⟨g, 0, none⟩)] w fun e w' => e = .returned (.string (keyB seed h)) ∧ Below w.heap.size w w' := by
  obtain ⟨al, cl, hb, hs, _⟩ := s
  have h8 := two_le h h7
  obtain ⟨M, hM⟩ : ∃ M : Nat, 2 ^ h = M := ⟨_, rfl⟩
  rw [hM] at hb hs
  obtain ⟨K, hK⟩ : ∃ K, keyB seed h = K := ⟨_, rfl⟩
  obtain ⟨R, hR⟩ : ∃ R : ByteArray, R = ByteArray.empty ++ ⟨(be 8 h).toArray⟩ := ⟨_, rfl⟩
  have hRs : R.size = 8 := by
    rw [hR, ByteArray.size_append]
    show 0 + (be 8 h).toArray.size = 8
    rw [List.size_toArray, be_length]
  obtain ⟨X, hX⟩ : ∃ X, rootB (leavesB seed h) = X := ⟨_, rfl⟩
  have hXs : X.size = 32 := by rw [← hX, root_leaves seed h h7]; exact topB_size _ _
  have hcat : R ++ X = K := by rw [← hX, ← hK]; exact key_cat seed h h7 R hR
  have hadd : ¬ 9223372036854775807 < R.size + X.size := by omega
  have HRt := Lib.hid (fun a c w hs ht => qroot_t (leavesB seed h) a M c (by omega) (leaves_small seed h) w hs ht)
  rw [hX] at HRt
  rw [hK]
  have HT := Lib.hid hT
  have HR := Lib.hid hR
  have HS := Lib.hid hs
  have HB := Lib.hid hb
  have hgl := hb.lt
  have hw1 : IntKind.u64.wrap (h : Int) = (h : Int) := by rw [IntKind.wrap_u64]; omega
  clear hT hR hs hb hK hX hM h8
  go_enter Tryz.func13, Tryz.ntmps13
  go_wp2_with fail
  refine (qnewWriter_any w).mono ?_
  rintro e w2 ⟨rfl, h2⟩
  have Q2 := Lib.hid (show QW w2 w.heap.size .empty from by rw [h2]; exact Blk.new _ _ _)
  have B2 := Lib.hid (show Below w.heap.size w w2 from by rw [h2]; exact (Below.refl _ _).alloc (Nat.le_refl _) _)
  have K2 := Lib.hid (HB.out.below B2.out hgl)
  have c1 := K2.out.cell 1
  clear h2
  go_wp2_with fail
  refine (qwnum_any w.heap.size h .empty R (by omega) w2 Q2.out (by decide) HR.out).mono ?_
  rintro e w3 ⟨rfl, h3, o3⟩
  have Q3 := Lib.hid h3
  have B3 := Lib.hid (Only.below B2.out B2.out.size (Nat.le_refl _) o3)
  have K3 := Lib.hid (HB.out.below B3.out hgl)
  have S3 := Lib.hid (HS.out.below B3.out)
  have T3 := Lib.hid (HT.out.below B3.out)
  have c2 := K3.out.cell 2
  clear h3 o3 c1
  go_wp2_with fail
  have hg3 : g < w3.heap.size := K3.out.lt
  go_region_held3 (fun w' => w'.cell? ⟨g, 2, none⟩ = some (.slice al M cl)) ((first | exact c2 | (with_reducible assumption))) ((first
    | (go_at_call 31; refine (qbytes_any _ R _ (by exact Q3.out)).mono ?_; rintro e w4 ⟨rfl, rfl⟩)
    | (go_at_call 33; refine (HRt.out _ _ _ (by exact S3.out) (by first | exact T3.out | exact tabs_drew T3.out)).mono ?_; rintro e w5 ⟨rfl, h5⟩; have h5 : Below w3.heap.size w3 w5 := (by first | exact h5 | exact below_of_drew h5 | exact below_of_drew (below_of_drew h5)); have B5 := Lib.hid (B3.out.trans (h5.mono B3.out.size)); have c5 : w5.cell? ⟨g, 2, none⟩ = some (.slice al M cl) := (h5.cell (p := ⟨g, 2, none⟩) hg3).trans c2; clear h5)))
  all_goals
    go_wp2_with fail
    go_ret
    exact ⟨rfl, B5.out⟩
end Go.Proofs.YtnbaoihamjdjdaaGreatDoor.Sp

/- The document's own signer: Sign. -/
namespace Go.Proofs.YtnbaoihamjdjdaaGreatDoor.Sp
open Go Go.RowKit
set_option maxRecDepth 100000

theorem qsign_no (w : World) (F : Nat → Prop) (g : Nat) (seed : ByteArray) (h n : Nat) (msg : ByteArray) (s : Sq w F g seed h n) (h7 : h ≤ 7) (hn : n = 2 ^ h) :
    Calls Tryz.prog 9 #[.pointer (some ⟨g, 0, none⟩), .string msg] w fun e w' => e = .returned (.tuple #[.string .empty, .int .i64 70]) ∧ Below w.heap.size w w' := by
  obtain ⟨al, cl, hb, _⟩ := s
  have h8 := two_le h h7
  obtain ⟨M, hM⟩ : ∃ M : Nat, 2 ^ h = M := ⟨_, rfl⟩
  rw [hn, hM] at hb
  have c2 := hb.cell 2
  have c3 := hb.cell 3
  clear hb hn hM h8
  go_enter Tryz.func9, Tryz.ntmps9
  go_wp2_with fail
  go_quiet (fail)
  go_wp2_with fail
  go_ret2
  exact ⟨rfl, below_drewN (Below.refl _ _) _⟩

theorem text_snoc (l : List UInt8) (X Y R : ByteArray) (hX : X.data.toList = l) (hR : R = X ++ ⟨(be 4 Y.size).toArray⟩ ++ Y) : R.data.toList = l ++ textL Y := by
  rw [hR, Go.Joins.data_append, Go.Joins.data_append, hX, List.append_assoc]
  rfl

theorem tabs_set {w : World} {g i : Nat} {t : TypeId} {s : ByteArray} {a b c : Value} {u : Value} (h : Tabs w) (hb : Blk w g t #[.string s, a, b, c]) : Tabs (w.setCell ⟨g, i, none⟩ u) := by
  have c0 : w.cell? ⟨g, 0, none⟩ = some (.string s) := hb.cell 0
  refine ⟨fun j hj => ((Only.refl g w).set_ i u).cell (h.1 j hj) ?_, fun j hj => ((Only.refl g w).set_ i u).cell (h.2 j hj) ?_⟩
  · intro e
    have h0 : w.cell? ⟨g, 0, none⟩ = some (.int .u32 (U (kW 0))) := by rw [← e]; exact h.1 0 (by omega)
    rw [c0] at h0
    cases h0
  · intro e
    have h0 : w.cell? ⟨g, 0, none⟩ = some (.int .u32 (U (gW st0.ws 0))) := by rw [← e]; exact h.2 0 (by omega)
    rw [c0] at h0
    cases h0

set_option maxHeartbeats 8000000 in
theorem qsign_ok (w : World) (F : Nat → Prop) (g : Nat) (seed : ByteArray) (h n : Nat) (msg : ByteArray) (s : Sq w F g seed h n) (h7 : h ≤ 7) (hn : n < 2 ^ h) (hsd : seed.size ≤ 140737488351232) (hm : msg.size ≤ 140737488351232) (hT : Tabs w) :
    Calls Tryz.prog 9 #[.pointer (some ⟨g, 0, none⟩), .string msg] w (SgTo Sq w F g seed h (n + 1) (.tuple #[.string (sigB seed h n msg), .int .i64 0])) := by
  obtain ⟨al, cl, hb, hs, hFg, hFa, hFl⟩ := s
  have h8 := two_le h h7
  obtain ⟨S, hS⟩ : ∃ S, signB seed (n : Int) msg = S := ⟨_, rfl⟩
  have hSs : S.size = 160 := by rw [← hS]; exact sign_size _ _ _
  obtain ⟨Q, hQ⟩ : ∃ Q, pathB (leavesB seed h) (n : Int) = Q := ⟨_, rfl⟩
  have hQp : Q = pathUp h (leavesB seed h) n := by rw [← hQ]; exact path_leaves seed h n h7 hn
  have hQl : Q.length = h := by rw [hQp, path_len]
  have hQ32 : ∀ q ∈ Q, q.size = 32 := by rw [hQp]; exact path_size h _ n (leaves_len seed h) (by rw [leaves_len]; exact hn) (leaves_size seed h)
  have hA : ∀ X : ByteArray, X.data.toList = be 8 n ++ textL S ++ Q.flatMap textL → X = sigB seed h n msg := fun X hX => by
    apply list_inj
    rw [hX, sig_list, sigL, hS, hQp, List.append_assoc]
  obtain ⟨M, hM⟩ : ∃ M : Nat, 2 ^ h = M := ⟨_, rfl⟩
  have hnM : n < M := by omega
  have hMl : M ≤ 128 := by omega
  have hsb := hs
  rw [hM] at hb hs
  have HPt := Lib.hid (fun a c w hs ht => qpath_t (leavesB seed h) a M c (by omega) (n : Int) (leaves_small seed h) w hs ht)
  rw [hQ] at HPt
  have HSn := Lib.hid (fun w ht => qsign_any seed (n : Int) msg (by omega) hsd hm w ht)
  rw [hS] at HSn
  have K0 := Lib.hid hb
  have S0 := Lib.hid hs
  have HFg := Lib.hid hFg
  have HFa := Lib.hid hFa
  have HFl := Lib.hid hFl
  have HT := Lib.hid hT
  have HM := Lib.hid hM
  have HA := Lib.hid hA
  have HQl := Lib.hid hQl
  have HQ32 := Lib.hid hQ32
  have hgl := hb.lt
  have c0 := hb.cell 0
  have c2 := hb.cell 2
  have c3 := hb.cell 3
  have f3 := hb.frozen 3
  have hni : ¬ (M : Int) ≤ (n : Int) := by omega
  have hni2 : ¬ M ≤ n := by omega
  have hnw : IntKind.i64.wrap ((n : Int) + 1) = ((n + 1 : Nat) : Int) := by rw [IntKind.wrap_i64]; omega
  have hw2 : IntKind.u64.wrap (n : Int) = (n : Int) := by rw [IntKind.wrap_u64]; omega
  clear hT hb hs hsb hFg hFa hFl hA hS hQ hQp hQl hQ32 hM hn h8
  go_enter Tryz.func9, Tryz.ntmps9
  go_wp2_with fail
  go_quiet (fail)
  go_wp2_with fail
  have hz1 : ∀ (W : World) (u : Value), (W.setCell ⟨g, 3, none⟩ u).heap.size = W.heap.size := fun W u => by
    show (W.heap.modify g _).size = _
    rw [Array.size_modify]
  obtain ⟨w1, hw1⟩ : ∃ w1, (w.drewN nq).setCell ⟨g, 3, none⟩ (.int .i64 ((n : Int) + 1)) = w1 := ⟨_, rfl⟩
  have K1 := Lib.hid (show Blk w1 g 44 #[.string seed, .int .i64 (h : Int), .slice al M cl, .int .i64 ((n : Int) + 1)] from by rw [← hw1]; exact (K0.out.drewN nq).set_ 3 _)
  have S1 := Lib.hid (show Strs w1 al M (leavesB seed h) from by
    rw [← hw1]
    exact S0.out.same (fun p hp => Below.heap_setCell (w.drewN nq) ⟨g, 3, none⟩ _ p.block (HFa.out p hp).2))
  have T1 := Lib.hid (show Tabs w1 from by rw [← hw1]; exact tabs_set (w := w.drewN nq) HT.out (K0.out.drewN nq))
  have Z1 := Lib.hid (show w1.heap.size = w.heap.size from by rw [← hw1]; exact hz1 _ _)
  have U1 := Lib.hid (show Turned F w w1 from by
    rw [← hw1]
    exact ⟨rfl, rfl, rfl, by rw [hz1]; exact Nat.le_refl _, fun k hk hF => Below.heap_setCell (w.drewN nq) ⟨g, 3, none⟩ _ k (fun e => hF (by rw [e]; exact HFg.out))⟩)
  rw [hw1]
  have hg1 : g < w1.heap.size := K1.out.lt
  clear hw1 c0 c2 c3 f3 hgl hz1
  refine (qnewWriter_any w1).mono ?_
  rintro e w2 ⟨rfl, h2⟩
  have Q2 := Lib.hid (show QW w2 w1.heap.size .empty from by rw [h2]; exact Blk.new _ _ _)
  have B2 := Lib.hid (show Below w1.heap.size w1 w2 from by rw [h2]; exact (Below.refl _ _).alloc (Nat.le_refl _) _)
  clear h2
  obtain ⟨gw, hgw⟩ : ∃ gw, w1.heap.size = gw := ⟨_, rfl⟩
  have HGW := Lib.hid hgw
  rw [hgw] at Q2 ⊢
  clear hgw
  obtain ⟨R, hR⟩ : ∃ R : ByteArray, R = ByteArray.empty ++ ⟨(be 8 n).toArray⟩ := ⟨_, rfl⟩
  have hRl : R.data.toList = be 8 n := by rw [hR, Go.Joins.data_append]; rfl
  have hRs : R.size = 8 := by rw [← size_list, hRl, be_length]
  go_wp2_with fail
  refine (qwnum_any gw n .empty R (by omega) w2 Q2.out (by decide) hR).mono ?_
  rintro e w3 ⟨rfl, h3, o3⟩
  have Q3 := Lib.hid h3
  have B3 := Lib.hid (Only.below B2.out B2.out.size (by rw [HGW.out]; exact Nat.le_refl _) o3)
  have K3 := Lib.hid (K1.out.below B3.out hg1)
  have T3 := Lib.hid (T1.out.below B3.out)
  have c0 := K3.out.cell 0
  clear h3 o3 hR
  go_wp2_with fail
  refine (HSn.out w3 T3.out).mono ?_
  rintro e w4 ⟨rfl, h4⟩
  have Q4 := Lib.hid (Q3.out.below h4 Q3.out.lt)
  have B4 := Lib.hid (B3.out.trans (h4.mono B3.out.size))
  clear h4 c0
  obtain ⟨R2, hR2⟩ : ∃ R2 : ByteArray, R2 = R ++ ⟨(be 4 S.size).toArray⟩ ++ S := ⟨_, rfl⟩
  have hR2l := text_snoc (be 8 n) R S R2 hRl hR2
  have hR2s : R2.size = 172 := by rw [← size_list, hR2l, List.length_append, be_length, textL_len]; omega
  go_wp2_with fail
  refine (qwtext_any gw S R R2 w4 Q4.out (by omega) hR2).mono ?_
  rintro e w5 ⟨rfl, h5, o5⟩
  have Q5 := Lib.hid h5
  have B5 := Lib.hid (Only.below B4.out B4.out.size (by rw [HGW.out]; exact Nat.le_refl _) o5)
  have K5 := Lib.hid (K1.out.below B5.out hg1)
  have S5 := Lib.hid (S1.out.below B5.out)
  have T5 := Lib.hid (T1.out.below B5.out)
  have c2 := K5.out.cell 2
  clear h5 o5 hR2
  go_wp2_with fail
  refine (HPt.out al cl w5 S5.out T5.out).mono ?_
  rintro e w6 ⟨ap, cp, rfl, sp, h6, np, lp⟩
  rw [HQl.out] at sp lp ⊢
  have SP := Lib.hid sp
  have NP := Lib.hid (show ∀ p, ap = some p → p.block ≠ gw from fun p hp e => by have := np p hp; have := Q5.out.lt; omega)
  have Q6 := Lib.hid (Q5.out.below h6 Q5.out.lt)
  have B6 := Lib.hid (B5.out.trans (h6.mono B5.out.size))
  have HR2 := Lib.hid hR2l
  clear sp h6 np lp c2 hR2l hRl
  go_wp2_with fail
  go_loopw [9] (fun t wr => ∃ (k : Nat) (X : ByteArray), k ≤ h ∧ t = .int .i64 (k : Int) ∧ X.data.toList = be 8 n ++ textL S ++ (Q.take k).flatMap textL ∧ QW wr gw X ∧ Strs wr ap h Q ∧ Below w1.heap.size w1 wr) (fun t _ => h - (intOf t).toNat)
  case atStart => exact ⟨0, R2, by omega, rfl, by rw [HR2.out]; simp, Q6.out, SP.out, B6.out⟩
  case round =>
    obtain ⟨k, X, hk, rfl, hx, hq, hsp, hb⟩ := hrel
    have HX := Lib.hid hx
    have XQ := Lib.hid hq
    have XS := Lib.hid hsp
    have XB := Lib.hid hb
    have hXs : X.size = 172 + 36 * k := by
      rw [← size_list, hx, List.length_append, List.length_append, be_length, textL_len, flat_len _ (fun z hz => HQ32.out z (List.mem_of_mem_take hz)), List.length_take, HQl.out]; omega
    clear hx hq hsp hb
    by_cases hlt : k < h
    · have hki : (k : Int) < (h : Int) := by omega
      have hk0 : (0 : Int) ≤ (k : Int) := by omega
      obtain ⟨Y, hY⟩ : ∃ Y, Q.getD k .empty = Y := ⟨_, rfl⟩
      have hYs : Y.size = 32 := by rw [← hY]; exact HQ32.out _ (getD_mem_ Q k (by rw [HQl.out]; exact hlt))
      obtain ⟨X2, hX2⟩ : ∃ X2 : ByteArray, X2 = X ++ ⟨(be 4 Y.size).toArray⟩ ++ Y := ⟨_, rfl⟩
      have HX2 := Lib.hid (show X2.data.toList = be 8 n ++ textL S ++ (Q.take (k + 1)).flatMap textL from by
        rw [text_snoc _ X Y X2 HX.out hX2, take_at .empty Q k (by rw [HQl.out]; exact hlt), List.flatMap_append, hY, List.append_assoc]; simp)
      obtain ⟨b, off, rfl, hc⟩ := XS.out.2 (by omega)
      have ck := hc k hlt
      rw [hY] at ck
      clear hY hc hlt
      go_wp2_with fail
      refine (qwtext_any gw Y X X2 _ XQ.out (by omega) hX2).mono ?_
      rintro e w7 ⟨rfl, h7b, o7⟩
      have Q7 := Lib.hid h7b
      have B7 := Lib.hid (Only.below XB.out XB.out.size (by rw [HGW.out]; exact Nat.le_refl _) o7)
      have S7 := Lib.hid (show Strs w7 (some ⟨b, off, none⟩) h Q from ⟨XS.out.1, fun hp => ⟨b, off, rfl, fun j hj => by
        obtain ⟨b', off', e', hc'⟩ := XS.out.2 hp
        injection e' with e'
        injection e' with e1 e2 e3
        subst e1 e2
        exact o7.cell (hc' j hj) (NP.out ⟨b, off, none⟩ rfl)⟩⟩)
      clear h7b o7 hX2
      go_wp2_with fail
      go_roundw
      case rel => exact ⟨k + 1, X2, by omega, by go_num, HX2.out, Q7.out, S7.out, B7.out⟩
      case measure => simp [intOf]; omega
    · have hki : ¬ (k : Int) < (h : Int) := by omega
      obtain rfl : k = h := by omega
      have hfin := HA.out X (by rw [HX.out, List.take_of_length_le (by rw [HQl.out]; exact Nat.le_refl _)])
      have HF := Lib.hid hfin
      clear hfin hlt
      go_wp2_with fail
      refine (qbytes_any gw X _ XQ.out).mono ?_
      rintro e w8 ⟨rfl, rfl⟩
      go_wp2_with fail
      go_ret2
      refine ⟨F, by rw [← HF.out]; rfl, ⟨al, cl, ?_, ?_, HFg.out, HFa.out, fun q hq => ?_⟩, U1.out.trans (Within.refl F w) (Turned.of_below XB.out), Within.refl _ _⟩
      · rw [HM.out]
        have K8 := K1.out.below XB.out hg1
        rw [show ((n + 1 : Nat) : Int) = (n : Int) + 1 by omega]
        exact K8
      · rw [HM.out]
        exact S1.out.below XB.out
      · have := HFl.out q hq
        have := XB.out.size
        have := Z1.out
        omega
end Go.Proofs.YtnbaoihamjdjdaaGreatDoor.Sp

/- The document's own signer: Spent. -/
namespace Go.Proofs.YtnbaoihamjdjdaaGreatDoor.Sp
open Go Go.RowKit
set_option maxRecDepth 100000

theorem qspent_any (w : World) (F : Nat → Prop) (g : Nat) (seed : ByteArray) (h n : Nat) (s : Sq w F g seed h n) :
    Calls Tryz.prog 11 #[.pointer (some ⟨g, 0, none⟩)] w fun e w' => e = .returned (.int .i64 (n : Int)) ∧ w = w' := by
  obtain ⟨al, cl, hb, _⟩ := s
  have c3 := hb.cell 3
  clear hb
  go_enter Tryz.func11, Tryz.ntmps11
  go_wp2_with fail
  go_ret
  exact ⟨rfl, rfl⟩
end Go.Proofs.YtnbaoihamjdjdaaGreatDoor.Sp
