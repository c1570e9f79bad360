/- The walk of TreeGrows. -/
import Derived.Test.YtdkjlijmejleoaaDoorTreTellsW
namespace Go.Proofs.YtdkjlijmejleoaaDoor.Sp
open Go Go.RowKit

set_option maxRecDepth 100000 in
set_option maxHeartbeats 8000000 in
theorem grows_law (P : TreeP) (raw : List ByteArray) (a : Option Addr) (n cap : Nat) (hn : n ≤ 9223372036854775807) (hsz : ∀ x ∈ raw, x.size ≤ 9223372036854775807) (H i : Int) (x : ByteArray) (hxs : x.size ≤ 140737488355328) (_hx : x.size + 32 ≤ TM) (hH : -9223372036854775808 ≤ H ∧ H ≤ 9223372036854775807) (hi : -9223372036854775808 ≤ i ∧ i ≤ 9223372036854775807)
    (w : World) (hl : Strs w a n raw) (hT : Tab w) (hQ : Tabs w) :
    Calls Tryd.prog 4 #[.slice a n cap, .int .i64 H, .int .i64 i, .string x] w fun e w' => e = .returned (.bool true) ∧ Below w.heap.size w w' := by
  obtain ⟨r, hr, hp⟩ := height_any H hH
  obtain ⟨L, hL⟩ : ∃ L, leavesTo raw (2 ^ r) = L := ⟨_, rfl⟩
  obtain ⟨N, hN⟩ : ∃ N, 2 ^ r = N := ⟨_, rfl⟩
  have hN16 : N ≤ 16 := by rw [← hN]; exact pow16 r hr
  have hN1 : 0 < N := by rw [← hN]; exact Nat.pow_pos (by omega)
  have hLl : L.length = N := by rw [← hL, leavesTo_len, hN]
  have hL32 : ∀ y ∈ L, y.size = 32 := by rw [← hL]; exact leavesTo_size _ _
  obtain ⟨q, hq, hpq⟩ := pick_any i N hN1 (by omega) hi.1 hi.2
  have hsm := small32 (fun y hy => Nat.le_of_eq (hL32 y hy))
  obtain ⟨A, hA⟩ : ∃ A, pathB L (q : Int) = A := ⟨_, rfl⟩
  have hAp : A = pathUp r L q := by rw [← hA]; exact path_pow L r q (by omega) (by rw [hLl, hN]) (by omega)
  have hA32 : ∀ y ∈ A, y.size ≤ 32 := by rw [hAp]; exact path_small r L q (fun y hy => Nat.le_of_eq (hL32 y hy))
  have HLv := Lib.hid (fun w hl => leaves_any raw a n cap hn hsz H r hr hp w hl)
  rw [hL] at HLv
  have HQ := Lib.hid hpq
  have HPt := Lib.hid (fun a c w hs ht => q_path L a N c (q : Int) w (by omega) hsm hs ht)
  rw [hA] at HPt
  have HTl := Lib.hid (fun a c b d w hc hd hs1 hs2 ht hq => tells_law P L a N c (q : Int) x A b A.length d (by omega) hc hd hsm hxs (fun y hy => by have := hA32 y hy; unfold TM at _hx ⊢; omega) w hs1 hs2 ht hq)
  have HLl := Lib.hid hLl
  have HL := Lib.hid hl
  have HT := Lib.hid (And.intro hT hQ)
  clear hp hL hN hL32 hpq hsm hA hAp hA32 hLl hl hT hQ hsz hH hi hN1 _hx
  go_enter Tryd.func4, Tryd.ntmps4
  go_wp2_with fail
  refine (HLv.out w HL.out).mono ?_
  rintro e w2 ⟨a2, c2, rfl, hs2, h2, _, hcap2⟩
  rw [HLl.out] at hs2 hcap2 ⊢
  have T2 := Lib.hid (And.intro (tab_below HT.out.1 h2) (HT.out.2.below h2))
  have S2 := Lib.hid hs2
  have B2 := Lib.hid h2
  clear hs2 h2
  go_wp2_with fail
  refine (HQ.out w2).mono ?_
  rintro e w3 ⟨rfl, rfl⟩
  go_wp2_with fail
  refine (HPt.out _ _ _ S2.out T2.out.2).mono ?_
  rintro e w4 ⟨a4, c4, rfl, hs4, h4, _, hcap4⟩
  have T4 := Lib.hid (And.intro (tab_below T2.out.1 h4) (T2.out.2.below h4))
  have S4 := Lib.hid (S2.out.below h4)
  have A4 := Lib.hid hs4
  have B4 := Lib.hid (B2.out.trans (h4.mono B2.out.size))
  clear hs4 h4
  go_wp2_with fail
  refine (HTl.out _ _ _ _ _ hcap2 hcap4 S4.out A4.out T4.out.1 T4.out.2).mono ?_
  rintro e w5 ⟨rfl, h5⟩
  have B5 := Lib.hid (B4.out.trans (h5.mono B4.out.size))
  clear h5
  go_wp2_with fail
  go_ret
  exact ⟨rfl, B5.out⟩
end Go.Proofs.YtdkjlijmejleoaaDoor.Sp
