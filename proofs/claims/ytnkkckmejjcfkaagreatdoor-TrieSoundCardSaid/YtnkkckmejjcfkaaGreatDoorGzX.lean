/- The document's own right (may this stand beside?) and up (what is come to by a path's bits). -/
import Derived.Test.YtnkkckmejjcfkaaGreatDoorGzM
import Derived.Test.YtnkkckmejjcfkaaGreatDoorGzK
import Derived.Test.YtnkkckmejjcfkaaGreatDoorGzI
import Derived.Deep.AppendLies
import Derived.Deep.RegionHeld3
import Derived.Test.YtnkkckmejjcfkaaGreatDoorTriQSet
import Derived.Test.YtnkkckmejjcfkaaGreatDoorGzW
namespace Go.Proofs.YtnkkckmejjcfkaaGreatDoor.Sp
open Go Go.RowKit
set_option maxRecDepth 100000

theorem Strs.at_q {w wr : World} {a : Option Addr} {n k : Nat} {ss : List ByteArray} (h : Strs w a n ss) (hb : Below w.heap.size w wr) (hk : k < n) :
    ∃ b off, a = some ⟨b, off, none⟩ ∧ wr.cell? ⟨b, off + k, none⟩ = some (.string (ss.getD k ByteArray.empty)) := by
  obtain ⟨b, off, rfl, hc⟩ := (h.below hb).2 (by omega)
  exact ⟨b, off, rfl, hc k hk⟩
theorem getD_mem_q (l : List ByteArray) (k : Nat) (h : k < l.length) : l.getD k .empty ∈ l := by
  rw [List.getD_eq_getElem?_getD, List.getElem?_eq_getElem h]; exact List.getElem_mem h

set_option maxHeartbeats 1000000 in
theorem qright_any (l : List ByteArray) (a : Option Addr) (n cap : Nat) (hn : n ≤ 9223372036854775807) (w : World) (hl : Strs w a n l) :
    Calls Tryz.prog 53 #[.slice a n cap] w fun e w' => e = .returned (.bool (rightB l)) ∧ w = w' := by
  have hlen := hl.1
  by_cases hbig : n ≤ 256
  · have hni : ¬ (256 : Int) < (n : Int) := by omega
    have HL := Lib.hid hl
    obtain ⟨R, hR⟩ : ∃ R, rightB l = R := ⟨_, rfl⟩
    have HR := Lib.hid hR
    rw [hR]
    clear hl hR
    go_enter Tryz.func53, Tryz.ntmps53
    go_wp2_with fail
    go_loopw [3] (fun y wr => ∃ k : Nat, k ≤ n ∧ y = .int .i64 (k : Int) ∧ (∀ x ∈ l.take k, x.size = 32) ∧ w = wr) (fun y _ => n - (intOf y).toNat)
    case atStart => exact ⟨0, by omega, rfl, fun x hx => by simp at hx, rfl⟩
    case round =>
      obtain ⟨k, hk, rfl, hall, rfl⟩ := hrel
      have HA := Lib.hid hall
      clear hall
      by_cases hlt : k < n
      · have hki : (k : Int) < (n : Int) := by omega
        have hk0 : (0 : Int) ≤ (k : Int) := by omega
        obtain ⟨b, off, rfl, c1⟩ := HL.out.at_q (Below.refl _ _) hlt
        obtain ⟨Y, hY⟩ : ∃ Y, l.getD k ByteArray.empty = Y := ⟨_, rfl⟩
        rw [hY] at c1
        have htk : l.take (k + 1) = l.take k ++ [Y] := by rw [← hY]; exact take_getB l k (by omega)
        by_cases h32 : Y.size = 32
        · have hYi : (Y.size : Int) = 32 := by omega
          have HA2 := Lib.hid (show ∀ x ∈ l.take (k + 1), x.size = 32 from fun x hx => by
            rw [htk] at hx
            rcases List.mem_append.1 hx with h | h
            · exact HA.out x h
            · rw [List.mem_singleton.1 h]; exact h32)
          clear hY htk
          go_wp2_with fail
          go_roundw
          case rel => exact ⟨k + 1, by omega, by go_num, HA2.out, by first | trivial | rfl⟩
          case measure => simp [intOf]; omega
        · have hYi : ¬ (Y.size : Int) = 32 := by omega
          have hF : R = false := by
            rw [← HR.out, ← Bool.not_eq_true, right_iff]
            rintro ⟨_, h2⟩
            exact h32 (by rw [← hY]; exact h2 _ (getD_mem_q l k (by omega)))
          subst hF
          clear hY htk h32
          go_wp2_with fail
          go_ret
          exact ⟨rfl, rfl⟩
      · have hki : ¬ (k : Int) < (n : Int) := by omega
        obtain rfl : k = n := by omega
        have hT : R = true := by
          rw [← HR.out, right_iff]
          refine ⟨by omega, ?_⟩
          have := HA.out
          rwa [List.take_of_length_le (l := l) (i := k) (by omega)] at this
        subst hT
        clear hlt
        go_wp2_with fail
        go_ret
        exact ⟨rfl, rfl⟩
  · have hni : (256 : Int) < (n : Int) := by omega
    have hF : rightB l = false := by
      rw [← Bool.not_eq_true, right_iff]
      rintro ⟨h1, _⟩
      omega
    rw [hF]
    clear hl hF
    go_enter Tryz.func53, Tryz.ntmps53
    go_wp2_with fail
    go_ret
    exact ⟨rfl, rfl⟩

/-- What hands back a text and texts. -/
def UpTo (x : ByteArray) (l : List ByteArray) (w : World) (e : Ending) (w' : World) : Prop :=
  ∃ (a : Option Addr) (c : Nat), e = .returned (.tuple #[.string x, .slice a l.length c]) ∧ Strs w' a l.length l ∧ Below w.heap.size w w' ∧ (∀ p, a = some p → w.heap.size ≤ p.block ∧ p.block < w'.heap.size) ∧ l.length ≤ c
theorem upIn_len : ∀ (bs : List ByteArray) (p : ByteArray) (d : Nat) (h : ByteArray), (upIn p d h bs).length = bs.length
  | [], _, _, _ => rfl
  | x :: bs, p, d, h => by rw [upIn, List.length_append, upIn_len bs]; rfl
theorem drop_getB (l : List ByteArray) (k : Nat) (h : k < l.length) : l.drop k = l.getD k .empty :: l.drop (k + 1) := by
  rw [List.drop_eq_getElem_cons h]
  congr 1
  rw [List.getD_eq_getElem?_getD, List.getElem?_eq_getElem h]; rfl

set_option maxHeartbeats 4000000 in
theorem qup_any (p h : ByteArray) (l : List ByteArray) (a : Option Addr) (n cap : Nat) (hp : p.size = 32) (hh : h.size = 32) (hn : n ≤ 256) (hM : ∀ y ∈ l, y.size = 32) (w : World) (hl : Strs w a n l) (hT : Tabs w) :
    Calls Tryz.prog 54 #[.string p, .string h, .slice a n cap] w (UpTo (upF p 0 h l) (upIn p 0 h l) w) := by
  have hlen := hl.1
  have HL := Lib.hid hl
  have HT := Lib.hid hT
  have HM := Lib.hid hM
  clear hl hT hM
  go_enter Tryz.func54, Tryz.ntmps54
  go_wp2_with fail
  go_loopw [1, 8, 9] (fun s v y wr => ∃ j : Nat, j ≤ n ∧ y = .int .i64 ((j : Int) - 1) ∧ s = .string (upF p j h (l.drop j)) ∧ OwnT wr w.heap.size v (upIn p j h (l.drop j)) ∧ Below w.heap.size w wr) (fun _ _ y _ => (intOf y + 1).toNat)
  case atStart => exact ⟨n, by omega, by go_num, by rw [List.drop_of_length_le (by omega)]; rfl, by rw [List.drop_of_length_le (by omega)]; exact World.ownsRow_nil _ _ _ _, Below.refl _ _⟩
  case round =>
    obtain ⟨j, hj, rfl, rfl, hown, hbel⟩ := hrel
    have HB := Lib.hid hbel
    have HO := Lib.hid hown
    have hbz := hbel.size
    clear hbel hown
    cases j with
    | zero =>
      have hki : ¬ (0 : Int) ≤ ((0 : Nat) : Int) - 1 := by omega
      rw [List.drop_zero] at HO ⊢
      obtain ⟨a2, c2, hv, hS2, hfr⟩ := HO.out.strs_
      subst hv
      have HSt := Lib.hid hS2
      have HFr := Lib.hid hfr
      clear hS2 hfr HO
      go_wp2_with fail
      go_ret2
      exact ⟨a2, c2, rfl, HSt.out, HB.out, HFr.out.1, HFr.out.2⟩
    | succ k =>
      have e1 : ((k + 1 : Nat) : Int) - 1 = (k : Int) := by omega
      rw [e1]
      have hk0 : (0 : Int) ≤ (k : Int) := by omega
      have hki : (k : Int) < (n : Int) := by omega
      obtain ⟨b, off, rfl, c1⟩ := HL.out.at_q HB.out (show k < n by omega)
      obtain ⟨Y, hY⟩ : ∃ Y, l.getD k ByteArray.empty = Y := ⟨_, rfl⟩
      rw [hY] at c1
      have hbr : b < wr.heap.size := block_lt_of_cell c1
      have hYs : Y.size = 32 := HM.out Y (by rw [← hY]; exact getD_mem_q l k (by omega))
      have hdr : l.drop k = Y :: l.drop (k + 1) := by rw [← hY]; exact drop_getB l k (by omega)
      obtain ⟨C, hC⟩ : ∃ C, upF p (k + 1) h (l.drop (k + 1)) = C := ⟨_, rfl⟩
      have hCs : C.size = 32 := by rw [← hC]; exact upF_32 p (k + 1) h hh _
      obtain ⟨D, hD⟩ : ∃ D, upIn p (k + 1) h (l.drop (k + 1)) = D := ⟨_, rfl⟩
      have hDl : D.length = n - (k + 1) := by rw [← hD, upIn_len, List.length_drop, hlen]
      obtain ⟨m, hm⟩ : ∃ m, n - (k + 1) = m := ⟨_, rfl⟩
      rw [hm] at hDl
      rw [hC]
      rw [hD] at HO
      have hup : upF p k h (l.drop k) = if bitN p k = 0 then innerB C Y else innerB Y C := by rw [hdr, upF, hC]
      have hui : upIn p k h (l.drop k) = D ++ [if bitN p k = 0 then inT 8 [C, Y] else inT 8 [Y, C]] := by rw [hdr, upIn, hC, hD]
      obtain ⟨Xs, eXs⟩ : ∃ Xs : List Value, D.map Value.string = Xs := ⟨_, rfl⟩
      have HOk := Lib.hid (show wr.ownsRow w.heap.size 9 1 u8 m Xs from by have := HO.out; unfold OwnT at this; rw [hDl, eXs] at this; exact this)
      have EXs := Lib.hid (And.intro eXs hDl)
      obtain ⟨i0, hi0, hz0, hz1, hz2⟩ := info_parts infoText
      have hk8 : m + 1 ≤ maxLen := by unfold maxLen; omega
      have hkb : (m + 1) * 16 ≤ 140737488355328 := by omega
      have hkw : IntKind.i64.wrap ((k : Int) - 1) = (k : Int) - 1 := by rw [IntKind.wrap_i64]; omega
      have hkj : k ≤ n := by omega
      obtain ⟨y, hy⟩ : ∃ y, bitN p k = y := ⟨_, rfl⟩
      have hbit := Lib.hid (qbit_any p k (by omega) (by omega))
      rw [hy] at hbit hup hui
      have HYl := Lib.hid hY
      clear hC hD hY hdr eXs hDl hm HO
      go_wp2_with fail
      refine (hbit.out _).mono ?_
      rintro e w1 ⟨rfl, rfl⟩
      by_cases hyb : y = 0
      · have hyi : (y : Int) = 0 := by omega
        rw [if_pos hyb] at hup hui
        have HS := Lib.hid hup
        have HS2 := Lib.hid hui
        obtain ⟨W, hW⟩ : ∃ W, innerB C Y = W := ⟨_, rfl⟩
        obtain ⟨V, hV⟩ : ∃ V, inT 8 [C, Y] = V := ⟨_, rfl⟩
        rw [hW] at HS
        rw [hV] at HS2
        have HW := Lib.hid (fun w ht => qinner_any C Y w (by omega) ht)
        rw [hW] at HW
        have HV := Lib.hid (fun g c w hs => qin_two 8 (by omega) C Y g c w hs (by omega))
        rw [show inT (UInt8.ofNat 8) [C, Y] = V from hV] at HV
        have St0 := Lib.hid (strs_blk (ss := [C, Y]) (Blk.new wr 9 #[.string C, .string Y]) rfl)
        have HB1 := Lib.hid (HB.out.alloc HB.out.size (.cells #[.string C, .string Y] 9))
        have HO1 := Lib.hid (HOk.out.alloc (.cells #[.string C, .string Y] 9))
        clear hup hui hW hV hy
        go_wp2_with fail
        refine (HV.out wr.heap.size 2 _ St0.out).mono ?_
        rintro e w2 ⟨rfl, h2⟩
        have B2 := Lib.hid (HB1.out.trans (h2.mono HB1.out.size))
        have O2 := Lib.hid (own_below HO1.out h2)
        have b2 := B2.out.size
        clear h2
        go_wp2_with (at_builtin; refine wpList_append_own _ rfl (.tmp 23) (.tmp 31) 37 rfl w.heap.size 9 i0 (.string .empty) 1 16 Tryz.underlying37 hi0 hz0 hz1 hz2 rfl (by decide) u8 m Xs rfl (O2.out.alloc _) ⟨w2.heap.size, 0, none⟩ 1 1 [.string V] rfl rfl ?c1 ?c2 ?c3 ?c4 ?c5 ?_)
        case c1 => intro j u hj; exact new_cell _ _ _ hj
        case c2 => intro u hu; simp at hu; subst hu; rfl
        case c3 => exact hk8
        case c4 => exact hkb
        case c5 => simp; omega
        intro v' w3 hown3 hgrow _
        have HO3 := Lib.hid (show OwnT w3 w.heap.size v' (upIn p k h (l.drop k)) from by
          unfold OwnT
          rw [HS2.out, List.map_append, List.length_append, EXs.out.1, EXs.out.2]
          exact hown3)
        have HB3 := Lib.hid (show Below w.heap.size w w3 from by
          refine (B2.out.alloc b2 _).grown hgrow (by simp; omega) ?_
          intro k' hk'
          exact (O2.out.lt k' hk').1)
        have HT3 := Lib.hid (show Tabs w3 from HT.out.below HB3.out)
        clear hown3 hgrow hk8 hkb c1
        obtain ⟨b5, off5, e5, c1⟩ := HL.out.at_q HB3.out (show k < n by omega)
        injection e5 with e5
        injection e5 with e6 e7
        subst e6; subst e7
        rw [HYl.out] at c1
        go_wp2_with fail
        refine (HW.out w3 HT3.out).mono ?_
        rintro e w4 ⟨rfl, h4⟩
        have B4 := Lib.hid (HB3.out.trans (h4.mono HB3.out.size))
        have O4 := Lib.hid (show OwnT w4 w.heap.size v' (upIn p k h (l.drop k)) from own_below HO3.out h4)
        clear h4
        go_wp2_with fail
        go_roundw
        case rel => exact ⟨k, by omega, rfl, by rw [HS.out], O4.out, B4.out⟩
        case measure => simp only [intOf]; omega
      · have hyi : ¬ (y : Int) = 0 := by omega
        rw [if_neg hyb] at hup hui
        have HS := Lib.hid hup
        have HS2 := Lib.hid hui
        obtain ⟨W, hW⟩ : ∃ W, innerB Y C = W := ⟨_, rfl⟩
        obtain ⟨V, hV⟩ : ∃ V, inT 8 [Y, C] = V := ⟨_, rfl⟩
        rw [hW] at HS
        rw [hV] at HS2
        have HW := Lib.hid (fun w ht => qinner_any Y C w (by omega) ht)
        rw [hW] at HW
        have HV := Lib.hid (fun g c w hs => qin_two 8 (by omega) Y C g c w hs (by omega))
        rw [show inT (UInt8.ofNat 8) [Y, C] = V from hV] at HV
        have St0 := Lib.hid (strs_blk (ss := [Y, C]) (Blk.new wr 9 #[.string Y, .string C]) rfl)
        have HB1 := Lib.hid (HB.out.alloc HB.out.size (.cells #[.string Y, .string C] 9))
        have HO1 := Lib.hid (HOk.out.alloc (.cells #[.string Y, .string C] 9))
        clear hup hui hW hV hy
        go_wp2_with fail
        refine (HV.out wr.heap.size 2 _ St0.out).mono ?_
        rintro e w2 ⟨rfl, h2⟩
        have B2 := Lib.hid (HB1.out.trans (h2.mono HB1.out.size))
        have O2 := Lib.hid (own_below HO1.out h2)
        have b2 := B2.out.size
        clear h2
        go_wp2_with (at_builtin; refine wpList_append_own _ rfl (.tmp 39) (.tmp 47) 37 rfl w.heap.size 9 i0 (.string .empty) 1 16 Tryz.underlying37 hi0 hz0 hz1 hz2 rfl (by decide) u8 m Xs rfl (O2.out.alloc _) ⟨w2.heap.size, 0, none⟩ 1 1 [.string V] rfl rfl ?c1 ?c2 ?c3 ?c4 ?c5 ?_)
        case c1 => intro j u hj; exact new_cell _ _ _ hj
        case c2 => intro u hu; simp at hu; subst hu; rfl
        case c3 => exact hk8
        case c4 => exact hkb
        case c5 => simp; omega
        intro v' w3 hown3 hgrow _
        have HO3 := Lib.hid (show OwnT w3 w.heap.size v' (upIn p k h (l.drop k)) from by
          unfold OwnT
          rw [HS2.out, List.map_append, List.length_append, EXs.out.1, EXs.out.2]
          exact hown3)
        have HB3 := Lib.hid (show Below w.heap.size w w3 from by
          refine (B2.out.alloc b2 _).grown hgrow (by simp; omega) ?_
          intro k' hk'
          exact (O2.out.lt k' hk').1)
        have HT3 := Lib.hid (show Tabs w3 from HT.out.below HB3.out)
        clear hown3 hgrow hk8 hkb c1
        obtain ⟨b5, off5, e5, c1⟩ := HL.out.at_q HB3.out (show k < n by omega)
        injection e5 with e5
        injection e5 with e6 e7
        subst e6; subst e7
        rw [HYl.out] at c1
        go_wp2_with fail
        refine (HW.out w3 HT3.out).mono ?_
        rintro e w4 ⟨rfl, h4⟩
        have B4 := Lib.hid (HB3.out.trans (h4.mono HB3.out.size))
        have O4 := Lib.hid (show OwnT w4 w.heap.size v' (upIn p k h (l.drop k)) from own_below HO3.out h4)
        clear h4
        go_wp2_with fail
        go_roundw
        case rel => exact ⟨k, by omega, rfl, by rw [HS.out], O4.out, B4.out⟩
        case measure => simp only [intOf]; omega
end Go.Proofs.YtnkkckmejjcfkaaGreatDoor.Sp

/- The document's own Has. -/
namespace Go.Proofs.YtnkkckmejjcfkaaGreatDoor.Sp
open Go Go.RowKit
set_option maxRecDepth 100000

theorem beq_no {a b : ByteArray} (h : a ≠ b) : (a.toList == b.toList) = false := by rw [ByteArray.toList_eq, ByteArray.toList_eq, Bool.eq_false_iff]; intro e; exact h (list_inj (beq_iff_eq.1 e))
theorem beq_of (a b : ByteArray) : (a.toList == b.toList) = decide (a = b) := by
  by_cases h : a = b
  · rw [h]; simp
  · rw [beq_no h]; simp [h]

set_option maxHeartbeats 2000000 in
theorem qhas_any (root key v : ByteArray) (q : Prf) (a : Option Addr) (n c : Nat) (w : World) (hk : key.size ≤ 140737488351232) (hv : v.size ≤ 140737488351232) (hn : n ≤ 9223372036854775807) (hl : Strs w a n q.beside) (hT : Tabs w) :
    Calls Tryz.prog 25 #[.string root, .string key, .string v, prfV a n c q] w fun e w' => e = .returned (.bool (hasB root (keyP key) v q)) ∧ Below w.heap.size w w' := by
  obtain ⟨bs, lf, qp, qv⟩ := q
  unfold prfV
  simp only at hl ⊢
  have HK := Lib.hid (fun w hT => qkey_any key w hk hT)
  have hP32 := keyP_32 key
  obtain ⟨P, hP⟩ : ∃ P, keyP key = P := ⟨_, rfl⟩
  rw [hP] at HK hP32 ⊢
  have HRt := Lib.hid (fun w hl => qright_any bs a n c hn w hl)
  have HL := Lib.hid hl
  have HT := Lib.hid hT
  obtain ⟨O, hO⟩ : ∃ O, rightB bs = O := ⟨_, rfl⟩
  rw [hO] at HRt
  have Bz := Lib.hid ((Below.refl w.heap.size w).alloc (Nat.le_refl _) (.cells #[.slice a n c, .bool lf, .string qp, .string qv] 39))
  have Kz := Lib.hid (Blk.new w 39 #[.slice a n c, .bool lf, .string qp, .string qv])
  have hF : ∀ X : Bool, (X = true → O = true ∧ lf = true ∧ qp = P ∧ qv = v) → hasB root P v ⟨bs, lf, qp, qv⟩ = true → X = true ∨ X = false := fun X _ _ => by cases X <;> simp
  clear hF hT hl hP hk hn
  by_cases hall : O = true ∧ lf = true ∧ qp = P ∧ qv = v
  · obtain ⟨rfl, rfl, rfl, rfl⟩ := hall
    have hbs := right_iff.1 hO
    have hlen : n ≤ 256 := by rw [← HL.out.1]; exact hbs.1
    have HLf := Lib.hid (fun w ht => qleaf_any qp qv w (by omega) ht)
    have HUp := Lib.hid (fun w hl ht => qup_any qp (leafB qp qv) bs a n c hP32 (sumT_32 _) hlen hbs.2 w hl ht)
    obtain ⟨U, hU⟩ : ∃ U, upF qp 0 (leafB qp qv) bs = U := ⟨_, rfl⟩
    have HX := Lib.hid (show hasB root qp qv ⟨bs, true, qp, qv⟩ = (U.toList == root.toList) from by
      rw [beq_of]
      by_cases h : U = root
      · rw [decide_eq_true h, has_iff]; exact ⟨hO, rfl, rfl, rfl, by rw [hU]; exact h⟩
      · rw [decide_eq_false h, ← Bool.not_eq_true, has_iff]; rintro ⟨_, _, _, _, h5⟩; exact h (by rw [← hU]; exact h5))
    rw [hU] at HUp
    obtain ⟨Lf, hLf⟩ : ∃ Lf, leafB qp qv = Lf := ⟨_, rfl⟩
    rw [hLf] at HLf HUp
    rw [HX.out]
    have q1 : (qp.toList == qp.toList) = true := beq_self_eq_true _
    have q2 : (qv.toList == qv.toList) = true := beq_self_eq_true _
    clear hO hbs hU hLf hlen hP32 hv
    go_enter Tryz.func25, Tryz.ntmps25
    go_wp2_with fail
    refine (HK.out _ (HT.out.below Bz.out)).mono ?_
    rintro e w1 ⟨rfl, h1⟩
    have B1 := Lib.hid (Bz.out.trans (h1.mono Bz.out.size))
    have K1 := Kz.out.below h1 Kz.out.lt
    have d0 := K1.cell 0
    have d1 := K1.cell 1
    have d2 := K1.cell 2
    have d3 := K1.cell 3
    have K1' := Lib.hid K1
    clear h1 K1
    go_wp2_with fail
    refine (HRt.out _ (HL.out.below B1.out)).mono ?_
    rintro e w2 ⟨rfl, rfl⟩
    go_wp2_with fail
    have T1 := Lib.hid (HT.out.below B1.out)
    have S1 := Lib.hid (HL.out.below B1.out)
    have hgl := K1'.out.lt
    clear d1 d2 d3
    go_region_held3 (fun w' => w'.cell? ⟨w.heap.size, 0, none⟩ = some (.slice a n c)) ((first | (with_reducible assumption) | exact d0 | exact d5)) ((first
      | (go_at_call 55; refine (HLf.out _ (by first | exact T1.out | exact T1.out.drew_)).mono ?_; rintro e w3 ⟨rfl, h3⟩; have h3 : Below w1.heap.size w1 w3 := (by first | exact h3 | exact below_of_drew h3 | exact below_of_drew (below_of_drew h3)); have B3 := Lib.hid (B1.out.trans (h3.mono B1.out.size)); have d5 : w3.cell? ⟨w.heap.size, 0, none⟩ = some (.slice a n c) := (K1'.out.below h3 hgl).cell 0; clear h3)
      | (go_at_call 54; refine (HUp.out _ (by first | exact HL.out.below B3.out | exact HL.out.below B3.out.drew) (by first | exact HT.out.below B3.out | exact HT.out.below B3.out.drew)).mono ?_; rintro e w4 ⟨a4, c4, rfl, hs4, h4, hf4, hc4⟩; have B4 := Lib.hid (show Below w.heap.size w w4 from (by first | exact B3.out.trans (h4.mono B3.out.size) | exact B3.out.drew.trans (h4.mono B3.out.drew.size))); have d6 : w4.cell? ⟨w.heap.size, 0, none⟩ = some (.slice a n c) := (by first | exact (h4.cell (p := ⟨w.heap.size, 0, none⟩) (block_lt_of_cell d5)).trans d5); clear hs4 h4 hf4 hc4)))
    all_goals
      go_wp2_with fail
      go_ret
      exact ⟨rfl, B4.out⟩
  · have HX := Lib.hid (show hasB root P v ⟨bs, lf, qp, qv⟩ = false from by
      rw [← Bool.not_eq_true, has_iff]
      rintro ⟨h1, h2, h3, h4, _⟩
      exact hall ⟨by rw [← hO]; exact h1, h2, h3, h4⟩)
    rw [HX.out]
    have hend : ∀ w', Below w.heap.size w w' → Ending.returned (.bool false) = .returned (.bool false) ∧ Below w.heap.size w w' := fun w' h => ⟨rfl, h⟩
    have HEnd := Lib.hid hend
    clear hend
    obtain ⟨b1, e1⟩ : ∃ b, (qp.toList == P.toList) = b := ⟨_, rfl⟩
    obtain ⟨b2, e2⟩ : ∃ b, (qv.toList == v.toList) = b := ⟨_, rfl⟩
    have hno : ¬ (O = true ∧ lf = true ∧ b1 = true ∧ b2 = true) := fun ⟨h1, h2, h3, h4⟩ => hall ⟨h1, h2, by rw [← e1, beq_of, decide_eq_true_iff] at h3; exact h3, by rw [← e2, beq_of, decide_eq_true_iff] at h4; exact h4⟩
    have HNo := Lib.hid hno
    clear hall hO hno hP32 hv
    go_enter Tryz.func25, Tryz.ntmps25
    go_wp2_with fail
    refine (HK.out _ (HT.out.below Bz.out)).mono ?_
    rintro e w1 ⟨rfl, h1⟩
    have B1 := Lib.hid (Bz.out.trans (h1.mono Bz.out.size))
    have K1 := Kz.out.below h1 Kz.out.lt
    have d0 := K1.cell 0
    have d1 := K1.cell 1
    have d2 := K1.cell 2
    have d3 := K1.cell 3
    clear h1 K1
    go_wp2_with fail
    refine (HRt.out _ (HL.out.below B1.out)).mono ?_
    rintro e w2 ⟨rfl, rfl⟩
    cases O with
    | false =>
      go_wp2_with fail
      go_ret
      exact ⟨rfl, B1.out⟩
    | true =>
      cases lf with
      | false =>
        go_wp2_with fail
        go_ret
        exact ⟨rfl, B1.out⟩
      | true =>
        cases b1 with
        | false =>
          go_wp2_with fail
          go_ret
          exact ⟨rfl, B1.out⟩
        | true =>
          cases b2 with
          | false =>
            go_wp2_with fail
            go_ret
            exact ⟨rfl, B1.out⟩
          | true => exact absurd ⟨rfl, rfl, rfl, rfl⟩ HNo.out
end Go.Proofs.YtnkkckmejjcfkaaGreatDoor.Sp

/- The statements of package trie: are two proofs the same? -/
namespace Go.Proofs.YtnkkckmejjcfkaaGreatDoor.Sp
open Go Go.RowKit
set_option maxRecDepth 100000

set_option maxHeartbeats 2000000 in
theorem same_any (p q : Prf) (a b : Option Addr) (n m c d : Nat) (w : World) (hp : Strs w a n p.beside) (hq : Strs w b m q.beside) (hn : n ≤ 9223372036854775807) (X : Bool) (hX : X = true ↔ p = q) :
    Calls Tryz.prog 18 #[prfV a n c p, prfV b m d q] w fun e w' => e = .returned (.bool X) ∧ Below w.heap.size w w' := by
  obtain ⟨ps, pl, pp, pv⟩ := p
  obtain ⟨qs, ql, qp, qv⟩ := q
  unfold prfV
  simp only at hp hq ⊢
  obtain ⟨S, hS⟩ : ∃ S, decide (ps = qs) = S := ⟨_, rfl⟩
  have HTx := Lib.hid (fun w h1 h2 => texts_any ps qs a b n m c d w h1 h2 hn S (by rw [← hS, decide_eq_true_iff]))
  obtain ⟨b1, e1⟩ : ∃ b, (pl == ql) = b := ⟨_, rfl⟩
  obtain ⟨b2, e2⟩ : ∃ b, (pp.toList == qp.toList) = b := ⟨_, rfl⟩
  obtain ⟨b3, e3⟩ : ∃ b, (pv.toList == qv.toList) = b := ⟨_, rfl⟩
  have HX := Lib.hid (show X = (S && (b1 && (b2 && b3))) from by
    rw [← hS, ← e1, ← e2, ← e3, beq_of, beq_of, Bool.eq_iff_iff, hX]
    simp [Prf.mk.injEq])
  rw [HX.out]
  have B2 := Lib.hid (((Below.refl w.heap.size w).alloc (Nat.le_refl _) (.cells #[.slice a n c, .bool pl, .string pp, .string pv] 39)).alloc (by simp) (.cells #[.slice b m d, .bool ql, .string qp, .string qv] 39))
  have Ka := Lib.hid ((Blk.new w 39 #[.slice a n c, .bool pl, .string pp, .string pv]).alloc (.cells #[.slice b m d, .bool ql, .string qp, .string qv] 39))
  have Kb := Lib.hid (show Blk _ (w.heap.size + 1) 39 #[.slice b m d, .bool ql, .string qp, .string qv] from by
    have h9 := Blk.new (w.alloc (.cells #[.slice a n c, .bool pl, .string pp, .string pv] 39)) 39 #[.slice b m d, .bool ql, .string qp, .string qv]
    rw [World.size_alloc] at h9; exact h9)
  have HP := Lib.hid hp
  have HQ := Lib.hid hq
  clear hp hq hS
  go_enter Tryz.func18, Tryz.ntmps18
  go_wp2_with fail
  refine (HTx.out _ (HP.out.below B2.out) (HQ.out.below B2.out)).mono ?_
  rintro e w3 ⟨rfl, h3⟩
  have B3 := Lib.hid (B2.out.trans (h3.mono B2.out.size))
  have Ka3 := Ka.out.below h3 Ka.out.lt
  have Kb3 := Kb.out.below h3 Kb.out.lt
  have d1 := Ka3.cell 1
  have d2 := Ka3.cell 2
  have d3 := Ka3.cell 3
  have f1 := Kb3.cell 1
  have f2 := Kb3.cell 2
  have f3 := Kb3.cell 3
  simp only [List.getElem?_toArray, List.getElem?_cons_zero, List.getElem?_cons_succ] at d1 d2 d3 f1 f2 f3
  clear h3 Ka3 Kb3
  cases S <;> cases b1 <;> cases b2 <;> cases b3
  all_goals
    go_wp2_with fail
    go_ret
    exact ⟨rfl, B3.out⟩
end Go.Proofs.YtnkkckmejjcfkaaGreatDoor.Sp

/- The document's own Get. -/
namespace Go.Proofs.YtnkkckmejjcfkaaGreatDoor.Sp
open Go Go.RowKit
set_option maxRecDepth 100000

set_option maxHeartbeats 2000000 in
theorem qget_any (w : World) (F : Nat → Prop) (g : Nat) (l : List Ent) (key : ByteArray) (s : Tq w F g l) (hk : key.size ≤ 140737488351232) (hlen : l.length ≤ 1000000) (hT : Tabs w) :
    Calls Tryz.prog 13 #[.pointer (some ⟨g, 0, none⟩), .string key] w (TgTo Tq w F g l (.tuple #[.string ((getF l (keyP key)).getD .empty), .bool (getF l (keyP key)).isSome])) := by
  have HK := Lib.hid (qkey_any key w hk hT)
  obtain ⟨P, hP⟩ : ∃ P, keyP key = P := ⟨_, rfl⟩
  rw [hP] at HK ⊢
  have hfit := s.fit.1
  have HEnd := Lib.hid (fun (w1 : World) (h1 : Below w.heap.size w w1) (a : ByteArray) (b : Bool) (ha : (getF l P).getD .empty = a) (hb : (getF l P).isSome = b) => (⟨F, by rw [ha, hb], s.below h1, Turned.of_below h1, Within.refl F w⟩ : TgTo Tq w F g l (.tuple #[.string ((getF l P).getD .empty), .bool (getF l P).isSome]) (.returned (.tuple #[.string a, .bool b])) w1))
  obtain ⟨E, al, cl, hperm, hblk, hE, _⟩ := s
  obtain ⟨n, en⟩ : ∃ n, E.length = n := ⟨_, rfl⟩
  have hn : n ≤ 1000000 := by rw [← en, ← hperm.length_eq]; exact hlen
  rw [en] at hblk hE
  have HE := Lib.hid hE
  have HPm := Lib.hid (And.intro hperm hfit)
  have HEn := Lib.hid en
  have hgl := hblk.lt
  have c00 := hblk.cell 0
  clear hblk hE hperm hfit hk hT hP hlen
  go_enter Tryz.func13, Tryz.ntmps13
  go_wp2_with fail
  refine HK.out.mono ?_
  rintro e w1 ⟨rfl, h1⟩
  have B1 := Lib.hid h1
  have c0 : w1.cell? ⟨g, 0, none⟩ = _ := (h1.cell (p := ⟨g, 0, none⟩) hgl).trans c00
  clear h1
  go_wp2_with fail
  go_loopw [7] (fun y wr => ∃ k : Nat, k ≤ n ∧ y = .int .i64 (k : Int) ∧ (∀ x ∈ E.take k, x.1 ≠ P) ∧ w1 = wr) (fun y _ => n - (intOf y).toNat)
  case atStart => exact ⟨0, by omega, rfl, fun x hx => by simp at hx, rfl⟩
  case round =>
    obtain ⟨k, hk, rfl, hall, rfl⟩ := hrel
    have HA := Lib.hid hall
    clear hall
    by_cases hlt : k < n
    · have hki : (k : Int) < (n : Int) := by omega
      have hk0 : (0 : Int) ≤ (k : Int) := by omega
      have hkl : k < E.length := by have := HEn.out; omega
      obtain ⟨x, hx⟩ : ∃ x, E[k]? = some x := ⟨_, List.getElem?_eq_getElem hkl⟩
      obtain ⟨bb, off, rfl, hcell⟩ := HE.out.2 (by omega)
      obtain ⟨k1, k2⟩ := hcell k x hx
      have hbw0 : bb < w.heap.size := block_lt_of_cell k1
      have c1 : w1.cell? ⟨bb, off + k * 2, none⟩ = some (.string x.1) := (B1.out.cell (p := ⟨bb, off + k * 2, none⟩) hbw0).trans k1
      have c2 : w1.cell? ⟨bb, off + k * 2 + 1, none⟩ = some (.string x.2) := (B1.out.cell (p := ⟨bb, off + k * 2 + 1, none⟩) hbw0).trans k2
      have htk : E.take (k + 1) = E.take k ++ [x] := by rw [List.take_add_one, hx]; rfl
      have hxm : x ∈ E := List.mem_of_getElem? hx
      by_cases hep : x.1 = P
      · have q1 : (x.1.toList == P.toList) = true := by rw [hep]; exact beq_self_eq_true _
        have hg : getF l P = some x.2 := by
          rw [get_some HPm.out.2]
          have : x ∈ l := HPm.out.1.mem_iff.2 hxm
          rw [← hep]; exact this
        have HX := Lib.hid (HEnd.out w1 B1.out x.2 true (by rw [hg]; rfl) (by rw [hg]; rfl))
        clear hg htk k1 k2 hcell hx hkl hxm
        go_wp2_with fail
        go_ret2
        exact HX.out
      · have q1 : (x.1.toList == P.toList) = false := by rw [ByteArray.toList_eq, ByteArray.toList_eq, Bool.eq_false_iff]; intro h; exact hep (list_inj (beq_iff_eq.1 h))
        have HA2 := Lib.hid (show ∀ x ∈ E.take (k + 1), x.1 ≠ P from fun y hy => by
          rw [htk] at hy
          rcases List.mem_append.1 hy with h | h
          · exact HA.out y h
          · rw [List.mem_singleton.1 h]; exact hep)
        clear htk k1 k2 hcell hx hkl hxm
        go_wp2_with fail
        go_roundw
        case rel => exact ⟨k + 1, by omega, by go_num, HA2.out, by first | trivial | rfl⟩
        case measure => simp [intOf]; omega
    · have hki : ¬ (k : Int) < (n : Int) := by omega
      obtain rfl : k = n := by omega
      have hg : getF l P = none := by
        rw [get_none]
        intro v hv
        have h1 := HPm.out.1.mem_iff.1 hv
        have h2 := HA.out (P, v) (by rw [List.take_of_length_le (by have := HEn.out; omega)]; exact h1)
        exact h2 rfl
      have HX := Lib.hid (HEnd.out w1 B1.out .empty false (by rw [hg]; rfl) (by rw [hg]; rfl))
      clear hg hlt
      go_wp2_with fail
      go_ret2
      exact HX.out
end Go.Proofs.YtnkkckmejjcfkaaGreatDoor.Sp

/- The document's own part: the entries whose bit is such. -/
namespace Go.Proofs.YtnkkckmejjcfkaaGreatDoor.Sp
open Go Go.RowKit
set_option maxRecDepth 100000

set_option maxHeartbeats 4000000 in
theorem qpart_any (l : List Ent) (a : Option Addr) (n cap d b : Nat) (hn : n ≤ 4294967296) (hd : d < 256) (_hb : b < 2) (hs : ∀ e ∈ l, e.1.size = 32) (w : World) (hl : Ents w a n l) :
    Calls Tryz.prog 49 #[.slice a n cap, .int .i64 (d : Int), .int .i64 (b : Int)] w (EntsTo (filt b d l) w) := by
  have hlen := hl.1
  have HL := Lib.hid hl
  have HS := Lib.hid hs
  clear hl hs
  go_enter Tryz.func49, Tryz.ntmps49
  go_wp2_with fail
  go_loopw [7, 8] (fun x y wr => ∃ j : Nat, j ≤ n ∧ y = .int .i64 (j : Int) ∧ OwnE wr w.heap.size x (filt b d (l.take j)) ∧ Below w.heap.size w wr) (fun _ y _ => n - (intOf y).toNat)
  case atStart => exact ⟨0, by omega, rfl, World.ownsRow_nil _ _ _ _, Below.refl _ _⟩
  case round =>
    obtain ⟨j, hj, rfl, hown, hbel⟩ := hrel
    have HO := Lib.hid hown
    have HB := Lib.hid hbel
    have hbz := hbel.size
    clear hown hbel
    have HFl := Lib.hid (show (filt b d (l.take j)).length ≤ j from Nat.le_trans (filt_len _ _ _) (by rw [List.length_take]; omega))
    by_cases hlt : j < n
    · have hki : (j : Int) < (n : Int) := by omega
      have hj0 : (0 : Int) ≤ (j : Int) := by omega
      have hjl : j < l.length := by omega
      obtain ⟨x, hx⟩ : ∃ x, l[j]? = some x := ⟨_, List.getElem?_eq_getElem hjl⟩
      have hxm : x ∈ l := List.mem_of_getElem? hx
      have hxs := HS.out x hxm
      obtain ⟨bb, off, rfl, hcell⟩ := HL.out.2 (by omega)
      obtain ⟨k1, k2⟩ := hcell j x hx
      have hbw0 : bb < w.heap.size := block_lt_of_cell k1
      have c1 : wr.cell? ⟨bb, off + j * 2, none⟩ = some (.string x.1) := (HB.out.cell (p := ⟨bb, off + j * 2, none⟩) hbw0).trans k1
      have c2 : wr.cell? ⟨bb, off + j * 2 + 1, none⟩ = some (.string x.2) := (HB.out.cell (p := ⟨bb, off + j * 2 + 1, none⟩) hbw0).trans k2
      obtain ⟨y, hy⟩ : ∃ y, bitN x.1 d = y := ⟨_, rfl⟩
      have hbit := Lib.hid (qbit_any x.1 d (by omega) (by omega))
      rw [hy] at hbit
      have htk : l.take (j + 1) = l.take j ++ [x] := by rw [List.take_add_one, hx]; rfl
      have hnext := Lib.hid (show filt b d (l.take (j + 1)) = filt b d (l.take j) ++ (if y = b then [x] else []) from by rw [htk, filt_snoc, hy])
      clear htk hxm k1 k2 hcell hx hxs hjl
      go_wp2_with fail
      refine (hbit.out _).mono ?_
      rintro e w1 ⟨rfl, rfl⟩
      by_cases hyb : y = b
      · have hyi : (y : Int) = (b : Int) := by omega
        rw [if_pos hyb] at hnext
        obtain ⟨Xs, eXs⟩ : ∃ Xs, entV (filt b d (l.take j)) = Xs := ⟨_, rfl⟩
        obtain ⟨k, ek⟩ : ∃ k, (filt b d (l.take j)).length = k := ⟨_, rfl⟩
        have hkj : k ≤ j := by rw [← ek]; exact HFl.out
        have HOk := Lib.hid (show wr.ownsRow w.heap.size 70 2 u7 k Xs from by have := HO.out; unfold OwnE at this; rw [ek, eXs] at this; exact this)
        have EXs := Lib.hid (And.intro eXs ek)
        obtain ⟨i0, hi0, hz0, hz1, hz2⟩ := info_parts infoEnt
        have hk8 : k + 1 ≤ maxLen := by unfold maxLen; omega
        have hkb : (k + 1) * 32 ≤ 140737488355328 := by omega
        clear hyb HO eXs ek HFl
        go_wp2_with (at_builtin; refine wpList_append_own _ rfl (.tmp 26) (.tmp 31) 58 rfl w.heap.size 70 i0 _ 2 32 Tryz.underlying58 hi0 hz0 hz1 hz2 rfl (by decide) u7 k Xs rfl (HOk.out.alloc _) ⟨wr.heap.size, 0, none⟩ 1 1 [.string x.1, .string x.2] rfl rfl ?c1 ?c2 ?c3 ?c4 ?c5 ?_)
        case c1 => intro j u hj; exact new_cell _ _ _ hj
        case c2 => intro u hu; simp at hu; rcases hu with rfl | rfl <;> rfl
        case c3 => exact hk8
        case c4 => exact hkb
        case c5 => simp; omega
        intro v' w3 hown3 hgrow _
        have HO3 := Lib.hid (show OwnE w3 w.heap.size v' (filt b d (l.take (j + 1))) from by
          unfold OwnE
          rw [hnext.out, entV_append, List.length_append, EXs.out.1, EXs.out.2]
          exact hown3)
        have HB3 := Lib.hid (show Below w.heap.size w w3 from by
          refine (HB.out.alloc hbz _).grown hgrow (by simp; omega) ?_
          intro k' hk'
          exact (HOk.out.lt k' hk').1)
        clear hown3 hgrow hk8 hkb c1 c2
        go_wp2_with fail
        go_roundw
        case rel => exact ⟨j + 1, by omega, by go_num, HO3.out, HB3.out⟩
        case measure => simp [intOf]; omega
      · have hyi : ¬ (y : Int) = (b : Int) := by omega
        rw [if_neg hyb, List.append_nil] at hnext
        clear hyb
        go_wp2_with fail
        go_roundw
        case rel => exact ⟨j + 1, by omega, by go_num, by rw [hnext.out]; exact HO.out, HB.out⟩
        case measure => simp [intOf]; omega
    · have hki : ¬ (j : Int) < (n : Int) := by omega
      obtain rfl : j = n := by omega
      have hall : filt b d (l.take j) = filt b d l := by rw [List.take_of_length_le (l := l) (i := j) (by omega)]
      obtain ⟨a2, c2, hv, hE, hfr, hc⟩ := HO.out.ents
      rw [hall] at hv hE hc
      subst hv
      have HE := Lib.hid hE
      have HFr := Lib.hid hfr
      have HC := Lib.hid hc
      clear hE hfr HO hall hlt hc
      go_wp2_with fail
      go_ret
      exact ⟨a2, c2, rfl, HE.out, HB.out, HFr.out, HC.out⟩
end Go.Proofs.YtnkkckmejjcfkaaGreatDoor.Sp
