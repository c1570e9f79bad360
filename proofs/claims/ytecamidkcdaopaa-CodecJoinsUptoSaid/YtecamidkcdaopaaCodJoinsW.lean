/- The walk of CodecJoins. -/
import Derived.Test.YtecamidkcdaopaaCodLongW
import Derived.Test.YtecamidkcdaopaaReads
import Derived.Deep.RegionLaw
namespace Go.Proofs.Ytecamidkcdaopaa.Sp
open Go Go.RowKit

theorem Items.reads {w : World} {a : Option Addr} {n : Nat} {l : List It} (h : Items w a n l) : Reads w w.heap.size 3 a n (itsVs l) := by
  have hlt := h.lt
  obtain ⟨hn, hc⟩ := h
  refine ⟨by rw [itsVs_length, hn], fun hp => ?_⟩
  obtain ⟨b, off, rfl, hcell⟩ := hc hp
  refine ⟨⟨b, off, none⟩, rfl, hlt b off rfl hp, fun j u hu => ?_⟩
  have hj : j < (itsVs l).length := by
    rcases Nat.lt_or_ge j (itsVs l).length with h | h
    · exact h
    · rw [List.getElem?_eq_none h] at hu; cases hu
  rw [itsVs_length] at hj
  have e : j = (j / 3) * 3 + j % 3 := by omega
  have hg := itsVs_get l (j / 3) (j % 3) (by omega) (Nat.mod_lt _ (by omega))
  rw [← e, hu] at hg
  rw [show (⟨b, off, none⟩ : Addr).add j = ⟨b, off + (j / 3) * 3 + j % 3, none⟩ from by rw [Nat.add_assoc, ← e]; exact Go.WideShapes.add_plain _ _ _]
  rw [hcell (j / 3) (by omega) (j % 3) (Nat.mod_lt _ (by omega))]
  exact hg.symm
theorem itsVs_append (l m : List It) : itsVs (l ++ m) = itsVs l ++ itsVs m := by simp [itsVs]
theorem itsVs_ones (l : List It) : ∀ u ∈ itsVs l, u.oneCell' = true := by
  intro u hu
  simp only [itsVs, List.mem_flatMap] at hu
  obtain ⟨x, _, hx⟩ := hu
  exact itVs_one x u hx
theorem laidLen_append (l m : List It) : laidLen (l ++ m) = laidLen l + laidLen m := by simp [laidLen]

section
variable {P : Program} (w : World)
/-- An append whose guard holds. -/
theorem wpList_append_when {ops : Array Oper} {rest : List Oper} {o : Oper} {a : Act} {Q : Exit → Act → World → Prop} (hw : Region.wanted o (yielded ops a.tmps) = true) (s x : Operand) (t : TypeId)
    (ho : o.op = .call { callee := .builtin .append, args := #[s, x], argTypes := #[t, t] })
    (base : Nat) (e : TypeId) (i : TypeInfo) (z : Value) (size bytes : Nat) (ht : P.underlying t = some (.slice e)) (hi : P.info? e = some i) (hz : i.zero = some z)
    (hsize : i.size = size) (hby : i.bytes = bytes) (hzs : z.cells.size = size) (hsz : 0 < size)
    (v : Value) (n : Nat) (xs : List Value) (hs : a.eval s = v) (hown : w.ownsRow base e size v n xs)
    (B : Nat) (A : Option Addr) (m c : Nat) (news : List Value) (hx : a.eval x = .slice A m c) (hr : Reads w B size A m news) (h1 : ∀ u ∈ news, u.oneCell' = true)
    (h63 : n + m ≤ maxLen) (hbytes : (n + m) * bytes ≤ 140737488355328) (hbase : base ≤ w.heap.size)
    (h : ∀ v' w', w'.ownsRow base e size v' (n + m) (xs ++ news) → w.grownBy w' v.ownBlock → (v'.ownBlock = v.ownBlock ∨ v'.ownBlock = some w.heap.size) → wpList P ops Q rest (a.put o.dst v') w') : wpList P ops Q (o :: rest) a w :=
  wpList_step fun K hK => by
    rw [if_pos hw]
    exact wp_append_any w s x t ho base e i z size bytes ht hi hz hsize hby hzs hsz v n xs hs hown B A m c news hx hr h1 h63 hbytes hbase fun v' w' h2 h3 h4 => hK _ _ (h v' w' h2 h3 h4)
end

set_option maxHeartbeats 2000000 in
theorem joins_law (a1 a2 : Option Addr) (n1 c1 n2 c2 : Nat) (l m : List It) (hwf1 : ∀ x ∈ l, x.n < 18446744073709551616) (hwf2 : ∀ x ∈ m, x.n < 18446744073709551616) (w : World) (hI1 : Items w a1 n1 l) (hI2 : Items w a2 n2 m)
    (hn1 : n1 ≤ 1099511627776) (hn2 : n2 ≤ 1099511627776) (hlen1 : laidLen l ≤ 1099511627776) (hlen2 : laidLen m ≤ 1099511627776) :
    Calls Try.prog 8 #[.slice a1 n1 c1, .slice a2 n2 c2] w fun e w' => e = .returned (.bool true) ∧ Below w.heap.size w w' := by
  obtain ⟨i0, hi0, hz0, hz1, hz2⟩ := info_parts infoItem
  have HI1 := Lib.hid hI1
  have HI2 := Lib.hid hI2
  have HN1 := Lib.hid hI1.1
  have HN2 := Lib.hid hI2.1
  have HW1 := Lib.hid hwf1
  have HW2 := Lib.hid hwf2
  obtain ⟨X, eX⟩ : ∃ X : ByteArray, X = ⟨(laid l).toArray⟩ := ⟨_, rfl⟩
  obtain ⟨Y, eY⟩ : ∃ Y : ByteArray, Y = ⟨(laid m).toArray⟩ := ⟨_, rfl⟩
  have hX : X.data.toList = laid l := by rw [eX]
  have hY : Y.data.toList = laid m := by rw [eY]
  have hXs : X.size = laidLen l := by rw [← size_list, hX, laid_length]
  have hYs : Y.size = laidLen m := by rw [← size_list, hY, laid_length]
  have hadd : ¬ 9223372036854775807 < X.size + Y.size := by omega
  have HXY := Lib.hid (show (⟨(laid (l ++ m)).toArray⟩ : ByteArray) = X ++ Y from (of_list (by rw [laid_append, ← hX, ← hY]; simp)).symm)
  have EX := Lib.hid eX
  have EY := Lib.hid eY
  clear hI1 hI2 hwf1 hwf2 hX hY hXs hYs eX eY
  go_enter Try.func8, Try.ntmps8
  go_wp2_with fail
  refine (awake_any _).mono ?_
  rintro e w1 ⟨rfl, h1⟩
  have B1 := Lib.hid h1
  have I11 := Lib.hid (HI1.out.below' h1)
  have I21 := Lib.hid (HI2.out.below' h1)
  clear h1
  go_wp2_with fail
  refine (laid_any a1 n1 c1 l HW1.out _ I11.out (by omega) (by omega)).mono ?_
  rintro e w2 ⟨rfl, h2⟩
  rw [← EX.out]
  have I12 := Lib.hid (I11.out.below' h2)
  have I22 := Lib.hid (I21.out.below' h2)
  have B2 := Lib.hid (B1.out.trans (h2.mono B1.out.size))
  clear h2
  go_wp2_with fail
  refine (laid_any a2 n2 c2 m HW2.out _ I22.out (by omega) (by omega)).mono ?_
  rintro e w3 ⟨rfl, h3⟩
  rw [← EY.out]
  have I13 := Lib.hid (I12.out.below' h3)
  have I23 := Lib.hid (I22.out.below' h3)
  have B3 := Lib.hid (B2.out.trans (h3.mono B2.out.size))
  clear h3
  have hA : 0 + n1 ≤ maxLen := by unfold maxLen; omega
  have hB : (0 + n1) * 32 ≤ 140737488355328 := by omega
  have hA2 : n1 + n2 ≤ maxLen := by unfold maxLen; omega
  have hB2 : (n1 + n2) * 32 ≤ 140737488355328 := by omega
  go_wp2_with (refine wpList_append_when _ (by rfl) (.const (.slice none 0 0)) (.tmp 15) 22 (by rfl) w3.heap.size 28 i0 zIt 3 32 Try.underlying22 hi0 hz0 hz1 hz2 (by rfl) (by decide) (.slice none 0 0) 0 [] (by rfl) (World.ownsRow_nil _ _ _ _) w3.heap.size a1 n1 c1 (itsVs l) (by rfl) I13.out.reads (itsVs_ones l) hA hB (Nat.le_refl _) ?_)
  intro v1 w4 hown1 hg1 _
  have O4 := Lib.hid hown1
  have W4 := Lib.hid (show Below w3.heap.size w3 w4 from (Below.refl _ _).grown hg1 (Nat.le_refl _) (fun k hk => by cases hk))
  have I24 := Lib.hid (I23.out.below' W4.out)
  have hz4 : w3.heap.size ≤ w4.heap.size := W4.out.size
  clear hown1 hg1 hA hB
  go_wp2_with (refine wpList_append_when _ (by rfl) (.tmp 16) (.tmp 17) 22 (by rfl) w3.heap.size 28 i0 zIt 3 32 Try.underlying22 hi0 hz0 hz1 hz2 (by rfl) (by decide) v1 n1 (itsVs l) (by rfl) O4.out w4.heap.size a2 n2 c2 (itsVs m) (by rfl) I24.out.reads (itsVs_ones m) hA2 hB2 hz4 ?_)
  intro v2 w5 hown2 hg2 _
  have hO5 : OwnI w5 w3.heap.size v2 (l ++ m) := by
    unfold OwnI
    rw [itsVs_append, List.length_append, HN1.out, HN2.out]
    exact hown2
  obtain ⟨a5, c5, e5, hI5⟩ := hO5.items
  have I5 := Lib.hid hI5
  have W5 := Lib.hid (show Below w3.heap.size w3 w5 from W4.out.grown hg2 hz4 (fun k hk => (O4.out.lt k hk).1))
  subst e5
  have hlen : laidLen (l ++ m) ≤ 140737488355328 := by rw [laidLen_append]; omega
  have hll : (l ++ m).length ≤ 9223372036854775807 := by rw [List.length_append, HN1.out, HN2.out]; omega
  have hwf : ∀ x ∈ l ++ m, x.n < 18446744073709551616 := by
    intro x hx
    rcases List.mem_append.1 hx with h | h
    · exact HW1.out x h
    · exact HW2.out x h
  have HWF := Lib.hid hwf
  have HLEN := Lib.hid hlen
  have HLL := Lib.hid hll
  obtain ⟨LM, eLM⟩ : ∃ LM, LM = l ++ m := ⟨_, rfl⟩
  rw [← eLM] at HXY HWF HLEN HLL I5 ⊢
  clear hown2 hg2 hO5 hI5 hlen hll hwf hA2 hB2 eLM
  go_wp2_with fail
  refine (laid_any a5 LM.length c5 LM HWF.out _ I5.out HLL.out HLEN.out).mono ?_
  rintro e w6 ⟨rfl, h6⟩
  rw [HXY.out]
  have B6 := Lib.hid (B3.out.trans ((W5.out.trans (h6.mono W5.out.size)).mono B3.out.size))
  clear h6
  go_wp2_with fail
  go_ret
  exact ⟨rfl, B6.out⟩
end Go.Proofs.Ytecamidkcdaopaa.Sp
