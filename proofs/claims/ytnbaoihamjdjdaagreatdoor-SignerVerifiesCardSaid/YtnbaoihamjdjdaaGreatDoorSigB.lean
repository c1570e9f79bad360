/- What has been heard of a signature whose parts are read on behind a fault too. No program's function is named here. -/
import Derived.Test.YtnbaoihamjdjdaaGreatDoorSigGot
import Derived.Test.YtnbaoihamjdjdaaGreatDoorSigA
import Derived.BigQuiet
import Derived.OwnWalk
import Derived.Deep.RegionHeld3
namespace Go.Proofs.YtnbaoihamjdjdaaGreatDoor.Sp
open Go

theorem Got.no_size {sig : ByteArray} {i : Nat} {s : ByteArray} {P : List ByteArray} {X : ByteArray} (g : Got sig i s P X) {h : Nat} (h7 : h ≤ 7) (hP : P.length ≤ h) (hn : ¬ s.size = 160) : ∀ j t q, ¬ Parts sig.data.toList h j t q := by
  intro j t q p
  obtain ⟨_, e, _⟩ := g.parts h7 p hP
  exact hn (by rw [e]; exact p.size)
/-- What the parts tell that were read so far: all are sound, or nothing is valid. -/
def Heard (sig : ByteArray) (h i : Nat) (s : ByteArray) (Q : List ByteArray) (X : ByteArray) (sd b : Bool) : Prop :=
  (sd = true ∧ b = false ∧ Got sig i s Q X ∧ s.size = 160) ∨ (sd = false ∧ ∀ j t q, ¬ Parts sig.data.toList h j t q)
theorem size_no (X : ByteArray) (m : Nat) (hm : 0 < m) (h : ¬ rtOk X (m : Int)) : ¬ ((rtT X (m : Int)).size : Int) = (m : Int) := by
  rw [rtT, if_neg h]
  show ¬ ((0 : Nat) : Int) = (m : Int)
  omega
theorem Heard.step {sig : ByteArray} {h i : Nat} {s : ByteArray} {Q : List ByteArray} {X : ByteArray} {sd b : Bool} (hh : Heard sig h i s Q X sd b) (h7 : h ≤ 7) (hk : Q.length < h) :
    Heard sig h i s (Q ++ [rtT X 32]) (rtS X 32) (sd && decide (((rtT X 32).size : Int) = 32)) (rtB X 32 b) := by
  rcases hh with ⟨rfl, rfl, G, h160⟩ | ⟨rfl, hn⟩
  · by_cases hc : rtOk X 32 ∧ (rtT X 32).size = 32
    · exact .inl ⟨by rw [hc.2]; rfl, if_pos hc.1, G.step hc.1 hc.2, h160⟩
    · refine .inr ⟨?_, G.no_text h7 hk hc⟩
      have hz : ¬ ((rtT X 32).size : Int) = 32 := fun e => by
        by_cases hok : rtOk X 32
        · exact hc ⟨hok, by omega⟩
        · exact size_no X 32 (by omega) hok e
      rw [Bool.true_and, decide_eq_false hz]
  · exact .inr ⟨Bool.false_and _, hn⟩
theorem heard_head (sig : ByteArray) (h : Nat) (h7 : h ≤ 7) :
    Heard sig h (rnN sig) (rtT (rnS sig) 160) [] (rtS (rnS sig) 160) (true && decide (((rtT (rnS sig) 160).size : Int) = 160)) (rtB (rnS sig) 160 (rnB sig false)) := by
  by_cases h8 : 8 ≤ sig.size
  · obtain ⟨e, hb⟩ := rn_ok sig h8 false
    by_cases hok : rtOk (rnS sig) 160
    · have G := got_head sig (rnS sig) (rnN sig) e.symm (rnN_lt sig) hok
      by_cases hz : (rtT (rnS sig) 160).size = 160
      · exact .inl ⟨by rw [hz]; rfl, by rw [hb]; exact if_pos hok, G, hz⟩
      · have hzi : ¬ ((rtT (rnS sig) 160).size : Int) = 160 := by omega
        exact .inr ⟨by rw [Bool.true_and, decide_eq_false hzi], G.no_size h7 (Nat.zero_le _) hz⟩
    · have hzi : ¬ ((rtT (rnS sig) 160).size : Int) = 160 := size_no _ 160 (by omega) hok
      exact .inr ⟨by rw [Bool.true_and, decide_eq_false hzi], no_head sig (rnS sig) (rnN sig) h e.symm hok⟩
  · have hX : rnS sig = .empty := if_neg h8
    have hok : ¬ rtOk (rnS sig) 160 := by
      rw [hX]
      rintro ⟨h4, _⟩
      exact absurd h4 (by decide)
    have hzi : ¬ ((rtT (rnS sig) 160).size : Int) = 160 := size_no _ 160 (by omega) hok
    exact .inr ⟨by rw [Bool.true_and, decide_eq_false hzi], no_short sig h (by omega)⟩
/-- Where all was sound, nothing is left, and the number is one of a leaf. -/
theorem Heard.parts {sig : ByteArray} {h i : Nat} {s : ByteArray} {Q : List ByteArray} {X : ByteArray} {b : Bool} (hh : Heard sig h i s Q X true b) : b = false ∧ Got sig i s Q X ∧ s.size = 160 := by
  rcases hh with ⟨_, hb, G, h160⟩ | ⟨h0, _⟩
  · exact ⟨hb, G, h160⟩
  · cases h0
theorem Heard.none_ {sig : ByteArray} {h i : Nat} {s : ByteArray} {Q : List ByteArray} {X : ByteArray} {b : Bool} (hh : Heard sig h i s Q X false b) : ∀ j t q, ¬ Parts sig.data.toList h j t q := by
  rcases hh with ⟨h0, _⟩ | ⟨_, hn⟩
  · cases h0
  · exact hn

/-- A row of texts of which the last m are not there yet. -/
def rowP (Q : List ByteArray) (m : Nat) : Array Value := ((Q ++ List.replicate m ByteArray.empty).map Value.string).toArray
theorem rowP_made (n : Nat) : madeCells #[Value.string .empty] n = rowP [] n := by
  apply Array.ext'
  unfold rowP
  rw [List.toList_toArray, List.nil_append]
  apply List.ext_getElem
  · simp [madeCells]
  · intro i h1 h2
    simp [madeCells, Nat.mod_one]
theorem rowP_set (Q : List ByteArray) (m : Nat) (x : ByteArray) : (rowP Q (m + 1)).setIfInBounds Q.length (.string x) = rowP (Q ++ [x]) m := by
  unfold rowP
  rw [List.setIfInBounds_toArray]
  congr 1
  rw [List.replicate_succ, List.map_append, List.set_append_right _ _ (by simp)]
  simp
theorem rowP_get (Q : List ByteArray) (m : Nat) : (rowP Q (m + 1))[Q.length]? = some (.string .empty) := by
  simp [rowP]
theorem rowP_all (Q : List ByteArray) : rowP Q 0 = (Q.map Value.string).toArray := by simp [rowP]
end Go.Proofs.YtnbaoihamjdjdaaGreatDoor.Sp

/- Package signer: the parts of a public key, and the closure that reads a signature's next part. -/
namespace Go.Proofs.YtnbaoihamjdjdaaGreatDoor.Sp
open Go Go.RowKit
set_option maxRecDepth 100000

theorem gparts_size (p : ByteArray) (w : World) (hp : p.size ≤ 140737488353000) (h40 : ¬ p.size = 40) :
    Calls Tryz.prog 34 #[.string p] w fun e w' => e = .returned (.tuple #[.int .i64 0, .string .empty, .bool false]) ∧ Below w.heap.size w w' := by
  have h1 : ¬ (p.size : Int) = 40 := by omega
  have h2 : (p.size : Int) ≤ 9223372036854775807 := by omega
  go_enter Tryz.func34, Tryz.ntmps34
  go_wp2_with fail
  go_ret3
  exact ⟨rfl, Below.refl _ _⟩

set_option maxHeartbeats 1000000 in
theorem gparts_high (p : ByteArray) (w : World) (h40 : p.size = 40) (H : Nat) (hH : num (p.data.toList.take 8) = H) (h7 : 7 < H) :
    Calls Tryz.prog 34 #[.string p] w fun e w' => e = .returned (.tuple #[.int .i64 0, .string .empty, .bool false]) ∧ Below w.heap.size w w' := by
  have HN := Lib.hid (show rnN p = H from (if_pos (by omega)).trans hH)
  have h40i : (p.size : Int) = 40 := by omega
  have h7i : 7 < (H : Int) := by omega
  clear hH
  go_enter Tryz.func34, Tryz.ntmps34
  go_wp2_with fail
  refine (newReader_any p w).mono ?_
  rintro e w1 ⟨rfl, h1⟩
  have R1 := Lib.hid (show Rd w1 w.heap.size p false from by rw [h1]; exact Blk.new _ _ _)
  have B1 := Lib.hid (show Below w.heap.size w w1 from by rw [h1]; exact (Below.refl _ _).alloc (Nat.le_refl _) _)
  clear h1
  go_wp2_with fail
  refine (rnum_any w.heap.size p false w1 R1.out (by omega)).mono ?_
  rw [HN.out]
  rintro e w2 ⟨rfl, _, o2⟩
  have B2 := Lib.hid (Only.below B1.out B1.out.size (Nat.le_refl _) o2)
  clear o2
  go_wp2_with fail
  go_ret3
  exact ⟨rfl, B2.out⟩

set_option maxHeartbeats 1000000 in
theorem gparts_ok (p : ByteArray) (w : World) (h40 : p.size = 40) (H : Nat) (hH : num (p.data.toList.take 8) = H) (h7 : H ≤ 7) (E : ByteArray) (hE : p.extract 8 40 = E) :
    Calls Tryz.prog 34 #[.string p] w fun e w' => e = .returned (.tuple #[.int .i64 (H : Int), .string E, .bool true]) ∧ Below w.heap.size w w' := by
  have HN := Lib.hid (show rnN p = H from (if_pos (by omega)).trans hH)
  subst hE
  have h40i : (p.size : Int) = 40 := by omega
  have h7i : ¬ 7 < (H : Int) := by omega
  have hHw : IntKind.i64.wrap (H : Int) = (H : Int) := by rw [IntKind.wrap_i64]; omega
  clear hH
  go_enter Tryz.func34, Tryz.ntmps34
  go_wp2_with fail
  refine (newReader_any p w).mono ?_
  rintro e w1 ⟨rfl, h1⟩
  have R1 := Lib.hid (show Rd w1 w.heap.size p false from by rw [h1]; exact Blk.new _ _ _)
  have B1 := Lib.hid (show Below w.heap.size w w1 from by rw [h1]; exact (Below.refl _ _).alloc (Nat.le_refl _) _)
  clear h1
  go_wp2_with fail
  refine (rnum_any w.heap.size p false w1 R1.out (by omega)).mono ?_
  rw [HN.out]
  rintro e w2 ⟨rfl, _, o2⟩
  have B2 := Lib.hid (Only.below B1.out B1.out.size (Nat.le_refl _) o2)
  clear o2
  go_wp2_with fail
  go_quiet (fail)
  go_wp2_with fail
  go_ret3
  exact ⟨rfl, below_drewN B2.out _⟩

set_option maxHeartbeats 1000000 in
theorem gnext_any (br bs gr : Nat) (S : ByteArray) (b sd : Bool) (m : Int) (hm0 : -9223372036854775808 ≤ m) (hm1 : m ≤ 9223372036854775807) (w : World) (hR : Rd w gr S b) (hbr : Blk w br 57 #[.pointer (some ⟨gr, 0, none⟩)]) (hbs : Blk w bs 4 #[.bool sd]) (hne : bs ≠ gr) (hs : S.size ≤ 140737488355328) :
    Calls Tryz.prog 36 #[.int .i64 m, .pointer (some ⟨br, 0, none⟩), .pointer (some ⟨bs, 0, none⟩)] w fun e w' => e = .returned (.string (rtT S m)) ∧ Rd w' gr (rtS S m) (rtB S m b) ∧ Blk w' bs 4 #[.bool (sd && decide (((rtT S m).size : Int) = m))] ∧ Turned (fun k => k = gr ∨ k = bs) w w' := by
  have HRt := Lib.hid (rtext_any gr S b m hm0 hm1 w hR hs)
  have hTs : (rtT S m).size ≤ 140737488355328 := by
    unfold rtT
    split
    · rw [ByteArray.size_extract, ByteArray.size_extract]; omega
    · exact Nat.zero_le _
  obtain ⟨T, hT⟩ : ∃ T, rtT S m = T := ⟨_, rfl⟩
  rw [hT] at HRt hTs
  rw [hT]
  have hTi : (T.size : Int) ≤ 9223372036854775807 := by omega
  have c1 := hbr.cell 0
  have HB := Lib.hid hbs
  clear hR hbr hbs hT
  cases sd
  · rw [Bool.false_and]
    go_enter Tryz.func36, Tryz.ntmps36
    go_wp2_with fail
    refine HRt.out.mono ?_
    rintro e w1 ⟨rfl, r1, o1⟩
    have R1 := Lib.hid r1
    have O1 := Lib.hid o1
    have K1 := Lib.hid (o1.blk HB.out hne)
    have cb := K1.out.cell 0
    have fb := K1.out.frozen 0
    clear r1 o1
    go_wp2_with fail
    go_ret
    exact ⟨rfl, Blk.far R1.out (p := ⟨bs, 0, none⟩) (fun e => hne e.symm) _, K1.out.set_ 0 _, Turned.grown_set_ O1.out (fun k hk => .inl (by injection hk with hk; exact hk.symm)) (.inr rfl)⟩
  · rw [Bool.true_and]
    by_cases hz : (T.size : Int) = m
    · rw [decide_eq_true hz]
      go_enter Tryz.func36, Tryz.ntmps36
      go_wp2_with fail
      refine HRt.out.mono ?_
      rintro e w1 ⟨rfl, r1, o1⟩
      have R1 := Lib.hid r1
      have O1 := Lib.hid o1
      have K1 := Lib.hid (o1.blk HB.out hne)
      have cb := K1.out.cell 0
      have fb := K1.out.frozen 0
      clear r1 o1
      go_wp2_with fail
      go_ret
      exact ⟨rfl, Blk.far R1.out (p := ⟨bs, 0, none⟩) (fun e => hne e.symm) _, K1.out.set_ 0 _, Turned.grown_set_ O1.out (fun k hk => .inl (by injection hk with hk; exact hk.symm)) (.inr rfl)⟩
    · have hzb : ((T.size : Int) == m) = false := by simp [hz]
      rw [decide_eq_false hz]
      go_enter Tryz.func36, Tryz.ntmps36
      go_wp2_with fail
      refine HRt.out.mono ?_
      rintro e w1 ⟨rfl, r1, o1⟩
      have R1 := Lib.hid r1
      have O1 := Lib.hid o1
      have K1 := Lib.hid (o1.blk HB.out hne)
      have cb := K1.out.cell 0
      have fb := K1.out.frozen 0
      clear r1 o1
      go_wp2_with fail
      go_ret
      exact ⟨rfl, Blk.far R1.out (p := ⟨bs, 0, none⟩) (fun e => hne e.symm) _, K1.out.set_ 0 _, Turned.grown_set_ O1.out (fun k hk => .inl (by injection hk with hk; exact hk.symm)) (.inr rfl)⟩
end Go.Proofs.YtnbaoihamjdjdaaGreatDoor.Sp

/- Package signer: Verify. -/
namespace Go.Proofs.YtnbaoihamjdjdaaGreatDoor.Sp
open Go Go.RowKit
set_option maxRecDepth 100000

theorem gtext_no {x y : ByteArray} (h : ¬ x = y) : (x.toList == y.toList) = false := by
  cases e : (x.toList == y.toList) with
  | false => rfl
  | true =>
    exfalso
    apply h
    have e2 := eq_of_beq e
    rw [Lib.toList_data, Lib.toList_data] at e2
    have h6 := Array.toList_inj.1 e2
    cases x; cases y; simp only at h6; rw [h6]
theorem gfromB_32 (s msg : ByteArray) (h : s.size = 160) : (fromB s msg).size = 32 := by
  unfold fromB
  rw [if_pos h, ← size_list]
  exact sum_length _

theorem gver_size (p msg sig : ByteArray) (w : World) (hp : p.size ≤ 140737488353000) (h40 : ¬ p.size = 40) :
    Calls Tryz.prog 14 #[.string p, .string msg, .string sig] w fun e w' => e = .returned (.bool (verB p msg sig)) ∧ Below w.heap.size w w' := by
  rw [verB_no (fun v => h40 (valid_pub _ _ _ v))]
  go_enter Tryz.func14, Tryz.ntmps14
  go_wp2_with fail
  refine (gparts_size p w hp h40).mono ?_
  rintro e w1 ⟨rfl, h1⟩
  have B1 := Lib.hid h1
  clear h1
  go_wp2_with fail
  go_ret
  exact ⟨rfl, B1.out⟩

theorem gver_high (p msg sig : ByteArray) (w : World) (h40 : p.size = 40) (H : Nat) (hH : num (p.data.toList.take 8) = H) (h7 : 7 < H) :
    Calls Tryz.prog 14 #[.string p, .string msg, .string sig] w fun e w' => e = .returned (.bool (verB p msg sig)) ∧ Below w.heap.size w w' := by
  rw [verB_no (not_high p msg sig H hH h7)]
  go_enter Tryz.func14, Tryz.ntmps14
  go_wp2_with fail
  refine (gparts_high p w h40 H hH h7).mono ?_
  rintro e w1 ⟨rfl, h1⟩
  have B1 := Lib.hid h1
  clear h1
  go_wp2_with fail
  go_ret
  exact ⟨rfl, B1.out⟩

set_option maxHeartbeats 8000000 in
theorem gver_ok (p msg sig : ByteArray) (w : World) (hm : msg.size ≤ 140737488351232) (hs : sig.size ≤ 140737488353000) (hT : Tab w) (h40 : p.size = 40) (h : Nat) (hH : num (p.data.toList.take 8) = h) (h7 : h ≤ 7) (hp8 : p.data.toList.take 8 = be 8 h) :
    Calls Tryz.prog 14 #[.string p, .string msg, .string sig] w fun e w' => e = .returned (.bool (verB p msg sig)) ∧ Below w.heap.size w w' := by
  have h128 := two_le h h7
  obtain ⟨M, hM⟩ : ∃ M : Nat, 2 ^ h = M := ⟨_, rfl⟩
  have hMi : (2 : Int) ^ h = (M : Int) := by rw [← hM]; simp
  have hMw : IntKind.u64.wrap (M : Int) = (M : Int) := by rw [IntKind.wrap_u64]; omega
  have HM := Lib.hid hM
  have hMl : M ≤ 128 := by omega
  have hd0 := Lib.hid (heard_head sig h h7)
  have hrs1 : (rnS sig).size ≤ sig.size := by
    unfold rnS
    split
    · rw [dr_size]; omega
    · exact Nat.zero_le _
  have HNm := Lib.hid (fun g w hR => rnum_any g sig false w hR (by omega))
  have hI64 := rnN_lt sig
  obtain ⟨I, hI⟩ : ∃ I, rnN sig = I := ⟨_, rfl⟩
  obtain ⟨S1, hS1⟩ : ∃ S1, rnS sig = S1 := ⟨_, rfl⟩
  obtain ⟨b1, hb1⟩ : ∃ b1, rnB sig false = b1 := ⟨_, rfl⟩
  rw [hI, hS1, hb1] at hd0 HNm
  rw [hI] at hI64
  rw [hS1] at hrs1
  have HTx := Lib.hid (fun br bs gr w hR hbr hbs hne => gnext_any br bs gr S1 b1 true 160 (by omega) (by omega) w hR hbr hbs hne (by omega))
  have hX0s : (rtS S1 160).size ≤ S1.size := rtS_le S1 160
  have hss : (rtT S1 160).size ≤ 140737488355328 := by
    unfold rtT
    split
    · rw [ByteArray.size_extract, ByteArray.size_extract]; omega
    · exact Nat.zero_le _
  obtain ⟨s, hse⟩ : ∃ s, rtT S1 160 = s := ⟨_, rfl⟩
  obtain ⟨X0, hX0⟩ : ∃ X0, rtS S1 160 = X0 := ⟨_, rfl⟩
  obtain ⟨b2, hb2⟩ : ∃ b2, rtB S1 160 b1 = b2 := ⟨_, rfl⟩
  rw [hse, hX0, hb2] at HTx hd0
  rw [hX0] at hX0s
  rw [hse] at hss
  obtain ⟨sd0, hsd0⟩ : ∃ sd0, (true && decide ((s.size : Int) = 160)) = sd0 := ⟨_, rfl⟩
  rw [hsd0] at HTx hd0
  have HP8 := Lib.hid hp8
  have HT := Lib.hid hT
  obtain ⟨E, hE⟩ : ∃ E, p.extract 8 40 = E := ⟨_, rfl⟩
  have HE := Lib.hid hE
  have HPa := Lib.hid (gparts_ok p w h40 h hH h7 E hE)
  have hh0 : ¬ (h : Int) < 0 := by omega
  obtain ⟨i0, hi0, hz0, hz1, hz2⟩ := info_parts infoText
  have hmk : ∀ W : World, (Instr.makeSlice 22 (.int .i64 (h : Int)) (.int .i64 (h : Int))).run Tryz.prog W = .ok (.slice (some ⟨W.heap.size, 0, none⟩) h h) (W.alloc (.cells (rowP [] h) 9)) := fun W => by
    have h := run_make (P := Tryz.prog) W 22 9 i0 (.string .empty) Tryz.underlying22 hi0 hz0 .i64 .i64 (h : Int) (h : Int) (by omega) (by omega) (by rw [hz2]; omega) (by omega)
    rw [← rowP_made]
    simpa [hz1, Value.cells] using h
  have hmf : ∀ (fn : Fn) (first cap : Array Value) (w : World), (Instr.makeFunc fn first cap).run Tryz.prog w = .ok (.func fn first cap) w := fun _ _ _ _ => rfl
  clear hp8 hT hE hH hse hX0 hb2 hsd0 hI hS1 hb1 hM h128 hi0 hz0 hz1 hz2
  go_enter Tryz.func14, Tryz.ntmps14
  go_wp2_with fail
  refine HPa.out.mono ?_
  rintro e w1 ⟨rfl, h1⟩
  have B1 := Lib.hid h1
  clear h1
  go_wp2_with fail
  refine (newReader_any sig w1).mono ?_
  rintro e w2 ⟨rfl, h2⟩
  obtain ⟨gr, hgr⟩ : ∃ gr, w1.heap.size = gr := ⟨_, rfl⟩
  have HGR := Lib.hid hgr
  have R2 := Lib.hid (show Rd w2 gr sig false from by rw [h2, ← hgr]; exact Blk.new _ _ _)
  have B2 := Lib.hid (show Below w1.heap.size w1 w2 from by rw [h2]; exact (Below.refl _ _).alloc (Nat.le_refl _) _)
  have hz2 : w2.heap.size = gr + 1 := by rw [h2, ← hgr]; simp
  clear h2
  go_wp2_with fail
  obtain ⟨w3, hw3⟩ : ∃ w3, (w2.alloc (.cells #[.pointer (some ⟨gr, 0, none⟩)] 57)).alloc (.cells #[.bool true] 4) = w3 := ⟨_, rfl⟩
  have KR3 := Lib.hid (show Blk w3 (gr + 1) 57 #[.pointer (some ⟨gr, 0, none⟩)] from by rw [← hw3, ← hz2]; exact (Blk.new w2 _ _).alloc _)
  have KS3 := Lib.hid (show Blk w3 (gr + 1 + 1) 4 #[.bool true] from by
    have hn := Blk.new (w2.alloc (.cells #[.pointer (some ⟨gr, 0, none⟩)] 57)) 4 #[.bool true]
    rw [World.size_alloc, hz2, hw3] at hn
    exact hn)
  have R3 := Lib.hid (show Rd w3 gr sig false from by rw [← hw3]; exact (Blk.alloc R2.out _).alloc _)
  have B3 := Lib.hid (show Below w1.heap.size w1 w3 from by rw [← hw3]; exact (B2.out.alloc (by omega) _).alloc (by rw [World.size_alloc]; omega) _)
  rw [hw3]
  clear hw3 hz2 hgr
  refine (HNm.out gr w3 R3.out).mono ?_
  rintro e w4 ⟨rfl, r4, o4⟩
  have R4 := Lib.hid r4
  have KR4 := Lib.hid (o4.blk KR3.out (by omega))
  have KS4 := Lib.hid (o4.blk KS3.out (by omega))
  have B4 := Lib.hid (Only.below B3.out B3.out.size (by rw [HGR.out]; exact Nat.le_refl _) o4)
  clear r4 o4
  go_wp2_with fail
  refine (HTx.out (gr + 1) (gr + 1 + 1) gr w4 R4.out KR4.out KS4.out (by omega)).mono ?_
  rintro e w5 ⟨rfl, r5, k5, t5⟩
  have R5 := Lib.hid r5
  have KS5 := Lib.hid k5
  have KR5 := Lib.hid (show Blk w5 (gr + 1) 57 #[.pointer (some ⟨gr, 0, none⟩)] from (t5.block _ KR4.out.lt (by rintro (h1 | h1) <;> omega)).trans KR4.out)
  have B5 := Lib.hid (t5.below B4.out (fun k hk => by rw [HGR.out]; rcases hk with rfl | rfl <;> omega) B4.out.size)
  have hgz := k5.lt
  obtain ⟨gp, hgp⟩ : ∃ gp, w5.heap.size = gp := ⟨_, rfl⟩
  have HGP := Lib.hid hgp
  rw [hgp] at hgz
  have hgw : w1.heap.size ≤ gp := by rw [HGR.out]; omega
  clear r5 k5 t5
  go_wp2_with fail
  clear hgp hmk
  go_loopw [36] (fun t wr => ∃ (k : Nat) (Q : List ByteArray) (X : ByteArray) (sd b : Bool), k ≤ h ∧ t = .int .i64 (k : Int) ∧ Q.length = k ∧ Hid (Heard sig h I s Q X sd b) ∧ X.size ≤ sig.size ∧ Rd wr gr X b ∧ Blk wr (gr + 1) 57 #[.pointer (some ⟨gr, 0, none⟩)] ∧ Blk wr (gr + 1 + 1) 4 #[.bool sd] ∧ Blk wr gp 9 (rowP Q (h - k)) ∧ Below w1.heap.size w1 wr) (fun t _ => h - (intOf t).toNat)
  case atStart => exact ⟨0, [], X0, sd0, b2, by omega, rfl, rfl, hd0, by omega, Blk.alloc R5.out _, KR5.out.alloc _, KS5.out.alloc _, by rw [← HGP.out]; exact Blk.new _ _ _, B5.out.alloc (by rw [HGP.out]; exact hgw) _⟩
  case round =>
    obtain ⟨k, Q, X, sd, b, hk, rfl, hQl, G, hXs, hr, hkr, hks, hkp, hb⟩ := hrel
    have XR := Lib.hid hr
    have XKR := Lib.hid hkr
    have XKS := Lib.hid hks
    have XB := Lib.hid hb
    clear hr hkr hb
    by_cases hlt : k < h
    · obtain ⟨m, hm⟩ : ∃ m, h - k = m + 1 := ⟨h - k - 1, by omega⟩
      rw [hm] at hkp
      have XKP := Lib.hid hkp
      have hki : (k : Int) < (h : Int) := by omega
      have hk0 : (0 : Int) ≤ (k : Int) := by omega
      have HNx := Lib.hid (fun w hR hbr hbs hne => gnext_any (gr + 1) (gr + 1 + 1) gr X b sd 32 (by omega) (by omega) w hR hbr hbs hne (by omega))
      have hst := G.out.step h7 (by omega)
      have hx2 := rtS_le X 32
      obtain ⟨Y, hY⟩ : ∃ Y, rtT X 32 = Y := ⟨_, rfl⟩
      obtain ⟨X2, hX2⟩ : ∃ X2, rtS X 32 = X2 := ⟨_, rfl⟩
      obtain ⟨c, hc⟩ : ∃ c, rtB X 32 b = c := ⟨_, rfl⟩
      obtain ⟨sd2, hsd2⟩ : ∃ sd2, (sd && decide (((Y).size : Int) = 32)) = sd2 := ⟨_, rfl⟩
      rw [hY, hX2, hc, hsd2] at HNx hst
      rw [hX2] at hx2
      have HST := Lib.hid hst
      have hget : (rowP Q (m + 1))[k]? = some (.string .empty) := by rw [← hQl]; exact rowP_get Q m
      have HSet := Lib.hid (show (rowP Q (m + 1)).setIfInBounds k (.string Y) = rowP (Q ++ [Y]) (h - (k + 1)) from by rw [← hQl, rowP_set, show h - (Q.length + 1) = m by omega])
      have HQl := Lib.hid hQl
      clear hY hX2 hc hsd2 hst hm hkp hks hQl hlt
      go_wp2_with fail
      refine (HNx.out wr XR.out XKR.out XKS.out (by omega)).mono ?_
      rintro e w6 ⟨rfl, r6, k6, t6⟩
      have R6 := Lib.hid r6
      have KS6 := Lib.hid k6
      have KR6 := Lib.hid (show Blk w6 (gr + 1) 57 #[.pointer (some ⟨gr, 0, none⟩)] from (t6.block _ XKR.out.lt (by rintro (h1 | h1) <;> omega)).trans XKR.out)
      have KP6 := Lib.hid (show Blk w6 gp 9 (rowP Q (m + 1)) from (t6.block _ XKP.out.lt (by rintro (h1 | h1) <;> omega)).trans XKP.out)
      have B6 := Lib.hid (t6.below XB.out (fun k hk => by rw [HGR.out]; rcases hk with rfl | rfl <;> omega) XB.out.size)
      have c6 := KP6.out.cell k
      rw [hget] at c6
      have f6 := KP6.out.frozen k
      clear r6 k6 t6 hget
      go_wp2_with fail
      go_roundw
      case rel => exact ⟨k + 1, Q ++ [Y], X2, sd2, c, by omega, by go_num, by rw [List.length_append, HQl.out]; rfl, HST, by omega, Blk.far R6.out (p := ⟨gp, k, none⟩) (by show gr ≠ gp; omega) _, KR6.out.far (p := ⟨gp, k, none⟩) (by show gr + 1 ≠ gp; omega) _, KS6.out.far (p := ⟨gp, k, none⟩) (by show gr + 1 + 1 ≠ gp; omega) _, by rw [← HSet.out]; exact KP6.out.set_ k _, B6.out.setCell (p := ⟨gp, k, none⟩) hgw _⟩
      case measure => simp [intOf]; omega
    · have hki : ¬ (k : Int) < (h : Int) := by omega
      obtain rfl : k = h := by omega
      rw [Nat.sub_self, rowP_all] at hkp
      have SL := Lib.hid (strs_of_blk hkp hQl)
      have BX := Lib.hid (B1.out.trans (XB.out.mono B1.out.size))
      have ks := hks.cell 0
      have kr := XKR.out.cell 0
      clear hkp hks
      cases sd
      · have HNO := Lib.hid (G.out.none_)
        clear G hlt
        go_wp2_with fail
        go_ret
        exact ⟨ret_bool (verB_no (not_valid p msg sig _ h7 HP8.out HNO.out)).symm, BX.out⟩
      · obtain ⟨rfl, Gx, hs160⟩ := G.out.parts
        have GX := Lib.hid Gx
        have HQE := Lib.hid (end_any gr X false wr XR.out)
        clear G Gx hlt
        by_cases hx0 : X.size = 0
        · have hend : (!false && decide (X.size = 0)) = true := by simp [hx0]
          rw [hend] at HQE
          by_cases hin : I < M
          · have hini : ¬ (M : Int) ≤ (I : Int) := by omega
            have hini2 : ¬ M ≤ I := by omega
            have HPA := Lib.hid (GX.out.yes hQl hx0 (by rw [HM.out]; exact hin) hs160)
            have HFr := Lib.hid (fun w ht => wfrom_any s msg (by omega) hm w ht)
            have hF32 := gfromB_32 s msg hs160
            obtain ⟨F, hF⟩ : ∃ F, fromB s msg = F := ⟨_, rfl⟩
            rw [hF] at HFr hF32
            have HCl := Lib.hid (fun a w hs ht => treeR.climb F (I : Int) Q a k k w (by omega) (by omega) (by omega) (fun y hy => by have := GX.out.each y hy; unfold TM; omega) hs ht)
            obtain ⟨C, hC⟩ : ∃ C, climbI F (I : Int) Q = C := ⟨_, rfl⟩
            rw [hC] at HCl
            have hiff := valid_iff p msg sig k I s Q h7 h40 HP8.out HPA.out
            have hCe : climbB (fromB s msg) I Q = C := by rw [hF, ← hC]; rfl
            rw [hCe, HE.out] at hiff
            have HV := Lib.hid hiff
            have hIw : IntKind.i64.wrap (I : Int) = (I : Int) := by rw [IntKind.wrap_i64]; omega
            have TX := Lib.hid (tab_below HT.out BX.out)
            clear hF hC hiff hCe hend hx0 hQl hin
            go_wp2_with fail
            refine HQE.out.mono ?_
            rintro e w6 ⟨rfl, rfl⟩
            go_wp2_with fail
            refine (HFr.out _ TX.out).mono ?_
            rintro e w7 ⟨rfl, h7b⟩
            have S7 := Lib.hid (SL.out.below h7b)
            have B7 := Lib.hid (BX.out.trans (h7b.mono BX.out.size))
            have T7 := Lib.hid (tab_below HT.out B7.out)
            clear h7b
            go_wp2_with fail
            refine (HCl.out _ _ S7.out T7.out).mono ?_
            rintro e w8 ⟨rfl, h8b⟩
            have B8 := Lib.hid (B7.out.trans (h8b.mono B7.out.size))
            clear h8b
            go_wp2_with fail
            go_ret
            refine ⟨ret_bool ?_, B8.out⟩
            by_cases hCE : C = E
            · rw [verB_yes (HV.out.2 hCE), hCE]
              simp
            · rw [verB_no (fun v => hCE (HV.out.1 v))]
              exact gtext_no hCE
          · have hini : (M : Int) ≤ (I : Int) := by omega
            have HNO := Lib.hid (GX.out.no_num h7 hQl (by rw [HM.out]; exact hin))
            clear hend hx0 hin
            go_wp2_with fail
            refine HQE.out.mono ?_
            rintro e w6 ⟨rfl, rfl⟩
            go_wp2_with fail
            go_ret
            exact ⟨ret_bool (verB_no (not_valid p msg sig _ h7 HP8.out (HNO.out))).symm, BX.out⟩
        · have hend : (!false && decide (X.size = 0)) = false := by simp [hx0]
          rw [hend] at HQE
          have HNO := Lib.hid (GX.out.no_end h7 hQl hx0)
          clear hend hx0
          go_wp2_with fail
          refine HQE.out.mono ?_
          rintro e w6 ⟨rfl, rfl⟩
          go_wp2_with fail
          go_ret
          exact ⟨ret_bool (verB_no (not_valid p msg sig _ h7 HP8.out (HNO.out))).symm, BX.out⟩

theorem gver_any (p msg sig : ByteArray) (w : World) (hp : p.size ≤ 140737488353000) (hm : msg.size ≤ 140737488351232) (hs : sig.size ≤ 140737488353000) (hT : Tab w) :
    Calls Tryz.prog 14 #[.string p, .string msg, .string sig] w fun e w' => e = .returned (.bool (verB p msg sig)) ∧ Below w.heap.size w w' := by
  by_cases h40 : p.size = 40
  · obtain ⟨H, hH⟩ : ∃ H, num (p.data.toList.take 8) = H := ⟨_, rfl⟩
    by_cases h7 : 7 < H
    · exact gver_high p msg sig w h40 H hH h7
    · have hp8 : p.data.toList.take 8 = be 8 H := by
        have h := be_num (p.data.toList.take 8)
        rw [show (p.data.toList.take 8).length = 8 by rw [List.length_take, size_list]; omega, hH] at h
        exact h.symm
      exact gver_ok p msg sig w hm hs hT h40 H hH (by omega) hp8
  · exact gver_size p msg sig w hp h40
end Go.Proofs.YtnbaoihamjdjdaaGreatDoor.Sp

/- Package signer: the program's own calls, in the form in which the walks of the statements use them. -/
namespace Go.Proofs.YtnbaoihamjdjdaaGreatDoor.Sp
open Go Go.RowKit

theorem sigR : SigR Sg0 where
  lt s := s.lt
  keep s hb hz := s.keep hb hz
  new_ok seed h n w hs h7 hn hT := gnew_ok seed h n w hs h7 hn hT
  new_no seed h n w _ hh hn hno _ := gnew_no seed h n w hh hn hno
  pub w F g seed h n s hT := (gpub_any w F g seed h n s hT).mono fun _ _ ⟨he, hb⟩ => ⟨F, he, s.keep (fun k hk => hb.block k (s.lt k hk)) hb.size, Turned.of_below hb, Within.refl _ _⟩
  spent w F g seed h n s _ := (gspent_any w F g seed h n s).mono fun _ _ ⟨he, hb⟩ => ⟨F, he, by rw [← hb]; exact s, by rw [← hb]; exact Turned.refl _ _, Within.refl _ _⟩
  sign_ok w F g seed h n msg s hn hm hT := gsign_ok w F g seed h n msg s hn hm hT
  sign_no w F g seed h n msg s hn _ _ := (gsign_no w F g seed h n msg s hn).mono fun _ _ ⟨he, hb⟩ => ⟨F, he, s.keep (fun k hk => hb.block k (s.lt k hk)) hb.size, Turned.of_below hb, Within.refl _ _⟩
  verify p msg sig w hp hm hs hT := gver_any p msg sig w hp hm hs hT
end Go.Proofs.YtnbaoihamjdjdaaGreatDoor.Sp
