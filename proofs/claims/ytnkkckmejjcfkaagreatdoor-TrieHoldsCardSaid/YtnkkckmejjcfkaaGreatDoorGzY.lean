/- The document's own hash of a subtree, with its inputs. -/
import Derived.Test.YtnkkckmejjcfkaaGreatDoorGzX
import Derived.Deep.RegionHeld3
import Derived.Deep.RegionLaw
import Derived.Test.YtnkkckmejjcfkaaGreatDoorGzW
namespace Go.Proofs.YtnkkckmejjcfkaaGreatDoor.Sp
open Go Go.RowKit
set_option maxRecDepth 100000

theorem filt_sum (d : Nat) : ∀ l : List Ent, (filt 0 d l).length + (filt 1 d l).length = l.length
  | [] => rfl
  | e :: l => by
    have ih := filt_sum d l
    unfold filt at ih ⊢
    rcases bitN_two e.1 d with h | h
    · simp [h]; omega
    · simp [h]; omega
theorem inputsF_len : ∀ (n d : Nat) (l : List Ent), Fit n d l → 1 ≤ (inputsF n d l).length ∧ (inputsF n d l).length ≤ 2 * (n * l.length) + 1
  | n, d, [], _ => by cases n <;> simp [inputsF]
  | n, d, [e], _ => by cases n <;> simp [inputsF]
  | 0, d, e :: f :: l, h => (h.zero).elim
  | n + 1, d, e :: f :: l, h => by
    have h0 := inputsF_len n (d + 1) _ (h.down 0)
    have h1 := inputsF_len n (d + 1) _ (h.down 1)
    have hs := filt_sum d (e :: f :: l)
    rw [inputsF]
    obtain ⟨L, hL⟩ : ∃ L, e :: f :: l = L := ⟨_, rfl⟩
    have hL2 : 2 ≤ L.length := by rw [← hL]; simp
    rw [hL] at h0 h1 hs ⊢
    simp only [List.length_append, List.length_cons, List.length_nil]
    have hm : n * (filt 0 d L).length + n * (filt 1 d L).length = n * L.length := by rw [← Nat.mul_add, hs]
    rw [Nat.add_mul]
    omega

theorem UpTo.from {x : ByteArray} {l : List ByteArray} {w w' : World} {g : Nat} (hl : l.length = 1) (h : Strs w' (some ⟨g, 0, none⟩) 1 l) (hb : Below w.heap.size w w') (hg : w.heap.size ≤ g) (hg2 : g < w'.heap.size) : UpTo x l w (.returned (.tuple #[.string x, .slice (some ⟨g, 0, none⟩) 1 1])) w' :=
  ⟨some ⟨g, 0, none⟩, 1, by rw [hl], by rw [hl]; exact h, hb, fun p hp => by injection hp with hp; subst hp; exact ⟨hg, hg2⟩, by omega⟩

set_option maxHeartbeats 1000000 in
theorem qhash_nil (a : Option Addr) (cap d : Nat) (w : World) (hT : Tabs w) :
    Calls Tryz.prog 43 #[.slice a 0 cap, .int .i64 (d : Int)] w (UpTo nothingB [inT 9 []] w) := by
  have HT := Lib.hid hT
  have HN := Lib.hid (qnothing_any w hT)
  obtain ⟨V, hV⟩ : ∃ V, inT 9 [] = V := ⟨_, rfl⟩
  have HI := Lib.hid (fun w => qin_none w)
  rw [hV] at HI ⊢
  obtain ⟨R, hR⟩ : ∃ R, nothingB = R := ⟨_, rfl⟩
  rw [hR] at HN ⊢
  clear hT hV hR
  go_enter Tryz.func43, Tryz.ntmps43
  go_wp2_with fail
  refine HN.out.mono ?_
  rintro e w1 ⟨rfl, h1⟩
  have B1 := Lib.hid h1
  clear h1
  go_wp2_with fail
  refine (HI.out w1).mono ?_
  rintro e w2 ⟨rfl, h2⟩
  have B2 := Lib.hid (B1.out.trans (h2.mono B1.out.size))
  clear h2
  go_wp2_with fail
  go_ret2
  exact UpTo.from rfl (strs_blk (ss := [V]) (Blk.new w2 9 #[.string V]) rfl) (B2.out.alloc B2.out.size _) B2.out.size (by simp)

set_option maxHeartbeats 1000000 in
theorem qhash_one (x : Ent) (a : Option Addr) (cap d : Nat) (w : World) (hx : x.1.size = 32) (hv : x.2.size ≤ 140737488351232) (hE : Ents w a 1 [x]) (hT : Tabs w) :
    Calls Tryz.prog 43 #[.slice a 1 cap, .int .i64 (d : Int)] w (UpTo (leafB x.1 x.2) [inT 7 [x.1, x.2]] w) := by
  have HT := Lib.hid hT
  obtain ⟨bb, off, rfl, hcell⟩ := hE.2 (by omega)
  obtain ⟨k1, k2⟩ := hcell 0 x rfl
  rw [Nat.zero_mul, Nat.add_zero] at k1 k2
  have hbw := block_lt_of_cell k1
  obtain ⟨X, hX⟩ : ∃ X, x.1 = X := ⟨_, rfl⟩
  obtain ⟨Y, hY⟩ : ∃ Y, x.2 = Y := ⟨_, rfl⟩
  rw [hX] at hx k1 ⊢
  rw [hY] at hv k2 ⊢
  have K1 := Lib.hid k1
  have K2 := Lib.hid k2
  have HN := Lib.hid (fun w' (hb : Below w.heap.size w w') => qleaf_any X Y w' (by omega) (hT.below hb))
  have HI := Lib.hid (fun g c w hs => qin_two 7 (by omega) X Y g c w hs (by omega))
  obtain ⟨V, hV⟩ : ∃ V, inT 7 [X, Y] = V := ⟨_, rfl⟩
  rw [show inT (UInt8.ofNat 7) [X, Y] = V from hV] at HI
  rw [hV]
  obtain ⟨R, hR⟩ : ∃ R, leafB X Y = R := ⟨_, rfl⟩
  rw [hR] at HN ⊢
  clear hT hV hR hcell hE
  go_enter Tryz.func43, Tryz.ntmps43
  go_wp2_with fail
  have SS : w.drew.cell? ⟨bb, off, none⟩ = some (.string X) ∧ w.drew.cell? ⟨bb, off + 1, none⟩ = some (.string Y) := ⟨k1, k2⟩
  have SA : ∀ (W : World) (o : Obj), (W.cell? ⟨bb, off, none⟩ = some (.string X) ∧ W.cell? ⟨bb, off + 1, none⟩ = some (.string Y)) → ((W.alloc o).cell? ⟨bb, off, none⟩ = some (.string X) ∧ (W.alloc o).cell? ⟨bb, off + 1, none⟩ = some (.string Y)) := fun W o h => ⟨(((Below.refl W.heap.size W).alloc (Nat.le_refl _) o).cell (p := ⟨bb, off, none⟩) (block_lt_of_cell h.1)).trans h.1, (((Below.refl W.heap.size W).alloc (Nat.le_refl _) o).cell (p := ⟨bb, off + 1, none⟩) (block_lt_of_cell h.2)).trans h.2⟩
  go_region_held3 (fun w' => w'.cell? ⟨bb, off, none⟩ = some (.string X) ∧ w'.cell? ⟨bb, off + 1, none⟩ = some (.string Y)) ((first | (with_reducible assumption) | exact SS | exact SA w _ SS | exact SA w1 _ SS1 | exact SA w2 _ SS2 | exact SS1 | exact SS2)) ((first
    | (go_at_call 55; refine (HN.out _ (by first | exact Below.refl _ _ | exact (Below.refl _ _).drew | exact (Below.refl _ _).alloc (Nat.le_refl _) _ | exact ((Below.refl _ _).alloc (Nat.le_refl _) _).drew)).mono ?_; rintro e w1 ⟨rfl, h1⟩; have B1 := Lib.hid (show Below w.heap.size w w1 from (by first | exact h1 | exact (Below.refl _ _).drew.trans h1 | exact ((Below.refl _ _).alloc (Nat.le_refl _) _).trans (h1.mono (by simp)) | exact (((Below.refl _ _).alloc (Nat.le_refl _) _).drew).trans (h1.mono (by simp)))); have b1 := B1.out.size; have SS1 : w1.cell? ⟨bb, off, none⟩ = some (.string X) ∧ w1.cell? ⟨bb, off + 1, none⟩ = some (.string Y) := ⟨(B1.out.cell (p := ⟨bb, off, none⟩) hbw).trans K1.out, (B1.out.cell (p := ⟨bb, off + 1, none⟩) hbw).trans K2.out⟩; have c1 := SS1.1; have c2 := SS1.2; have h9 := Lib.hid h1; clear h1)
    | (go_at_call 30; refine (HI.out _ _ _ (by first | exact strs_blk (Blk.new _ 9 _) rfl | exact strs_blk (Blk.drew (Blk.new _ 9 _)) rfl | exact strs_blk ((Blk.new w 9 _).below h9.out (by simp)) rfl | exact strs_blk (((Blk.new w 9 _).drew).below h9.out (by simp)) rfl | exact strs_blk ((((Blk.new w 9 _).drew).below h9.out (by simp)).drew) rfl)).mono ?_; rintro e w2 ⟨rfl, h2⟩; have B2 := Lib.hid (show Below w.heap.size w w2 from (by first | exact B1.out.trans (h2.mono b1) | exact (B1.out.alloc b1 _).trans (h2.mono ((B1.out.alloc b1 _).size)) | exact ((B1.out.alloc b1 _).drew).trans (h2.mono ((B1.out.alloc b1 _).size)))); have SS2 : w2.cell? ⟨bb, off, none⟩ = some (.string X) ∧ w2.cell? ⟨bb, off + 1, none⟩ = some (.string Y) := ⟨(B2.out.cell (p := ⟨bb, off, none⟩) hbw).trans K1.out, (B2.out.cell (p := ⟨bb, off + 1, none⟩) hbw).trans K2.out⟩; clear h2)))
  all_goals
    go_wp2_with fail
    go_ret2
    exact UpTo.from rfl (strs_blk (ss := [V]) (Blk.new w2 9 #[.string V]) rfl) (B2.out.alloc B2.out.size _) B2.out.size (by simp)
end Go.Proofs.YtnkkckmejjcfkaaGreatDoor.Sp

/- The document's own hash of a subtree: of several. -/
namespace Go.Proofs.YtnkkckmejjcfkaaGreatDoor.Sp
open Go Go.RowKit
set_option maxRecDepth 100000

set_option maxHeartbeats 4000000 in
theorem qhash_many (L : List Ent) (_n d : Nat) (hm2 : 2 ≤ L.length) (hm : L.length ≤ 1000000) (hd : d < 256) (hsz : ∀ e ∈ L, e.1.size = 32) (A B : ByteArray) (I J : List ByteArray) (hA : A.size = 32) (hB : B.size = 32) (hI : 1 ≤ I.length ∧ I.length ≤ 1000000000) (hJ : 1 ≤ J.length ∧ J.length ≤ 1000000000)
    (iha : ∀ (a : Option Addr) (c : Nat) (w : World), Ents w a (filt 0 d L).length (filt 0 d L) → Tabs w → Calls Tryz.prog 43 #[.slice a (filt 0 d L).length c, .int .i64 ((d + 1 : Nat) : Int)] w (UpTo A I w))
    (ihb : ∀ (a : Option Addr) (c : Nat) (w : World), Ents w a (filt 1 d L).length (filt 1 d L) → Tabs w → Calls Tryz.prog 43 #[.slice a (filt 1 d L).length c, .int .i64 ((d + 1 : Nat) : Int)] w (UpTo B J w))
    (a : Option Addr) (cap : Nat) (w : World) (hE : Ents w a L.length L) (hT : Tabs w) :
    Calls Tryz.prog 43 #[.slice a L.length cap, .int .i64 (d : Int)] w (UpTo (innerB A B) (I ++ J ++ [inT 8 [A, B]]) w) := by
  obtain ⟨m, em⟩ : ∃ m, L.length = m := ⟨_, rfl⟩
  rw [em] at hm2 hm hE ⊢
  have hm0 : ¬ (m : Int) = 0 := by omega
  have hm1 : ¬ (m : Int) = 1 := by omega
  have hdw : IntKind.i64.wrap ((d : Int) + 1) = ((d + 1 : Nat) : Int) := by rw [IntKind.wrap_i64]; omega
  have P0 := Lib.hid (fun w hE => qpart_any L a m cap d 0 (by omega) hd (by omega) hsz w hE)
  have P1 := Lib.hid (fun w hE => qpart_any L a m cap d 1 (by omega) hd (by omega) hsz w hE)
  obtain ⟨L0, e0⟩ : ∃ L0, filt 0 d L = L0 := ⟨_, rfl⟩
  obtain ⟨L1, e1⟩ : ∃ L1, filt 1 d L = L1 := ⟨_, rfl⟩
  rw [e0] at P0 iha
  rw [e1] at P1 ihb
  have HA := Lib.hid iha
  have HB := Lib.hid ihb
  have HE := Lib.hid hE
  have HT := Lib.hid hT
  have HIl := Lib.hid (And.intro hI hJ)
  obtain ⟨V, hV⟩ : ∃ V, inT 8 [A, B] = V := ⟨_, rfl⟩
  have HV := Lib.hid (fun g c w hs => qin_two 8 (by omega) A B g c w hs (by omega))
  rw [show inT (UInt8.ofNat 8) [A, B] = V from hV] at HV
  rw [hV]
  have HN := Lib.hid (fun w ht => qinner_any A B w (by omega) ht)
  obtain ⟨W, hW⟩ : ∃ W, innerB A B = W := ⟨_, rfl⟩
  rw [hW] at HN ⊢
  obtain ⟨R, hR⟩ : ∃ R, I ++ J ++ [V] = R := ⟨_, rfl⟩
  rw [hR]
  have HR := Lib.hid hR
  clear iha ihb hE hT hsz e0 e1 hI hJ em hV hW hR
  go_enter Tryz.func43, Tryz.ntmps43
  go_wp2_with fail
  refine (P0.out w HE.out).mono ?_
  rintro e w1 ⟨a1, c1, rfl, hs1, h1, hf1, hc1⟩
  have S1 := Lib.hid hs1
  have B1 := Lib.hid h1
  clear h1 hs1 hf1 hc1
  go_wp2_with fail
  refine (HA.out a1 c1 w1 S1.out (HT.out.below B1.out)).mono ?_
  rintro e w2 ⟨a2, c2, rfl, hs2, h2, hf2, hc2⟩
  have S2 := Lib.hid hs2
  have B2 := Lib.hid (B1.out.trans (h2.mono B1.out.size))
  have F2 := Lib.hid hf2
  clear h2 hs2 hf2
  go_wp2_with fail
  refine (P1.out w2 (HE.out.below (B2.out.mono (Nat.le_refl _)))).mono ?_
  rintro e w3 ⟨a3, c3, rfl, hs3, h3, hf3, hc3⟩
  have S3 := Lib.hid hs3
  have B3 := Lib.hid (B2.out.trans (h3.mono B2.out.size))
  have X3 := Lib.hid (S2.out.below h3)
  clear h3 hs3 hf3 hc3
  go_wp2_with fail
  refine (HB.out a3 c3 w3 S3.out (HT.out.below B3.out)).mono ?_
  rintro e w4 ⟨a4, c4, rfl, hs4, h4, hf4, hc4⟩
  have S4 := Lib.hid hs4
  have B4 := Lib.hid (B3.out.trans (h4.mono B3.out.size))
  have X4 := Lib.hid (X3.out.below h4)
  have b4 := B4.out.size
  clear h4 hs4 hf4
  obtain ⟨ni, eni⟩ : ∃ ni, I.length = ni := ⟨_, rfl⟩
  obtain ⟨nj, enj⟩ : ∃ nj, J.length = nj := ⟨_, rfl⟩
  rw [eni] at X4 HIl ⊢
  rw [enj] at S4 HIl ⊢
  have hni := HIl.out.1
  have hnj := HIl.out.2
  obtain ⟨i0, hi0, hz0, hz1, hz2⟩ := info_parts infoText
  obtain ⟨bi, oi, rfl, hci⟩ := X4.out.2 (by omega)
  obtain ⟨bj, oj, rfl, hcj⟩ := S4.out.2 (by omega)
  have hadd : ∀ (b o j : Nat), (⟨b, o, none⟩ : Addr).add j = ⟨b, o + j, none⟩ := fun b o j => by unfold Addr.add; split <;> simp_all
  have new1 : ∀ (j : Nat) (u : Value), (I.map Value.string)[j]? = some u → w4.cell? ((⟨bi, oi, none⟩ : Addr).add j) = some u := fun j u hu => by
    rw [List.getElem?_map, Option.map_eq_some_iff] at hu
    obtain ⟨t, ht, rfl⟩ := hu
    have hj := (List.getElem?_eq_some_iff.1 ht).1
    rw [hadd, hci j (by omega), List.getD_eq_getElem?_getD, ht]; rfl
  have hI1 : (I.map Value.string).length = ni * 1 := by rw [List.length_map, eni, Nat.mul_one]
  have hJ1 : (J.map Value.string).length = nj * 1 := by rw [List.length_map, enj, Nat.mul_one]
  have hone : ∀ (l : List ByteArray), ∀ u ∈ l.map Value.string, u.oneCell' = true := fun l u hu => by
    obtain ⟨t, _, rfl⟩ := List.mem_map.1 hu; rfl
  go_wp2_with (at_builtin; refine wpList_append_own _ rfl (.const (.slice none 0 0)) (.tmp 58) 37 rfl w.heap.size 9 i0 (.string .empty) 1 16 Tryz.underlying37 hi0 hz0 hz1 hz2 rfl (by decide) (.slice none 0 0) 0 [] rfl (World.ownsRow_nil _ _ _ _) ⟨bi, oi, none⟩ ni c2 (I.map Value.string) rfl hI1 new1 (hone I) (by unfold maxLen; omega) (by omega) b4 ?_)
  intro v5 w5 hown5 hgrow5 _
  have B5 := Lib.hid (show Below w.heap.size w w5 from B4.out.grown hgrow5 b4 (fun k' hk' => by cases hk'))
  have b5 := B5.out.size
  have new2 : ∀ (j : Nat) (u : Value), (J.map Value.string)[j]? = some u → w5.cell? ((⟨bj, oj, none⟩ : Addr).add j) = some u := fun j u hu => by
    rw [List.getElem?_map, Option.map_eq_some_iff] at hu
    obtain ⟨t, ht, rfl⟩ := hu
    have hj := (List.getElem?_eq_some_iff.1 ht).1
    have hc5 := World.grownBy.cell hgrow5 (a := ⟨bj, oj + j, none⟩) (hcj j (by omega)) (by simp [Value.ownBlock])
    rw [hadd, hc5, List.getD_eq_getElem?_getD, ht]; rfl
  have HO5 := Lib.hid (show w5.ownsRow w.heap.size 9 1 v5 ni (I.map Value.string) from by first | exact hown5 | (rw [Nat.zero_add, List.nil_append] at hown5; exact hown5))
  clear hown5 hgrow5 new1
  go_wp2_with (at_builtin; refine wpList_append_own _ rfl (.tmp 59) (.tmp 60) 37 rfl w.heap.size 9 i0 (.string .empty) 1 16 Tryz.underlying37 hi0 hz0 hz1 hz2 rfl (by decide) v5 ni (I.map Value.string) rfl HO5.out ⟨bj, oj, none⟩ nj c4 (J.map Value.string) rfl hJ1 new2 (hone J) (by unfold maxLen; omega) (by omega) b5 ?_)
  intro v6 w6 hown6 hgrow6 _
  have B6 := Lib.hid (show Below w.heap.size w w6 from B5.out.grown hgrow6 b5 (fun k' hk' => (HO5.out.lt k' hk').1))
  have HO6 := Lib.hid hown6
  have T6 := Lib.hid (HT.out.below B6.out)
  obtain ⟨nk, enk⟩ : ∃ nk, ni + nj = nk := ⟨_, rfl⟩
  have hnk : nk ≤ 2000000000 := by omega
  rw [enk] at HO6
  obtain ⟨Xs, eXs⟩ : ∃ Xs, I.map Value.string ++ J.map Value.string = Xs := ⟨_, rfl⟩
  rw [eXs] at HO6
  have EXs := Lib.hid (And.intro eXs (And.intro enk (And.intro eni enj)))
  clear hown6 hgrow6 new2 hone hadd hI1 hJ1 hci hcj eXs enk eni enj hni hnj
  go_wp2_with fail
  refine (HN.out w6 T6.out).mono ?_
  rintro e w7 ⟨rfl, h7⟩
  have B7 := Lib.hid (B6.out.trans (h7.mono B6.out.size))
  have O7 := Lib.hid (own_below HO6.out h7)
  clear h7
  go_wp2_with fail
  refine (HV.out w7.heap.size 2 _ (strs_blk (ss := [A, B]) (Blk.new w7 9 _) rfl)).mono ?_
  rintro e w8 ⟨rfl, h8⟩
  have B8 := Lib.hid ((B7.out.alloc B7.out.size (.cells #[.string A, .string B] 9)).trans (h8.mono ((B7.out.alloc B7.out.size (.cells #[.string A, .string B] 9)).size)))
  have O8 := Lib.hid (own_below (O7.out.alloc (.cells #[.string A, .string B] 9)) h8)
  have b8 := B8.out.size
  clear h8
  go_wp2_with (at_builtin; refine wpList_append_own _ rfl (.tmp 65) (.tmp 70) 37 rfl w.heap.size 9 i0 (.string .empty) 1 16 Tryz.underlying37 hi0 hz0 hz1 hz2 rfl (by decide) v6 nk Xs rfl (O8.out.alloc _) ⟨w8.heap.size, 0, none⟩ 1 1 [.string V] rfl rfl (by intro j u hj; exact new_cell _ _ _ hj) (by intro u hu; simp at hu; subst hu; rfl) (by unfold maxLen; omega) (by omega) (by simp; omega) ?_)
  intro v9 w9 hown9 hgrow9 _
  have B9 := Lib.hid (show Below w.heap.size w w9 from (B8.out.alloc b8 _).grown hgrow9 (by simp; omega) (fun k' hk' => (O8.out.lt k' hk').1))
  have O9 : OwnT w9 w.heap.size v9 R := by
    unfold OwnT
    rw [← HR.out, List.map_append, List.map_append, List.length_append, List.length_append, EXs.out.1, EXs.out.2.2.1, EXs.out.2.2.2, EXs.out.2.1]
    exact hown9
  obtain ⟨ar, cr, hv, hSr, hfr, hcr⟩ := O9.strs_
  subst hv
  have HEnd := Lib.hid (show UpTo W R w (.returned (.tuple #[.string W, .slice ar R.length cr])) w9 from ⟨ar, cr, rfl, hSr, B9.out, hfr, hcr⟩)
  clear hown9 hgrow9 O9 hSr hfr hcr
  go_wp2_with fail
  go_ret2
  exact HEnd.out
end Go.Proofs.YtnkkckmejjcfkaaGreatDoor.Sp

/- The document's own hash of any subtree; its Root and Inputs. -/
namespace Go.Proofs.YtnkkckmejjcfkaaGreatDoor.Sp
open Go Go.RowKit
set_option maxRecDepth 100000

theorem Fit.len_in {n d : Nat} {l : List Ent} (h : Fit n d l) (hm : l.length ≤ 1000000) : 1 ≤ (inputsF n d l).length ∧ (inputsF n d l).length ≤ 1000000000 := by
  obtain ⟨h1, h2⟩ := inputsF_len n d l h
  have hn : n ≤ 256 := by have := h.len; omega
  have h3 : n * l.length ≤ 256 * 1000000 := Nat.mul_le_mul hn hm
  omega
theorem qhash_any : ∀ (n d : Nat) (l : List Ent), Fit n d l → (∀ e ∈ l, e.2.size ≤ 140737488351232) → l.length ≤ 1000000 → ∀ (a : Option Addr) (cap : Nat) (w : World), Ents w a l.length l → Tabs w →
    Calls Tryz.prog 43 #[.slice a l.length cap, .int .i64 (d : Int)] w (UpTo (hashF n d l) (inputsF n d l) w)
  | n, d, [], _, _, _, a, cap, w, _, hT => by
    have e1 : hashF n d [] = nothingB := by cases n <;> rfl
    have e2 : inputsF n d [] = [inT 9 []] := by cases n <;> rfl
    rw [e1, e2]
    exact qhash_nil a cap d w hT
  | n, d, [x], hf, hv, _, a, cap, w, hE, hT => by
    have e1 : hashF n d [x] = leafB x.1 x.2 := by cases n <;> rfl
    have e2 : inputsF n d [x] = [inT 7 [x.1, x.2]] := by cases n <;> rfl
    rw [e1, e2]
    exact qhash_one x a cap d w (hf.size x (by simp)) (hv x (by simp)) hE hT
  | 0, d, e :: f :: l, hf, _, _, _, _, _, _, _ => (hf.zero).elim
  | n + 1, d, e :: f :: l, hf, hv, hm, a, cap, w, hE, hT => by
    obtain ⟨L, hL⟩ : ∃ L, L = e :: f :: l := ⟨_, rfl⟩
    have h2 : 2 ≤ L.length := by rw [hL]; simp
    have e1 : hashF (n + 1) d (e :: f :: l) = innerB (hashF n (d + 1) (filt 0 d L)) (hashF n (d + 1) (filt 1 d L)) := by rw [hashF, hL]
    have e2 : inputsF (n + 1) d (e :: f :: l) = inputsF n (d + 1) (filt 0 d L) ++ inputsF n (d + 1) (filt 1 d L) ++ [inT 8 [hashF n (d + 1) (filt 0 d L), hashF n (d + 1) (filt 1 d L)]] := by rw [inputsF, hL]
    rw [e1, e2]
    rw [← hL] at hf hv hm hE ⊢
    have l0 : (filt 0 d L).length ≤ 1000000 := Nat.le_trans (filt_len _ _ _) hm
    have l1 : (filt 1 d L).length ≤ 1000000 := Nat.le_trans (filt_len _ _ _) hm
    have i0 := fun a c w h1 h2 => qhash_any n (d + 1) (filt 0 d L) (hf.down 0) (fun x hx => hv x (filt_mem.1 hx).1) l0 a c w h1 h2
    have i1 := fun a c w h1 h2 => qhash_any n (d + 1) (filt 1 d L) (hf.down 1) (fun x hx => hv x (filt_mem.1 hx).1) l1 a c w h1 h2
    exact qhash_many L n d h2 hm (by have := hf.len; omega) hf.size _ _ _ _ (hashF_32 _ _ _) (hashF_32 _ _ _) ((hf.down 0).len_in l0) ((hf.down 1).len_in l1) i0 i1 a cap w hE hT

set_option maxHeartbeats 1000000 in
theorem qroot_any (w : World) (F : Nat → Prop) (g : Nat) (l : List Ent) (s : Tq w F g l) (hlen : l.length ≤ 1000000) (hT : Tabs w) :
    Calls Tryz.prog 17 #[.pointer (some ⟨g, 0, none⟩)] w (TgTo Tq w F g l (.string (rootF l))) := by
  have hend : ∀ (w1 : World), Below w.heap.size w w1 → TgTo Tq w F g l (.string (rootF l)) (.returned (.string (rootF l))) w1 := fun w1 h1 => ⟨F, rfl, s.below h1, Turned.of_below h1, Within.refl F w⟩
  have HEnd := Lib.hid hend
  clear hend
  obtain ⟨hfit, hval⟩ := s.fit
  obtain ⟨E, al, cl, hperm, hblk, hE, _⟩ := s
  have c0 := hblk.cell 0
  have HH := Lib.hid (qhash_any 256 0 E (hfit.perm hperm) (fun e he => hval e (hperm.mem_iff.2 he)) (by rw [← hperm.length_eq]; exact hlen) al cl w hE hT)
  obtain ⟨R, hR⟩ : ∃ R, rootF l = R := ⟨_, rfl⟩
  have hRE : hashF 256 0 E = R := by rw [← hR]; exact (root_perm hfit hperm).symm
  rw [hRE] at HH
  rw [hR] at HEnd ⊢
  clear hblk hE hperm hfit hval hT hR hRE hlen
  go_enter Tryz.func17, Tryz.ntmps17
  go_wp2_with fail
  refine HH.out.mono ?_
  rintro e w1 ⟨a1, c1, rfl, hs1, h1, hf1, hc1⟩
  have HX := Lib.hid (show TgTo Tq w F g l (.string R) (.returned (.string R)) w1 from HEnd.out w1 h1)
  clear hs1 h1 hf1 hc1
  go_wp2_with fail
  go_ret
  exact HX.out
set_option maxHeartbeats 1000000 in
theorem qtinputs_any (w : World) (F : Nat → Prop) (g : Nat) (l : List Ent) (s : Tq w F g l) (hlen : l.length ≤ 1000000) (hT : Tabs w) :
    Calls Tryz.prog 28 #[.pointer (some ⟨g, 0, none⟩)] w fun e w' => ∃ (a : Option Addr) (c : Nat), e = .returned (.slice a (inputsF 256 0 l).length c) ∧ Strs w' a (inputsF 256 0 l).length (inputsF 256 0 l) ∧ Below w.heap.size w w' ∧ (∀ p, a = some p → w.heap.size ≤ p.block ∧ p.block < w'.heap.size) ∧ (inputsF 256 0 l).length ≤ c := by
  obtain ⟨hfit, hval⟩ := s.fit
  obtain ⟨E, al, cl, hperm, hblk, hE, _⟩ := s
  have c0 := hblk.cell 0
  have HH := Lib.hid (qhash_any 256 0 E (hfit.perm hperm) (fun e he => hval e (hperm.mem_iff.2 he)) (by rw [← hperm.length_eq]; exact hlen) al cl w hE hT)
  obtain ⟨R, hR⟩ : ∃ R, inputsF 256 0 l = R := ⟨_, rfl⟩
  have hRE : inputsF 256 0 E = R := by rw [← hR]; exact (hash_perm 256 0 l E hperm hfit).2.1.symm
  rw [hRE] at HH
  rw [hR]
  clear hblk hE hperm hfit hval hT hR hRE hlen
  go_enter Tryz.func28, Tryz.ntmps28
  go_wp2_with fail
  refine HH.out.mono ?_
  rintro e w1 ⟨a1, c1, rfl, hs1, h1, hf1, hc1⟩
  have HX := Lib.hid (And.intro hs1 (And.intro h1 (And.intro hf1 hc1)))
  clear hs1 h1 hf1 hc1
  go_wp2_with fail
  go_ret
  exact ⟨a1, c1, rfl, HX.out⟩
end Go.Proofs.YtnkkckmejjcfkaaGreatDoor.Sp
