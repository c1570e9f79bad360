/- How the document's own tries are put into. -/
import Derived.Test.YtnkkckmejjcfkaaGreatDoorGzW
import Derived.WalkLawsBesides
namespace Go.Proofs.YtnkkckmejjcfkaaGreatDoor.Sp
open Go Go.RowKit
set_option maxRecDepth 100000

set_option maxHeartbeats 4000000 in
theorem qput_true (w : World) (F : Nat → Prop) (g : Nat) (l : List Ent) (p v : ByteArray) (s : Tq w F g l) (hp : p.size = 32) (hv : v.size ≤ 140737488351232) (hlen : l.length ≤ 1000000) :
    Calls Tryz.prog 60 #[.pointer (some ⟨g, 0, none⟩), .string p, .string v, .bool true] w (TgTo Tq w F g (setF l p v) (.tuple #[])) := by
  obtain ⟨E, al, cl, hperm, hblk, hE, hFg, hFa, hFl, hfit, hval⟩ := s
  obtain ⟨n, en⟩ : ∃ n, E.length = n := ⟨_, rfl⟩
  have hn : n ≤ 1000000 := by rw [← en, ← hperm.length_eq]; exact hlen
  rw [en] at hblk hE
  have HBk := Lib.hid hblk
  have HE := Lib.hid hE
  have HF := Lib.hid (And.intro hFg (And.intro hFa hFl))
  have HP := Lib.hid hperm
  have HFit := Lib.hid (And.intro hfit (And.intro hval (And.intro hp hv)))
  have hgl := hblk.lt
  have c00 := hblk.cell 0
  have HEn := Lib.hid en
  clear hblk hE hFg hFa hFl hperm hfit hval hlen hp hv
  go_enter Tryz.func60, Tryz.ntmps60
  go_wp2_with fail
  go_loopw [8, 9, 10] (fun x z y wr => ∃ (k : Nat) (done : Bool) (o : List Ent), k ≤ n ∧ y = .int .i64 (k : Int) ∧ z = .bool done ∧ (true = false → done = true) ∧ o.Perm (outF true done p v (E.take k)) ∧ OwnE wr w.heap.size x o ∧ Below w.heap.size w wr) (fun _ _ y _ => n - (intOf y).toNat)
  case atStart => exact ⟨0, !true, [], by omega, rfl, rfl, (by decide), List.Perm.refl _, World.ownsRow_nil _ _ _ _, Below.refl _ _⟩
  case round =>
    obtain ⟨k, done, o, hk, rfl, rfl, hd, ho, hown, hbel⟩ := hrel
    have HO := Lib.hid hown
    have HB := Lib.hid hbel
    have HD := Lib.hid hd
    have HPo := Lib.hid ho
    have hbz := hbel.size
    have hol : o.length ≤ k + 1 := by
      have h1 := ho.length_eq
      have h2 := out_len true done p v (E.take k)
      rw [List.length_take] at h2
      omega
    have c0 : wr.cell? ⟨g, 0, none⟩ = _ := (hbel.cell (p := ⟨g, 0, none⟩) hgl).trans c00
    clear hown hbel hd ho
    by_cases hlt : k < n
    · have hki : (k : Int) < (n : Int) := by omega
      have hk0 : (0 : Int) ≤ (k : Int) := by omega
      have hkl : k < E.length := by have := HEn.out; omega
      obtain ⟨x, hx⟩ : ∃ x, E[k]? = some x := ⟨_, List.getElem?_eq_getElem hkl⟩
      obtain ⟨bb, off, rfl, hcell⟩ := HE.out.2 (by omega)
      obtain ⟨k1, k2⟩ := hcell k x hx
      have hbw0 : bb < w.heap.size := block_lt_of_cell k1
      have c1 : wr.cell? ⟨bb, off + k * 2, none⟩ = some (.string x.1) := (HB.out.cell (p := ⟨bb, off + k * 2, none⟩) hbw0).trans k1
      have c2 : wr.cell? ⟨bb, off + k * 2 + 1, none⟩ = some (.string x.2) := (HB.out.cell (p := ⟨bb, off + k * 2 + 1, none⟩) hbw0).trans k2
      have htk : E.take (k + 1) = E.take k ++ [x] := by rw [List.take_add_one, hx]; rfl
      have HTk := Lib.hid htk
      have C1 := Lib.hid k1
      have C2 := Lib.hid k2
      clear htk k1 k2 hcell hx hkl
      by_cases hep : x.1 = p
      · have q1 : (x.1.toList == p.toList) = true := by rw [hep]; exact beq_self_eq_true _
        have HN := Lib.hid (show o.Perm (outF true done p v (E.take (k + 1))) from by rw [HTk.out]; exact out_skip HPo.out hep)
        go_wp2_with fail
        go_roundw
        case rel => exact ⟨k + 1, done, o, by omega, by go_num, rfl, (by first | exact HD.out | exact fun _ => HD.out rfl | simp), HN.out, HO.out, HB.out⟩
        case measure => simp [intOf]; omega
      · have q1 : (x.1.toList == p.toList) = false := by rw [ByteArray.toList_eq, ByteArray.toList_eq, Bool.eq_false_iff]; intro h; exact hep (list_inj (beq_iff_eq.1 h))
        cases done with
        | true =>
          have HN := Lib.hid (show (o ++ [x]).Perm (outF true true p v (E.take (k + 1))) from by rw [HTk.out]; exact out_keep HPo.out hep)
          clear HPo
          obtain ⟨Xa, eXa⟩ : ∃ Xs, entV o = Xs := ⟨_, rfl⟩
          obtain ⟨ma, ema⟩ : ∃ m, List.length o = m := ⟨_, rfl⟩
          have HQa := Lib.hid (show wr.ownsRow w.heap.size 70 2 u8 ma Xa from by have := HO.out; unfold OwnE at this; rw [ema, eXa] at this; exact this)
          have hma : ma + 1 ≤ 2000000 := by rw [← ema]; omega
          have EXa := Lib.hid (And.intro eXa ema)
          obtain ⟨ia, hia, hz0a, hz1a, hz2a⟩ := info_parts infoEnt
          have hk8a : ma + 1 ≤ maxLen := by unfold maxLen; omega
          have hkba : (ma + 1) * 32 ≤ 140737488355328 := by omega
          have hbza := HB.out.size
          clear eXa ema
          go_wp2_with (at_builtin; refine wpList_append_own _ rfl (.tmp 52) (.tmp 60) 58 rfl w.heap.size 70 ia _ 2 32 Tryz.underlying58 hia hz0a hz1a hz2a rfl (by decide) u8 ma Xa rfl (HQa.out.alloc _) ⟨wr.heap.size, 0, none⟩ 1 1 [.string x.1, .string x.2] rfl rfl (by intro j u hj; exact new_cell _ _ _ hj) (by intro u hu; simp at hu; rcases hu with rfl | rfl <;> rfl) hk8a hkba (by simp; omega) ?_)
          intro va wa howna hgrowa _
          have HOa := Lib.hid (show OwnE wa w.heap.size va (o ++ [x]) from by
            unfold OwnE
            rw [entV_append, List.length_append, EXa.out.1, EXa.out.2]
            exact howna)
          have HBa := Lib.hid (show Below w.heap.size w wa from by
            refine (HB.out.alloc hbza _).grown hgrowa (by simp; omega) ?_
            intro k' hk'
            exact (HQa.out.lt k' hk').1)
          clear howna hgrowa hk8a hkba hma
          go_wp2_with fail
          go_roundw
          case rel => exact ⟨k + 1, true, _, by omega, by go_num, rfl, (fun _ => by first | rfl | contradiction), HN.out, HOa.out, HBa.out⟩
          case measure => simp [intOf]; omega
        | false =>
          obtain ⟨G, eG⟩ : ∃ G, Op.bytesLess x.1.toList p.toList = G := ⟨_, rfl⟩
          cases G with
          | true =>
            have HN := Lib.hid (show (o ++ [x]).Perm (outF true false p v (E.take (k + 1))) from by rw [HTk.out]; exact out_keep HPo.out hep)
            clear HPo
            obtain ⟨Xa, eXa⟩ : ∃ Xs, entV o = Xs := ⟨_, rfl⟩
            obtain ⟨ma, ema⟩ : ∃ m, List.length o = m := ⟨_, rfl⟩
            have HQa := Lib.hid (show wr.ownsRow w.heap.size 70 2 u8 ma Xa from by have := HO.out; unfold OwnE at this; rw [ema, eXa] at this; exact this)
            have hma : ma + 1 ≤ 2000000 := by rw [← ema]; omega
            have EXa := Lib.hid (And.intro eXa ema)
            obtain ⟨ia, hia, hz0a, hz1a, hz2a⟩ := info_parts infoEnt
            have hk8a : ma + 1 ≤ maxLen := by unfold maxLen; omega
            have hkba : (ma + 1) * 32 ≤ 140737488355328 := by omega
            have hbza := HB.out.size
            clear eXa ema
            go_wp2_with (at_builtin; refine wpList_append_own _ rfl (.tmp 52) (.tmp 60) 58 rfl w.heap.size 70 ia _ 2 32 Tryz.underlying58 hia hz0a hz1a hz2a rfl (by decide) u8 ma Xa rfl (HQa.out.alloc _) ⟨wr.heap.size, 0, none⟩ 1 1 [.string x.1, .string x.2] rfl rfl (by intro j u hj; exact new_cell _ _ _ hj) (by intro u hu; simp at hu; rcases hu with rfl | rfl <;> rfl) hk8a hkba (by simp; omega) ?_)
            intro va wa howna hgrowa _
            have HOa := Lib.hid (show OwnE wa w.heap.size va (o ++ [x]) from by
              unfold OwnE
              rw [entV_append, List.length_append, EXa.out.1, EXa.out.2]
              exact howna)
            have HBa := Lib.hid (show Below w.heap.size w wa from by
              refine (HB.out.alloc hbza _).grown hgrowa (by simp; omega) ?_
              intro k' hk'
              exact (HQa.out.lt k' hk').1)
            clear howna hgrowa hk8a hkba hma
            go_wp2_with fail
            go_roundw
            case rel => exact ⟨k + 1, false, _, by omega, by go_num, rfl, (fun _ => by simp at *), HN.out, HOa.out, HBa.out⟩
            case measure => simp [intOf]; omega
          | false =>
            have HN := Lib.hid (show ((o ++ [(p, v)]) ++ [x]).Perm (outF true true p v (E.take (k + 1))) from by rw [HTk.out]; exact out_keep (out_put HPo.out) hep)
            clear HPo
            obtain ⟨Xb, eXb⟩ : ∃ Xs, entV o = Xs := ⟨_, rfl⟩
            obtain ⟨mb, emb⟩ : ∃ m, List.length o = m := ⟨_, rfl⟩
            have HQb := Lib.hid (show wr.ownsRow w.heap.size 70 2 u8 mb Xb from by have := HO.out; unfold OwnE at this; rw [emb, eXb] at this; exact this)
            have hmb : mb + 1 ≤ 2000000 := by rw [← emb]; omega
            have EXb := Lib.hid (And.intro eXb emb)
            obtain ⟨ib, hib, hz0b, hz1b, hz2b⟩ := info_parts infoEnt
            have hk8b : mb + 1 ≤ maxLen := by unfold maxLen; omega
            have hkbb : (mb + 1) * 32 ≤ 140737488355328 := by omega
            have hbzb := HB.out.size
            clear eXb emb
            go_wp2_with (at_builtin; refine wpList_append_own _ rfl (.tmp 46) (.tmp 50) 58 rfl w.heap.size 70 ib _ 2 32 Tryz.underlying58 hib hz0b hz1b hz2b rfl (by decide) u8 mb Xb rfl (HQb.out.alloc _) ⟨wr.heap.size, 0, none⟩ 1 1 [.string (p, v).1, .string (p, v).2] rfl rfl (by intro j u hj; exact new_cell _ _ _ hj) (by intro u hu; simp at hu; rcases hu with rfl | rfl <;> rfl) hk8b hkbb (by simp; omega) ?_)
            intro vb wb hownb hgrowb _
            have HOb := Lib.hid (show OwnE wb w.heap.size vb (o ++ [(p, v)]) from by
              unfold OwnE
              rw [entV_append, List.length_append, EXb.out.1, EXb.out.2]
              exact hownb)
            have HBb := Lib.hid (show Below w.heap.size w wb from by
              refine (HB.out.alloc hbzb _).grown hgrowb (by simp; omega) ?_
              intro k' hk'
              exact (HQb.out.lt k' hk').1)
            clear hownb hgrowb hk8b hkbb hmb
            have c0 : wb.cell? ⟨g, 0, none⟩ = _ := (HBb.out.cell (p := ⟨g, 0, none⟩) hgl).trans c00
            have c1 : wb.cell? ⟨bb, off + k * 2, none⟩ = some (.string x.1) := (HBb.out.cell (p := ⟨bb, off + k * 2, none⟩) hbw0).trans C1.out
            have c2 : wb.cell? ⟨bb, off + k * 2 + 1, none⟩ = some (.string x.2) := (HBb.out.cell (p := ⟨bb, off + k * 2 + 1, none⟩) hbw0).trans C2.out
            obtain ⟨Xa, eXa⟩ : ∃ Xs, entV (o ++ [(p, v)]) = Xs := ⟨_, rfl⟩
            obtain ⟨ma, ema⟩ : ∃ m, List.length (o ++ [(p, v)]) = m := ⟨_, rfl⟩
            have HQa := Lib.hid (show wb.ownsRow w.heap.size 70 2 vb ma Xa from by have := HOb.out; unfold OwnE at this; rw [ema, eXa] at this; exact this)
            have hma : ma + 1 ≤ 2000000 := by rw [← ema]; simp; omega
            have EXa := Lib.hid (And.intro eXa ema)
            obtain ⟨ia, hia, hz0a, hz1a, hz2a⟩ := info_parts infoEnt
            have hk8a : ma + 1 ≤ maxLen := by unfold maxLen; omega
            have hkba : (ma + 1) * 32 ≤ 140737488355328 := by omega
            have hbza := HBb.out.size
            clear eXa ema
            go_wp2_with (at_builtin; refine wpList_append_own _ rfl (.tmp 52) (.tmp 60) 58 rfl w.heap.size 70 ia _ 2 32 Tryz.underlying58 hia hz0a hz1a hz2a rfl (by decide) vb ma Xa rfl (HQa.out.alloc _) ⟨wb.heap.size, 0, none⟩ 1 1 [.string x.1, .string x.2] rfl rfl (by intro j u hj; exact new_cell _ _ _ hj) (by intro u hu; simp at hu; rcases hu with rfl | rfl <;> rfl) hk8a hkba (by simp; omega) ?_)
            intro va wa howna hgrowa _
            have HOa := Lib.hid (show OwnE wa w.heap.size va ((o ++ [(p, v)]) ++ [x]) from by
              unfold OwnE
              rw [entV_append, List.length_append, EXa.out.1, EXa.out.2]
              exact howna)
            have HBa := Lib.hid (show Below w.heap.size w wa from by
              refine (HBb.out.alloc hbza _).grown hgrowa (by simp; omega) ?_
              intro k' hk'
              exact (HQa.out.lt k' hk').1)
            clear howna hgrowa hk8a hkba hma
            go_wp2_with fail
            go_roundw
            case rel => exact ⟨k + 1, true, _, by omega, by go_num, rfl, (fun _ => by first | rfl | contradiction), HN.out, HOa.out, HBa.out⟩
            case measure => simp [intOf]; omega

    · have hki : ¬ (k : Int) < (n : Int) := by omega
      obtain rfl : k = n := by omega
      have hb0 := HBk.out.below HB.out hgl
      have f0 := hb0.frozen 0
      have HB0 := Lib.hid hb0
      clear hb0
      cases done with
      | true =>
        obtain ⟨a2, c2, hv2, hE2, hfr2, hc2⟩ := HO.out.ents
        subst hv2
        have HEnd := Lib.hid (tq_put HF.out.1 HF.out.2.2 HB0.out HO.out HB.out (out_set HP.out HEn.out HPo.out) (HFit.out.1.set p v HFit.out.2.2.1) (val_set HFit.out.2.1 HFit.out.2.2.2))
        clear hE2 hfr2 hc2
        go_wp2_with fail
        go_end0
        exact HEnd.out
      | false =>
        have HN := Lib.hid (show (o ++ [(p, v)]).Perm (outF true true p v (E.take k)) from out_put HPo.out)
        have HBg := Lib.hid (HB.out)
        clear HPo
        obtain ⟨Xa, eXa⟩ : ∃ Xs, entV o = Xs := ⟨_, rfl⟩
        obtain ⟨ma, ema⟩ : ∃ m, List.length o = m := ⟨_, rfl⟩
        have HQa := Lib.hid (show wr.ownsRow w.heap.size 70 2 u8 ma Xa from by have := HO.out; unfold OwnE at this; rw [ema, eXa] at this; exact this)
        have hma : ma + 1 ≤ 2000000 := by rw [← ema]; omega
        have EXa := Lib.hid (And.intro eXa ema)
        obtain ⟨ia, hia, hz0a, hz1a, hz2a⟩ := info_parts infoEnt
        have hk8a : ma + 1 ≤ maxLen := by unfold maxLen; omega
        have hkba : (ma + 1) * 32 ≤ 140737488355328 := by omega
        have hbza := HB.out.size
        clear eXa ema
        go_wp2_with (at_builtin; refine wpList_append_own _ rfl (.tmp 64) (.tmp 68) 58 rfl w.heap.size 70 ia _ 2 32 Tryz.underlying58 hia hz0a hz1a hz2a rfl (by decide) u8 ma Xa rfl (HQa.out.alloc _) ⟨wr.heap.size, 0, none⟩ 1 1 [.string (p, v).1, .string (p, v).2] rfl rfl (by intro j u hj; exact new_cell _ _ _ hj) (by intro u hu; simp at hu; rcases hu with rfl | rfl <;> rfl) hk8a hkba (by simp; omega) ?_)
        intro va wa howna hgrowa _
        have HOa := Lib.hid (show OwnE wa w.heap.size va (o ++ [(p, v)]) from by
          unfold OwnE
          rw [entV_append, List.length_append, EXa.out.1, EXa.out.2]
          exact howna)
        have HBa := Lib.hid (show Below w.heap.size w wa from by
          refine (HB.out.alloc hbza _).grown hgrowa (by simp; omega) ?_
          intro k' hk'
          exact (HQa.out.lt k' hk').1)
        clear howna hgrowa hk8a hkba hma
        have c0 : wa.cell? ⟨g, 0, none⟩ = _ := (HBa.out.cell (p := ⟨g, 0, none⟩) hgl).trans c00
        have hba := HBk.out.below HBa.out hgl
        have f0 := hba.frozen 0
        obtain ⟨a2, c2, hv2, hE2, hfr2, hc2⟩ := HOa.out.ents
        subst hv2
        have HEnd := Lib.hid (tq_put HF.out.1 HF.out.2.2 hba HOa.out HBa.out (out_set HP.out HEn.out HN.out) (HFit.out.1.set p v HFit.out.2.2.1) (val_set HFit.out.2.1 HFit.out.2.2.2))
        clear hba hE2 hfr2 hc2
        go_wp2_with fail
        go_end0
        have h9 := HEnd.out
        rw [List.length_append] at h9
        exact h9

set_option maxHeartbeats 4000000 in
theorem qput_false (w : World) (F : Nat → Prop) (g : Nat) (l : List Ent) (p v : ByteArray) (s : Tq w F g l) (hp : p.size = 32) (hv : v.size ≤ 140737488351232) (hlen : l.length ≤ 1000000) :
    Calls Tryz.prog 60 #[.pointer (some ⟨g, 0, none⟩), .string p, .string v, .bool false] w (TgTo Tq w F g (delF l p) (.tuple #[])) := by
  obtain ⟨E, al, cl, hperm, hblk, hE, hFg, hFa, hFl, hfit, hval⟩ := s
  obtain ⟨n, en⟩ : ∃ n, E.length = n := ⟨_, rfl⟩
  have hn : n ≤ 1000000 := by rw [← en, ← hperm.length_eq]; exact hlen
  rw [en] at hblk hE
  have HBk := Lib.hid hblk
  have HE := Lib.hid hE
  have HF := Lib.hid (And.intro hFg (And.intro hFa hFl))
  have HP := Lib.hid hperm
  have HFit := Lib.hid (And.intro hfit (And.intro hval (And.intro hp hv)))
  have hgl := hblk.lt
  have c00 := hblk.cell 0
  have HEn := Lib.hid en
  clear hblk hE hFg hFa hFl hperm hfit hval hlen hp hv
  go_enter Tryz.func60, Tryz.ntmps60
  go_wp2_with fail
  go_loopw [8, 9, 10] (fun x z y wr => ∃ (k : Nat) (done : Bool) (o : List Ent), k ≤ n ∧ y = .int .i64 (k : Int) ∧ z = .bool done ∧ (false = false → done = true) ∧ o.Perm (outF false done p v (E.take k)) ∧ OwnE wr w.heap.size x o ∧ Below w.heap.size w wr) (fun _ _ y _ => n - (intOf y).toNat)
  case atStart => exact ⟨0, !false, [], by omega, rfl, rfl, (by decide), List.Perm.refl _, World.ownsRow_nil _ _ _ _, Below.refl _ _⟩
  case round =>
    obtain ⟨k, done, o, hk, rfl, rfl, hd, ho, hown, hbel⟩ := hrel
    have HO := Lib.hid hown
    have HB := Lib.hid hbel
    have HD := Lib.hid hd
    have HPo := Lib.hid ho
    have hbz := hbel.size
    have hol : o.length ≤ k + 1 := by
      have h1 := ho.length_eq
      have h2 := out_len false done p v (E.take k)
      rw [List.length_take] at h2
      omega
    have c0 : wr.cell? ⟨g, 0, none⟩ = _ := (hbel.cell (p := ⟨g, 0, none⟩) hgl).trans c00
    clear hown hbel hd ho
    by_cases hlt : k < n
    · have hki : (k : Int) < (n : Int) := by omega
      have hk0 : (0 : Int) ≤ (k : Int) := by omega
      have hkl : k < E.length := by have := HEn.out; omega
      obtain ⟨x, hx⟩ : ∃ x, E[k]? = some x := ⟨_, List.getElem?_eq_getElem hkl⟩
      obtain ⟨bb, off, rfl, hcell⟩ := HE.out.2 (by omega)
      obtain ⟨k1, k2⟩ := hcell k x hx
      have hbw0 : bb < w.heap.size := block_lt_of_cell k1
      have c1 : wr.cell? ⟨bb, off + k * 2, none⟩ = some (.string x.1) := (HB.out.cell (p := ⟨bb, off + k * 2, none⟩) hbw0).trans k1
      have c2 : wr.cell? ⟨bb, off + k * 2 + 1, none⟩ = some (.string x.2) := (HB.out.cell (p := ⟨bb, off + k * 2 + 1, none⟩) hbw0).trans k2
      have htk : E.take (k + 1) = E.take k ++ [x] := by rw [List.take_add_one, hx]; rfl
      have HTk := Lib.hid htk
      have C1 := Lib.hid k1
      have C2 := Lib.hid k2
      clear htk k1 k2 hcell hx hkl
      by_cases hep : x.1 = p
      · have q1 : (x.1.toList == p.toList) = true := by rw [hep]; exact beq_self_eq_true _
        have HN := Lib.hid (show o.Perm (outF false done p v (E.take (k + 1))) from by rw [HTk.out]; exact out_skip HPo.out hep)
        go_wp2_with fail
        go_roundw
        case rel => exact ⟨k + 1, done, o, by omega, by go_num, rfl, (by first | exact HD.out | exact fun _ => HD.out rfl | simp), HN.out, HO.out, HB.out⟩
        case measure => simp [intOf]; omega
      · have q1 : (x.1.toList == p.toList) = false := by rw [ByteArray.toList_eq, ByteArray.toList_eq, Bool.eq_false_iff]; intro h; exact hep (list_inj (beq_iff_eq.1 h))
        cases done with
        | true =>
          have HN := Lib.hid (show (o ++ [x]).Perm (outF false true p v (E.take (k + 1))) from by rw [HTk.out]; exact out_keep HPo.out hep)
          clear HPo
          obtain ⟨Xa, eXa⟩ : ∃ Xs, entV o = Xs := ⟨_, rfl⟩
          obtain ⟨ma, ema⟩ : ∃ m, List.length o = m := ⟨_, rfl⟩
          have HQa := Lib.hid (show wr.ownsRow w.heap.size 70 2 u8 ma Xa from by have := HO.out; unfold OwnE at this; rw [ema, eXa] at this; exact this)
          have hma : ma + 1 ≤ 2000000 := by rw [← ema]; omega
          have EXa := Lib.hid (And.intro eXa ema)
          obtain ⟨ia, hia, hz0a, hz1a, hz2a⟩ := info_parts infoEnt
          have hk8a : ma + 1 ≤ maxLen := by unfold maxLen; omega
          have hkba : (ma + 1) * 32 ≤ 140737488355328 := by omega
          have hbza := HB.out.size
          clear eXa ema
          go_wp2_with (at_builtin; refine wpList_append_own _ rfl (.tmp 52) (.tmp 60) 58 rfl w.heap.size 70 ia _ 2 32 Tryz.underlying58 hia hz0a hz1a hz2a rfl (by decide) u8 ma Xa rfl (HQa.out.alloc _) ⟨wr.heap.size, 0, none⟩ 1 1 [.string x.1, .string x.2] rfl rfl (by intro j u hj; exact new_cell _ _ _ hj) (by intro u hu; simp at hu; rcases hu with rfl | rfl <;> rfl) hk8a hkba (by simp; omega) ?_)
          intro va wa howna hgrowa _
          have HOa := Lib.hid (show OwnE wa w.heap.size va (o ++ [x]) from by
            unfold OwnE
            rw [entV_append, List.length_append, EXa.out.1, EXa.out.2]
            exact howna)
          have HBa := Lib.hid (show Below w.heap.size w wa from by
            refine (HB.out.alloc hbza _).grown hgrowa (by simp; omega) ?_
            intro k' hk'
            exact (HQa.out.lt k' hk').1)
          clear howna hgrowa hk8a hkba hma
          go_wp2_with fail
          go_roundw
          case rel => exact ⟨k + 1, true, _, by omega, by go_num, rfl, (fun _ => by first | rfl | contradiction), HN.out, HOa.out, HBa.out⟩
          case measure => simp [intOf]; omega
        | false => exact absurd (HD.out rfl) (by decide)

    · have hki : ¬ (k : Int) < (n : Int) := by omega
      obtain rfl : k = n := by omega
      have hb0 := HBk.out.below HB.out hgl
      have f0 := hb0.frozen 0
      have HB0 := Lib.hid hb0
      clear hb0
      cases done with
      | true =>
        obtain ⟨a2, c2, hv2, hE2, hfr2, hc2⟩ := HO.out.ents
        subst hv2
        have HEnd := Lib.hid (tq_put HF.out.1 HF.out.2.2 HB0.out HO.out HB.out (out_del HP.out HEn.out HPo.out) (HFit.out.1.del p) (val_del HFit.out.2.1))
        clear hE2 hfr2 hc2
        go_wp2_with fail
        go_end0
        exact HEnd.out
      | false => exact absurd (HD.out rfl) (by decide)
end Go.Proofs.YtnkkckmejjcfkaaGreatDoor.Sp
