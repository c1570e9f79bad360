/- Package codec: a Writer, and that its calls touch nothing but its own memory (for several Writers beside one another). -/
import Derived.Test.YtnbaoihamjdjdaaGreatDoorCodW
import Derived.Test.YtnbaoihamjdjdaaGreatDoorFoot
namespace Go.Proofs.YtnbaoihamjdjdaaGreatDoor.Sp
open Go Go.RowKit
set_option maxRecDepth 100000

/-- A Writer that holds the bytes l, its row being v. -/
def Wf (w : World) (g : Nat) (v : Value) (l : List UInt8) : Prop := Blk w g 70 #[v] ∧ Own w 0 v l
/-- Its memory. -/
def footW (g : Nat) (v : Value) : Nat → Prop := fun k => k = g ∨ v.ownBlock = some k
theorem Wf.lt {w : World} {g : Nat} {v : Value} {l : List UInt8} (h : Wf w g v l) : ∀ k, footW g v k → k < w.heap.size := by
  rintro k (rfl | hk)
  · exact h.1.lt
  · exact (World.ownsRow.lt h.2 k hk).2
/-- How a call that lays more leaves it. -/
def WfTo (w : World) (g : Nat) (v : Value) (l : List UInt8) (e : Ending) (w' : World) : Prop :=
  ∃ v', e = .returned (.tuple #[]) ∧ Wf w' g v' l ∧ Turned (footW g v) w w' ∧ Within (footW g v) (footW g v') w
theorem Wf.keep {w w' : World} {g : Nat} {v : Value} {l : List UInt8} (h : Wf w g v l) (hb : ∀ k, footW g v k → w'.heap[k]? = w.heap[k]?) (_ht : w'.os = w.os ∧ w'.tape = w.tape ∧ w'.output = w.output ∧ w.heap.size ≤ w'.heap.size) : Wf w' g v l := by
  obtain ⟨h1, h2⟩ := h
  refine ⟨(hb g (.inl rfl)).trans h1, ?_⟩
  rcases h2 with ⟨hl, h3⟩
  refine ⟨hl, ?_⟩
  rcases h3 with h3 | ⟨q, cap, cur, e, hq, hc, r⟩
  · exact .inl h3
  · exact .inr ⟨q, cap, cur, e, hq, (hb q (.inr (by rw [e]; rfl))).trans hc, r⟩
theorem Wf.below {w w' : World} {g : Nat} {v : Value} {l : List UInt8} (h : Wf w g v l) (hb : Below w.heap.size w w') : Wf w' g v l :=
  h.keep (fun k hk => hb.block k (h.lt k hk)) ⟨hb.os, hb.tape, hb.output, hb.size⟩
theorem Wf.other {w w' : World} {g : Nat} {v : Value} {l : List UInt8} {G : Nat → Prop} (h : Wf w g v l) (ht : Turned G w w') (hd : ∀ k, footW g v k → ¬ G k) : Wf w' g v l :=
  h.keep (fun k hk => ht.block k (h.lt k hk) (hd k hk)) ⟨ht.os, ht.tape, ht.output, ht.size⟩

theorem newWriter_f (w : World) :
    Calls Tryz.prog 20 #[] w fun e w' => e = .returned (.pointer (some ⟨w.heap.size, 0, none⟩)) ∧ Wf w' w.heap.size (.slice none 0 0) [] ∧ Below w.heap.size w w' := by
  refine (newWriter_any w).mono ?_
  rintro e w' ⟨he, rfl⟩
  exact ⟨he, ⟨Blk.new _ _ _, World.ownsRow_nil _ _ _ _⟩, (Below.refl _ _).alloc (Nat.le_refl _) _⟩
theorem bytes_f (g : Nat) (v : Value) (l : List UInt8) (w : World) (hW : Wf w g v l) :
    Calls Tryz.prog 25 #[.pointer (some ⟨g, 0, none⟩)] w fun e w' => e = .returned (.string ⟨l.toArray⟩) ∧ w = w' := bytes_any 0 g l w ⟨Nat.zero_le _, v, hW.1, hW.2⟩

set_option maxHeartbeats 1000000 in
theorem put_f (g n size : Nat) (v0 : Value) (l : List UInt8) (_hn : n < 18446744073709551616) (hs : size ≤ 8) (w : World) (hW : Wf w g v0 l) (hl : l.length + size ≤ 140737488355328) :
    Calls Tryz.prog 55 #[.pointer (some ⟨g, 0, none⟩), .int .u64 (n : Int), .int .i64 (size : Int)] w (WfTo w g v0 (l ++ be size n)) := by
  obtain ⟨i0, hi, hz0, hz1, hz2⟩ := info_parts infoByte
  have HW := Lib.hid hW
  clear hW
  go_enter Tryz.func55, Tryz.ntmps55
  go_wp2_with fail
  go_loopw [6] (fun i wr => ∃ (j r : Nat) (v : Value), j + r = size ∧ i = .int .i64 ((r : Int) - 1) ∧ Wf wr g v (l ++ beTop size n j) ∧ Turned (footW g v0) w wr ∧ Within (footW g v0) (footW g v) w) (fun i _ => (intOf i + 1).toNat)
  case atStart => exact ⟨0, size, v0, Nat.zero_add _, rfl, by rw [beTop_zero, List.append_nil]; exact HW.out, Turned.refl _ _, Within.refl _ _⟩
  case round =>
    obtain ⟨j, r, v, hj, rfl, ⟨hb, ho⟩, ht, hi2⟩ := hrel
    have HJ := Lib.hid hj
    have HB := Lib.hid hb
    have HO := Lib.hid ho
    have HTu := Lib.hid ht
    have HIn := Lib.hid hi2
    have hlj : (l ++ beTop size n j).length = l.length + j := by rw [List.length_append]; unfold beTop; rw [List.length_take, be_length]; omega
    have hcell : wr.cell? ⟨g, 0, none⟩ = some v := hb.cell 0
    have hfro := hb.frozen 0
    have hgl := hb.lt
    clear hb ho ht hi2
    rcases r with _ | i
    · have HJ2 := Lib.hid (show j = size by omega)
      clear hj hcell hfro hlj
      go_wp2_with fail
      go_end0
      exact ⟨v, rfl, ⟨HB.out, by have h := HO.out; rw [HJ2.out, beTop_all] at h; exact h⟩, HTu.out, HIn.out⟩
    · have e : ((i + 1 : Nat) : Int) - 1 = (i : Int) := by omega
      rw [e]
      have hi0' : (0 : Int) ≤ (i : Int) := by omega
      have hi8 : (i : Int) ≤ 7 := by omega
      have h8 : IntKind.i64.wrap (8 * (i : Int)) = 8 * (i : Int) := by rw [IntKind.wrap_i64]; omega
      have h80 : (0 : Int) ≤ 8 * (i : Int) := by omega
      have h8n : (8 * (i : Int)).toNat = 8 * i := by omega
      have hA : (l ++ beTop size n j).length + 1 ≤ maxLen := by unfold maxLen; omega
      have hB : ((l ++ beTop size n j).length + 1) * 1 ≤ 140737488355328 := by omega
      have HLJ := Lib.hid hlj
      have hne := Lib.hid (own_blk_ne HO.out HB.out (by decide))
      clear hj e hlj
      go_wp2_with fail
      go_region_law ((refine step_append_lies _ (by rfl) _ _ _ (by rfl) 0 5 i0 _ 1 1 Tryz.underlying68 hi hz0 hz1 hz2 rfl (by omega) v (l ++ beTop size n j).length (byteVs (l ++ beTop size n j)) (by rfl) ((World.ownsRow.alloc HO.out _).drew) ⟨wr.heap.size, 0, none⟩ 1 1 _ (by rfl) (by rfl) (World.news_of_block (fr := (0, 0)) (heap_alloc_new wr _)) (by simp [Value.oneCell']) (by omega) hA hB (Nat.zero_le _) (wr.heap.size + 1) (by simp) ?_; intro gg cap w1 hown1 hgrow hat hgl2; have hB1 := HB.out.kept ((Below.refl _ _).alloc (Nat.le_refl _) _).drew hgrow hne.out; have hc1 := hB1.cell 0; have hf1 := hB1.frozen 0; have HB1 := Lib.hid hB1; have HO1 := Lib.hid hown1; have HG1 := Lib.hid hgrow; have HAt := Lib.hid hat; clear hB1 hown1 hgrow hat hgl2))
      all_goals
        have HO2 := Lib.hid (own_set (put_own HO1.out) HB1.out (by decide) 0 (.slice (some ⟨gg, 0, none⟩) (l.length + (beTop size n j).length + 1) cap))
        have HB2 := Lib.hid (HB1.out.set_ 0 (.slice (some ⟨gg, 0, none⟩) (l.length + (beTop size n j).length + 1) cap))
        have HT2 := Lib.hid (show Turned (footW g v) wr (w1.setCell ⟨g, 0, none⟩ (.slice (some ⟨gg, 0, none⟩) (l.length + (beTop size n j).length + 1) cap)) from Turned.grown_set (w := wr) (by exact ⟨HG1.out.os, HG1.out.tape, HG1.out.output, HG1.out.size, HG1.out.block⟩) (fun k hk => .inr hk) (.inl rfl))
        have HI2 := Lib.hid (show Within (footW g v) (footW g (.slice (some ⟨gg, 0, none⟩) (l.length + (beTop size n j).length + 1) cap)) wr from by
          rintro k (rfl | hk)
          · exact .inl (.inl rfl)
          · simp only [Value.ownBlock, Option.some.injEq] at hk
            subst hk
            rcases HAt.out with h | h
            · exact .inl (.inr h)
            · exact .inr (by omega))
        clear hcell hfro hc1 hf1 hA hB
        go_wp2_with fail
        go_roundw
        case rel =>
          refine ⟨j + 1, i, _, by have := HJ.out; omega, rfl, ⟨HB2.out, ?_⟩, HTu.out.trans HIn.out HT2.out, HIn.out.trans HTu.out.size HI2.out⟩
          rw [beTop_succ size n j (by have := HJ.out; omega), show size - 1 - j = i by have := HJ.out; omega]
          exact HO2.out
        case measure => simp [intOf]

theorem wnum_f (g n : Nat) (v : Value) (l : List UInt8) (hn : n < 18446744073709551616) (w : World) (hW : Wf w g v l) (hl : l.length + 8 ≤ 140737488355328) :
    Calls Tryz.prog 21 #[.pointer (some ⟨g, 0, none⟩), .int .u64 (n : Int)] w (WfTo w g v (l ++ be 8 n)) := by
  have HW := Lib.hid hW
  clear hW
  go_enter Tryz.func21, Tryz.ntmps21
  go_wp2_with fail
  refine (put_f g n 8 v l hn (by omega) _ HW.out hl).mono ?_
  rintro e w1 ⟨v1, rfl, h1, h2, h3⟩
  have H1 := Lib.hid h1
  have H2 := Lib.hid h2
  have H3 := Lib.hid h3
  clear h1 h2 h3
  go_wp2_with fail
  go_end0
  exact ⟨v1, rfl, H1.out, H2.out, H3.out⟩

/-- Where an append of a text's bytes lies: in the row's own block, or in a new one. -/
theorem append_string_at {P : Program} (w : World) (base : Nat) (t u ty e : TypeId) (i : TypeInfo) (ht : P.underlying t = some (.slice e)) (hu : P.underlying u = some .string) (hi : P.info? e = some i) (hz : i.zero = some (.int .u8 0))
    (hsize : i.size = 1) (hby : i.bytes = 1) (v : Value) (n : Nat) (xs : List Value) (hown : w.ownsRow base e 1 v n xs) (s : ByteArray)
    (h63 : n + s.size ≤ maxLen) (hbytes : n + s.size ≤ 140737488355328) (hpos : 0 < n + s.size) (g c m : Nat) (w' : World) (hr : (Builtin.append_ #[t, u] ty #[v, .string s]).run P w = .ok (.slice (some ⟨g, 0, none⟩) m c) w') :
    v.ownBlock = some g ∨ g = w.heap.size := by
  have hsmall : n + s.size ≤ 9223372036854775807 := by simp only [maxLen] at h63; omega
  have hxl : xs.length = n := by simpa using hown.1
  rcases hown.2 with ⟨rfl, rfl⟩ | ⟨g0, cap, cur, rfl, hbg, hg, hnc, hcm, hcs, htake⟩
  · have hr2 := run_append_nil_string (P := P) w t u ty e i (.int .u8 0) ht hu hi hz s (by omega) (by omega) (by rw [hby]; omega)
    rw [hr] at hr2
    injection hr2 with h1 h2
    injection h1 with h3
    injection h3 with h3
    injection h3 with h3
    exact .inr h3
  · by_cases hroom : n + s.size ≤ cap
    · have hr2 := Lib.run_append_room_string (P := P) w t u ty e i ht hu hi hsize g0 n cap cur hg s hroom (by omega)
      rw [hr] at hr2
      injection hr2 with h1 h2
      injection h1 with h3
      injection h3 with h3
      injection h3 with h3
      exact .inl (by rw [h3]; rfl)
    · have holds : ∀ j u, xs[j]? = some u → w.cell? ((⟨g0, 0, none⟩ : Addr).add j) = some u := World.ownsRow.cells hown (g := g0) rfl
      have hr2 := Lib.run_append_grow_string (P := P) w t u ty e i (.int .u8 0) ht hu hi hz ⟨g0, 0, none⟩ n cap xs (by rw [hsize]; simpa using hxl) holds s (by omega) (by omega) (by rw [hby]; exact growslice_fits (by omega) (by omega))
      rw [hr] at hr2
      injection hr2 with h1 h2
      injection h1 with h3
      injection h3 with h3
      injection h3 with h3
      exact .inr h3
theorem wpList_append_string_at {P : Program} (w : World) {ops : Array Oper} {rest : List Oper} {o : Oper} {a : Act} {Q : Exit → Act → World → Prop} (hgd : o.guard = none) (sl x : Operand) (t u : TypeId)
    (ho : o.op = .call { callee := .builtin .append, args := #[sl, x], argTypes := #[t, u] })
    (base : Nat) (e : TypeId) (i : TypeInfo) (ht : P.underlying t = some (.slice e)) (hu : P.underlying u = some .string) (hi : P.info? e = some i) (hz : i.zero = some (.int .u8 0))
    (hsize : i.size = 1) (hby : i.bytes = 1)
    (v : Value) (n : Nat) (xs : List Value) (hs : a.eval sl = v) (hown : w.ownsRow base e 1 v n xs) (s : ByteArray) (hx : a.eval x = .string s)
    (h63 : n + s.size ≤ maxLen) (hbytes : n + s.size ≤ 140737488355328) (hpos : 0 < n + s.size) (hbase : base ≤ w.heap.size)
    (h : ∀ g cap w', w'.ownsRow base e 1 (.slice (some ⟨g, 0, none⟩) (n + s.size) cap) (n + s.size) (xs ++ Lib.strCells s) → w.grownBy w' v.ownBlock → (v.ownBlock = some g ∨ g = w.heap.size) → wpList P ops Q rest (a.put o.dst (.slice (some ⟨g, 0, none⟩) (n + s.size) cap)) w') : wpList P ops Q (o :: rest) a w := by
  refine wpList_plain hgd fun K hK => ?_
  obtain ⟨v', w', hr, h2, h3, h4⟩ := Lib.run_append_own_string (P := P) w base t u o.type e i ht hu hi hz hsize hby v n xs hown s h63 hbytes hbase
  obtain ⟨g, cap, rfl, _, _⟩ := h2.form hpos
  have hat := append_string_at w base t u o.type e i ht hu hi hz hsize hby v n xs hown s h63 hbytes hpos g cap _ w' hr
  unfold Oper.wp execOp
  simp only [ho, resolve, invoke, builtin, Sem.run_bind, Sem.run_pure, Result.andThen_ok, List.map_toArray, List.map_cons, List.map_nil, hs, hx, hr]
  exact hK _ _ (h g cap w' h2 h3 hat)

set_option maxHeartbeats 1000000 in
theorem wtext_f (g : Nat) (s : ByteArray) (v0 : Value) (l : List UInt8) (w : World) (hW : Wf w g v0 l) (hl : l.length + 4 + s.size ≤ 140737488355328) :
    Calls Tryz.prog 22 #[.pointer (some ⟨g, 0, none⟩), .string s] w (WfTo w g v0 (l ++ (be 4 s.size ++ s.data.toList))) := by
  obtain ⟨i0, hi, hz0, hz1, hz2⟩ := info_parts infoByte
  have HW := Lib.hid hW
  clear hW
  have hs0 : s.size ≤ 9223372036854775807 := by omega
  go_enter Tryz.func22, Tryz.ntmps22
  go_wp2_with fail
  refine (put_f g s.size 4 v0 l (by omega) (by omega) _ HW.out (by omega)).mono ?_
  rintro e w1 ⟨v, rfl, ⟨hb, ho⟩, htu, hin⟩
  obtain ⟨L, eL⟩ : ∃ L, L = l ++ be 4 s.size := ⟨_, rfl⟩
  rw [← eL] at ho
  have hL : L.length = l.length + 4 := by rw [eL, List.length_append, be_length]
  have hA : L.length + s.size ≤ maxLen := by unfold maxLen; omega
  have hB : L.length + s.size ≤ 140737488355328 := by omega
  have hP : 0 < L.length + s.size := by omega
  have HL := Lib.hid eL
  clear eL
  have HB := Lib.hid hb
  have HO := Lib.hid ho
  have HTu := Lib.hid htu
  have HIn := Lib.hid hin
  have hcell : w1.cell? ⟨g, 0, none⟩ = some v := hb.cell 0
  have hfro := hb.frozen 0
  have hgl := hb.lt
  have hne := Lib.hid (own_blk_ne ho hb (by decide))
  clear hb ho htu hin hL
  go_wp2_with (at_builtin; refine wpList_append_string_at _ rfl (.tmp 13) (.tmp 14) 68 9 rfl 0 5 i0 Tryz.underlying68 Tryz.underlying9 hi hz0 hz1 hz2 v L.length (byteVs L) rfl HO.out s rfl hA hB hP (Nat.zero_le _) ?_)
  intro gg cap w2 hown2 hg2 hat
  have hB1 := HB.out.kept (Below.refl _ _) hg2 hne.out
  have hc1 := hB1.cell 0
  have hf1 := hB1.frozen 0
  have HB1 := Lib.hid hB1
  have HO1 := Lib.hid hown2
  have HG1 := Lib.hid hg2
  have HAt := Lib.hid hat
  obtain ⟨m, hm⟩ : ∃ m, m = L.length + s.size := ⟨_, rfl⟩
  rw [← hm] at HO1 ⊢
  have HM := Lib.hid hm
  clear hB1 hown2 hg2 hat hm hA hB hcell hfro
  have HT2 := Lib.hid (show Turned (footW g v) w1 (w2.setCell ⟨g, 0, none⟩ (.slice (some ⟨gg, 0, none⟩) m cap)) from Turned.grown_set_ HG1.out (fun k hk => .inr hk) (.inl rfl))
  have HI2 := Lib.hid (show Within (footW g v) (footW g (.slice (some ⟨gg, 0, none⟩) m cap)) w1 from by
    rintro k (rfl | hk)
    · exact .inl (.inl rfl)
    · simp only [Value.ownBlock, Option.some.injEq] at hk
      subst hk
      rcases HAt.out with h | h
      · exact .inl (.inr h)
      · exact .inr (by omega))
  go_wp2_with fail
  go_end0
  refine ⟨_, rfl, ⟨HB1.out.set_ 0 (.slice (some ⟨gg, 0, none⟩) m cap), ?_⟩, HTu.out.trans HIn.out HT2.out, HIn.out.trans HTu.out.size HI2.out⟩
  rw [← List.append_assoc, ← HL.out]
  exact own_set (text_own HM.out HO1.out) HB1.out (by decide) 0 _
end Go.Proofs.YtnbaoihamjdjdaaGreatDoor.Sp
