/- Package trie: New, Set, Delete, Len, Copy. -/
import Derived.Test.YtnkkckmejjcfkaaGreatDoorGzR
import Derived.Test.YtnkkckmejjcfkaaGreatDoorGzM
import Derived.Test.YtnkkckmejjcfkaaGreatDoorGzG
import Derived.BigQuiet
import Derived.OwnWalk
import Derived.Deep.RegionHeld3
import Derived.Test.YtnkkckmejjcfkaaGreatDoorGzA
namespace Go.Proofs.YtnkkckmejjcfkaaGreatDoor.Sp
open Go Go.RowKit
set_option maxRecDepth 100000

/-- The program's trie: a map. -/
def Tg0 (w : World) (F : Nat → Prop) (g : Nat) (l : List Ent) : Prop :=
  ∃ b, Blk w g 57 #[.map (some b)] ∧ Mp w b l ∧ F g ∧ F b ∧ g ≠ b ∧ (∀ k, F k → k < w.heap.size) ∧ FitT l ∧ (∀ e ∈ l, e.2.size ≤ 140737488351232) ∧ l.length ≤ 1000000
theorem Tg0.keep {w w' : World} {F : Nat → Prop} {g : Nat} {l : List Ent} (s : Tg0 w F g l) (hb : ∀ k, F k → w'.heap[k]? = w.heap[k]?) (hz : w.heap.size ≤ w'.heap.size) : Tg0 w' F g l := by
  obtain ⟨b, h1, h2, h3, h4, h5, h6, h7⟩ := s
  exact ⟨b, (hb g h3).trans h1, h2.keep (hb b h4), h3, h4, h5, fun k hk => Nat.lt_of_lt_of_le (h6 k hk) hz, h7⟩
theorem Tg0.perm {w : World} {F : Nat → Prop} {g : Nat} {l m : List Ent} (s : Tg0 w F g l) (hp : l.Perm m) : Tg0 w F g m := by
  obtain ⟨b, h1, h2, h3, h4, h5, h6, h7, h8, h9⟩ := s
  exact ⟨b, h1, h2.perm hp, h3, h4, h5, h6, h7.perm hp, fun e he => h8 e (hp.mem_iff.2 he), by rw [← hp.length_eq]; exact h9⟩

set_option maxHeartbeats 1000000 in
theorem mnew_any (w : World) :
    Calls Tryz.prog 8 #[] w fun e w' => ∃ g F, e = .returned (.pointer (some ⟨g, 0, none⟩)) ∧ Tg0 w' F g [] ∧ (∀ k, F k → w.heap.size ≤ k) ∧ Below w.heap.size w w' := by
  have hmm : ∀ w : World, (Instr.makeMap 55 .none).run Tryz.prog w = .ok (.map (some w.heap.size)) (w.alloc (.map #[] 0)) := fun w => by rfl
  go_enter Tryz.func8, Tryz.ntmps8
  go_wp2_with fail
  go_ret
  refine ⟨w.heap.size + 1, fun k => k = w.heap.size ∨ k = w.heap.size + 1, rfl, ⟨w.heap.size, ?_, (mp_new w).keep ?_, .inr rfl, .inl rfl, by omega, ?_, fitT_nil, (fun e he => by cases he), by decide⟩, ?_, ((Below.refl _ _).alloc (Nat.le_refl _) _).alloc (by simp) _⟩
  · have h := Blk.new (w.alloc (.map #[] 0)) 57 #[.map (some w.heap.size)]
    rw [World.size_alloc] at h
    exact h
  · exact Below.heap_alloc _ _ _ (by simp)
  · rintro k (rfl | rfl)
    · simp; omega
    · simp
  · rintro k (rfl | rfl) <;> omega

set_option maxHeartbeats 1000000 in
theorem mlen_any (w : World) (F : Nat → Prop) (g : Nat) (l : List Ent) (s : Tg0 w F g l) :
    Calls Tryz.prog 14 #[.pointer (some ⟨g, 0, none⟩)] w fun e w' => e = .returned (.int .i64 (l.length : Int)) ∧ w = w' := by
  obtain ⟨b, h1, h2, _⟩ := s
  have c0 := h1.cell 0
  simp only [List.getElem?_toArray, List.getElem?_cons_zero] at c0
  have hln := mp_len h2 3
  clear h1 h2
  go_enter Tryz.func14, Tryz.ntmps14
  go_wp2_with fail
  go_ret
  exact ⟨rfl, rfl⟩

theorem tab_drew0 {w : World} (h : Tab w) : Tab w.drew := h
theorem map_turned {w w' : World} {F : Nat → Prop} {b : Nat} (hg : w.grownBy w' (some b)) (hF : F b) : Turned F w w' :=
  ⟨hg.os, hg.tape, hg.output, hg.size, fun k hk hnF => hg.block k hk (fun e => hnF (by injection e with e; rw [e]; exact hF))⟩

theorem cut_key (key : ByteArray) : cutP (keyP key) = keyP key := cutP_same (keyP_32 key)

set_option maxHeartbeats 2000000 in
theorem mset_any (w : World) (F : Nat → Prop) (g : Nat) (l : List Ent) (key v : ByteArray) (s : Tg0 w F g l) (hk : key.size ≤ 140737488351232) (hv : v.size ≤ 140737488351232) (hl : l.length < 1000000) (hT : Tab w) :
    Calls Tryz.prog 22 #[.pointer (some ⟨g, 0, none⟩), .string key, .string v] w (TgTo Tg0 w F g (setF l (keyP key) v) (.tuple #[])) := by
  obtain ⟨b, h1, h2, hFg, hFb, hgb, hlt, hF, hvs, hll⟩ := s
  have HK := Lib.hid (fun w ht => tpath_any key w hk ht)
  have HP := Lib.hid (fun w => place_any (keyP key) w)
  have HT := Lib.hid hT
  have c0 := h1.cell 0
  simp only [List.getElem?_toArray, List.getElem?_cons_zero] at c0
  have hgl := h1.lt
  have HS := Lib.hid (fun w' (hb : Below w.heap.size w w') => mp_set (h2.keep (hb.block b h2.lt)) (keyP key) v (keyP_32 key) (by unfold maxLen; omega) (by unfold maxLen; omega))
  have HE := Lib.hid (fun (w1 w2 : World) (hb : Below w.heap.size w w1) (hm : Mp w2 b (setF l (keyP key) v)) (hg : w1.grownBy w2 (some b)) =>
    show TgTo Tg0 w F g (setF l (keyP key) v) (.tuple #[]) (.returned (.tuple #[])) w2 from
      ⟨F, rfl, ⟨b, (hg.block g (Nat.lt_of_lt_of_le hgl hb.size) (fun e => hgb (by injection e))).trans (h1.below hb hgl), hm, hFg, hFb, hgb, fun k hk => Nat.lt_of_lt_of_le (hlt k hk) (Nat.le_trans hb.size hg.size), hF.set _ _ (keyP_32 key), (fun e he => by
        rcases List.mem_cons.1 he with rfl | he
        · exact hv
        · exact hvs e (del_mem.1 he).1), by have := set_len l (keyP key) v; omega⟩, (Turned.of_below hb).trans (Within.refl F w) (map_turned hg hFb), Within.refl _ _⟩)
  rw [cut_key] at HP
  obtain ⟨P, hP⟩ : ∃ P, keyP key = P := ⟨_, rfl⟩
  rw [hP] at HK HP HS HE ⊢
  obtain ⟨kv, hkv⟩ : ∃ kv, keyV P = kv := ⟨_, rfl⟩
  rw [hkv] at HP HS
  unfold valV at HS
  clear h1 h2 hF hT hk hP hkv hvs hll hlt
  go_enter Tryz.func22, Tryz.ntmps22
  go_wp2_with fail
  go_region_held3 (fun w' => w'.cell? ⟨g, 0, none⟩ = some (.map (some b))) ((first | (with_reducible assumption) | exact c0)) ((first
    | (go_at_call 34; refine (HK.out _ (by first | exact HT.out | exact tab_drew0 HT.out)).mono ?_; rintro e w1 ⟨rfl, h1⟩; have B1 := Lib.hid (show Below w.heap.size w w1 from (by first | exact h1 | exact below_of_drew h1)); have c1 : w1.cell? ⟨g, 0, none⟩ = some (.map (some b)) := (B1.out.cell (p := ⟨g, 0, none⟩) hgl).trans c0; clear h1)
    | (go_at_call 38; refine (HP.out _).mono ?_; rintro e w2 ⟨rfl, h2⟩; have B2 := Lib.hid (show Below w.heap.size w w2 from B1.out.trans (h2.mono B1.out.size)); have c2 : w2.cell? ⟨g, 0, none⟩ = some (.map (some b)) := (B2.out.cell (p := ⟨g, 0, none⟩) hgl).trans c0; clear h2)
    | (go_at_call 39; refine (clone_any v _ (by omega)).mono ?_; rintro e w3 ⟨rfl, h3⟩; have B3 := Lib.hid (show Below w.heap.size w w3 from B2.out.trans (h3.mono B2.out.size)); have c3 : w3.cell? ⟨g, 0, none⟩ = some (.map (some b)) := (B3.out.cell (p := ⟨g, 0, none⟩) hgl).trans c0; obtain ⟨w4, hr4, hm4, hg4⟩ := HS.out w3 B3.out; have c4 : w4.cell? ⟨g, 0, none⟩ = some (.map (some b)) := World.grownBy.cell hg4 c3 (by intro e; injection e with e; exact hgb e); have HM4 := Lib.hid hm4; have HG4 := Lib.hid hg4; clear h3 hm4 hg4)))
  all_goals
    go_wp2_with fail
    go_end0
    exact HE.out w3 _ B3.out HM4.out HG4.out

set_option maxHeartbeats 2000000 in
theorem mdelete_any (w : World) (F : Nat → Prop) (g : Nat) (l : List Ent) (key : ByteArray) (s : Tg0 w F g l) (hk : key.size ≤ 140737488351232) (hT : Tab w) :
    Calls Tryz.prog 36 #[.pointer (some ⟨g, 0, none⟩), .string key] w (TgTo Tg0 w F g (delF l (keyP key)) (.tuple #[])) := by
  obtain ⟨b, h1, h2, hFg, hFb, hgb, hlt, hF, hvs, hll⟩ := s
  have HK := Lib.hid (fun w ht => tpath_any key w hk ht)
  have HP := Lib.hid (fun w => place_any (keyP key) w)
  have HT := Lib.hid hT
  have c0 := h1.cell 0
  simp only [List.getElem?_toArray, List.getElem?_cons_zero] at c0
  have hgl := h1.lt
  have HS := Lib.hid (fun w' (hb : Below w.heap.size w w') => mp_del (h2.keep (hb.block b h2.lt)) (keyP key) (keyP_32 key) 0)
  have HE := Lib.hid (fun (w1 w2 : World) (hb : Below w.heap.size w w1) (hm : Mp w2 b (delF l (keyP key))) (hg : w1.grownBy w2 (some b)) =>
    show TgTo Tg0 w F g (delF l (keyP key)) (.tuple #[]) (.returned (.tuple #[])) w2 from
      ⟨F, rfl, ⟨b, (hg.block g (Nat.lt_of_lt_of_le hgl hb.size) (fun e => hgb (by injection e))).trans (h1.below hb hgl), hm, hFg, hFb, hgb, fun k hk => Nat.lt_of_lt_of_le (hlt k hk) (Nat.le_trans hb.size hg.size), hF.del _, (fun e he => hvs e (del_mem.1 he).1), by
        have h9 : (delF l (keyP key)).length ≤ l.length := List.length_filter_le _ _
        omega⟩, (Turned.of_below hb).trans (Within.refl F w) (map_turned hg hFb), Within.refl _ _⟩)
  rw [cut_key] at HP
  obtain ⟨P, hP⟩ : ∃ P, keyP key = P := ⟨_, rfl⟩
  rw [hP] at HK HP HS HE ⊢
  obtain ⟨kv, hkv⟩ : ∃ kv, keyV P = kv := ⟨_, rfl⟩
  rw [hkv] at HP HS
  clear h1 h2 hF hT hk hP hkv hvs hll hlt
  go_enter Tryz.func36, Tryz.ntmps36
  go_wp2_with fail
  go_region_held3 (fun w' => w'.cell? ⟨g, 0, none⟩ = some (.map (some b))) ((first | (with_reducible assumption) | exact c0)) ((first
    | (go_at_call 34; refine (HK.out _ (by first | exact HT.out | exact tab_drew0 HT.out)).mono ?_; rintro e w1 ⟨rfl, h1⟩; have B1 := Lib.hid (show Below w.heap.size w w1 from (by first | exact h1 | exact below_of_drew h1)); have c1 : w1.cell? ⟨g, 0, none⟩ = some (.map (some b)) := (B1.out.cell (p := ⟨g, 0, none⟩) hgl).trans c0; clear h1)
    | (go_at_call 38; refine (HP.out _).mono ?_; rintro e w2 ⟨rfl, h2⟩; have B2 := Lib.hid (show Below w.heap.size w w2 from B1.out.trans (h2.mono B1.out.size)); have c2 : w2.cell? ⟨g, 0, none⟩ = some (.map (some b)) := (B2.out.cell (p := ⟨g, 0, none⟩) hgl).trans c0; obtain ⟨w4, hr4, hm4, hg4⟩ := HS.out w2 B2.out; have c4 : w4.cell? ⟨g, 0, none⟩ = some (.map (some b)) := World.grownBy.cell hg4 c2 (by intro e; injection e with e; exact hgb e); have HM4 := Lib.hid hm4; have HG4 := Lib.hid hg4; clear h2 hm4 hg4)))
  all_goals
    go_wp2_with fail
    go_end0
    exact HE.out w2 _ B2.out HM4.out HG4.out

theorem mclone_any (b : Nat) (l : List Ent) (w : World) (h : Mp w b l) :
    Calls Tryz.prog 50 #[.map (some b)] w fun e w' => e = .returned (.map (some w.heap.size)) ∧ Mp w' w.heap.size l ∧ Below w.heap.size w w' := by
  obtain ⟨es, h1, h2⟩ := h
  refine (AnyW.maps_Clone_owns clonePl _ _ b _ _ w h1).mono ?_
  rintro e w' ⟨he, h3, _, h5⟩
  exact ⟨he, ⟨es, h3, h2⟩, h5⟩

set_option maxHeartbeats 2000000 in
theorem mcopy_any (w : World) (F : Nat → Prop) (g : Nat) (l : List Ent) (s : Tg0 w F g l) :
    Calls Tryz.prog 21 #[.pointer (some ⟨g, 0, none⟩)] w (CpTo Tg0 w F g l) := by
  obtain ⟨b, h1, h2, hFg, hFb, hgb, hlt, hF, hvs, hll⟩ := s
  have c0 := h1.cell 0
  simp only [List.getElem?_toArray, List.getElem?_cons_zero] at c0
  have HC := Lib.hid (mclone_any b l w h2)
  have HE := Lib.hid (fun (w1 : World) (hb : Below w.heap.size w w1) (hm : Mp w1 w.heap.size l) =>
    show CpTo Tg0 w F g l (.returned (.pointer (some ⟨w1.heap.size, 0, none⟩))) (w1.alloc (.cells #[.map (some w.heap.size)] 57)) from by
      have hb2 := hb.alloc hb.size (.cells #[.map (some w.heap.size)] 57)
      have hml := hm.lt
      refine ⟨F, fun k => k = w.heap.size ∨ k = w1.heap.size, w1.heap.size, rfl, ⟨b, h1.below hb2 h1.lt, h2.keep (hb2.block b h2.lt), hFg, hFb, hgb, fun k hk => Nat.lt_of_lt_of_le (hlt k hk) hb2.size, hF, hvs, hll⟩,
        ⟨w.heap.size, Blk.new w1 _ _, hm.keep (Below.heap_alloc _ _ _ hml), .inr rfl, .inl rfl, by omega, ?_, hF, hvs, hll⟩, ?_, Turned.of_below hb2, Within.refl _ _⟩
      · rintro k (rfl | rfl)
        · simp; omega
        · simp
      · rintro k (rfl | rfl)
        · exact ⟨Nat.le_refl _, fun h => Nat.lt_irrefl _ (hlt _ h)⟩
        · exact ⟨hb.size, fun h => by have := hlt _ h; have := hb.size; omega⟩)
  clear h1 h2 hF hvs hll hlt
  go_enter Tryz.func21, Tryz.ntmps21
  go_wp2_with fail
  refine HC.out.mono ?_
  rintro e w1 ⟨rfl, hm, hb⟩
  have HX := Lib.hid (HE.out w1 hb hm)
  clear hm hb
  go_wp2_with fail
  go_ret
  exact HX.out
end Go.Proofs.YtnkkckmejjcfkaaGreatDoor.Sp

/- Package trie: Get. -/
namespace Go.Proofs.YtnkkckmejjcfkaaGreatDoor.Sp
open Go Go.RowKit
set_option maxRecDepth 100000

theorem below_x {X w : World} (h : Below X.drew.heap.size X.drew w) : Below X.heap.size X w := ⟨h.os, h.tape, h.output, h.size, h.block⟩
theorem get_size {l : List Ent} (hv : ∀ e ∈ l, e.2.size ≤ 140737488351232) (p : ByteArray) : ((getF l p).getD .empty).size ≤ 140737488351232 := valE_size hv p
theorem below_setG {w0 w : World} {B : Nat} (h : Below B w0 w) {G : Nat} (hG : B ≤ G) (v : Value) {w' : World} (h' : Below (w.setCell ⟨G, 0, none⟩ v).heap.size (w.setCell ⟨G, 0, none⟩ v) w') (hB : B ≤ w.heap.size) : Below B w0 w' :=
  (h.setCell (p := ⟨G, 0, none⟩) hG v).trans (h'.mono (by
    show B ≤ (w.heap.modify G _).size
    rw [Array.size_modify]; exact hB))
theorem below_allocG {w0 w : World} {B : Nat} (h : Below B w0 w) (hB : B ≤ w.heap.size) (o : Obj) {w' : World} (h' : Below (w.alloc o).heap.size (w.alloc o) w') : Below B w0 w' :=
  (h.alloc hB o).trans (h'.mono (by simp; omega))

set_option maxHeartbeats 8000000 in
theorem mget_any (w : World) (F : Nat → Prop) (g : Nat) (l : List Ent) (key : ByteArray) (s : Tg0 w F g l) (hk : key.size ≤ 140737488351232) (hT : Tab w) :
    Calls Tryz.prog 12 #[.pointer (some ⟨g, 0, none⟩), .string key] w fun e w' => e = .returned (.tuple #[.string ((getF l (keyP key)).getD .empty), .bool (getF l (keyP key)).isSome]) ∧ Below w.heap.size w w' := by
  obtain ⟨b, h1, h2, _, _, _, _, hF, hvs, _⟩ := s
  have hv0 := get_size hvs (keyP key)
  have HK := Lib.hid (fun w ht => tpath_any key w hk ht)
  have HP := Lib.hid (fun w => place_any (keyP key) w)
  have HT := Lib.hid hT
  have c0 := h1.cell 0
  simp only [List.getElem?_toArray, List.getElem?_cons_zero] at c0
  have hgl := h1.lt
  have HG := Lib.hid (fun w' (hb : Below w.heap.size w w') => mp_get (h2.keep (hb.block b h2.lt)) hF (keyP key) (keyP_32 key))
  rw [cut_key] at HP
  obtain ⟨P, hP⟩ : ∃ P, keyP key = P := ⟨_, rfl⟩
  rw [hP] at HK HP HG hv0 ⊢
  obtain ⟨v0, hv⟩ : ∃ v0, (getF l P).getD .empty = v0 := ⟨_, rfl⟩
  obtain ⟨is, his⟩ : ∃ is, (getF l P).isSome = is := ⟨_, rfl⟩
  rw [hv] at HG hv0 ⊢
  rw [his] at HG ⊢
  obtain ⟨kv, hkv⟩ : ∃ kv, keyV P = kv := ⟨_, rfl⟩
  rw [hkv] at HP HG
  unfold valV at HG
  have HW := Lib.hid ((Below.refl w.heap.size w).alloc (Nat.le_refl _) (.cells #[.string { data := #[] }] 64))
  clear h1 h2 hF hT hk hP hv his hkv hvs
  go_enter Tryz.func12, Tryz.ntmps12
  go_wp2_with fail
  go_region_held3 (fun w' => w'.cell? ⟨g, 0, none⟩ = some (.map (some b))) ((first | (with_reducible assumption) | exact c0 | exact cell_alloc_sl _ c0 | exact c1 | exact cell_alloc_sl _ c1 | exact c2 | exact cell_alloc_sl _ c2 | exact c2s _ | exact c2t _ | exact c2u _ _)) ((first
    | (go_at_call 34; refine (HK.out _ (by first | exact HT.out | exact HT.out.below HW.out HT.out.lt | exact HT.out.below HW.out.drew HT.out.lt)).mono ?_; rintro e w1 ⟨rfl, h1⟩; have B1 := Lib.hid (show Below w.heap.size w w1 from (by first | exact below_x h1 | exact HW.out.trans (Below.mono (below_x h1) (by simp)))); have c1 : w1.cell? ⟨g, 0, none⟩ = some (.map (some b)) := (B1.out.cell (p := ⟨g, 0, none⟩) hgl).trans c0; (try have kG := Lib.hid ((Blk.new w 64 #[.string { data := #[] }]).below (below_x h1) (by simp))); clear h1)
    | (go_at_call 38; go_must (refine (HP.out _).mono ?_; rintro e w2 ⟨rfl, h2⟩; have B2 := Lib.hid (show Below w.heap.size w w2 from (by first | exact B1.out.trans (h2.mono B1.out.size) | exact B1.out.trans (Below.mono (below_x h2) B1.out.size) | exact below_allocG B1.out B1.out.size _ h2 | exact below_allocG B1.out B1.out.size _ (below_x h2))); have c2 : w2.cell? ⟨g, 0, none⟩ = some (.map (some b)) := (B2.out.cell (p := ⟨g, 0, none⟩) hgl).trans c0; (try have kH := Lib.hid (kG.out.below h2 kG.out.lt)); (try have kH := Lib.hid ((Blk.new w1 64 #[.string { data := #[] }]).below h2 (by simp))); have hg2 := HG.out w2 B2.out; have hg3 := fun o : Obj => HG.out (w2.alloc o) (B2.out.alloc B2.out.size o); (try have cG := kH.out.cell 0); (try have fG := kH.out.frozen 0); (try simp only [List.getElem?_toArray, List.getElem?_cons_zero] at cG); (try have c2s := fun u => (World.cell?_setCell_other w2 ⟨w.heap.size, 0, none⟩ ⟨g, 0, none⟩ u (by intro e; injection e; omega)).trans c2); (try have c2t := fun u => (World.cell?_setCell_other w2 ⟨w1.heap.size, 0, none⟩ ⟨g, 0, none⟩ u (by intro e; injection e; have := B1.out.size; omega)).trans c2); (try have c2u := fun o u => (World.cell?_setCell_other (w2.alloc o) ⟨w2.heap.size, 0, none⟩ ⟨g, 0, none⟩ u (by intro e; injection e; have := B2.out.size; omega)).trans (cell_alloc_sl _ c2)); clear h2))))
  all_goals
    have HC := Lib.hid (fun w => clone_any v0 w (by omega))
    go_wp2_with fail
    go_wp2_with ((go_at_call 39; refine (HC.out _).mono ?_; rintro e w5 ⟨rfl, h5⟩))
    go_ret2
    refine ⟨by simp, ?_⟩
    first
      | exact below_allocG B2.out B2.out.size _ h5
      | exact below_setG B2.out (Nat.le_refl _) _ h5 B2.out.size
      | exact below_setG B2.out B1.out.size _ h5 B2.out.size
      | exact below_setG (B2.out.alloc B2.out.size _) B2.out.size _ h5 (by simp; have := B2.out.size; omega)
end Go.Proofs.YtnkkckmejjcfkaaGreatDoor.Sp
