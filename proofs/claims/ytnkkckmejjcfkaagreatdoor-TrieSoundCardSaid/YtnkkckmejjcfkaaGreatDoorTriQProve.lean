/- The document's own Prove. -/
import Derived.Test.YtnkkckmejjcfkaaGreatDoorGzY
import Derived.Deep.AppendLies
namespace Go.Proofs.YtnkkckmejjcfkaaGreatDoor.Sp
open Go Go.RowKit
set_option maxRecDepth 100000

theorem prove_step (n d : Nat) (l : List Ent) (p : ByteArray) (h : 2 ≤ l.length) :
    proveF (n + 1) d l p = (hashF n (d + 1) (filt (1 - bitN p d) d l) :: (proveF n (d + 1) (filt (bitN p d) d l) p).1, (proveF n (d + 1) (filt (bitN p d) d l) p).2) := by
  match l, h with
  | e :: f :: l, _ => rfl
theorem Fit.more {n d : Nat} {l : List Ent} (h : Fit n d l) (h2 : 2 ≤ l.length) : ∃ m, n = m + 1 := by
  match n, l, h2 with
  | 0, e :: f :: l, _ => exact (h.zero).elim
  | n + 1, _, _ => exact ⟨n, rfl⟩
theorem Ents.grown_ {w w' : World} {a : Option Addr} {n : Nat} {l : List Ent} {row : Option Nat} (h : Ents w a n l) (hg : w.grownBy w' row) (hne : ∀ p, a = some p → some p.block ≠ row) : Ents w' a n l := by
  rcases Nat.eq_zero_or_pos n with h0 | h0
  · exact ⟨h.1, fun hp => by omega⟩
  · obtain ⟨b, off, e, hc⟩ := h.2 h0
    obtain ⟨x, hx⟩ : ∃ x, l[0]? = some x := ⟨_, List.getElem?_eq_getElem (by rw [h.1]; exact h0)⟩
    have hlt : b < w.heap.size := block_lt_of_cell (hc 0 x hx).1
    exact h.same fun p hp => hg.block _ (by rw [e] at hp; injection hp with hp; subst hp; exact hlt) (hne p hp)
/-- What Prove hands back. -/
def PfTo (q : Prf) (w : World) (e : Ending) (w' : World) : Prop :=
  ∃ (a : Option Addr) (c : Nat), e = .returned (prfV a q.beside.length c q) ∧ Strs w' a q.beside.length q.beside ∧ (∀ p, a = some p → w.heap.size ≤ p.block) ∧ q.beside.length ≤ c ∧ Below w.heap.size w w'
/-- .. what stands beside is a row of the call's own. -/
def PfOwn (q : Prf) (w : World) (e : Ending) (w' : World) : Prop :=
  ∃ (a : Option Addr) (c : Nat), e = .returned (prfV a q.beside.length c q) ∧ OwnT w' w.heap.size (.slice a q.beside.length c) q.beside ∧ Below w.heap.size w w'
theorem PfOwn.to {q : Prf} {w w' : World} {e : Ending} (h : PfOwn q w e w') : PfTo q w e w' := by
  obtain ⟨a, c, he, ho, hb⟩ := h
  obtain ⟨a3, c3, e3, hs3, hf3, hc3⟩ := ho.strs_
  injection e3 with e3 _ e4
  subst e3; subst e4
  exact ⟨a, c, he, hs3, fun p hp => (hf3 p hp).1, hc3, hb⟩
theorem proofFour : (Tryz.prog.info? 39).map (·.size) = some 4 := by kernel_rfl

set_option maxHeartbeats 4000000 in
theorem qprove_own (w : World) (F : Nat → Prop) (g : Nat) (l : List Ent) (key : ByteArray) (s : Tq w F g l) (hk : key.size ≤ 140737488351232) (hlen : l.length ≤ 1000000) (hT : Tabs w) :
    Calls Tryz.prog 20 #[.pointer (some ⟨g, 0, none⟩), .string key] w (PfOwn (proofF l (keyP key)) w) := by
  have hP32 := keyP_32 key
  have HK := Lib.hid (fun w hT => qkey_any key w hk hT)
  obtain ⟨P, hP⟩ : ∃ P, keyP key = P := ⟨_, rfl⟩
  rw [hP] at HK hP32 ⊢
  obtain ⟨hfit, hval⟩ := s.fit
  obtain ⟨E, al, cl, hperm, hblk, hE, _, hal0, hFl, _⟩ := s
  have HAl := Lib.hid (show ∀ p, al = some p → p.block < w.heap.size from fun p hp => hFl _ (hal0 p hp).1)
  obtain ⟨q, hq⟩ : ∃ q, proofF l P = q := ⟨_, rfl⟩
  have HQ := Lib.hid (show q = prfOf (proveF 256 0 E P) from by rw [← hq, proof_perm hfit hperm]; rfl)
  rw [hq]
  have hfE := hfit.perm hperm
  have hvE : ∀ e ∈ E, e.2.size ≤ 140737488351232 := fun e he => hval e (hperm.mem_iff.2 he)
  have hlE : E.length ≤ 1000000 := by rw [← hperm.length_eq]; exact hlen
  have HT := Lib.hid hT
  have hgl := hblk.lt
  have HBk := Lib.hid hblk
  have HE := Lib.hid hE
  have HfE := Lib.hid (And.intro hfE (And.intro hvE hlE))
  clear hT hq hfit hval hperm hblk hE hfE hvE hlE hlen hk hP
  go_enter Tryz.func20, Tryz.ntmps20
  go_wp2_with fail
  have Z0 := Lib.hid (Blk.new w 39 #[.slice none 0 0, .bool false, .string { data := #[] }, .string { data := #[] }])
  have B0 := Lib.hid ((Below.refl w.heap.size w).alloc (Nat.le_refl _) (.cells #[.slice none 0 0, .bool false, .string { data := #[] }, .string { data := #[] }] 39))
  refine (HK.out _ (HT.out.below B0.out)).mono ?_
  rintro e w1 ⟨rfl, h1⟩
  have B1 := Lib.hid (B0.out.trans (h1.mono B0.out.size))
  have Z1 := Lib.hid (Z0.out.below h1 Z0.out.lt)
  have c0 := (HBk.out.below B1.out hgl).cell 0
  simp only [List.getElem?_toArray, List.getElem?_cons_zero] at c0
  clear h1
  have d0 := fun o : Obj => ((HBk.out.below B1.out hgl).alloc o).cell 0
  simp only [List.getElem?_toArray, List.getElem?_cons_zero] at d0
  go_wp2_with fail
  obtain ⟨G, hG⟩ : ∃ G, w1.heap.size = G := ⟨_, rfl⟩
  have hGw : w.heap.size < G := by rw [← hG]; exact Z1.out.lt
  have ZG := Lib.hid (show Blk (w1.alloc (.cells #[.slice none 0 0, .bool false, .string { data := #[] }, .string { data := #[] }] 39)) G 39 #[.slice none 0 0, .bool false, .string .empty, .string .empty] from by rw [← hG]; exact Blk.new _ _ _)
  have B2 := Lib.hid (B1.out.alloc B1.out.size (.cells #[.slice none 0 0, .bool false, .string { data := #[] }, .string { data := #[] }] 39))
  have Z2 := Lib.hid (Z1.out.alloc (.cells #[.slice none 0 0, .bool false, .string { data := #[] }, .string { data := #[] }] 39))
  have E2 := Lib.hid (HE.out.below B2.out)
  rw [hG]
  clear c0 d0 hG
  generalize w1.alloc (.cells #[.slice none 0 0, .bool false, .string { data := #[] }, .string { data := #[] }] 39) = w2 at *
  go_loopw [7, 8] (fun lv dv wr => ∃ (k m : Nat) (L : List Ent) (aL : Option Addr) (cL : Nat) (v : Value) (B : List ByteArray),
      m + k = 256 ∧ lv = .slice aL L.length cL ∧ dv = .int .i64 (k : Int) ∧ Fit m k L ∧ (∀ e ∈ L, e.2.size ≤ 140737488351232) ∧ L.length ≤ 1000000 ∧ Ents wr aL L.length L ∧
      Blk wr G 39 #[v, .bool false, .string .empty, .string .empty] ∧ OwnT wr w.heap.size v B ∧ B.length = k ∧ Apart v aL ∧ (∀ p, aL = some p → p.block < w.heap.size ∨ G < p.block) ∧
      proveF 256 0 E P = (B ++ (proveF m k L P).1, (proveF m k L P).2) ∧
      Blk wr w.heap.size 39 #[.slice none 0 0, .bool false, .string { data := #[] }, .string { data := #[] }] ∧ Below w.heap.size w wr) (fun _ dv _ => 257 - (intOf dv).toNat)
  case atStart => exact ⟨0, 256, E, al, cl, _, [], by omega, rfl, rfl, HfE.out.1, HfE.out.2.1, HfE.out.2.2, E2.out, ZG.out, World.ownsRow_nil _ _ _ _, rfl, (fun g p hg _ => by cases hg), fun p hp => .inl (HAl.out p hp), by simp, Z2.out, B2.out⟩
  case round =>
    obtain ⟨k, m, L, aL, cL, v, B, hmk, rfl, rfl, hf, hv, hl6, hE, hz, hown, hBl, hap, hal, hpr, hz0, hbel⟩ := hrel
    have HF := Lib.hid hf
    have HV := Lib.hid hv
    have HEn := Lib.hid hE
    have HZ := Lib.hid hz
    have HZ0 := Lib.hid hz0
    have HO := Lib.hid hown
    have HAp := Lib.hid hap
    have HAl2 := Lib.hid hal
    have HPr := Lib.hid hpr
    have HB := Lib.hid hbel
    have HTr := Lib.hid (HT.out.below hbel)
    have hbz := hbel.size
    clear hf hv hE hz hz0 hown hap hal hpr hbel
    by_cases h2 : 2 ≤ L.length
    · obtain ⟨m', rfl⟩ := HF.out.more h2
      have hk8 : k < 256 := by omega
      have hstep := prove_step m' k L P h2
      obtain ⟨N, hN⟩ : ∃ N, L.length = N := ⟨_, rfl⟩
      have hNi : 1 < (N : Int) := by omega
      obtain ⟨b, hb⟩ : ∃ b, bitN P k = b := ⟨_, rfl⟩
      have hb2 : b = 0 ∨ b = 1 := by rw [← hb]; exact bitN_two P k
      have Hbit := Lib.hid (qbit_any P k (by omega) (by omega))
      rw [hb] at Hbit hstep
      obtain ⟨b', hb'⟩ : ∃ b', 1 - b = b' := ⟨_, rfl⟩
      have hbi : (1 : Int) - (b : Int) = (b' : Int) := by omega
      have hbw : IntKind.i64.wrap (b' : Int) = (b' : Int) := by rw [IntKind.wrap_i64]; omega
      have hkw : IntKind.i64.wrap ((k : Int) + 1) = ((k + 1 : Nat) : Int) := by rw [IntKind.wrap_i64]; omega
      have P1 := Lib.hid (fun w hE => qpart_any L aL N cL k b' (by omega) hk8 (by omega) HF.out.size w hE)
      have P2 := Lib.hid (fun w hE => qpart_any L aL N cL k b (by omega) hk8 (by omega) HF.out.size w hE)
      rw [hb'] at hstep
      obtain ⟨L1, e1⟩ : ∃ L1, filt b' k L = L1 := ⟨_, rfl⟩
      obtain ⟨L2, e2⟩ : ∃ L2, filt b k L = L2 := ⟨_, rfl⟩
      rw [e1, e2] at hstep
      rw [e1] at P1
      rw [e2] at P2
      have hl1 : L1.length ≤ 1000000 := by rw [← e1]; exact Nat.le_trans (filt_len _ _ _) hl6
      have hl2 : L2.length ≤ 1000000 := by rw [← e2]; exact Nat.le_trans (filt_len _ _ _) hl6
      have F1 : Fit m' (k + 1) L1 := by rw [← e1]; exact HF.out.down b'
      have F2 := Lib.hid (show Fit m' (k + 1) L2 from by rw [← e2]; exact HF.out.down b)
      have V1 : ∀ e ∈ L1, e.2.size ≤ 140737488351232 := fun e he => HV.out e (by rw [← e1] at he; exact (filt_mem.1 he).1)
      have V2 := Lib.hid (show ∀ e ∈ L2, e.2.size ≤ 140737488351232 from fun e he => HV.out e (by rw [← e2] at he; exact (filt_mem.1 he).1))
      have HH := Lib.hid (fun a c w h1 h2 => qhash_any m' (k + 1) L1 F1 V1 hl1 a c w h1 h2)
      obtain ⟨S, hS⟩ : ∃ S, hashF m' (k + 1) L1 = S := ⟨_, rfl⟩
      obtain ⟨IL, hIL⟩ : ∃ IL, inputsF m' (k + 1) L1 = IL := ⟨_, rfl⟩
      rw [hS, hIL] at HH
      rw [hS] at hstep
      have HStep := Lib.hid hstep
      rw [hN] at HEn ⊢
      have z0 := HZ.out.cell 0
      simp only [List.getElem?_toArray, List.getElem?_cons_zero] at z0
      clear hstep hb hb' e1 e2 F1 V1 hS hIL hl1 hN h2
      go_wp2_with fail
      refine (Hbit.out _).mono ?_
      rintro e w3 ⟨rfl, rfl⟩
      go_wp2_with fail
      refine (P1.out _ HEn.out).mono ?_
      rintro e w4 ⟨a4, c4, rfl, hs4, h4, hf4, hc4⟩
      have S4 := Lib.hid hs4
      have B4 := Lib.hid (HB.out.trans (h4.mono hbz))
      have Z4 := HZ.out.below h4 HZ.out.lt
      have Y4 := HZ0.out.below h4 HZ0.out.lt
      have O4 := own_below HO.out h4
      have N4 := HEn.out.below h4
      clear hs4 h4 hf4 hc4 z0
      go_wp2_with fail
      refine (HH.out a4 c4 w4 S4.out (HT.out.below B4.out)).mono ?_
      rintro e w5 ⟨a5, c5, rfl, hs5, h5, hf5, hc5⟩
      have B5 := Lib.hid (B4.out.trans (h5.mono B4.out.size))
      have Z5 := Lib.hid (Z4.below h5 Z4.lt)
      have Y5 := Lib.hid (Y4.below h5 Y4.lt)
      have O5 := Lib.hid (own_below O4 h5)
      have N5 := Lib.hid (N4.below h5)
      have b5 := B5.out.size
      have z0 := Z5.out.cell 0
      have f0 := Z5.out.frozen 0
      simp only [List.getElem?_toArray, List.getElem?_cons_zero] at z0
      obtain ⟨Xs, eXs⟩ : ∃ Xs : List Value, B.map Value.string = Xs := ⟨_, rfl⟩
      have HOk := Lib.hid (show w5.ownsRow w.heap.size 9 1 v k Xs from by have h9 := O5.out; unfold OwnT at h9; rw [hBl, eXs] at h9; exact h9)
      have EXs := Lib.hid (And.intro eXs hBl)
      obtain ⟨i0, hi0, hz0', hz1, hz2⟩ := info_parts infoText
      have hk9 : k + 1 ≤ maxLen := by unfold maxLen; omega
      have hkb : (k + 1) * 16 ≤ 140737488355328 := by omega
      clear hs5 h5 hf5 hc5 Z4 Y4 O4 N4 eXs hBl
      go_wp2_with (at_builtin; refine wpList_append_lies _ rfl (.tmp 36) (.tmp 38) 37 rfl w.heap.size 9 i0 (.string .empty) 1 16 Tryz.underlying37 hi0 hz0' hz1 hz2 rfl (by decide) v k Xs rfl (HOk.out.alloc _) ⟨w5.heap.size, 0, none⟩ 1 1 [.string S] rfl rfl ?e1 ?e2 (by omega) hk9 hkb ?e5 (w5.heap.size + 1) (by simp) ?_)
      case e1 => intro j u hj; exact new_cell _ _ _ hj
      case e2 => intro u hu; simp at hu; subst hu; rfl
      case e5 => simp; omega
      intro g6 cap6 w6 hown6 hgrow hat hgl6
      have hneG := own_blk_ne HOk.out Z5.out (by decide)
      have hne0 := own_blk_ne HOk.out Y5.out (by decide)
      have Z6 := (Z5.out.alloc (.cells #[.string S] 9)).grown hgrow (fun e => hneG e.symm)
      have Y6 := (Y5.out.alloc (.cells #[.string S] 9)).grown hgrow (fun e => hne0 e.symm)
      have HO6 : OwnT w6 w.heap.size (.slice (some ⟨g6, 0, none⟩) (k + 1) cap6) (B ++ [S]) := by
        unfold OwnT
        rw [List.map_append, List.length_append, EXs.out.1, EXs.out.2]
        exact hown6
      have HB6 : Below w.heap.size w w6 := by
        refine (B5.out.alloc b5 _).grown hgrow (by simp; omega) ?_
        intro k' hk'
        exact (HOk.out.lt k' hk').1
      have N6 : Ents w6 aL N L := by
        refine Ents.grown_ (N5.out.below ((Below.refl _ _).alloc (Nat.le_refl _) _)) hgrow ?_
        intro p hp h0
        exact HAp.out _ p h0.symm hp rfl
      have Hgl6 := Lib.hid hgl6
      have z6 := Z6.cell 0
      have f6 := Z6.frozen 0
      simp only [List.getElem?_toArray, List.getElem?_cons_zero] at z6
      have Z7 := Lib.hid (Z6.set_ 0 (.slice (some ⟨g6, 0, none⟩) (k + 1) cap6))
      have Y7 := Lib.hid (Blk.far Y6 (p := ⟨G, 0, none⟩) (by simp <;> omega) (.slice (some ⟨g6, 0, none⟩) (k + 1) cap6))
      have HO7 := Lib.hid (own_set HO6 Z6 (by decide) 0 (.slice (some ⟨g6, 0, none⟩) (k + 1) cap6))
      have HB7 := Lib.hid (HB6.setCell (p := ⟨G, 0, none⟩) (by simp <;> omega) (.slice (some ⟨g6, 0, none⟩) (k + 1) cap6))
      have N7 := Lib.hid (show Ents (w6.setCell ⟨G, 0, none⟩ (.slice (some ⟨g6, 0, none⟩) (k + 1) cap6)) aL N L from
        N6.same fun p hp => Below.heap_setCell w6 ⟨G, 0, none⟩ _ _ (by have := HAl2.out p hp; simp only; omega))
      have hz7 : (w6.setCell ⟨G, 0, none⟩ (.slice (some ⟨g6, 0, none⟩) (k + 1) cap6)).heap.size = w6.heap.size := by simp [World.setCell]
      clear hown6 hgrow hat hgl6 hneG hne0 HO6 HB6 N6 hk9 hkb z0 f0 Z6 Y6
      go_wp2_with fail
      generalize w6.setCell ⟨G, 0, none⟩ (.slice (some ⟨g6, 0, none⟩) (k + 1) cap6) = w7 at *
      refine (P2.out w7 N7.out).mono ?_
      rintro e w8 ⟨a8, c8, rfl, hs8, h8, hf8, hc8⟩
      have B8 := Lib.hid (HB7.out.trans (h8.mono HB7.out.size))
      have Z8 := Lib.hid (Z7.out.below h8 Z7.out.lt)
      have Y8 := Lib.hid (Y7.out.below h8 Y7.out.lt)
      have O8 := Lib.hid (show OwnT w8 w.heap.size (.slice (some ⟨g6, 0, none⟩) (k + 1) cap6) (B ++ [S]) from own_below HO7.out h8)
      have S8 := Lib.hid hs8
      have hGz := Z7.out.lt
      have A8 := Lib.hid (show Apart (.slice (some ⟨g6, 0, none⟩) (k + 1) cap6) a8 from fun gg p hg hp => by
        have h1 := (hf8 p hp).1
        injection hg with hg
        subst hg
        have h2 := Hgl6.out
        simp only
        omega)
      have G8 := Lib.hid (show ∀ p, a8 = some p → p.block < w.heap.size ∨ G < p.block from fun p hp => .inr (by have := (hf8 p hp).1; omega))
      clear hs8 h8 hf8 hc8
      go_wp2_with fail
      go_roundw
      case rel => exact ⟨k + 1, m', L2, a8, c8, _, B ++ [S], by omega, rfl, by go_num, F2.out, V2.out, hl2, S8.out, Z8.out, O8.out, by rw [List.length_append, EXs.out.2]; rfl, A8.out, G8.out, by rw [HPr.out, HStep.out]; simp, Y8.out, B8.out⟩
      case measure => simp [intOf]; omega
    · have hNi : ¬ 1 < (L.length : Int) := by omega
      obtain ⟨a2, c2, hv2, hS2, hfr⟩ := HO.out.strs_
      subst hv2
      have HSt := Lib.hid hS2
      have HFr := Lib.hid hfr
      have z0 := HZ.out.cell 0
      have z1 := HZ.out.cell 1
      have z2 := HZ.out.cell 2
      have z3 := HZ.out.cell 3
      have y0 := HZ0.out.cell 0
      have y1 := HZ0.out.cell 1
      have y2 := HZ0.out.cell 2
      have y3 := HZ0.out.cell 3
      simp only [List.getElem?_toArray, List.getElem?_cons_zero, List.getElem?_cons_succ] at z0 z1 z2 z3 y0 y1 y2 y3
      have fz := fun i => HZ.out.frozen i
      have fy := fun i => HZ0.out.frozen i
      have hGl := HZ.out.lt
      have HFin := Lib.hid (fun (wf : World) (t : Bool) (p1 p2 : ByteArray) (hb : Blk wf w.heap.size 39 #[.slice a2 B.length c2, .bool t, .string p1, .string p2]) (hbf : Below w.heap.size w wf) (ho : OwnT wf w.heap.size (.slice a2 B.length c2) B) (hq : q = ⟨B, t, p1, p2⟩) =>
        show PfOwn q w (.returned (.agg #[.slice a2 B.length c2, .bool t, .string p1, .string p2])) wf from by
          subst hq
          exact ⟨a2, c2, rfl, ho, hbf⟩)
      match L, h2, HEn, HPr with
      | [], _, HEn, HPr =>
        go_wp2_with fail
        refine ret_agg rfl w.heap.size 39 #[.slice a2 B.length c2, .bool false, .string .empty, .string .empty] _ rfl ?_ rfl Tryz.underlying39 rfl proofFour ?_
        · rw [hBl]
          exact (((HZ0.out.set_ 0 _).set_ 1 _).set_ 2 _).set_ 3 _
        · refine HFin.out _ false .empty .empty ?_ ?_ ?_ ?_
          · rw [hBl]
            exact (((HZ0.out.set_ 0 _).set_ 1 _).set_ 2 _).set_ 3 _
          · exact (((HB.out.setCell (p := ⟨w.heap.size, 0, none⟩) (Nat.le_refl _) _).setCell (p := ⟨w.heap.size, 1, none⟩) (Nat.le_refl _) _).setCell (p := ⟨w.heap.size, 2, none⟩) (Nat.le_refl _) _).setCell (p := ⟨w.heap.size, 3, none⟩) (Nat.le_refl _) _
          · exact own_set (own_set (own_set (own_set HO.out HZ0.out (by decide) 0 _) (HZ0.out.set_ 0 _) (by decide) 1 _) ((HZ0.out.set_ 0 _).set_ 1 _) (by decide) 2 _) (((HZ0.out.set_ 0 _).set_ 1 _).set_ 2 _) (by decide) 3 _
          · have h9 := HPr.out
            have h8 : proveF m k ([] : List Ent) P = ([], none) := by cases m <;> rfl
            rw [HQ.out, h9, h8]
            simp [prfOf]
      | [x], _, HEn, HPr =>
        obtain ⟨b, off, rfl, hc⟩ := HEn.out.2 (by simp)
        obtain ⟨k1, k2⟩ := hc 0 x rfl
        simp only [Nat.zero_mul, Nat.add_zero] at k1 k2
        have hbG : b ≠ G := by have := HAl2.out _ rfl; simp only at this; omega
        clear hc
        go_wp2_with fail
        have hGne : w.heap.size ≠ G := by omega
        have o1 := own_set (own_set (own_set HO.out HZ.out (by decide) 1 (.bool true)) (HZ.out.set_ 1 _) (by decide) 2 (.string x.1)) ((HZ.out.set_ 1 _).set_ 2 _) (by decide) 3 (.string x.2)
        have Y1 := Blk.far (Blk.far (Blk.far HZ0.out (p := ⟨G, 1, none⟩) (by simp <;> omega) (.bool true)) (p := ⟨G, 2, none⟩) (by simp <;> omega) (.string x.1)) (p := ⟨G, 3, none⟩) (by simp <;> omega) (.string x.2)
        have b1 := ((HB.out.setCell (p := ⟨G, 1, none⟩) (by simp <;> omega) (.bool true)).setCell (p := ⟨G, 2, none⟩) (by simp <;> omega) (.string x.1)).setCell (p := ⟨G, 3, none⟩) (by simp <;> omega) (.string x.2)
        generalize ((wr.setCell ⟨G, 1, none⟩ (.bool true)).setCell ⟨G, 2, none⟩ (.string x.1)).setCell ⟨G, 3, none⟩ (.string x.2) = W3 at *
        refine ret_agg rfl w.heap.size 39 #[.slice a2 B.length c2, .bool true, .string x.1, .string x.2] _ rfl ?_ rfl Tryz.underlying39 rfl proofFour ?_
        · rw [hBl]
          exact (((Y1.set_ 0 _).set_ 1 _).set_ 2 _).set_ 3 _
        · refine HFin.out _ true x.1 x.2 ?_ ?_ ?_ ?_
          · rw [hBl]
            exact (((Y1.set_ 0 _).set_ 1 _).set_ 2 _).set_ 3 _
          · exact (((b1.setCell (p := ⟨w.heap.size, 0, none⟩) (Nat.le_refl _) _).setCell (p := ⟨w.heap.size, 1, none⟩) (Nat.le_refl _) _).setCell (p := ⟨w.heap.size, 2, none⟩) (Nat.le_refl _) _).setCell (p := ⟨w.heap.size, 3, none⟩) (Nat.le_refl _) _
          · exact own_set (own_set (own_set (own_set o1 Y1 (by decide) 0 _) (Y1.set_ 0 _) (by decide) 1 _) ((Y1.set_ 0 _).set_ 1 _) (by decide) 2 _) (((Y1.set_ 0 _).set_ 1 _).set_ 2 _) (by decide) 3 _
          · have h9 := HPr.out
            have h8 : proveF m k [x] P = ([], some x) := by cases m <;> rfl
            rw [HQ.out, h9, h8]
            simp [prfOf]
      | _ :: _ :: _, h2, _, _ => exact absurd (by simp) h2
theorem qprove_any (w : World) (F : Nat → Prop) (g : Nat) (l : List Ent) (key : ByteArray) (s : Tq w F g l) (hk : key.size ≤ 140737488351232) (hlen : l.length ≤ 1000000) (hT : Tabs w) :
    Calls Tryz.prog 20 #[.pointer (some ⟨g, 0, none⟩), .string key] w (PfTo (proofF l (keyP key)) w) :=
  (qprove_own w F g l key s hk hlen hT).mono fun _ _ h => h.to
end Go.Proofs.YtnkkckmejjcfkaaGreatDoor.Sp
