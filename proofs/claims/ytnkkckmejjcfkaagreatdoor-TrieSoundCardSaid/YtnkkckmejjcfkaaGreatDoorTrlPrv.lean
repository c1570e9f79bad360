/- Package trie: Prove. -/
import Derived.Test.YtnkkckmejjcfkaaGreatDoorGzS
import Derived.Test.YtnkkckmejjcfkaaGreatDoorGzI
import Derived.Deep.AppendLies
import Derived.Deep.RegionLaw
namespace Go.Proofs.YtnkkckmejjcfkaaGreatDoor.Sp
open Go Go.RowKit
set_option maxRecDepth 100000

theorem prove_stepP (n d : Nat) (E : List Ent) (S : List ByteArray) (p : ByteArray) (h : 2 ≤ S.length) :
    proveF (n + 1) d (ents E S) p = (hashF n (d + 1) (ents E (sideP (1 - bitN p d) d S)) :: (proveF n (d + 1) (ents E (sideP (bitN p d) d S)) p).1, (proveF n (d + 1) (ents E (sideP (bitN p d) d S)) p).2) := by
  rw [← ents_filt, ← ents_filt]
  match S, h with
  | e :: f :: l, _ => rfl
theorem asc_more {m k : Nat} {S : List ByteArray} (h : Asc k S) (hm : m + k = 256) (h2 : 2 ≤ S.length) : ∃ m', m = m' + 1 := by
  match m with
  | 0 =>
    obtain rfl : k = 256 := by omega
    have := asc_one h
    omega
  | m + 1 => exact ⟨m, rfl⟩
theorem Pl.grownP {w w' : World} {a : Option Addr} {n : Nat} {S : List ByteArray} {row : Option Nat} (h : Pl w a n S) (hg : w.grownBy w' row) (hne : ∀ p, a = some p → some p.block ≠ row) : Pl w' a n S := by
  refine ⟨h.1, fun hp => ?_⟩
  obtain ⟨b, off, e, hc⟩ := h.2 hp
  exact ⟨b, off, e, fun k hk j v hv => World.grownBy.cell hg (a := ⟨b, off + k * 32 + j, none⟩) (hc k hk j v hv) (hne ⟨b, off, none⟩ e)⟩
theorem Pl.sameP {w w' : World} {a : Option Addr} {n : Nat} {S : List ByteArray} (h : Pl w a n S) (hb : ∀ p, a = some p → w'.heap[p.block]? = w.heap[p.block]?) : Pl w' a n S := by
  refine ⟨h.1, fun hn => ?_⟩
  obtain ⟨b, off, e, hc⟩ := h.2 hn
  exact ⟨b, off, e, fun k hk j v hv => (World.cell?_of_block (w := w) (w' := w') (a := ⟨b, off + k * 32 + j, none⟩) (hb ⟨b, off, none⟩ e)).trans (hc k hk j v hv)⟩
theorem kid_pick {a : Option Addr} {d : Nat} {S : List ByteArray} {w w' : World} {e : Ending} (h : KidTo a d S w e w') (bt : Nat) (hb : bt = 0 ∨ bt = 1) :
    ∃ (aH aB : Option Addr) (cH cB : Nat), e = .returned (.tuple (if bt = 0 then #[.slice aH (sideP bt d S).length cH, .slice aB (sideP (1 - bt) d S).length cB] else #[.slice aB (sideP (1 - bt) d S).length cB, .slice aH (sideP bt d S).length cH])) ∧
      Pl w' aH (sideP bt d S).length (sideP bt d S) ∧ Pl w' aB (sideP (1 - bt) d S).length (sideP (1 - bt) d S) ∧ (sideP bt d S).length ≤ cH ∧ (sideP (1 - bt) d S).length ≤ cB ∧ Below w.heap.size w w' ∧ SameB a aH ∧ SameB a aB := by
  obtain ⟨a0, a1, c0, c1, he, q0, q1, l0, l1, hb1, m0, m1⟩ := h
  rcases hb with rfl | rfl
  · exact ⟨a0, a1, c0, c1, by rw [if_pos rfl]; exact he, q0, q1, l0, l1, hb1, m0, m1⟩
  · exact ⟨a1, a0, c1, c0, by rw [if_neg (by decide)]; exact he, q1, q0, l1, l0, hb1, m1, m0⟩
/-- A row of places is no Proof. -/
theorem row_ne {w : World} {G b off : Nat} {p : ByteArray} {t : TypeId} {a : Option Addr} {n c : Nat} {f : Bool} {x y : ByteArray} (h : At w b off p) (hp : 0 < p.size) (hG : Blk w G t #[.slice a n c, .bool f, .string x, .string y]) : b ≠ G := by
  intro e
  subst e
  have h1 := h 0 (byteV (p.data.toList[0]'(by rw [size_list]; exact hp))) (by unfold byteVs; rw [List.getElem?_map, List.getElem?_eq_getElem (by rw [size_list]; exact hp)]; rfl)
  rw [hG.cell] at h1
  unfold byteV at h1
  obtain ⟨i, hi⟩ : ∃ i, off + 0 = i := ⟨_, rfl⟩
  rw [hi] at h1
  match i, h1 with
  | 0, h1 => simp at h1
  | 1, h1 => simp at h1
  | 2, h1 => simp at h1
  | 3, h1 => simp at h1
  | i + 4, h1 => simp at h1
theorem At.sameB {w w' : World} {b o : Nat} {p : ByteArray} (h : At w b o p) (hb : w'.heap[b]? = w.heap[b]?) : At w' b o p := fun j v hv =>
  (World.cell?_of_block (w := w) (w' := w') (a := ⟨b, o + j, none⟩) hb).trans (h j v hv)
/-- What Prove hands back. -/
def PvTo (q : Prf) (w : World) (e : Ending) (w' : World) : Prop :=
  ∃ (a : Option Addr) (c : Nat), e = .returned (prfV a q.beside.length c q) ∧ Strs w' a q.beside.length q.beside ∧ (∀ p, a = some p → w.heap.size ≤ p.block) ∧ q.beside.length ≤ c ∧ Below w.heap.size w w'
theorem proofFourP : (Tryz.prog.info? 39).map (·.size) = some 4 := by kernel_rfl
/-- The value of a Proof that nothing has been laid into. -/
def prf0 : Array Value := #[.slice none 0 0, .bool false, .string .empty, .string .empty]

set_option maxHeartbeats 8000000 in
theorem mprove_any (w : World) (F : Nat → Prop) (g : Nat) (l : List Ent) (key : ByteArray) (s : Tg0 w F g l) (hk : key.size ≤ 140737488351232) (hT : Tab w) :
    Calls Tryz.prog 19 #[.pointer (some ⟨g, 0, none⟩), .string key] w (PvTo (proofF l (keyP key)) w) := by
  obtain ⟨b, hb, hM, _, _, _, _, hF, hvs, hll⟩ := s
  have hP32 := keyP_32 key
  have HK := Lib.hid (fun w hT => tpath_any key w hk hT)
  have HPl := Lib.hid (fun w => place_any (keyP key) w)
  rw [cutP_same hP32] at HPl
  obtain ⟨P, hP⟩ : ∃ P, keyP key = P := ⟨_, rfl⟩
  rw [hP] at HK hP32 HPl ⊢
  obtain ⟨q, hq⟩ : ∃ q, proofF l P = q := ⟨_, rfl⟩
  rw [hq]
  have hqe : q = prfOf (proveF 256 0 l P) := hq.symm
  have HPc := Lib.hid (fun w hb hM => places_any g b l w hb hM hF hll)
  have HPr0 := Lib.hid (fun (S : List ByteArray) (h : S.Perm (l.map Prod.fst)) => show q = prfOf (proveF 256 0 (ents l S) P) from by
    rw [hqe, (hash_perm 256 0 _ _ (ents_perm hF h) (hF.perm (ents_perm hF h).symm)).2.2 P])
  have HA0 := Lib.hid (fun (S : List ByteArray) (h : S.Perm (l.map Prod.fst)) hs => And.intro (asc_zero hF h hs) (show S.length ≤ 1000000 by have := h.length_eq; rw [List.length_map] at this; omega))
  have HHs := Lib.hid (fun (n d : Nat) (S : List ByteArray) a c w h1 h2 h3 h4 h5 h6 h7 h8 => hash_any g b l hF hvs n d S a c w h1 h2 h3 h4 h5 h6 h7 h8)
  have HGt := Lib.hid (fun (p : ByteArray) (hp : p.size = 32) (w' : World) hM => mp_look (w := w') (b := b) hM hF p hp)
  have HVs := Lib.hid (fun p => valE_size hvs p)
  have HBi := Lib.hid (fun d hd w => bit_any P hP32 d hd w)
  have Hb := Lib.hid hb
  have HM := Lib.hid hM
  have HT := Lib.hid hT
  have hinf := info32 hP32
  have hl32 := len32 hP32
  have hone : (byteVs P.data.toList).toArray.all (·.oneCell') = true := bytes_one _
  have hkv : keyV P = .agg (byteVs P.data.toList).toArray := rfl
  rw [hkv] at HPl HBi
  obtain ⟨L, hLe⟩ : ∃ L, byteVs P.data.toList = L := ⟨_, rfl⟩
  rw [hLe] at HPl HBi hinf hl32 hone
  have K0 := Lib.hid (Blk.new w 39 #[.slice none 0 0, .bool false, .string { data := #[] }, .string { data := #[] }])
  have B0 := Lib.hid ((Below.refl w.heap.size w).alloc (Nat.le_refl _) (.cells #[.slice none 0 0, .bool false, .string { data := #[] }, .string { data := #[] }] 39))
  have hgZ := hb.lt
  have hbZ := hM.lt
  clear hb hM hT hF hvs hll hk hP hq hqe hkv hLe
  go_enter Tryz.func19, Tryz.ntmps19
  go_upto_region 1 with fail
  obtain ⟨Z0, hZ0⟩ : ∃ Z, w.heap.size = Z := ⟨_, rfl⟩
  rw [hZ0] at K0 B0 hgZ hbZ
  generalize w.alloc (.cells #[.slice none 0 0, .bool false, .string { data := #[] }, .string { data := #[] }] 39) = w0 at *
  rw [hZ0]
  have HZ0 := Lib.hid hZ0
  clear hZ0
  have HTw := Lib.hid (show ∀ w' : World, Below Z0 w w' → Tab w' from fun w' hb => HT.out.below hb (by rw [← HZ0.out]; exact HT.out.lt))
  have Hbw := Lib.hid (show ∀ w' : World, Below Z0 w w' → Blk w' g 57 #[.map (some b)] from fun w' hb => Hb.out.below hb hgZ)
  have HMw := Lib.hid (show ∀ w' : World, Below Z0 w w' → Mp w' b l from fun w' hb => HM.out.keep (hb.block b hbZ))
  go_wp2_with fail
  refine (HK.out w0 (HTw.out _ B0.out)).mono ?_
  rintro e w1 ⟨rfl, h1⟩
  have B1 := Lib.hid (B0.out.trans (h1.mono (by have hz1 := B0.out.size; have hz2 := HZ0.out; omega)))
  have K1 := Lib.hid (K0.out.below h1 K0.out.lt)
  clear h1
  go_wp2_with fail
  refine (HPl.out w1).mono ?_
  rintro e w2 ⟨rfl, h2⟩
  have B2 := Lib.hid (B1.out.trans (h2.mono (by have hz1 := B1.out.size; have hz2 := HZ0.out; omega)))
  have K2 := Lib.hid (K1.out.below h2 K1.out.lt)
  clear h2
  have hst := run_storeCells_new (P := Tryz.prog) w2 67 #[.int .u8 0, .int .u8 0, .int .u8 0, .int .u8 0, .int .u8 0, .int .u8 0, .int .u8 0, .int .u8 0, .int .u8 0, .int .u8 0, .int .u8 0, .int .u8 0, .int .u8 0, .int .u8 0, .int .u8 0, .int .u8 0, .int .u8 0, .int .u8 0, .int .u8 0, .int .u8 0, .int .u8 0, .int .u8 0, .int .u8 0, .int .u8 0, .int .u8 0, .int .u8 0, .int .u8 0, .int .u8 0, .int .u8 0, .int .u8 0, .int .u8 0, .int .u8 0] L.toArray hinf (by rw [show L.toArray.size = 32 from hl32]; rfl) hone
  simp only at hst
  have A3 := Lib.hid (Blk.new w2 67 L.toArray)
  have B3 := Lib.hid (B2.out.alloc (by have hz1 := B2.out.size; have hz2 := HZ0.out; omega) (.cells L.toArray 67))
  have K3 := Lib.hid (K2.out.alloc (.cells L.toArray 67))
  have hWZ : Z0 < w2.heap.size := K2.out.lt
  have hW3 : w2.heap.size < (w2.alloc (.cells L.toArray 67)).heap.size := by simp
  go_upto_region 2 with fail
  clear hst
  generalize w2.alloc (.cells L.toArray 67) = w3 at *
  obtain ⟨W1, hW1⟩ : ∃ W1, w2.heap.size = W1 := ⟨_, rfl⟩
  rw [hW1] at A3 hWZ hW3 ⊢
  clear hW1
  have ZG := Lib.hid (Blk.new w3 39 #[.slice none 0 0, .bool false, .string { data := #[] }, .string { data := #[] }])
  have B4 := Lib.hid (B3.out.alloc (by have hz1 := B3.out.size; have hz2 := HZ0.out; omega) (.cells #[.slice none 0 0, .bool false, .string { data := #[] }, .string { data := #[] }] 39))
  have K4 := Lib.hid (K3.out.alloc (.cells #[.slice none 0 0, .bool false, .string { data := #[] }, .string { data := #[] }] 39))
  have A4 := Lib.hid (A3.out.alloc (.cells #[.slice none 0 0, .bool false, .string { data := #[] }, .string { data := #[] }] 39))
  go_upto_region 3 with fail
  generalize w3.alloc (.cells #[.slice none 0 0, .bool false, .string { data := #[] }, .string { data := #[] }] 39) = w4 at *
  obtain ⟨G, hG⟩ : ∃ G, w3.heap.size = G := ⟨_, rfl⟩
  rw [hG] at ZG hW3 ⊢
  clear hG
  go_wp2_with fail
  refine (HPc.out w4 (Hbw.out _ B4.out) (HMw.out _ B4.out)).mono ?_
  rintro e w5 ⟨aS, cS, S, rfl, hpm, hso, hpl, hcS, h5⟩
  obtain ⟨hAs, hlS⟩ := HA0.out S hpm hso
  have HQ := Lib.hid (HPr0.out S hpm)
  have B5 := Lib.hid (B4.out.trans (h5.mono (by have hz1 := B4.out.size; have hz2 := HZ0.out; omega)))
  have K5 := Lib.hid (K4.out.below h5 K4.out.lt)
  have A5 := Lib.hid (A4.out.below h5 A4.out.lt)
  have G5 := Lib.hid (show Blk w5 G 39 #[.slice none 0 0, .bool false, .string .empty, .string .empty] from ZG.out.below h5 ZG.out.lt)
  have HS5 := Lib.hid (And.intro hAs (And.intro hlS (And.intro hcS hpl)))
  obtain ⟨Z, hZ⟩ : ∃ Z, w5.heap.size = Z := ⟨_, rfl⟩
  have hGZ : G < Z := by rw [← hZ]; exact G5.out.lt
  have HZZ := Lib.hid (show ∀ w' : World, w5.heap.size ≤ w'.heap.size → Z ≤ w'.heap.size from fun w' h => by rw [← hZ]; exact h)
  have HRow := Lib.hid (show 0 < S.length → ∀ p, aS = some p → p.block < Z ∧ p.block ≠ G from fun h0 p hp => by
    obtain ⟨r, off, e, hat⟩ := hpl.2 h0
    rw [e] at hp
    injection hp with hp
    subst hp
    rw [← hZ]
    exact ⟨(hat 0 h0).lt (by rw [size_getD hAs.size h0]; omega), row_ne (hat 0 h0) (by rw [size_getD hAs.size h0]; omega) G5.out⟩)
  clear hpm hso hpl hcS h5 hAs hlS HPr0 HA0 HPc A3 A4 B0 B1 B2 B3 B4 K0 K1 K2 K3 K4 ZG hZ
  have hGz0 : Z0 < G := by omega
  go_wp2_with fail
  go_loopw [7, 8] (fun lv dv wr => ∃ (k m : Nat) (T : List ByteArray) (aL : Option Addr) (cL : Nat) (v : Value) (B : List ByteArray),
      m + k = 256 ∧ lv = .slice aL T.length cL ∧ dv = .int .i64 (k : Int) ∧ Asc k T ∧ T.length ≤ 1000000 ∧ T.length ≤ cL ∧ Pl wr aL T.length T ∧ (0 < T.length → ∀ p, aL = some p → p.block < Z ∧ p.block ≠ G) ∧
      Blk wr G 39 #[v, .bool false, .string .empty, .string .empty] ∧ OwnT wr Z v B ∧ B.length = k ∧
      proveF 256 0 (ents l S) P = (B ++ (proveF m k (ents l T) P).1, (proveF m k (ents l T) P).2) ∧
      Blk wr Z0 39 #[.slice none 0 0, .bool false, .string { data := #[] }, .string { data := #[] }] ∧ Blk wr W1 67 L.toArray ∧ Z ≤ wr.heap.size ∧ Below Z0 w wr) (fun _ dv _ => 257 - (intOf dv).toNat)
  case atStart => exact ⟨0, 256, S, aS, cS, _, [], by omega, rfl, rfl, HS5.out.1, HS5.out.2.1, HS5.out.2.2.1, HS5.out.2.2.2, HRow.out, G5.out, World.ownsRow_nil _ _ _ _, rfl, by simp, K5.out, A5.out, HZZ.out _ (Nat.le_refl _), B5.out⟩
  case round =>
    obtain ⟨k, m, T, aL, cL, v, B, hmk, rfl, rfl, hA, hl6, hcL, hE, hrow, hz, hown, hBl, hpr, hz0, hwa, hZl, hbel⟩ := hrel
    have HA := Lib.hid hA
    have HEn := Lib.hid hE
    have HZ := Lib.hid hz
    have HKz := Lib.hid hz0
    have HWA := Lib.hid hwa
    have HO := Lib.hid hown
    have HRw := Lib.hid hrow
    have HPr := Lib.hid hpr
    have HB := Lib.hid hbel
    have hbz := hbel.size
    rw [HZ0.out] at hbz
    clear hz hz0 hwa hown hrow hpr hbel HRow HS5 G5 K5 A5 B5 HZZ
    by_cases h2 : 2 ≤ T.length
    · obtain ⟨m', rfl⟩ := asc_more hA hmk h2
      have hk8 : k < 256 := by omega
      have hstep := prove_stepP m' k l T P h2
      have HC0 := children_any aL T.length cL T k hk8 hA hl6 hcL wr hE
      have HBt := Lib.hid (fun w => HBi.out k hk8 w)
      obtain ⟨bt, hbt⟩ : ∃ bt, bitN P k = bt := ⟨_, rfl⟩
      have hb2 : bt = 0 ∨ bt = 1 := by rw [← hbt]; exact bitN_two P k
      rw [hbt] at HBt hstep
      have HC := Lib.hid (HC0.mono fun e w' h => kid_pick h bt hb2)
      have F1 : ∀ s, (sideP s k T).length ≤ 1000000 := fun s => Nat.le_trans (List.length_filter_le _ _) hl6
      have AB := hA.down (1 - bt)
      have AH := hA.down bt
      have lH6 := F1 bt
      have lB6 := F1 (1 - bt)
      obtain ⟨LH, hLH⟩ : ∃ LH, sideP bt k T = LH := ⟨_, rfl⟩
      obtain ⟨LB, hLB⟩ : ∃ LB, sideP (1 - bt) k T = LB := ⟨_, rfl⟩
      rw [hLH] at HC hstep AH lH6
      rw [hLB] at HC hstep AB lB6
      have HH := Lib.hid (fun a c w h4 h5 h6 h7 h8 => HHs.out m' (k + 1) LB a c w (by omega) AB lB6 h4 h5 h6 h7 h8)
      have HAH := Lib.hid AH
      have HABs := Lib.hid (fun p hp => AB.size p hp)
      have e1 : ((k + 1 : Nat) : Int) = (k : Int) + 1 := by omega
      rw [e1] at HH
      obtain ⟨X, hX⟩ : ∃ X, hashF m' (k + 1) (ents l LB) = X := ⟨_, rfl⟩
      rw [hX] at HH hstep
      have HStep := Lib.hid hstep
      have HRw2 := Lib.hid (HRw.out (by omega))
      obtain ⟨N, hN⟩ : ∃ N, T.length = N := ⟨_, rfl⟩
      have hNi : 1 < (N : Int) := by omega
      have hkw : IntKind.i64.wrap ((k : Int) + 1) = (k : Int) + 1 := by rw [IntKind.wrap_i64]; omega
      rw [hN] at HC ⊢
      obtain ⟨Xs, eXs⟩ : ∃ Xs : List Value, B.map Value.string = Xs := ⟨_, rfl⟩
      obtain ⟨i0, hi0, hz0', hz1, hz2⟩ := info_parts infoText
      have hk9 : k + 1 ≤ maxLen := by unfold maxLen; omega
      have hkb : (k + 1) * 16 ≤ 140737488355328 := by omega
      have EXs := Lib.hid (And.intro eXs hBl)
      clear HC0 hstep hbt AB AH F1 hLH hLB e1 hX hN h2 eXs hBl hA hE hcL hl6
      rcases hb2 with hb0 | hb0
      all_goals
        subst hb0
        go_wp2_with fail
        refine HC.out.mono ?_
        rintro e w6 ⟨aH, aB, cH, cB, he, qH, qB, lH, lB, hb6, mH, mB⟩
        first
          | (have he2 : e = .returned (.tuple #[.slice aH LH.length cH, .slice aB LB.length cB]) := he; clear he; subst he2)
          | (have he2 : e = .returned (.tuple #[.slice aB LB.length cB, .slice aH LH.length cH]) := he; clear he; subst he2)
        have B6 := HB.out.trans (hb6.mono hbz)
        have G6 := HZ.out.below hb6 HZ.out.lt
        have K6 := HKz.out.below hb6 HKz.out.lt
        have A6 := HWA.out.below hb6 HWA.out.lt
        have O6 := own_below HO.out hb6
        have hZ6 : Z ≤ w6.heap.size := Nat.le_trans hZl hb6.size
        have HRH := Lib.hid (show ∀ p, aH = some p → p.block < Z ∧ p.block ≠ G from fun p hp => by
          obtain ⟨r, h1, h2⟩ := mH p hp
          rw [h2]
          exact HRw2.out r h1)
        have HLC := Lib.hid (And.intro lH lB)
        have A6r := Lib.hid (show w6.rangeAt W1 0 L from fun j v hv => by rw [A6.cell, Nat.zero_add, List.getElem?_toArray]; exact hv)
        have H6 := Lib.hid (And.intro B6 (And.intro G6 (And.intro K6 (And.intro A6 (And.intro O6 (And.intro qH qB))))))
        clear B6 G6 K6 A6 O6 qH qB mH mB lH lB hb6
        go_wp2_with (refine wpList_load_mid (by rfl) 67 (.tmp 5) rfl W1 0 rfl L _ A6r.out Tryz.underlying67 rfl hinf ?_)
        refine (HBt.out w6).mono ?_
        rintro e w7 ⟨rfl, hw7⟩
        have h67 : Below w6.heap.size w6 w7 := by rw [hw7]; exact (Below.refl _ _).alloc (Nat.le_refl _) _
        have hbz6 := H6.out.1.size
        have B7 := Lib.hid (H6.out.1.trans (h67.mono (by rw [HZ0.out] at hbz6; exact hbz6)))
        have G7 := H6.out.2.1.below h67 H6.out.2.1.lt
        have c7 := G7.cell 0
        simp only [List.getElem?_toArray, List.getElem?_cons_zero] at c7
        have A7 := H6.out.2.2.2.1.below h67 H6.out.2.2.2.1.lt
        have HG7 := Lib.hid (And.intro G7 (And.intro (H6.out.2.2.1.below h67 H6.out.2.2.1.lt) (And.intro A7 (And.intro (own_below H6.out.2.2.2.2.1 h67) (H6.out.2.2.2.2.2.1.below HAH.out.size h67)))))
        have hZ7 : Z ≤ w7.heap.size := Nat.le_trans hZ6 h67.size
        have HX := Lib.hid (fun (w' : World) (hbw : Below w7.heap.size w7 w') =>
          have hw : Below Z0 w w' := B7.out.trans (hbw.mono (by omega))
          HH.out aB cB w' HLC.out.2 (Hbw.out _ hw) (HMw.out _ hw) (HTw.out _ hw) ((H6.out.2.2.2.2.2.2.below HABs.out h67).below HABs.out hbw))
        clear h67 hw7 H6 G7 A7 A6r hbz6
        go_wp2_with fail
        have ne7 := Lib.hid (own_blk_ne HG7.out.2.2.2.1 HG7.out.1 (by decide))
        have hO7 : OwnT w7 Z v B := HG7.out.2.2.2.1
        unfold OwnT at hO7
        rw [EXs.out.1, EXs.out.2] at hO7
        have HO7 := Lib.hid hO7
        clear hO7
        go_region_law ((first
          | (refine step_append_lies _ (by rfl) _ _ _ (by rfl) Z 9 i0 _ 1 16 Tryz.underlying37 hi0 hz0' hz1 hz2 rfl Nat.one_pos v k Xs (by rfl) (by first | exact World.ownsRow.alloc O8.out _ | exact (World.ownsRow.alloc O8.out _).drew) ⟨w8.heap.size, 0, none⟩ 1 1 _ (by rfl) (by rfl) (World.news_of_block (heap_alloc_new w8 _)) (by simp [Value.oneCell']) Nat.one_pos hk9 hkb (by simp; omega) (w8.heap.size + 1) (by simp) ?_; intro gg cap3 w9 hown9 hgrow hat hgl; have HXp := Lib.hid (show ∃ W : World, Below w8.heap.size w8 W ∧ w8.heap.size ≤ W.heap.size ∧ W.grownBy w9 v.ownBlock from (by refine ⟨_, ?_, ?_, hgrow⟩ <;> first | exact (Below.refl _ _).alloc (Nat.le_refl _) _ | exact ((Below.refl _ _).alloc (Nat.le_refl _) _).drew | (simp <;> omega))); have G9 := K8.out.kept (by first | exact (Below.refl _ _).alloc (Nat.le_refl _) _ | exact ((Below.refl _ _).alloc (Nat.le_refl _) _).drew) hgrow ne7.out; have c9 := G9.cell 0; have f9 := G9.frozen 0; have K9 := Lib.hid G9; have O9 := Lib.hid (show OwnT w9 Z (.slice (some ⟨gg, 0, none⟩) (k + 1) cap3) (B ++ [X]) from (by unfold OwnT; rw [List.map_append, List.length_append, EXs.out.1, EXs.out.2]; exact hown9)); clear hown9 hgrow hat hgl G9)
          | (go_simp; go_at_call 41; refine (HX.out _ (by first | exact Below.refl _ _ | exact (Below.refl _ _).drew)).mono ?_; rintro e w8 ⟨rfl, h8⟩; have h8 : Below w7.heap.size w7 w8 := (by first | exact h8 | exact below_of_drew h8 | exact below_of_drew (below_of_drew h8)); have H8 := Lib.hid h8; have O8 := Lib.hid (own_below HO7.out h8); have K8 := Lib.hid (HG7.out.1.below h8 HG7.out.1.lt); have hZ8 : Z ≤ w8.heap.size := Nat.le_trans hZ7 h8.size; have c8 := (HG7.out.1.below h8 HG7.out.1.lt).cell 0; have c8b := ((HG7.out.1.below h8 HG7.out.1.lt).alloc (.cells #[.string X] 9)).cell 0; clear h8)))
        all_goals
          obtain ⟨Wp, hW8, hWs, hgr⟩ := HXp.out
          have hlt := fun kk hkk => (O8.out.lt kk hkk).1
          have u9 := (HG7.out.2.1.below H8.out HG7.out.2.1.lt).kept hW8 hgr (own_blk_ne HO7.out HG7.out.2.1 (by decide))
          have a9 := (HG7.out.2.2.1.below H8.out HG7.out.2.2.1.lt).kept hW8 hgr (own_blk_ne HO7.out HG7.out.2.2.1 (by decide))
          have p9 := ((HG7.out.2.2.2.2.below HAH.out.size H8.out).below HAH.out.size hW8).grownP hgr (fun p hp e => by
            have h1 := (HRH.out p hp).1
            have h2 := hlt _ e.symm
            omega)
          have b9 := (B7.out.trans ((H8.out.mono (show Z0 ≤ _ by omega)).trans (hW8.mono (show Z0 ≤ _ by omega)))).grown hgr (by omega) (fun kk hkk => by have := hlt kk hkk; omega)
          have hz9 := hgr.size
          have V10 := Lib.hid (Blk.far u9 (p := ⟨G, 0, none⟩) (by simp <;> omega) (.slice (some ⟨gg, 0, none⟩) (k + 1) cap3))
          have A10 := Lib.hid (Blk.far a9 (p := ⟨G, 0, none⟩) (by simp <;> omega) (.slice (some ⟨gg, 0, none⟩) (k + 1) cap3))
          have P10 := Lib.hid (p9.sameP (fun p hp => Below.heap_setCell w9 ⟨G, 0, none⟩ (.slice (some ⟨gg, 0, none⟩) (k + 1) cap3) p.block (HRH.out p hp).2))
          have K10 := Lib.hid (K9.out.set_ 0 (.slice (some ⟨gg, 0, none⟩) (k + 1) cap3))
          have O10 := Lib.hid (show OwnT _ Z (.slice (some ⟨gg, 0, none⟩) (k + 1) cap3) (B ++ [X]) from own_set O9.out K9.out (by decide) 0 (.slice (some ⟨gg, 0, none⟩) (k + 1) cap3))
          have B10 := Lib.hid (b9.setCell (p := ⟨G, 0, none⟩) (by simp <;> omega) (.slice (some ⟨gg, 0, none⟩) (k + 1) cap3))
          have hz10 : Z ≤ (w9.setCell ⟨G, 0, none⟩ (.slice (some ⟨gg, 0, none⟩) (k + 1) cap3)).heap.size := by
            rw [show (w9.setCell ⟨G, 0, none⟩ (.slice (some ⟨gg, 0, none⟩) (k + 1) cap3)).heap.size = w9.heap.size by simp [World.setCell]]
            omega
          clear hlt u9 a9 p9 b9 hz9 hW8 hWs hgr c9 f9 hk9 hkb
          go_wp2_with fail
          go_roundw
          case rel => exact ⟨k + 1, m', LH, aH, cH, _, B ++ [X], by omega, rfl, by go_num, HAH.out, lH6, HLC.out.1, P10.out, fun _ => HRH.out, K10.out, O10.out, by rw [List.length_append, EXs.out.2]; rfl, by rw [HPr.out, HStep.out]; simp, V10.out, A10.out, hz10, B10.out⟩
          case measure => simp [intOf]; omega
    · have hNi : ¬ 1 < (T.length : Int) := by omega
      obtain ⟨a2, c2, hv2, _, _, _⟩ := HO.out.strs_
      subst hv2
      have HFin := Lib.hid (fun (wf : World) (t : Bool) (p1 p2 : ByteArray) (hb : Blk wf Z0 39 #[.slice a2 B.length c2, .bool t, .string p1, .string p2]) (hbf : Below Z0 w wf) (ho : OwnT wf Z (.slice a2 B.length c2) B) (hq : q = ⟨B, t, p1, p2⟩) =>
        show PvTo q w (.returned (.agg #[.slice a2 B.length c2, .bool t, .string p1, .string p2])) wf from by
          subst hq
          obtain ⟨a3, c3, e3, hs3, hf3, hc3⟩ := ho.strs_
          injection e3 with e3 _ e4
          subst e3; subst e4
          exact ⟨a2, c2, rfl, hs3, fun p hp => by have h1 := (hf3 p hp).1; have h2 := HZ0.out; omega, hc3, by rw [HZ0.out]; exact hbf⟩)
      match T, h2, HA, HEn, HRw, HPr with
      | [], _, _, _, _, HPr =>
        have z0 := HZ.out.cell 0
        have z1 := HZ.out.cell 1
        have z2 := HZ.out.cell 2
        have z3 := HZ.out.cell 3
        have y0 := HKz.out.cell 0
        have y1 := HKz.out.cell 1
        have y2 := HKz.out.cell 2
        have y3 := HKz.out.cell 3
        simp only [List.getElem?_toArray, List.getElem?_cons_zero, List.getElem?_cons_succ] at z0 z1 z2 z3 y0 y1 y2 y3
        have fz := fun i => HZ.out.frozen i
        have fy := fun i => HKz.out.frozen i
        go_wp2_with fail
        refine ret_agg rfl Z0 39 #[.slice a2 B.length c2, .bool false, .string .empty, .string .empty] _ rfl ?_ rfl Tryz.underlying39 rfl proofFourP ?_
        · rw [hBl]
          exact (((HKz.out.set_ 0 _).set_ 1 _).set_ 2 _).set_ 3 _
        · refine HFin.out _ false .empty .empty ?_ ?_ ?_ ?_
          · rw [hBl]
            exact (((HKz.out.set_ 0 _).set_ 1 _).set_ 2 _).set_ 3 _
          · exact (((HB.out.setCell (p := ⟨Z0, 0, none⟩) (Nat.le_refl _) _).setCell (p := ⟨Z0, 1, none⟩) (Nat.le_refl _) _).setCell (p := ⟨Z0, 2, none⟩) (Nat.le_refl _) _).setCell (p := ⟨Z0, 3, none⟩) (Nat.le_refl _) _
          · exact own_set (own_set (own_set (own_set HO.out HKz.out (by decide) 0 _) (HKz.out.set_ 0 _) (by decide) 1 _) ((HKz.out.set_ 0 _).set_ 1 _) (by decide) 2 _) (((HKz.out.set_ 0 _).set_ 1 _).set_ 2 _) (by decide) 3 _
          · have h9 := HPr.out
            have h8 : proveF m k (ents l []) P = ([], none) := by cases m <;> rfl
            rw [HQ.out, h9, h8]
            simp [prfOf]
      | [x], _, HA, HEn, HRw, HPr =>
        obtain ⟨r, off, rfl, hat⟩ := HEn.out.2 (by simp)
        obtain ⟨hrZ, hrG⟩ := HRw.out (by simp) _ rfl
        have at0 : At wr r off x := by have := hat 0 (by simp); simpa using this
        have hx : x.size = 32 := HA.out.size x (by simp)
        have HPx := Lib.hid (fun w => ppath_any x hx w)
        have HGx := Lib.hid (fun w' (hb : Below Z0 w w') => HGt.out x hx w' (HMw.out w' hb))
        have HCl := Lib.hid (fun w => clone_any (valE l x) w (by have := HVs.out x; omega))
        have hvl : (getF l x).getD .empty = valE l x := rfl
        have hkv : keyV x = .agg (byteVs x.data.toList).toArray := rfl
        have hlen := len32 hx
        have hu2 := Tryz.underlying67
        have hinf2 : (Tryz.prog.info? 67).map (·.size) = some (byteVs x.data.toList).length := by rw [hlen]; exact cells32
        rw [hvl, hkv] at HGx
        rw [hkv] at HPx
        unfold valV at HGx
        have At1 := Lib.hid (at0.sameB (Below.heap_setCell wr ⟨G, 1, none⟩ (.bool true) r hrG))
        have hAtL : ∀ w', At w' r off x → w'.rangeAt r off (byteVs x.data.toList) := fun w' h => h
        obtain ⟨L2, hL2⟩ : ∃ L2, byteVs x.data.toList = L2 := ⟨_, rfl⟩
        rw [hL2] at HPx HGx hlen hinf2 hAtL
        have HAtL := Lib.hid hAtL
        obtain ⟨V, hV⟩ : ∃ V, valE l x = V := ⟨_, rfl⟩
        have HV := Lib.hid hV
        rw [hV] at HGx HCl
        have hfd := fun w => run_content V w
        have K13 := Lib.hid (show Blk (wr.setCell ⟨G, 1, none⟩ (.bool true)) G 39 #[.slice a2 B.length c2, .bool true, .string .empty, .string .empty] from HZ.out.set_ 1 (.bool true))
        have V13 := Lib.hid (Blk.far HKz.out (p := ⟨G, 1, none⟩) (by simp <;> omega) (.bool true))
        have O13 := Lib.hid (own_set HO.out HZ.out (by decide) 1 (.bool true))
        have B13 := Lib.hid (HB.out.setCell (p := ⟨G, 1, none⟩) (by simp <;> omega) (.bool true))
        have z1 := HZ.out.cell 1
        have f1 := HZ.out.frozen 1
        simp only [List.getElem?_toArray, List.getElem?_cons_zero, List.getElem?_cons_succ] at z1
        clear at0 hat hkv hvl hV hAtL hL2
        go_upto_region 14 with fail
        generalize wr.setCell ⟨G, 1, none⟩ (.bool true) = W13 at *
        have R13 := HAtL.out _ At1.out
        go_wp2_with (refine wpList_load_mid (by rfl) 67 (.tmp 49) rfl r off rfl L2 _ R13 Tryz.underlying67 rfl hinf2 ?_)
        refine (HPx.out _).mono ?_
        rintro e w7 ⟨rfl, hw7⟩
        have h7 : Below W13.heap.size W13 w7 := by rw [hw7]; exact (Below.refl _ _).alloc (Nat.le_refl _) _
        have k7 := K13.out.below h7 K13.out.lt
        have z2 := k7.cell 2
        have f2 := k7.frozen 2
        simp only [List.getElem?_toArray, List.getElem?_cons_zero, List.getElem?_cons_succ] at z2
        have K14 := Lib.hid (show Blk (w7.setCell ⟨G, 2, none⟩ (.string x)) G 39 #[.slice a2 B.length c2, .bool true, .string x, .string .empty] from k7.set_ 2 (.string x))
        have V14 := Lib.hid (Blk.far (V13.out.below h7 V13.out.lt) (p := ⟨G, 2, none⟩) (by simp <;> omega) (.string x))
        have O14 := Lib.hid (own_set (own_below O13.out h7) k7 (by decide) 2 (.string x))
        have hb13 := B13.out.size
        rw [HZ0.out] at hb13
        have B14 := Lib.hid ((B13.out.trans (h7.mono hb13)).setCell (p := ⟨G, 2, none⟩) (by simp <;> omega) (.string x))
        have At14 := Lib.hid ((At1.out.below h7 (At1.out.lt (by omega))).sameB (Below.heap_setCell w7 ⟨G, 2, none⟩ (.string x) r hrG))
        clear hw7 h7 k7 R13 z1 f1
        go_upto_region 15 with fail
        generalize w7.setCell ⟨G, 2, none⟩ (.string x) = W14 at *
        have hb14 := B14.out.size
        rw [HZ0.out] at hb14
        have HS := Lib.hid (fun (w' : World) (hbw : Below W14.heap.size W14 w') => show w'.rangeAt r off L2 ∧ w'.cell? ⟨g, 0, none⟩ = some (.map (some b)) ∧ (Instr.lookup 55 (.map (some b)) (.agg L2.toArray) false).run Tryz.prog w' = .ok (.agg #[.string V]) w' from
          have hw := B14.out.trans (hbw.mono hb14)
          ⟨HAtL.out _ (At14.out.below hbw (At14.out.lt (by omega))), by have := (Hbw.out _ hw).cell 0; simpa using this, HGx.out w' hw⟩)
        clear z2 f2 hb13
        go_wp2_with fail
        refine wp_region_held_drew (S := fun w' => w'.rangeAt r off L2 ∧ w'.cell? ⟨g, 0, none⟩ = some (.map (some b)) ∧ (Instr.lookup 55 (.map (some b)) (.agg L2.toArray) false).run Tryz.prog w' = .ok (.agg #[.string V]) w') (by kernel_rfl) (HS.out _ (Below.refl _ _).drew) (fun hHeld => ?_)
        refine wpAnyH_take (i := 0) (v := ?v0) rfl (by kernel_rfl) (by kernel_rfl) (by kernel_rfl) (fun _ _ _ h => h) (Or.inl ⟨by rfl, ?hy0⟩) (by assumption) ?rest0
        case hy0 => (intro w hSw; (try dsimp only at hSw); go_simp; try with_reducible rfl)
        try simp only [List.getElem_toArray, List.getElem_cons_zero, Act.put, List.setIfInBounds_toArray, List.set_cons_zero, List.set_cons_succ]
        refine wpAnyH_take (i := 1) (v := ?v1) rfl (by kernel_rfl) (by kernel_rfl) (by kernel_rfl) (fun _ _ _ h => h) (Or.inl ⟨by rfl, ?hy1⟩) (by assumption) ?rest1
        case hy1 => (intro w hSw; (try dsimp only at hSw); go_simp; try with_reducible rfl)
        try simp only [List.getElem_toArray, List.getElem_cons_zero, List.getElem_cons_succ, Act.put, List.setIfInBounds_toArray, List.set_cons_zero, List.set_cons_succ]
        refine wpAnyH_take (i := 2) (v := ?v2) rfl (by kernel_rfl) (by kernel_rfl) (by kernel_rfl) (fun _ _ _ h => h) (Or.inl ⟨by rfl, ?hy2⟩) (by assumption) ?rest2
        case hy2 => (intro w hSw; (try dsimp only at hSw); go_simp; try with_reducible rfl)
        try simp only [List.getElem_toArray, List.getElem_cons_zero, List.getElem_cons_succ, Act.put, List.setIfInBounds_toArray, List.set_cons_zero, List.set_cons_succ]
        refine wpAnyH_take (i := 3) (v := ?v3) rfl (by kernel_rfl) (by kernel_rfl) (by kernel_rfl) (fun _ _ _ h => h) (Or.inl ⟨by rfl, ?hy3⟩) (by assumption) ?rest3
        case hy3 => (intro w hSw; (try dsimp only at hSw); go_simp; try with_reducible rfl)
        try simp only [List.getElem_toArray, List.getElem_cons_zero, List.getElem_cons_succ, Act.put, List.setIfInBounds_toArray, List.set_cons_zero, List.set_cons_succ]
        refine wpAnyH_take (i := 4) (v := ?v4) rfl (by kernel_rfl) (by kernel_rfl) (by kernel_rfl) (fun _ _ _ h => h) (Or.inl ⟨by rfl, ?hy4⟩) (by assumption) ?rest4
        case hy4 => (intro w hSw; (try dsimp only at hSw); go_simp; try with_reducible rfl)
        try simp only [List.getElem_toArray, List.getElem_cons_zero, List.getElem_cons_succ, Act.put, List.setIfInBounds_toArray, List.set_cons_zero, List.set_cons_succ]
        refine wpAnyH_take (i := 5) (v := ?v5) rfl (by kernel_rfl) (by kernel_rfl) (by kernel_rfl) (fun _ _ _ h => h) (Or.inl ⟨by rfl, ?hy5⟩) (by assumption) ?rest5
        case hy5 => (intro w hSw; (try dsimp only at hSw); go_simp; try with_reducible rfl)
        try simp only [List.getElem_toArray, List.getElem_cons_zero, List.getElem_cons_succ, Act.put, List.setIfInBounds_toArray, List.set_cons_zero, List.set_cons_succ]
        refine wpAnyH_take (i := 6) (v := .agg (L2).toArray) rfl (by kernel_rfl) (by kernel_rfl) (by kernel_rfl) (fun _ _ _ h => h) ?hy6 (by assumption) ?rest6
        case hy6 => exact yieldsIf_load_mid (by rfl) _ _ rfl (r) (off) rfl (L2) _ (fun _ h => h.1) hu2 rfl hinf2
        try simp only [List.getElem_toArray, List.getElem_cons_zero, List.getElem_cons_succ, Act.put, List.setIfInBounds_toArray, List.set_cons_zero, List.set_cons_succ]
        refine wpAnyH_take (i := 7) (v := ?v7) rfl (by kernel_rfl) (by kernel_rfl) (by kernel_rfl) (fun _ _ _ h => h) (Or.inl ⟨by rfl, ?hy7⟩) (by assumption) ?rest7
        case hy7 => (intro w hSw; (try dsimp only at hSw); go_simp; try with_reducible rfl)
        try simp only [List.getElem_toArray, List.getElem_cons_zero, List.getElem_cons_succ, Act.put, List.setIfInBounds_toArray, List.set_cons_zero, List.set_cons_succ]
        refine wpAnyH_take (i := 8) (v := ?v8) rfl (by kernel_rfl) (by kernel_rfl) (by kernel_rfl) (fun _ _ _ h => h) (Or.inl ⟨by rfl, ?hy8⟩) (by assumption) ?rest8
        case hy8 => (intro w hSw; (try dsimp only at hSw); first | exact hfd _ | (go_simp; try exact hfd _); try with_reducible rfl)
        try simp only [List.getElem_toArray, List.getElem_cons_zero, List.getElem_cons_succ, Act.put, List.setIfInBounds_toArray, List.set_cons_zero, List.set_cons_succ]
        refine wpAnyH_ready (rs := [9]) (by kernel_rfl) (by simp) ?_
        refine AllReadyH.cons rfl (fun K hK => ?_) AllReadyH.nil
        go_simp
        go_at_call 39; refine (HCl.out _).mono ?_; rintro e w9 ⟨rfl, h9⟩; have h9 : Below W14.heap.size W14 w9 := (by first | exact h9 | exact below_of_drew h9)
        go_wp2_with fail
        refine hK.out _ _ ?_ (fun hHeld => ?_)
        · exact HS.out _ (by first | exact h9 | exact h9.drew)
        clear hK K
        try simp only [List.getElem_toArray, List.getElem_cons_zero, List.getElem_cons_succ, Act.put, List.setIfInBounds_toArray, List.set_cons_zero, List.set_cons_succ]
        have B9 := Lib.hid (B14.out.trans (h9.mono (by have := B14.out.size; rw [HZ0.out] at this; omega)))
        have K9 := Lib.hid (K14.out.below h9 K14.out.lt)
        have V9 := Lib.hid (V14.out.below h9 V14.out.lt)
        have O9 := Lib.hid (own_below O14.out h9)
        have S9 := Lib.hid (HS.out _ h9)
        have k0 := K9.out.cell 3
        have k1 := K9.out.frozen 3
        clear h9
        refine wpAnyH_take (i := 10) (v := ?v10) rfl (by kernel_rfl) (by kernel_rfl) (by kernel_rfl) (fun _ _ _ h => h) (Or.inl ⟨by rfl, ?hy10⟩) (by assumption) ?rest10
        case hy10 => (intro w hSw; (try dsimp only at hSw); go_simp; try with_reducible rfl)
        try simp only [List.getElem_toArray, List.getElem_cons_zero, List.getElem_cons_succ, Act.put, List.setIfInBounds_toArray, List.set_cons_zero, List.set_cons_succ]
        have B15 := Lib.hid (B9.out.setCell (p := ⟨G, 3, none⟩) (by simp <;> omega) (.string V))
        have K15 := Lib.hid (show Blk (w9.setCell ⟨G, 3, none⟩ (.string V)) G 39 #[.slice a2 B.length c2, .bool true, .string x, .string V] from K9.out.set_ 3 (.string V))
        have V15 := Lib.hid (Blk.far V9.out (p := ⟨G, 3, none⟩) (by simp <;> omega) (.string V))
        have O15 := Lib.hid (own_set O9.out K9.out (by decide) 3 (.string V))
        have S15 := Lib.hid (show (w9.setCell ⟨G, 3, none⟩ (.string V)).rangeAt r off L2 ∧ (w9.setCell ⟨G, 3, none⟩ (.string V)).cell? ⟨g, 0, none⟩ = some (.map (some b)) ∧ (Instr.lookup 55 (.map (some b)) (.agg L2.toArray) false).run Tryz.prog (w9.setCell ⟨G, 3, none⟩ (.string V)) = .ok (.agg #[.string V]) (w9.setCell ⟨G, 3, none⟩ (.string V)) from
          ⟨fun j v hv => (World.cell?_of_block (a := ⟨r, off + j, none⟩) (Below.heap_setCell w9 ⟨G, 3, none⟩ (.string V) r hrG)).trans (S9.out.1 j v hv), by have := (Hbw.out _ B15.out).cell 0; simpa using this, HGx.out _ B15.out⟩)
        refine wpAnyH_ready (rs := [11]) (by kernel_rfl) (by simp) ?_
        refine AllReadyH.cons rfl (fun K hK => ?_) AllReadyH.nil
        go_simp
        go_wp2_with fail
        refine hK.out _ _ ?_ (fun hHeld => ?_)
        · exact S15.out
        clear hK K hHeld k0 k1
        refine wpAnyH_done (by kernel_rfl) ?_ _
        generalize w9.setCell ⟨G, 3, none⟩ (.string V) = W15 at *
        have z0 := K15.out.cell 0
        have z1 := K15.out.cell 1
        have z2 := K15.out.cell 2
        have z3 := K15.out.cell 3
        have y0 := V15.out.cell 0
        have y1 := V15.out.cell 1
        have y2 := V15.out.cell 2
        have y3 := V15.out.cell 3
        simp only [List.getElem?_toArray, List.getElem?_cons_zero, List.getElem?_cons_succ] at z0 z1 z2 z3 y0 y1 y2 y3
        have fz := fun i => K15.out.frozen i
        have fy := fun i => V15.out.frozen i
        go_wp2_with fail
        refine ret_agg rfl Z0 39 #[.slice a2 B.length c2, .bool true, .string x, .string V] _ rfl ?_ rfl Tryz.underlying39 rfl proofFourP ?_
        · rw [hBl]
          exact (((V15.out.set_ 0 _).set_ 1 _).set_ 2 _).set_ 3 _
        · refine HFin.out _ true x V ?_ ?_ ?_ ?_
          · rw [hBl]
            exact (((V15.out.set_ 0 _).set_ 1 _).set_ 2 _).set_ 3 _
          · exact (((B15.out.setCell (p := ⟨Z0, 0, none⟩) (Nat.le_refl _) _).setCell (p := ⟨Z0, 1, none⟩) (Nat.le_refl _) _).setCell (p := ⟨Z0, 2, none⟩) (Nat.le_refl _) _).setCell (p := ⟨Z0, 3, none⟩) (Nat.le_refl _) _
          · exact own_set (own_set (own_set (own_set O15.out V15.out (by decide) 0 _) (V15.out.set_ 0 _) (by decide) 1 _) ((V15.out.set_ 0 _).set_ 1 _) (by decide) 2 _) (((V15.out.set_ 0 _).set_ 1 _).set_ 2 _) (by decide) 3 _
          · have h9 := HPr.out
            have h8 : proveF m k (ents l [x]) P = ([], some (x, V)) := by rw [← HV.out]; cases m <;> rfl
            rw [HQ.out, h9, h8]
            simp [prfOf]
      | _ :: _ :: _, h2, _, _, _, _ => exact absurd (by simp) h2
end Go.Proofs.YtnkkckmejjcfkaaGreatDoor.Sp
