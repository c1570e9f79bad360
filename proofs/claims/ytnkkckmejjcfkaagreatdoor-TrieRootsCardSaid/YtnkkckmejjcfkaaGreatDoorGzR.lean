/- Package trie: Path, Nothing, Leaf, Inner. -/
import Derived.Test.YtnkkckmejjcfkaaGreatDoorGzG
import Derived.Test.YtnkkckmejjcfkaaGreatDoorGzQ
import Derived.Test.YtnkkckmejjcfkaaGreatDoorGzA
import Derived.Lib.BufferWrite
import Derived.Lib.UnsafeStr
import Derived.Laws.MakeOwn
namespace Go.Proofs.YtnkkckmejjcfkaaGreatDoor.Sp
open Go Go.RowKit
set_option maxRecDepth 100000

/-- A block of texts, as a list of texts. -/
theorem strs_of_blkp {w : World} {g : Nat} {t : TypeId} {ss : List ByteArray} {n : Nat} (h : Blk w g t (ss.map Value.string).toArray) (hn : ss.length = n) : Strs w (some ⟨g, 0, none⟩) n ss := by
  refine ⟨hn, fun _ => ⟨g, 0, rfl, fun j hj => ?_⟩⟩
  have hl : j < ss.length := by omega
  rw [h.cell]
  simp [List.getD, hl]
theorem len_twop (a b : ByteArray) : len2 [a, b] 2 = 9 + a.size + b.size := by simp [len2]; omega
theorem len_onep (a : ByteArray) : len2 [a] 1 = 5 + a.size := by simp [len2]; omega

set_option maxHeartbeats 1000000 in
theorem tpath_any (key : ByteArray) (w : World) (h : key.size ≤ 140737488351232) (hT : Tab w) :
    Calls Tryz.prog 34 #[.string key] w fun e w' => e = .returned (.string (keyP key)) ∧ Below w.heap.size w w' := by
  have HL := Lib.hid (show len2 [key] 1 ≤ 281474976710656 from by rw [len_onep]; omega)
  have HT := Lib.hid hT
  have B0 := Lib.hid ((Below.refl w.heap.size w).alloc (Nat.le_refl _) (.cells #[.string key] 9))
  have T0 := Lib.hid (hT.below B0.out hT.lt)
  clear hT h
  go_enter Tryz.func34, Tryz.ntmps34
  go_wp2_with fail
  refine (tag_any 6 _ 1 1 [key] _ (strs_of_blkp (ss := [key]) (Blk.new w 9 _) rfl) (by omega) HL.out T0.out).mono ?_
  rintro e w3 ⟨rfl, h3⟩
  have B3 := Lib.hid (B0.out.trans (h3.mono B0.out.size))
  clear h3
  go_wp2_with fail
  go_ret
  exact ⟨rfl, B3.out⟩
set_option maxHeartbeats 1000000 in
theorem tnothing_any (w : World) (hT : Tab w) :
    Calls Tryz.prog 32 #[] w fun e w' => e = .returned (.string nothingB) ∧ Below w.heap.size w w' := by
  have HT := Lib.hid hT
  clear hT
  go_enter Tryz.func32, Tryz.ntmps32
  go_wp2_with fail
  refine (tag_any 9 none 0 0 [] _ ⟨rfl, fun hn => absurd hn (by omega)⟩ (by omega) (by simp [len2]) HT.out).mono ?_
  rintro e w3 ⟨rfl, h3⟩
  have B3 := Lib.hid h3
  clear h3
  go_wp2_with fail
  go_ret
  exact ⟨rfl, B3.out⟩
set_option maxHeartbeats 1000000 in
theorem tleaf_any (a b : ByteArray) (w : World) (h : a.size + b.size ≤ 281474976710647) (hT : Tab w) :
    Calls Tryz.prog 33 #[.string a, .string b] w fun e w' => e = .returned (.string (leafB a b)) ∧ Below w.heap.size w w' := by
  have HL := Lib.hid (show len2 [a, b] 2 ≤ 281474976710656 from by rw [len_twop]; omega)
  have HT := Lib.hid hT
  have B0 := Lib.hid ((Below.refl w.heap.size w).alloc (Nat.le_refl _) (.cells #[.string a, .string b] 9))
  have T0 := Lib.hid (hT.below B0.out hT.lt)
  clear hT h
  go_enter Tryz.func33, Tryz.ntmps33
  go_wp2_with fail
  refine (tag_any 7 _ 2 2 [a, b] _ (strs_of_blkp (ss := [a, b]) (Blk.new w 9 _) rfl) (by omega) HL.out T0.out).mono ?_
  rintro e w3 ⟨rfl, h3⟩
  have B3 := Lib.hid (B0.out.trans (h3.mono B0.out.size))
  clear h3
  go_wp2_with fail
  go_ret
  exact ⟨rfl, B3.out⟩
set_option maxHeartbeats 1000000 in
theorem tinner_any (a b : ByteArray) (w : World) (h : a.size + b.size ≤ 281474976710647) (hT : Tab w) :
    Calls Tryz.prog 63 #[.string a, .string b] w fun e w' => e = .returned (.string (innerB a b)) ∧ Below w.heap.size w w' := by
  have HL := Lib.hid (show len2 [a, b] 2 ≤ 281474976710656 from by rw [len_twop]; omega)
  have HT := Lib.hid hT
  have B0 := Lib.hid ((Below.refl w.heap.size w).alloc (Nat.le_refl _) (.cells #[.string a, .string b] 9))
  have T0 := Lib.hid (hT.below B0.out hT.lt)
  clear hT h
  go_enter Tryz.func63, Tryz.ntmps63
  go_wp2_with fail
  refine (tag_any 8 _ 2 2 [a, b] _ (strs_of_blkp (ss := [a, b]) (Blk.new w 9 _) rfl) (by omega) HL.out T0.out).mono ?_
  rintro e w3 ⟨rfl, h3⟩
  have B3 := Lib.hid (B0.out.trans (h3.mono B0.out.size))
  clear h3
  go_wp2_with fail
  go_ret
  exact ⟨rfl, B3.out⟩
end Go.Proofs.YtnkkckmejjcfkaaGreatDoor.Sp

/- Package trie: hash and Root. -/
namespace Go.Proofs.YtnkkckmejjcfkaaGreatDoor.Sp
open Go Go.RowKit
set_option maxRecDepth 100000

def valE (E : List Ent) (p : ByteArray) : ByteArray := (getF E p).getD .empty
/-- The entries at these paths. -/
def ents (E : List Ent) (S : List ByteArray) : List Ent := S.map fun p => (p, valE E p)
theorem ents_filt (E : List Ent) (S : List ByteArray) (b d : Nat) : filt b d (ents E S) = ents E (sideP b d S) := by
  unfold filt ents sideP
  rw [List.filter_map]
  rfl
theorem valE_size {E : List Ent} (hv : ∀ e ∈ E, e.2.size ≤ 140737488351232) (p : ByteArray) : (valE E p).size ≤ 140737488351232 := by
  unfold valE getF
  cases h : E.find? fun e => decide (e.1 = p) with
  | none => exact Nat.zero_le _
  | some x => exact hv x (List.mem_of_find?_eq_some h)
theorem asc_one {S : List ByteArray} (h : Asc 256 S) : S.length ≤ 1 := by
  match S, h with
  | [], _ => exact Nat.zero_le _
  | [x], _ => exact Nat.le_refl _
  | x :: y :: S, h =>
    exfalso
    have e : x = y := path_ext x y (h.size x (by simp)) (h.size y (by simp)) (fun k hk => h.agree x (by simp) y (by simp) k hk)
    have h1 := (List.pairwise_cons.1 h.asc).1 y (by simp)
    rw [e] at h1
    exact Nat.lt_irrefl _ h1

set_option maxHeartbeats 2000000 in
theorem hash_nil (g : Nat) (a : Option Addr) (c d : Nat) (w : World) (hT : Tab w) :
    Calls Tryz.prog 41 #[.pointer (some ⟨g, 0, none⟩), .slice a 0 c, .int .i64 (d : Int)] w fun e w' => e = .returned (.string nothingB) ∧ Below w.heap.size w w' := by
  have HN := Lib.hid (tnothing_any w hT)
  obtain ⟨N, hN⟩ : ∃ N, nothingB = N := ⟨_, rfl⟩
  rw [hN] at HN ⊢
  clear hN hT
  go_enter Tryz.func41, Tryz.ntmps41
  go_wp2_with fail
  refine HN.out.mono ?_
  rintro e w1 ⟨rfl, h1⟩
  have H1 := Lib.hid h1
  clear h1
  go_wp2_with fail
  go_ret
  exact ⟨rfl, H1.out⟩

theorem run_content (V : ByteArray) (w : World) : (Instr.field 64 (.agg #[.string V]) 0).run Tryz.prog w = .ok (.string V) w := by rfl

set_option maxHeartbeats 4000000 in
theorem hash_one (g b : Nat) (E : List Ent) (hE : FitT E) (hv : ∀ e ∈ E, e.2.size ≤ 140737488351232) (p : ByteArray) (hp : p.size = 32) (r off c d : Nat) (w : World) (hb : Blk w g 57 #[.map (some b)]) (hM : Mp w b E) (hP : At w r off p) (hT : Tab w) :
    Calls Tryz.prog 41 #[.pointer (some ⟨g, 0, none⟩), .slice (some ⟨r, off, none⟩) 1 c, .int .i64 (d : Int)] w fun e w' => e = .returned (.string (leafB p (valE E p))) ∧ Below w.heap.size w w' := by
  have c0 := hb.cell 0
  simp only [List.getElem?_toArray, List.getElem?_cons_zero] at c0
  have hvs := valE_size hv p
  have HPth := Lib.hid (fun w => ppath_any p hp w)
  have HLf := Lib.hid (fun w ht => tleaf_any p (valE E p) w (by omega) ht)
  have B1 := Lib.hid (fun (o : Obj) => (Below.refl w.heap.size w).alloc (Nat.le_refl _) o)
  have HT := Lib.hid hT
  have HG := Lib.hid (fun (w' : World) (hb : Below w.heap.size w w') => mp_look (hM.keep (hb.block b hM.lt)) hE p hp)
  have hkv : keyV p = .agg (byteVs p.data.toList).toArray := rfl
  have hlen := len32 hp
  have hu := Tryz.underlying67
  have h1 := hP
  unfold At at h1
  have hvl : (getF E p).getD .empty = valE E p := rfl
  rw [hvl] at HG
  rw [hkv] at HPth HG
  unfold valV at HG
  obtain ⟨L, hL⟩ : ∃ L, byteVs p.data.toList = L := ⟨_, rfl⟩
  rw [hL] at HPth h1 hlen HG
  have hinf : (Tryz.prog.info? 67).map (·.size) = some L.length := by rw [hlen]; exact cells32
  obtain ⟨V, hV⟩ : ∃ V, valE E p = V := ⟨_, rfl⟩
  rw [hV] at HLf HG ⊢
  obtain ⟨F, hF⟩ : ∃ F, leafB p V = F := ⟨_, rfl⟩
  rw [hF] at HLf ⊢
  have HS := Lib.hid (fun (w' : World) (hbw : Below w.heap.size w w') => show w'.rangeAt r off L ∧ w'.cell? ⟨g, 0, none⟩ = some (.map (some b)) ∧ (Instr.lookup 55 (.map (some b)) (.agg L.toArray) false).run Tryz.prog w' = .ok (.agg #[.string V]) w' from
    ⟨by have := hP.below hbw (hP.lt (by omega)); unfold At at this; rw [hL] at this; exact this, (cell_below hbw (a := ⟨g, 0, none⟩) hb.lt).trans c0, HG.out w' hbw⟩)
  have B0 := Lib.hid (Below.refl w.heap.size w)
  have hfd := fun w => run_content V w
  clear hb hM hP hT hv hvs hkv hL hp hV hF hE hvl HG c0 h1
  go_enter Tryz.func41, Tryz.ntmps41
  go_wp2_with fail
  refine wp_region_held_drew (S := fun w' => w'.rangeAt r off L ∧ w'.cell? ⟨g, 0, none⟩ = some (.map (some b)) ∧ (Instr.lookup 55 (.map (some b)) (.agg L.toArray) false).run Tryz.prog w' = .ok (.agg #[.string V]) w') (by kernel_rfl) (HS.out _ B0.out.drew) (fun hHeld => ?_)
  refine wpAnyH_take (i := 0) (v := ?v0) rfl (by kernel_rfl) (by kernel_rfl) (by kernel_rfl) (fun _ _ _ h => h) (Or.inl ⟨by rfl, ?hy0⟩) (by assumption) ?rest0
  case hy0 => (intro w hSw; (try dsimp only at hSw); go_simp; try with_reducible rfl)
  try simp only [List.getElem_toArray, List.getElem_cons_zero, Act.put, List.setIfInBounds_toArray, List.set_cons_zero, List.set_cons_succ]
  refine wpAnyH_take (i := 1) (v := ?v1) rfl (by kernel_rfl) (by kernel_rfl) (by kernel_rfl) (fun _ _ _ h => h) (Or.inl ⟨by rfl, ?hy1⟩) (by assumption) ?rest1
  case hy1 => (intro w hSw; (try dsimp only at hSw); go_simp; try with_reducible rfl)
  try simp only [List.getElem_toArray, List.getElem_cons_zero, List.getElem_cons_succ, Act.put, List.setIfInBounds_toArray, List.set_cons_zero, List.set_cons_succ]
  refine wpAnyH_take (i := 2) (v := .agg (L).toArray) rfl (by kernel_rfl) (by kernel_rfl) (by kernel_rfl) (fun _ _ _ h => h) ?hy2 (by assumption) ?rest2
  case hy2 => exact yieldsIf_load_mid (by rfl) _ _ rfl (r) (off) rfl (L) _ (fun _ h => h.1) hu rfl hinf
  try simp only [List.getElem_toArray, List.getElem_cons_zero, List.getElem_cons_succ, Act.put, List.setIfInBounds_toArray, List.set_cons_zero, List.set_cons_succ]
  refine wpAnyH_take (i := 4) (v := ?v4) rfl (by kernel_rfl) (by kernel_rfl) (by kernel_rfl) (fun _ _ _ h => h) (Or.inl ⟨by rfl, ?hy4⟩) (by assumption) ?rest4
  case hy4 => (intro w hSw; (try dsimp only at hSw); go_simp; try with_reducible rfl)
  try simp only [List.getElem_toArray, List.getElem_cons_zero, List.getElem_cons_succ, Act.put, List.setIfInBounds_toArray, List.set_cons_zero, List.set_cons_succ]
  refine wpAnyH_take (i := 5) (v := ?v5) rfl (by kernel_rfl) (by kernel_rfl) (by kernel_rfl) (fun _ _ _ h => h) (Or.inl ⟨by rfl, ?hy5⟩) (by assumption) ?rest5
  case hy5 => (intro w hSw; (try dsimp only at hSw); go_simp; try with_reducible rfl)
  try simp only [List.getElem_toArray, List.getElem_cons_zero, List.getElem_cons_succ, Act.put, List.setIfInBounds_toArray, List.set_cons_zero, List.set_cons_succ]
  refine wpAnyH_take (i := 6) (v := ?v6) rfl (by kernel_rfl) (by kernel_rfl) (by kernel_rfl) (fun _ _ _ h => h) (Or.inl ⟨by rfl, ?hy6⟩) (by assumption) ?rest6
  case hy6 => (intro w hSw; (try dsimp only at hSw); go_simp; try with_reducible rfl)
  try simp only [List.getElem_toArray, List.getElem_cons_zero, List.getElem_cons_succ, Act.put, List.setIfInBounds_toArray, List.set_cons_zero, List.set_cons_succ]
  refine wpAnyH_take (i := 7) (v := ?v7) rfl (by kernel_rfl) (by kernel_rfl) (by kernel_rfl) (fun _ _ _ h => h) (Or.inl ⟨by rfl, ?hy7⟩) (by assumption) ?rest7
  case hy7 => (intro w hSw; (try dsimp only at hSw); go_simp; try with_reducible rfl)
  try simp only [List.getElem_toArray, List.getElem_cons_zero, List.getElem_cons_succ, Act.put, List.setIfInBounds_toArray, List.set_cons_zero, List.set_cons_succ]
  refine wpAnyH_take (i := 8) (v := ?v8) rfl (by kernel_rfl) (by kernel_rfl) (by kernel_rfl) (fun _ _ _ h => h) (Or.inl ⟨by rfl, ?hy8⟩) (by assumption) ?rest8
  case hy8 => (intro w hSw; (try dsimp only at hSw); go_simp; try with_reducible rfl)
  try simp only [List.getElem_toArray, List.getElem_cons_zero, List.getElem_cons_succ, Act.put, List.setIfInBounds_toArray, List.set_cons_zero, List.set_cons_succ]
  refine wpAnyH_take (i := 9) (v := ?v9) rfl (by kernel_rfl) (by kernel_rfl) (by kernel_rfl) (fun _ _ _ h => h) (Or.inl ⟨by rfl, ?hy9⟩) (by assumption) ?rest9
  case hy9 => (intro w hSw; (try dsimp only at hSw); go_simp; try with_reducible rfl)
  try simp only [List.getElem_toArray, List.getElem_cons_zero, List.getElem_cons_succ, Act.put, List.setIfInBounds_toArray, List.set_cons_zero, List.set_cons_succ]
  refine wpAnyH_take (i := 10) (v := .agg (L).toArray) rfl (by kernel_rfl) (by kernel_rfl) (by kernel_rfl) (fun _ _ _ h => h) ?hy10 (by assumption) ?rest10
  case hy10 => exact yieldsIf_load_mid (by rfl) _ _ rfl (r) (off) rfl (L) _ (fun _ h => h.1) hu rfl hinf
  try simp only [List.getElem_toArray, List.getElem_cons_zero, List.getElem_cons_succ, Act.put, List.setIfInBounds_toArray, List.set_cons_zero, List.set_cons_succ]
  refine wpAnyH_take (i := 11) (v := ?v11) rfl (by kernel_rfl) (by kernel_rfl) (by kernel_rfl) (fun _ _ _ h => h) (Or.inl ⟨by rfl, ?hy11⟩) (by assumption) ?rest11
  case hy11 => (intro w hSw; (try dsimp only at hSw); go_simp; try with_reducible rfl)
  try simp only [List.getElem_toArray, List.getElem_cons_zero, List.getElem_cons_succ, Act.put, List.setIfInBounds_toArray, List.set_cons_zero, List.set_cons_succ]
  refine wpAnyH_take (i := 12) (v := ?v12) rfl (by kernel_rfl) (by kernel_rfl) (by kernel_rfl) (fun _ _ _ h => h) (Or.inl ⟨by rfl, ?hy12⟩) (by assumption) ?rest12
  case hy12 => (intro w hSw; (try dsimp only at hSw); go_simp; try with_reducible rfl)
  try simp only [List.getElem_toArray, List.getElem_cons_zero, List.getElem_cons_succ, Act.put, List.setIfInBounds_toArray, List.set_cons_zero, List.set_cons_succ]
  refine wpAnyH_ready (rs := [3]) (by kernel_rfl) (by simp) ?_
  refine AllReadyH.cons rfl (fun K hK => ?_) AllReadyH.nil
  go_simp
  go_at_call 47; refine (HPth.out _).mono ?_; rintro e w1 ⟨rfl, rfl⟩
  go_wp2_with fail
  refine hK.out _ _ ?_ (fun hHeld => ?_)
  · exact HS.out _ ((B1.out _).drew)
  clear hK K
  try simp only [List.getElem_toArray, List.getElem_cons_zero, List.getElem_cons_succ, Act.put, List.setIfInBounds_toArray, List.set_cons_zero, List.set_cons_succ]
  refine wpAnyH_ready (rs := [13]) (by kernel_rfl) (by simp) ?_
  refine AllReadyH.cons rfl (fun K hK => ?_) AllReadyH.nil
  go_simp
  go_at_call 33; refine (HLf.out _ (HT.out.below ((B1.out _).drew) HT.out.lt)).mono ?_; rintro e w2 ⟨rfl, h2⟩; have B2 := Lib.hid ((B1.out (.cells L.toArray 67)).trans (Below.mono (show Below (w.alloc (.cells L.toArray 67)).heap.size (w.alloc (.cells L.toArray 67)) w2 from ⟨h2.os, h2.tape, h2.output, h2.size, h2.block⟩) (B1.out _).size)); clear h2
  go_wp2_with fail
  refine hK.out _ _ ?_ (fun hHeld => ?_)
  · exact HS.out _ B2.out
  clear hK K
  try simp only [List.getElem_toArray, List.getElem_cons_zero, List.getElem_cons_succ, Act.put, List.setIfInBounds_toArray, List.set_cons_zero, List.set_cons_succ]
  refine wpAnyH_take (i := 14) (v := ?v14) rfl (by kernel_rfl) (by kernel_rfl) (by kernel_rfl) (fun _ _ _ h => h) (Or.inl ⟨by rfl, ?hy14⟩) (by assumption) ?rest14
  case hy14 => (intro w hSw; (try dsimp only at hSw); go_simp; try with_reducible rfl)
  try simp only [List.getElem_toArray, List.getElem_cons_zero, List.getElem_cons_succ, Act.put, List.setIfInBounds_toArray, List.set_cons_zero, List.set_cons_succ]
  refine wpAnyH_done (by kernel_rfl) ?_ _
  go_wp2_with fail
  go_ret
  exact ⟨rfl, B2.out⟩

set_option maxHeartbeats 4000000 in
theorem hash_more (g b : Nat) (E : List Ent) (n d : Nat) (hd : d < 256) (S : List ByteArray) (a : Option Addr) (c : Nat) (w : World) (h2 : 2 ≤ S.length) (hA : Asc d S) (hl : S.length ≤ 1000000) (hc : S.length ≤ c) (hb : Blk w g 57 #[.map (some b)]) (hM : Mp w b E) (hT : Tab w) (hP : Pl w a S.length S)
    (H : ∀ (S' : List ByteArray) (a' : Option Addr) (c' : Nat) (w' : World), Asc (d + 1) S' → S'.length ≤ 1000000 → S'.length ≤ c' → Blk w' g 57 #[.map (some b)] → Mp w' b E → Tab w' → Pl w' a' S'.length S' →
      Calls Tryz.prog 41 #[.pointer (some ⟨g, 0, none⟩), .slice a' S'.length c', .int .i64 ((d + 1 : Nat) : Int)] w' fun e w'' => e = .returned (.string (hashF n (d + 1) (ents E S'))) ∧ Below w'.heap.size w' w'') :
    Calls Tryz.prog 41 #[.pointer (some ⟨g, 0, none⟩), .slice a S.length c, .int .i64 (d : Int)] w fun e w' => e = .returned (.string (innerB (hashF n (d + 1) (ents E (sideP 0 d S))) (hashF n (d + 1) (ents E (sideP 1 d S))))) ∧ Below w.heap.size w w' := by
  have HC := Lib.hid (children_any a S.length c S d hd hA hl hc w hP)
  have hsp := congrArg List.length (hA.split hd)
  rw [List.length_append] at hsp
  have HH0 := Lib.hid (fun a' c' w' h1 h3 h4 h5 h6 => H (sideP 0 d S) a' c' w' (hA.down 0) (by omega) h1 h3 h4 h5 h6)
  have HH1 := Lib.hid (fun a' c' w' h1 h3 h4 h5 h6 => H (sideP 1 d S) a' c' w' (hA.down 1) (by omega) h1 h3 h4 h5 h6)
  have HS1 := Lib.hid (fun p hp => (hA.down 1).size p hp)
  have e1 : ((d + 1 : Nat) : Int) = (d : Int) + 1 := by omega
  rw [e1] at HH0 HH1
  have hdw : IntKind.i64.wrap ((d : Int) + 1) = (d : Int) + 1 := by rw [IntKind.wrap_i64]; omega
  have hX32 := hashF_32 n (d + 1) (ents E (sideP 0 d S))
  have hY32 := hashF_32 n (d + 1) (ents E (sideP 1 d S))
  obtain ⟨X, hX⟩ : ∃ X, hashF n (d + 1) (ents E (sideP 0 d S)) = X := ⟨_, rfl⟩
  obtain ⟨Y, hY⟩ : ∃ Y, hashF n (d + 1) (ents E (sideP 1 d S)) = Y := ⟨_, rfl⟩
  rw [hX] at HH0 hX32 ⊢
  rw [hY] at HH1 hY32 ⊢
  have HI := Lib.hid (fun w ht => tinner_any X Y w (by omega) ht)
  obtain ⟨F, hF⟩ : ∃ F, innerB X Y = F := ⟨_, rfl⟩
  rw [hF] at HI ⊢
  have Hb := Lib.hid hb
  have HM := Lib.hid hM
  have HT := Lib.hid hT
  obtain ⟨m, hm⟩ : ∃ m, S.length = m := ⟨_, rfl⟩
  rw [hm] at HC h2 ⊢
  have hm0 : ((m : Int) == 0) = false := by
    rw [beq_eq_false_iff_ne]; omega
  have hm1 : ((m : Int) == 1) = false := by
    rw [beq_eq_false_iff_ne]; omega
  clear hA hl hc hb hM hT hP H hsp e1 hX hY hF hm h2
  go_enter Tryz.func41, Tryz.ntmps41
  go_wp2_with fail
  refine HC.out.mono ?_
  rintro e w1 ⟨a0, a1, c0, c1, rfl, q0, q1, l0, l1, hb1, _, _⟩
  have B1 := Lib.hid hb1
  have Q1 := Lib.hid q1
  have L1 := Lib.hid l1
  have HX := Lib.hid (HH0.out a0 c0 w1 l0 (Hb.out.below hb1 Hb.out.lt) (HM.out.keep (hb1.block b HM.out.lt)) (HT.out.below hb1 HT.out.lt) q0)
  clear q0 q1 l0 l1 hb1
  go_wp2_with fail
  refine HX.out.mono ?_
  rintro e w2 ⟨rfl, hb2⟩
  have B2 := Lib.hid (B1.out.trans (hb2.mono B1.out.size))
  have HY := Lib.hid (HH1.out a1 c1 w2 L1.out (Hb.out.below B2.out Hb.out.lt) (HM.out.keep (B2.out.block b HM.out.lt)) (HT.out.below B2.out HT.out.lt) (Q1.out.below HS1.out hb2))
  clear hb2
  go_wp2_with fail
  refine HY.out.mono ?_
  rintro e w3 ⟨rfl, hb3⟩
  have B3 := Lib.hid (B2.out.trans (hb3.mono B2.out.size))
  clear hb3
  go_wp2_with fail
  refine (HI.out w3 (HT.out.below B3.out HT.out.lt)).mono ?_
  rintro e w4 ⟨rfl, hb4⟩
  have B4 := Lib.hid (B3.out.trans (hb4.mono B3.out.size))
  clear hb4
  go_wp2_with fail
  go_ret
  exact ⟨rfl, B4.out⟩

theorem hash_any (g b : Nat) (E : List Ent) (hE : FitT E) (hv : ∀ e ∈ E, e.2.size ≤ 140737488351232) : ∀ (n d : Nat) (S : List ByteArray) (a : Option Addr) (c : Nat) (w : World), n + d = 256 → Asc d S → S.length ≤ 1000000 → S.length ≤ c → Blk w g 57 #[.map (some b)] → Mp w b E → Tab w → Pl w a S.length S →
    Calls Tryz.prog 41 #[.pointer (some ⟨g, 0, none⟩), .slice a S.length c, .int .i64 (d : Int)] w fun e w' => e = .returned (.string (hashF n d (ents E S))) ∧ Below w.heap.size w w'
  | n, d, [], a, c, w, _, _, _, _, _, _, hT, _ => by
    have e1 : hashF n d (ents E []) = nothingB := by cases n <;> rfl
    rw [e1]
    exact hash_nil g a c d w hT
  | n, d, [p], a, c, w, _, hA, _, _, hb, hM, hT, hP => by
    have e1 : hashF n d (ents E [p]) = leafB p (valE E p) := by cases n <;> rfl
    rw [e1]
    obtain ⟨r, off, rfl, hat⟩ := hP.2 (by simp)
    have h0 := hat 0 (by simp)
    rw [Nat.zero_mul, Nat.add_zero] at h0
    exact hash_one g b E hE hv p (hA.size p (by simp)) r off c d w hb hM h0 hT
  | 0, d, p :: q :: S, a, c, w, hn, hA, _, _, _, _, _, _ => by
    obtain rfl : d = 256 := by omega
    have := asc_one hA
    simp at this
  | n + 1, d, p :: q :: S, a, c, w, hn, hA, hl, hc, hb, hM, hT, hP => by
    have e1 : hashF (n + 1) d (ents E (p :: q :: S)) = innerB (hashF n (d + 1) (ents E (sideP 0 d (p :: q :: S)))) (hashF n (d + 1) (ents E (sideP 1 d (p :: q :: S)))) := by
      rw [← ents_filt, ← ents_filt]; rfl
    rw [e1]
    exact hash_more g b E n d (by omega) (p :: q :: S) a c w (by simp) hA hl hc hb hM hT hP (fun S' a' c' w' h1 h3 h4 h5 h6 h7 h8 => hash_any g b E hE hv n (d + 1) S' a' c' w' (by omega) h1 h3 h4 h5 h6 h7 h8)

/-! Root. -/
theorem ents_perm {E : List Ent} (hE : FitT E) {S : List ByteArray} (h : S.Perm (E.map Prod.fst)) : (ents E S).Perm E := by
  have h1 : (ents E S).Perm (ents E (E.map Prod.fst)) := h.map _
  refine h1.trans ?_
  unfold ents
  rw [List.map_map]
  have h2 : E.map ((fun p => (p, valE E p)) ∘ Prod.fst) = E := by
    have h3 : ∀ e ∈ E, ((fun p => (p, valE E p)) ∘ Prod.fst) e = e := fun e he => by
      show (e.1, valE E e.1) = e
      have h4 : getF E e.1 = some e.2 := (get_some hE).2 he
      unfold valE
      rw [h4]
      rfl
    rw [List.map_congr_left h3, List.map_id']
  rw [h2]
theorem asc_zero {E : List Ent} (hE : FitT E) {S : List ByteArray} (h : S.Perm (E.map Prod.fst)) (hs : S.Pairwise (fun p q => numP p < numP q)) : Asc 0 S where
  size := fun p hp => by
    obtain ⟨e, he, rfl⟩ := List.mem_map.1 (h.mem_iff.1 hp)
    exact hE.size e he
  agree := fun p _ q _ k hk => absurd hk (Nat.not_lt_zero k)
  asc := hs

set_option maxHeartbeats 2000000 in
theorem root_any (g b : Nat) (E : List Ent) (w : World) (hb : Blk w g 57 #[.map (some b)]) (hM : Mp w b E) (hE : FitT E) (hl : E.length ≤ 1000000) (hv : ∀ e ∈ E, e.2.size ≤ 140737488351232) (hT : Tab w) :
    Calls Tryz.prog 16 #[.pointer (some ⟨g, 0, none⟩)] w fun e w' => e = .returned (.string (rootF E)) ∧ Below w.heap.size w w' := by
  have HP := Lib.hid (places_any g b E w hb hM hE hl)
  have HH := Lib.hid (fun (S : List ByteArray) (a : Option Addr) (c : Nat) (w' : World) (hw : Below w.heap.size w w') (hp : S.Perm (E.map Prod.fst)) (hs : S.Pairwise (fun p q => numP p < numP q)) (hc : S.length ≤ c) (hpl : Pl w' a S.length S) =>
    show Calls Tryz.prog 41 #[.pointer (some ⟨g, 0, none⟩), .slice a S.length c, .int .i64 0] w' fun e w'' => e = .returned (.string (rootF E)) ∧ Below w'.heap.size w' w'' from by
      have h1 := hash_any g b E hE hv 256 0 S a c w' rfl (asc_zero hE hp hs) (by have := hp.length_eq; rw [List.length_map] at this; omega) hc (hb.below hw hb.lt) (hM.keep (hw.block b hM.lt)) (hT.below hw hT.lt) hpl
      have e1 : hashF 256 0 (ents E S) = rootF E := (hash_perm 256 0 _ _ (ents_perm hE hp) (hE.perm (ents_perm hE hp).symm)).1
      rw [e1] at h1
      exact h1)
  obtain ⟨R, hR⟩ : ∃ R, rootF E = R := ⟨_, rfl⟩
  rw [hR] at HH ⊢
  clear hb hM hE hl hv hT hR
  go_enter Tryz.func16, Tryz.ntmps16
  go_wp2_with fail
  refine HP.out.mono ?_
  rintro e w1 ⟨a, c, S, rfl, h1, h2, h3, h4, h5⟩
  have B1 := Lib.hid h5
  have HQ := Lib.hid (HH.out S a c w1 h5 h1 h2 h4 h3)
  clear h1 h2 h3 h4 h5
  go_wp2_with fail
  refine HQ.out.mono ?_
  rintro e w2 ⟨rfl, h6⟩
  have B2 := Lib.hid (B1.out.trans (h6.mono B1.out.size))
  clear h6
  go_wp2_with fail
  go_ret
  exact ⟨rfl, B2.out⟩
end Go.Proofs.YtnkkckmejjcfkaaGreatDoor.Sp

/- strings.Clone: a copy of a text's own. (No layer is named here.) -/
namespace Go.Proofs.YtnkkckmejjcfkaaGreatDoor.Sp
open Go Go.RowKit
set_option maxRecDepth 100000

set_option maxHeartbeats 1000000 in
theorem lite_any (s : ByteArray) (w : World) (hlim : s.size ≤ 140737488355328) :
    Calls Tryz.prog 61 #[.string s] w fun e w' => e = .returned (.string s) ∧ Below w.heap.size w w' := by
  by_cases h0 : s.size = 0
  · have hs : s = ⟨#[]⟩ := ByteArray.ext (Array.eq_empty_of_size_eq_zero h0)
    subst hs
    go_enter Tryz.func61, Tryz.ntmps61
    go_wp2
    go_ret
    exact ⟨rfl, Below.refl _ _⟩
  · obtain ⟨i0, hi, hz0, hz1, hz2⟩ := info_parts infoByte
    obtain ⟨M, hM⟩ : ∃ M, M = madeCells #[Value.int .u8 0] s.size := ⟨_, rfl⟩
    have hMs : M.size = s.size := by rw [hM, size_madeCells]
    have hmk : ∀ W : World, (Instr.makeSlice 62 (.int .i64 (s.size : Int)) (.int .i64 (s.size : Int))).run Tryz.prog W = .ok (.slice (some ⟨W.heap.size, 0, none⟩) s.size s.size) (W.alloc (.cells M 5)) := fun W => by
      have h := run_make (P := Tryz.prog) W 62 5 i0 (.int .u8 0) Tryz.underlying62 hi hz0 .i64 .i64 (s.size : Int) (s.size : Int) (by omega) (by omega) (by rw [hz2]; omega) (by omega)
      rw [hM]
      simpa [hz1, Value.cells] using h
    clear hM
    have hinfo : (Tryz.prog.info? 5).map (·.size) = some 1 := by rw [hi]; simp [hz1]
    have hcp := Lib.run_copy_row_string (P := Tryz.prog) (w.alloc (.cells M 5)) 62 9 3 5 w.heap.size 0 s.size s.size s M 5 Tryz.underlying62 hinfo (heap_alloc_new w _) (Nat.le_refl _) (by omega)
    obtain ⟨Y, hY⟩ : ∃ Y, Y = (M.toList.take 0 ++ Lib.byteCells s.data.toList ++ M.toList.drop (0 + s.size)).toArray := ⟨_, rfl⟩
    rw [← hY] at hcp
    have hYl : Y.toList = Lib.byteCells s.data.toList := by
      rw [hY, List.toList_toArray, List.take_zero, List.nil_append, List.drop_of_length_le (by rw [Array.length_toList]; omega), List.append_nil]
    have hYs : Y.size = s.size := by rw [← Array.length_toList, hYl, Lib.byteCells_length, ← Lib.size_eq]
    have hgY : ((w.alloc (.cells M 5)).setRow w.heap.size Y).heap[w.heap.size]? = some (.cells Y 5 (0, 0)) := setRow_heap _ _ M _ 5 (0, 0) (heap_alloc_new w _)
    have hne : s.data.toList ≠ [] := fun e => h0 (by rw [Lib.size_eq, e]; rfl)
    have hco : Tryz.prog.cellsOf 5 = 1 := by kernel_rfl
    have hUS := Lib.run_unsafeString_row (P := Tryz.prog) ((w.alloc (.cells M 5)).setRow w.heap.size Y) 105 3 9 5 Tryz.underlying105 hco w.heap.size Y.size (by unfold World.shape?; rw [hgY]) s.data.toList hne (by rw [← Lib.size_eq]; omega) (by rw [← Lib.size_eq]; omega)
      (fun j x hx => Lib.cells_of_row hgY Y.size j _ (by rw [List.take_of_length_le (by rw [Array.length_toList]; exact Nat.le_refl _), hYl]; simp [Lib.byteCells, hx]))
    rw [← Lib.size_eq] at hUS
    have hb2 : Below w.heap.size (w.alloc (.cells M 5)) ((w.alloc (.cells M 5)).setRow w.heap.size Y) := ⟨rfl, rfl, rfl, by simp, fun k hk => setRow_other _ _ _ _ (by omega)⟩
    have HB2 := Lib.hid (((Below.refl _ w).alloc (Nat.le_refl _) _).trans hb2)
    clear hY hb2
    go_enter Tryz.func61, Tryz.ntmps61
    go_wp2_with fail
    go_ret
    exact ⟨rfl, Lib.below_freeze HB2.out (p := ⟨w.heap.size, 0, none⟩) (Nat.le_refl _) _⟩

theorem clone_any (s : ByteArray) (w : World) (hlim : s.size ≤ 140737488355328) :
    Calls Tryz.prog 39 #[.string s] w fun e w' => e = .returned (.string s) ∧ Below w.heap.size w w' := by
  go_enter Tryz.func39, Tryz.ntmps39
  go_wp2_with fail
  refine (lite_any s _ hlim).mono ?_
  rintro e w1 ⟨rfl, h1⟩
  have H1 := Lib.hid h1
  clear h1
  go_wp2_with fail
  go_ret
  exact ⟨rfl, H1.out⟩
end Go.Proofs.YtnkkckmejjcfkaaGreatDoor.Sp
