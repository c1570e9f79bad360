/- Package trie: the example's two keys stand at two places (reckoned). -/
import Derived.Test.YtnkkckmejjcfkaaGreatDoorShaFast
import Derived.Test.YtnkkckmejjcfkaaGreatDoorTriPure
import Derived.Test.YtnkkckmejjcfkaaGreatDoorGzG
import Derived.Test.YtnkkckmejjcfkaaGreatDoorGzA
import Derived.Test.YtnkkckmejjcfkaaGreatDoorRows
import Derived.ProofKit
import Derived.OpenShut
import Derived.Deep.DeepHandedRow
import Derived.SizedLaws
import Derived.SliceStrings
import Derived.Carry
import Derived.Deep.Slices
import Derived.ChangeArms
import Derived.LaidLaws
import Derived.Test.YtnkkckmejjcfkaaGreatDoorGzD
import Derived.Test.YtnkkckmejjcfkaaGreatDoorCards
import Derived.Test.YtnkkckmejjcfkaaGreatDoorTie
import Derived.Lib.LaidTab
import Derived.Below
import Derived.Laws.OwnMore
import Derived.Deep.AppendLies
import Derived.Deep.Draws
import Derived.Maps.AppendAt
import Derived.RegionTactic
import Derived.OwnWalk
import Derived.Test.YtnkkckmejjcfkaaGreatDoorProg
namespace Go.Proofs.YtnkkckmejjcfkaaGreatDoor.Sp
open Go
set_option maxRecDepth 100000

theorem key_kx : keyP ⟨#[107]⟩ ≠ keyP ⟨#[120]⟩ := by
  intro h
  have h1 : sum (inB 6 [⟨#[107]⟩]) = sum (inB 6 [⟨#[120]⟩]) := congrArg (fun t : ByteArray => t.data.toList) h
  have h2 := congrArg num h1
  rw [sum_N _ (by decide +kernel), sum_N _ (by decide +kernel)] at h2
  exact absurd h2 (by decide +kernel)
end Go.Proofs.YtnkkckmejjcfkaaGreatDoor.Sp

/- Of a proof that ends at a leaf: what it must be that a key has no value. No program is named here. -/
namespace Go.Proofs.YtnkkckmejjcfkaaGreatDoor.Sp
open Go

theorem lacks_leaf {root p : ByteArray} {bs : List ByteArray} {qp qv : ByteArray} : lacksB root p ⟨bs, true, qp, qv⟩ = true ↔ rightB bs = true ∧ qp.size = 32 ∧ qp ≠ p ∧ (∀ k, k < bs.length → bitN qp k = bitN p k) ∧ upF p 0 (leafB qp qv) bs = root := by
  rw [lacks_iff]
  simp only [if_true, Prf.end, endH, and_assoc]
end Go.Proofs.YtnkkckmejjcfkaaGreatDoor.Sp

/- The statements of package trie: their first calls. -/
namespace Go.Proofs.YtnkkckmejjcfkaaGreatDoor.Sp
open Go Go.RowKit
set_option maxRecDepth 100000

/-- A trie behind what there was at first. -/
structure One (Tg : World → (Nat → Prop) → Nat → List Ent → Prop) (w0 w : World) (F : Nat → Prop) (g : Nat) (l : List Ent) : Prop where
  t : Tg w F g l
  below : Below w0.heap.size w0 w
  bf : ∀ k, F k → w0.heap.size ≤ k
theorem One.turn {Tg : World → (Nat → Prop) → Nat → List Ent → Prop} {w0 w w' : World} {F F' : Nat → Prop} {g : Nat} {l l' : List Ent} (s : One Tg w0 w F g l) (ht : Tg w' F' g l') (hu : Turned F w w') (hw : Within F F' w) : One Tg w0 w' F' g l' where
  t := ht
  below := hu.below s.below s.bf s.below.size
  bf := hw.from s.bf s.below.size
theorem One.keep {Tg : World → (Nat → Prop) → Nat → List Ent → Prop} (R : TriR Tg) {w0 w w' : World} {F : Nat → Prop} {g : Nat} {l : List Ent} (s : One Tg w0 w F g l) (hb : Below w.heap.size w w') : One Tg w0 w' F g l where
  t := R.below s.t hb
  below := s.below.trans (hb.mono s.below.size)
  bf := s.bf
theorem One.tab {Tg : World → (Nat → Prop) → Nat → List Ent → Prop} {w0 w : World} {F : Nat → Prop} {g : Nat} {l : List Ent} (s : One Tg w0 w F g l) (h : Tab w0) : Tab w := h.below s.below h.lt
theorem blk_turned {w w' : World} {F : Nat → Prop} {g : Nat} {t : TypeId} {cs : Array Value} (h : Blk w g t cs) (hu : Turned F w w') (hn : ¬ F g) : Blk w' g t cs := (hu.block g h.lt hn).trans h
theorem off_within {w : World} {F F' : Nat → Prop} {g : Nat} (hg : g < w.heap.size) (hn : ¬ F g) (hw : Within F F' w) : ¬ F' g := fun h => (hw g h).elim hn (fun h1 => by omega)
theorem set_nil (p v : ByteArray) : setF [] p v = [(p, v)] := rfl
theorem get_one (p v : ByteArray) : getF [(p, v)] p = some v := by unfold getF; simp
theorem lacks_one (p q v : ByteArray) (h : p ≠ q) (hp : p.size = 32) : lacksB (leafB p v) q ⟨[], true, p, v⟩ = true := by
  rw [lacks_leaf]
  exact ⟨rfl, hp, h, (fun k hk => absurd hk (Nat.not_lt_zero k)), rfl⟩
theorem has_one (p v : ByteArray) : hasB (leafB p v) p v ⟨[], true, p, v⟩ = true := by
  rw [has_iff]
  exact ⟨rfl, rfl, rfl, rfl, rfl⟩

set_option maxHeartbeats 8000000 in
theorem tawake_any {Tg : World → (Nat → Prop) → Nat → List Ent → Prop} (R : TriR Tg) (w : World) (hT : Tab w) :
    Calls Tryz.prog 7 #[] w fun e w' => e = .returned (.bool true) ∧ Below w.heap.size w w' := by
  have HT := Lib.hid hT
  have HR := Lib.hid R
  obtain ⟨P, hP⟩ : ∃ P, keyP ⟨#[107]⟩ = P := ⟨_, rfl⟩
  obtain ⟨X, hX⟩ : ∃ X, keyP ⟨#[120]⟩ = X := ⟨_, rfl⟩
  obtain ⟨V, hV⟩ : ∃ V : ByteArray, (⟨#[118]⟩ : ByteArray) = V := ⟨_, rfl⟩
  have hVs : V.size ≤ 140737488351232 := by rw [← hV]; decide
  have hPX : P ≠ X := by rw [← hP, ← hX]; exact key_kx
  have hP32 : P.size = 32 := by rw [← hP]; exact keyP_32 _
  obtain ⟨L, hL⟩ : ∃ L, leafB P V = L := ⟨_, rfl⟩
  have hL32 : L.size = 32 := by rw [← hL]; exact sumT_32 _
  obtain ⟨N, hN⟩ : ∃ N, nothingB = N := ⟨_, rfl⟩
  have hNN : (N.toList == N.toList) = true := beq_self_eq_true _
  have hLL : (L.toList == L.toList) = true := beq_self_eq_true _
  have hVV : (V.toList == V.toList) = true := beq_self_eq_true _
  clear hT R
  go_enter Tryz.func7, Tryz.ntmps7
  go_wp2_with fail
  refine (HR.out.new w).mono ?_
  rintro e w1 ⟨g, F1, rfl, t1, bf1, b1⟩
  have S1 := Lib.hid (show One Tg w w1 F1 g [] from ⟨t1, b1, bf1⟩)
  clear t1 bf1 b1
  go_wp2_with fail
  refine (HR.out.root w1 F1 g [] S1.out.t (S1.out.tab HT.out)).mono ?_
  rintro e w2 ⟨F2, rfl, t2, u2, n2⟩
  have S2 := Lib.hid (S1.out.turn t2 u2 n2)
  clear t2 u2 n2
  rw [show rootF [] = N from hN]
  go_wp2_with fail
  refine (HR.out.nothing w2 (S2.out.tab HT.out)).mono ?_
  rintro e w3 ⟨rfl, h3⟩
  have S3 := Lib.hid (S2.out.keep HR.out h3)
  clear h3
  rw [hN]
  go_wp2_with fail
  refine (HR.out.set w3 F2 g [] ⟨#[107]⟩ V S3.out.t (by decide) hVs (by decide) (S3.out.tab HT.out)).mono ?_
  rintro e w4 ⟨F4, rfl, t4, u4, n4⟩
  rw [hP, set_nil] at t4
  have S4 := Lib.hid (S3.out.turn t4 u4 n4)
  clear t4 u4 n4
  go_wp2_with fail
  refine (HR.out.prove w4 F4 g [(P, V)] ⟨#[120]⟩ S4.out.t (by decide) (S4.out.tab HT.out)).mono ?_
  rintro e w5 ⟨F5, a5, c5, rfl, hs5, hf5, hc5, t5, u5, n5⟩
  rw [hX, proof_one] at hs5 hc5 ⊢
  have S5 := Lib.hid (S4.out.turn t5 u5 n5)
  have P5 := Lib.hid (show Strs w5 a5 0 [] from hs5)
  unfold prfV
  simp only [List.length_nil]
  clear t5 u5 n5 hs5 hf5 hc5
  go_wp2_with fail
  obtain ⟨w6, hw6⟩ : ∃ w6, w5.alloc (.cells #[.slice a5 0 c5, .bool true, .string P, .string V] 39) = w6 := ⟨_, rfl⟩
  have h6 : Below w5.heap.size w5 w6 := by rw [← hw6]; exact (Below.refl _ _).alloc (Nat.le_refl _) _
  obtain ⟨G, hG⟩ : ∃ G, w5.heap.size = G := ⟨_, rfl⟩
  have K6 := Lib.hid (show Blk w6 G 39 #[.slice a5 0 c5, .bool true, .string P, .string V] from by rw [← hw6, ← hG]; exact Blk.new _ _ _)
  have N6 := Lib.hid (show ¬ F5 G from fun h => by have := HR.out.lt S5.out.t G h; omega)
  have S6 := Lib.hid (S5.out.keep HR.out h6)
  rw [hw6, hG]
  clear h6 hw6 hG
  refine (HR.out.get w6 F5 g [(P, V)] ⟨#[107]⟩ S6.out.t (by decide) (S6.out.tab HT.out)).mono ?_
  rintro e w7 ⟨F7, rfl, t7, u7, n7⟩
  rw [hP, get_one]
  have S7 := Lib.hid (S6.out.turn t7 u7 n7)
  have K7 := Lib.hid (blk_turned K6.out u7 N6.out)
  have N7 := Lib.hid (off_within K6.out.lt N6.out n7)
  clear t7 u7 n7
  simp only [Option.getD_some, Option.isSome_some]
  go_wp2_with fail
  refine (HR.out.path ⟨#[107]⟩ w7 (by decide) (S7.out.tab HT.out)).mono ?_
  rintro e w8 ⟨rfl, h8⟩
  rw [hP]
  have S8 := Lib.hid (S7.out.keep HR.out h8)
  have K8 := Lib.hid (K7.out.below h8 K7.out.lt)
  clear h8
  go_wp2_with fail
  refine (HR.out.leaf P V w8 (by omega) (S8.out.tab HT.out)).mono ?_
  rintro e w9 ⟨rfl, h9⟩
  rw [hL]
  have S9 := Lib.hid (S8.out.keep HR.out h9)
  have K9 := Lib.hid (K8.out.below h9 K8.out.lt)
  clear h9
  go_wp2_with fail
  refine (HR.out.root w9 F7 g [(P, V)] S9.out.t (S9.out.tab HT.out)).mono ?_
  rintro e w10 ⟨F10, rfl, t10, u10, n10⟩
  rw [show rootF [(P, V)] = L from hL]
  have S10 := Lib.hid (S9.out.turn t10 u10 n10)
  have k10 := blk_turned K9.out u10 N7.out
  have K10 := Lib.hid k10
  have N10 := Lib.hid (off_within K9.out.lt N7.out n10)
  clear t10 u10 n10
  have d0 := k10.cell 0
  have d1 := k10.cell 1
  have d2 := k10.cell 2
  have d3 := k10.cell 3
  simp only [List.getElem?_toArray, List.getElem?_cons_zero, List.getElem?_cons_succ] at d0 d1 d2 d3
  have hL32i : (L.size : Int) = 32 := by omega
  have HLk := Lib.hid (fun w hs ht => HR.out.lacks L ⟨#[120]⟩ ⟨[], true, P, V⟩ a5 0 c5 w (by decide) hVs (by omega) hs ht)
  rw [hX, ← hL, lacks_one P X V hPX hP32, hL] at HLk
  have HHs := Lib.hid (fun w hs ht => HR.out.has L ⟨#[107]⟩ V ⟨[], true, P, V⟩ a5 0 c5 w (by decide) (by omega) (by omega) hs ht)
  rw [hP, ← hL, has_one P V, hL] at HHs
  unfold prfV at HLk HHs
  have Ps := Lib.hid (fun (w : World) => show Strs w a5 0 [] from ⟨rfl, fun h => absurd h (by omega)⟩)
  clear k10 hPX hP hX hL hN hP32
  go_wp2_with fail
  refine (HLk.out w10 (Ps.out _) (S10.out.tab HT.out)).mono ?_
  rintro e w11 ⟨rfl, h11⟩
  have S11 := Lib.hid (S10.out.keep HR.out h11)
  have k11 := K10.out.below h11 K10.out.lt
  have K11 := Lib.hid k11
  clear h11 d0 d1 d2 d3
  have d0 := k11.cell 0
  have d1 := k11.cell 1
  have d2 := k11.cell 2
  have d3 := k11.cell 3
  simp only [List.getElem?_toArray, List.getElem?_cons_zero, List.getElem?_cons_succ] at d0 d1 d2 d3
  clear k11
  go_wp2_with fail
  refine (HHs.out w11 (Ps.out _) (S11.out.tab HT.out)).mono ?_
  rintro e w12 ⟨rfl, h12⟩
  have S12 := Lib.hid (S11.out.keep HR.out h12)
  clear h12 d0 d1 d2 d3
  go_wp2_with fail
  refine (HR.out.len w12 F10 g [(P, V)] S12.out.t).mono ?_
  rintro e w13 ⟨F13, rfl, t13, u13, n13⟩
  have S13 := Lib.hid (S12.out.turn t13 u13 n13)
  clear t13 u13 n13
  go_wp2_with fail
  go_ret
  exact ⟨rfl, S13.out.below⟩
end Go.Proofs.YtnkkckmejjcfkaaGreatDoor.Sp

/- What the rows share: the last step where a call leaves all old memory as it was; a text's bulk. -/
namespace Go.Proofs.YtnkkckmejjcfkaaGreatDoor.Sp
open Go Go.ChangeShapes Go.WideShapes Go.ChangeAt Go.RowKit
set_option maxRecDepth 100000

theorem own : ownKnob Tryz.prog.godebug = none := by kernel_rfl
theorem laidOut : laidOutB Tryz.prog = true := by kernel_rfl

section
variable {H : Type} {enc : TypeId × Value → H} {P : Program}
/-- The row's last step behind a call that leaves every old block as it was; what it makes may be frozen or not. -/
theorem post_below {f : Func} {s : ChangeSpec} {apart fresh handsOn again : Bool} {W W' : World} {args : Array Value} {v : Value} {ds gs : List (DataW H)} {before pa pv : List MemPlace}
    (hW : DataW.Whole enc P f.params.toList s.vars apart W args.toList ds gs before)
    (hres : ∀ (b : Nat) (sp : Nat → Bool) (hd : Bool), DataW.TrodAll enc P W' b sp hd f.resultTypes.toList (v.resultList f.resultTypes.size) (s.fn H (ds ++ gs)).results [])
    (hargs : ∀ sp : Nat → Bool, (∀ p ∈ before, sp p.block = true) → DataW.TrodAll enc P W' 0 sp true f.params.toList args.toList (s.fn H (ds ++ gs)).args pa)
    (hvars : ∀ sp : Nat → Bool, (∀ p ∈ before, sp p.block = true) → DataW.TrodVars enc P W' sp s.vars (s.fn H (ds ++ gs)).vars pv)
    (hps : before = pa ++ pv) (hb : Below W.heap.size W W')
    (hok : ∀ (j : Nat) (t : TypeId) (r : Value), f.resultTypes[j]? = some t → (v.resultList f.resultTypes.size)[j]? = some r → Value.okWide P W' .any 0 t r) :
    s.post enc P f apart fresh handsOn again W args v W' := by
  have lower : ∀ p ∈ before, p.block < W.heap.size := fun p hp => hW.lt p hp
  have seen : ∀ p ∈ before, (fun b => decide (b < W.heap.size)) p.block = true := fun p hp => by simpa using lower p hp
  refine ⟨ds, gs, before, [], pa, pv, hW, hres _ _ _, hargs _ seen, hvars _ seen, World.keptBut_mono (fun p hp => ⟨hp, ?_⟩) (hb.frame (· ∈ before)), fun _ => ?_⟩
  · exact .inr (List.mem_append.1 (hps ▸ hp))
  · obtain ⟨_, _, _, _, _, hz, hn⟩ := hW
    refine ⟨hok, _, _, ([] ++ pa) ++ pv, ⟨[] ++ pa, pv, trodAll_append (hargs _ (fun _ _ => rfl)) (hres _ _ _), hvars _ (fun _ _ => rfl), rfl, fun b off hp => ?_, fun ha => ?_⟩, fun p hp _ => ?_⟩
    · have hin : MemPlace.cell b off ∈ before := by rw [hps]; simpa using hp
      rw [hb.frozen (lower _ hin)]
      exact hz b off hin
    · have := hn ha
      rw [hps] at this
      simpa using this
    · rw [hps]
      simpa using hp
end

section
variable {H : Type}
theorem bulk_string (s : ByteArray) : s.size + 1 ≤ Rows.uptoBulk (DataW.lit (H := H) (.string s.data.toList)) := by
  simp only [Rows.uptoBulk]; rw [size_list]; exact Nat.le_refl _
theorem bulk_part {d : DataW H} {l : List (DataW H)} (h : d ∈ l) : Rows.uptoBulk d ≤ Rows.uptoBulkAll l := by
  induction l with
  | nil => cases h
  | cons x r ih =>
    simp only [Rows.uptoBulkAll]
    rcases List.mem_cons.1 h with e | e
    · subst e; omega
    · have := ih e; omega
end
theorem byte_of {n : Int} (h : (Lit.int .u8 n).wf = true) : ∃ b : UInt8, n = (b.toNat : Int) := by
  have := bounds_u8 h
  refine ⟨UInt8.ofNat n.toNat, ?_⟩
  rw [UInt8.toNat_ofNat']; omega
end Go.Proofs.YtnkkckmejjcfkaaGreatDoor.Sp

/- What the rows of package sha share: the table of constants out of the row's list, a world for the witness, and the last step where a call leaves all old memory as it was. -/
namespace Go.Proofs.YtnkkckmejjcfkaaGreatDoor.Sp
open Go Go.ChangeShapes Go.WideShapes Go.ChangeAt Go.RowKit
set_option maxRecDepth 100000

theorem gTab : Tryz.prog.globalNamed "voussoir/sha.constants" = some 3 := by kernel_rfl
theorem gTabType : (Tryz.prog.globals[3]?).map (·.type) = some 116 := by kernel_rfl
theorem cellsOf64 : Tryz.prog.cellsOf 116 = 64 := by kernel_rfl
theorem cellsOf1 : Tryz.prog.cellsOf 100 = 1 := by kernel_rfl
def kInts : List Int := [1116352408, 1899447441, 3049323471, 3921009573, 961987163, 1508970993, 2453635748, 2870763221, 3624381080, 310598401, 607225278, 1426881987, 1925078388, 2162078206, 2614888103, 3248222580, 3835390401, 4022224774, 264347078, 604807628, 770255983, 1249150122, 1555081692, 1996064986, 2554220882, 2821834349, 2952996808, 3210313671, 3336571891, 3584528711, 113926993, 338241895, 666307205, 773529912, 1294757372, 1396182291, 1695183700, 1986661051, 2177026350, 2456956037, 2730485921, 2820302411, 3259730800, 3345764771, 3516065817, 3600352804, 4094571909, 275423344, 430227734, 506948616, 659060556, 883997877, 958139571, 1322822218, 1537002063, 1747873779, 1955562222, 2024104815, 2227730452, 2361852424, 2428436474, 2756734187, 3204031479, 3329325298]
theorem kInts_get (i : Nat) (hi : i < 64) : kInts.getD i 0 = U (kW i) := by
  have key : ∀ m : Fin 64, kInts.getD m.val 0 = U (kW m.val) := by decide +kernel
  exact key ⟨i, hi⟩
theorem tab_of {W : World} {rest : List (String × DataW Unit)} (h : laidMet Tryz.prog (("voussoir/sha.constants", Rows.laid_voussoir_sha_constants) :: rest) W) : Tab W := by
  have ht : Lib.TabIs Tryz.prog W "voussoir/sha.constants" .u32 kInts := Lib.tabIs_of_head gTab gTabType Tryz.underlying116 Tryz.underlying100 cellsOf1 cellsOf64 h
  intro i hi
  rw [ht.cell gTab i hi, kInts_get i hi]

/-- A world for the witness: the settled one, the table holding what its initialiser lays. -/
noncomputable def laidWorld (os : Os) : World :=
  { World.holding Tryz.prog os ⟨#[], #[], []⟩ with heap := (World.holding Tryz.prog os ⟨#[], #[], []⟩).heap.modify 3 fun
      | .cells _ t frozen => .cells #[.int .u32 1116352408, .int .u32 1899447441, .int .u32 3049323471, .int .u32 3921009573, .int .u32 961987163, .int .u32 1508970993, .int .u32 2453635748, .int .u32 2870763221, .int .u32 3624381080, .int .u32 310598401, .int .u32 607225278, .int .u32 1426881987, .int .u32 1925078388, .int .u32 2162078206, .int .u32 2614888103, .int .u32 3248222580, .int .u32 3835390401, .int .u32 4022224774, .int .u32 264347078, .int .u32 604807628, .int .u32 770255983, .int .u32 1249150122, .int .u32 1555081692, .int .u32 1996064986, .int .u32 2554220882, .int .u32 2821834349, .int .u32 2952996808, .int .u32 3210313671, .int .u32 3336571891, .int .u32 3584528711, .int .u32 113926993, .int .u32 338241895, .int .u32 666307205, .int .u32 773529912, .int .u32 1294757372, .int .u32 1396182291, .int .u32 1695183700, .int .u32 1986661051, .int .u32 2177026350, .int .u32 2456956037, .int .u32 2730485921, .int .u32 2820302411, .int .u32 3259730800, .int .u32 3345764771, .int .u32 3516065817, .int .u32 3600352804, .int .u32 4094571909, .int .u32 275423344, .int .u32 430227734, .int .u32 506948616, .int .u32 659060556, .int .u32 883997877, .int .u32 958139571, .int .u32 1322822218, .int .u32 1537002063, .int .u32 1747873779, .int .u32 1955562222, .int .u32 2024104815, .int .u32 2227730452, .int .u32 2361852424, .int .u32 2428436474, .int .u32 2756734187, .int .u32 3204031479, .int .u32 3329325298] t frozen
      | o => o }

section
variable {H : Type} {enc : TypeId × Value → H} {P : Program}
end
end Go.Proofs.YtnkkckmejjcfkaaGreatDoor.Sp

/- Package sha: Pad and Sum, their answers under names. -/
namespace Go.Proofs.YtnkkckmejjcfkaaGreatDoor.Sp
open Go Go.RowKit
set_option maxRecDepth 100000

theorem padB (n : Nat) (h : n ≤ 9223372036854775807) (w : World) (P : ByteArray) (hP : P = ⟨(pad n).toArray⟩) :
    Calls Tryz.prog 78 #[.int .i64 (n : Int)] w fun e w' => e = .returned (.string P) ∧ Below w.heap.size w w' := by
  rw [hP]; exact pad_any n h w
theorem padB_size (n : Nat) (P : ByteArray) (hP : P = ⟨(pad n).toArray⟩) : P.size = 9 + zeros n := by
  rw [hP]; show (pad n).toArray.size = _; rw [List.size_toArray, pad_length]
theorem sumA (b : ByteArray) (hb : b.size ≤ 9223372036854775000) (w : World) (hT : Tab w) (R : ByteArray) (hR : R = ⟨(sum b.data.toList).toArray⟩) :
    Calls Tryz.prog 58 #[.string b] w fun e w' => e = .returned (.string R) ∧ Below w.heap.size w w' := by
  rw [hR]; exact sum_any b hb w hT

end Go.Proofs.YtnkkckmejjcfkaaGreatDoor.Sp

/- Slices that read as lists, nil let in, and appends onto a row of the call's own (after the guide's page of words for memory, which says to copy them). -/
namespace Go.Proofs.YtnkkckmejjcfkaaGreatDoor.Sp
open Go Go.RowKit
set_option maxRecDepth 100000

theorem block_of_add (a : Addr) (n : Nat) : (a.add n).block = a.block := by unfold Addr.add; split <;> rfl
theorem add_of_add (a : Addr) (i j : Nat) : (a.add i).add j = a.add (i + j) := by
  unfold Addr.add
  by_cases hi : i = 0 <;> by_cases hj : j = 0 <;> simp [hi, hj, Nat.add_assoc]

def Reads (w : World) (B size : Nat) (A : Option Addr) (n : Nat) (xs : List Value) : Prop :=
  xs.length = n * size ∧ (0 < n → ∃ ad, A = some ad ∧ ad.block < B ∧ ∀ j u, xs[j]? = some u → w.cell? (ad.add j) = some u)

section
variable {w w' : World} {B B' size n : Nat} {A : Option Addr} {xs : List Value}
theorem Reads.none_ : Reads w B size A 0 [] := ⟨by simp, fun h => absurd h (by omega)⟩
theorem Reads.at_ {k : Nat} (h : Reads w B 1 A n xs) (hk : k < n) : ∃ ad u, A = some ad ∧ ad.block < B ∧ xs[k]? = some u ∧ w.cell? (ad.add k) = some u := by
  obtain ⟨ad, e, hb, hc⟩ := h.2 (by omega)
  have hl : k < xs.length := by have := h.1; omega
  exact ⟨ad, xs[k], e, hb, List.getElem?_eq_getElem hl, hc k _ (List.getElem?_eq_getElem hl)⟩
theorem Reads.keep (h : Reads w B size A n xs) (hk : ∀ p : Addr, p.block < B → w'.cell? p = w.cell? p) : Reads w' B size A n xs :=
  ⟨h.1, fun hn => by
    obtain ⟨ad, e, hb, hc⟩ := h.2 hn
    exact ⟨ad, e, hb, fun j u hu => (hk _ (by rw [block_of_add]; exact hb)).trans (hc j u hu)⟩⟩
theorem Reads.more (h : Reads w B size A n xs) (hB : B ≤ B') : Reads w B' size A n xs :=
  ⟨h.1, fun hn => by
    obtain ⟨ad, e, hb, hc⟩ := h.2 hn
    exact ⟨ad, e, by omega, hc⟩⟩
theorem Reads.below (h : Reads w B size A n xs) (hb : Below B w w') : Reads w' B size A n xs := h.keep fun _ hp => hb.cell hp
theorem Reads.drew (h : Reads w B size A n xs) : Reads w.drew B size A n xs := h
theorem Reads.drewN (h : Reads w B size A n xs) (k : Nat) : Reads (w.drewN k) B size A n xs := h
theorem Reads.alloc (h : Reads w B size A n xs) (hB : B ≤ w.heap.size) (o : Obj) : Reads (w.alloc o) B size A n xs := h.keep fun p hp => World.cell?_alloc_lt w o p (by omega)
theorem Reads.setCell (h : Reads w B size A n xs) {p : Addr} (hB : B ≤ p.block) (u : Value) : Reads (w.setCell p u) B size A n xs :=
  h.keep fun q hq => World.cell?_setCell_other w p q u (fun e => by subst e; omega)
theorem Reads.grown (h : Reads w B size A n xs) {row : Option Nat} (hg : w.grownBy w' row) (hB : B ≤ w.heap.size) (hr : ∀ g, row = some g → B ≤ g) : Reads w' B size A n xs :=
  h.keep fun p hp => World.cell?_of_block (hg.block p.block (by omega) (fun e => by have := hr _ e.symm; omega))
theorem Reads.cut (h : Reads w B size A n xs) {k cap : Nat} (hk : k ≤ n) (hc : n ≤ cap) :
    Reads w B size (if cap = k then A else A.map (·.add (k * size))) (n - k) (xs.drop (k * size)) := by
  refine ⟨by rw [List.length_drop, h.1, Nat.sub_mul], fun hn => ?_⟩
  obtain ⟨ad, rfl, hb, hcell⟩ := h.2 (by omega)
  rw [if_neg (by omega)]
  refine ⟨ad.add (k * size), rfl, by rw [block_of_add]; exact hb, fun j u hu => ?_⟩
  rw [add_of_add]
  exact hcell _ u (by rw [← hu, List.getElem?_drop])
theorem Reads.of_own {base : Nat} {e : TypeId} {c : Nat} (h : w.ownsRow base e size (.slice A n c) n xs) : Reads w w.heap.size size A n xs := by
  refine ⟨h.1, fun hn => ?_⟩
  obtain ⟨g, cap, hv, _, hlt⟩ := h.form hn
  have hA : A = some ⟨g, 0, none⟩ := by injection hv
  subst hA
  exact ⟨_, rfl, hlt, h.cells (g := g) rfl⟩
end
section
variable {P : Program} (w : World)

theorem run_append_of_nil (base : Nat) (t ty e : TypeId) (i : TypeInfo) (size : Nat) (ht : P.underlying t = some (.slice e)) (hi : P.info? e = some i)
    (v : Value) (n : Nat) (xs : List Value) (hown : w.ownsRow base e size v n xs) (c : Nat) : (Builtin.append_ #[t, t] ty #[v, .slice none 0 c]).run P w = .ok v w := by
  rcases hown.2 with ⟨rfl, rfl⟩ | ⟨g, cap, cur, rfl, _, _, hnc, _⟩
  · simp [Builtin.append_, run_underlying ht, sizeOf, typeInfo, hi, Builtin.lenOf, Builtin.firstCells]
  · simp [Builtin.append_, run_underlying ht, sizeOf, typeInfo, hi, Builtin.lenOf, Builtin.firstCells, hnc, storeCells]

theorem run_append_any (base : Nat) (t ty e : TypeId) (i : TypeInfo) (z : Value) (size bytes : Nat) (ht : P.underlying t = some (.slice e)) (hi : P.info? e = some i) (hz : i.zero = some z)
    (hsize : i.size = size) (hby : i.bytes = bytes) (hzs : z.cells.size = size) (hsz : 0 < size)
    (v : Value) (n : Nat) (xs : List Value) (hown : w.ownsRow base e size v n xs)
    (B : Nat) (A : Option Addr) (m c : Nat) (news : List Value) (hr : Reads w B size A m news) (h1 : ∀ u ∈ news, u.oneCell' = true)
    (h63 : n + m ≤ maxLen) (hbytes : (n + m) * bytes ≤ 140737488355328) (hbase : base ≤ w.heap.size) :
    ∃ v' w', (Builtin.append_ #[t, t] ty #[v, .slice A m c]).run P w = .ok v' w' ∧ w'.ownsRow base e size v' (n + m) (xs ++ news) ∧ w.grownBy w' v.ownBlock ∧
      (v'.ownBlock = v.ownBlock ∨ v'.ownBlock = some w.heap.size) := by
  rcases A with _ | ad
  · have hm : m = 0 := by
      rcases Nat.eq_zero_or_pos m with h0 | h0
      · exact h0
      · obtain ⟨ad, h, _⟩ := hr.2 h0
        cases h
    subst hm
    have hn : news = [] := List.eq_nil_of_length_eq_zero (by simpa using hr.1)
    subst hn
    exact ⟨v, w, run_append_of_nil w base t ty e i size ht hi v n xs hown c, by simpa using hown, World.grownBy.refl w _, .inl rfl⟩
  · have hcells : ∀ j u, news[j]? = some u → w.cell? (ad.add j) = some u := by
      intro j u hu
      rcases Nat.eq_zero_or_pos m with h0 | h0
      · subst h0
        have hn : news = [] := List.eq_nil_of_length_eq_zero (by simpa using hr.1)
        subst hn
        simp at hu
      · obtain ⟨ad', h, _, hc⟩ := hr.2 h0
        injection h with h
        subst h
        exact hc j u hu
    obtain ⟨v', w', hrun, h2, h3, _, h5⟩ := run_append_own_at (P := P) w base t ty e i z size bytes ht hi hz hsize hby hzs hsz v n xs hown ad m c news hr.1 hcells h1 h63 hbytes hbase
    exact ⟨v', w', hrun, h2, h3, h5⟩

theorem wp_append_any {o : Oper} {a : Act} {K : Act → World → Prop} {Q : Exit → Act → World → Prop} (s x : Operand) (t : TypeId)
    (ho : o.op = .call { callee := .builtin .append, args := #[s, x], argTypes := #[t, t] })
    (base : Nat) (e : TypeId) (i : TypeInfo) (z : Value) (size bytes : Nat) (ht : P.underlying t = some (.slice e)) (hi : P.info? e = some i) (hz : i.zero = some z)
    (hsize : i.size = size) (hby : i.bytes = bytes) (hzs : z.cells.size = size) (hsz : 0 < size)
    (v : Value) (n : Nat) (xs : List Value) (hs : a.eval s = v) (hown : w.ownsRow base e size v n xs)
    (B : Nat) (A : Option Addr) (m c : Nat) (news : List Value) (hx : a.eval x = .slice A m c) (hr : Reads w B size A m news) (h1 : ∀ u ∈ news, u.oneCell' = true)
    (h63 : n + m ≤ maxLen) (hbytes : (n + m) * bytes ≤ 140737488355328) (hbase : base ≤ w.heap.size)
    (h : ∀ v' w', w'.ownsRow base e size v' (n + m) (xs ++ news) → w.grownBy w' v.ownBlock → (v'.ownBlock = v.ownBlock ∨ v'.ownBlock = some w.heap.size) → K (a.put o.dst v') w') : o.wp P a w K Q := by
  obtain ⟨v', w', hrun, h2, h3, h4⟩ := run_append_any (P := P) w base t o.type e i z size bytes ht hi hz hsize hby hzs hsz v n xs hown B A m c news hr h1 h63 hbytes hbase
  unfold Oper.wp execOp
  simp only [ho, resolve, invoke, builtin, Sem.run_bind, Sem.run_pure, Result.andThen_ok, List.map_toArray, List.map_cons, List.map_nil, hs, hx, hrun]
  exact h v' w' h2 h3 h4

theorem wpList_append_any {ops : Array Oper} {rest : List Oper} {o : Oper} {a : Act} {Q : Exit → Act → World → Prop} (hgd : o.guard = none) (s x : Operand) (t : TypeId)
    (ho : o.op = .call { callee := .builtin .append, args := #[s, x], argTypes := #[t, t] })
    (base : Nat) (e : TypeId) (i : TypeInfo) (z : Value) (size bytes : Nat) (ht : P.underlying t = some (.slice e)) (hi : P.info? e = some i) (hz : i.zero = some z)
    (hsize : i.size = size) (hby : i.bytes = bytes) (hzs : z.cells.size = size) (hsz : 0 < size)
    (v : Value) (n : Nat) (xs : List Value) (hs : a.eval s = v) (hown : w.ownsRow base e size v n xs)
    (B : Nat) (A : Option Addr) (m c : Nat) (news : List Value) (hx : a.eval x = .slice A m c) (hr : Reads w B size A m news) (h1 : ∀ u ∈ news, u.oneCell' = true)
    (h63 : n + m ≤ maxLen) (hbytes : (n + m) * bytes ≤ 140737488355328) (hbase : base ≤ w.heap.size)
    (h : ∀ v' w', w'.ownsRow base e size v' (n + m) (xs ++ news) → w.grownBy w' v.ownBlock → (v'.ownBlock = v.ownBlock ∨ v'.ownBlock = some w.heap.size) → wpList P ops Q rest (a.put o.dst v') w') : wpList P ops Q (o :: rest) a w :=
  wpList_plain hgd fun _ hK => wp_append_any w s x t ho base e i z size bytes ht hi hz hsize hby hzs hsz v n xs hs hown B A m c news hx hr h1 h63 hbytes hbase fun v' w' h2 h3 h4 => hK _ _ (h v' w' h2 h3 h4)

theorem step_append_any {ops : Array Oper} {o : Oper} {a : Act} {K : Act → World → Prop} {Q : Exit → Act → World → Prop} {E : Prop} (hgd : o.guard = none) (s x : Operand) (t : TypeId)
    (ho : o.op = .call { callee := .builtin .append, args := #[s, x], argTypes := #[t, t] })
    (base : Nat) (e : TypeId) (i : TypeInfo) (z : Value) (size bytes : Nat) (ht : P.underlying t = some (.slice e)) (hi : P.info? e = some i) (hz : i.zero = some z)
    (hsize : i.size = size) (hby : i.bytes = bytes) (hzs : z.cells.size = size) (hsz : 0 < size)
    (v : Value) (n : Nat) (xs : List Value) (hs : a.eval s = v) (hown : w.ownsRow base e size v n xs)
    (B : Nat) (A : Option Addr) (m c : Nat) (news : List Value) (hx : a.eval x = .slice A m c) (hr : Reads w B size A m news) (h1 : ∀ u ∈ news, u.oneCell' = true)
    (h63 : n + m ≤ maxLen) (hbytes : (n + m) * bytes ≤ 140737488355328) (hbase : base ≤ w.heap.size)
    (h : ∀ v' w', w'.ownsRow base e size v' (n + m) (xs ++ news) → w.grownBy w' v.ownBlock → (v'.ownBlock = v.ownBlock ∨ v'.ownBlock = some w.heap.size) → K (a.put o.dst v') w') :
    if Region.wanted o (yielded ops a.tmps) = true then Oper.wp P o a w K Q else E := by
  have hw : Region.wanted o (yielded ops a.tmps) = true := by simp [Region.wanted, hgd]
  rw [if_pos hw]
  exact wp_append_any w s x t ho base e i z size bytes ht hi hz hsize hby hzs hsz v n xs hs hown B A m c news hx hr h1 h63 hbytes hbase h
end

end Go.Proofs.YtnkkckmejjcfkaaGreatDoor.Sp

/- Slices of texts of a call's own; what stays as it was. -/
namespace Go.Proofs.YtnkkckmejjcfkaaGreatDoor.Sp
open Go Go.RowKit
set_option maxRecDepth 100000

theorem OwnT.strs {w : World} {base : Nat} {v : Value} {l : List ByteArray} (h : OwnT w base v l) : ∃ a c, v = .slice a l.length c ∧ Strs w a l.length l := by
  rcases h.2 with ⟨h1, h2⟩ | ⟨g, cap, cur, h1, _⟩
  · exact ⟨none, 0, by rw [h1, h2], rfl, fun hp => by omega⟩
  · refine ⟨_, _, h1, rfl, fun hp => ⟨g, 0, rfl, fun j hj => ?_⟩⟩
    have hc := World.ownsRow.cells h (g := g) (by rw [h1]; rfl) j (.string (l.getD j ByteArray.empty)) (by simp [List.getD, hj])
    rw [show (⟨g, 0, none⟩ : Addr).add j = ⟨g, 0 + j, none⟩ from by unfold Addr.add; split <;> simp_all] at hc
    exact hc

theorem Cells.below_ {w w' : World} {a : Option Addr} {n : Nat} {f : Nat → Value} (h : Cells w a n f) (hb : Below w.heap.size w w') : Cells w' a n f := fun hn => by
  obtain ⟨b, off, e, hc⟩ := h hn
  exact ⟨b, off, e, fun j hj => (hb.cell (p := ⟨b, off + j, none⟩) (block_lt_of_cell (hc j hj))).trans (hc j hj)⟩
/-- As OwnT.strs, and where its block lies. -/
theorem OwnT.strs_ {w : World} {base : Nat} {v : Value} {l : List ByteArray} (h : OwnT w base v l) : ∃ a c, v = .slice a l.length c ∧ Strs w a l.length l ∧ (∀ p, a = some p → base ≤ p.block ∧ p.block < w.heap.size) ∧ l.length ≤ c := by
  obtain ⟨a, c, rfl, hs⟩ := h.strs
  refine ⟨a, c, rfl, hs, fun p hp => ?_, ?_⟩
  · subst hp
    exact World.ownsRow.lt h p.block rfl
  · rcases h.2 with ⟨h1, h2⟩ | ⟨g, cap, cur, h1, _, _, hc, _⟩
    · omega
    · injection h1 with _ _ h3
      omega
theorem Strs.grown_ {w w' : World} {a : Option Addr} {n : Nat} {ss : List ByteArray} {row : Option Nat} (h : Strs w a n ss) (hg : w.grownBy w' row) (hne : ∀ p, a = some p → some p.block ≠ row) : Strs w' a n ss := by
  refine ⟨h.1, fun hp => ?_⟩
  obtain ⟨b, off, e, hc⟩ := h.2 hp
  refine ⟨b, off, e, fun j hj => ?_⟩
  exact World.grownBy.cell hg (a := ⟨b, off + j, none⟩) (hc j hj) (hne ⟨b, off, none⟩ e)
theorem Strs.lt_ {w : World} {a : Option Addr} {n : Nat} {ss : List ByteArray} (h : Strs w a n ss) (hp : 0 < n) : ∀ p, a = some p → p.block < w.heap.size := by
  obtain ⟨b, off, e, hc⟩ := h.2 hp
  intro p hq
  rw [e] at hq
  injection hq with hq
  subst hq
  exact block_lt_of_cell (hc 0 hp)
/-- A row of a call's own, and a list that lies elsewhere. -/
def Apart (v : Value) (a : Option Addr) : Prop := ∀ g p, v.ownBlock = some g → a = some p → p.block ≠ g
end Go.Proofs.YtnkkckmejjcfkaaGreatDoor.Sp
