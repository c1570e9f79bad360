/- Package trie: vacant. -/
import Derived.Test.YtnkkckmejjcfkaaGreatDoorTrlUp
import Derived.Test.YtnkkckmejjcfkaaGreatDoorGzA
namespace Go.Proofs.YtnkkckmejjcfkaaGreatDoor.Sp
open Go Go.RowKit
set_option maxRecDepth 100000

/-- A whole array is loaded, behind a guard that is met. -/
theorem wpList_load_when {P : Program} {ops : Array Oper} {rest : List Oper} {op : Oper} {a : Act} {w : World} {Q : Exit → Act → World → Prop} (hw : Region.wanted op (yielded ops a.tmps) = true) (ty : TypeId) (x : Operand) (ho : op.op = .load ty x)
    (b o : Nat) (hx : a.eval x = .pointer (some ⟨b, o, none⟩)) (cs : List Value) (d : TypeDesc) (hc : w.rangeAt b o cs) (hu : P.underlying ty = some d) (hd : d.isRow = true) (hi : (P.info? ty).map (·.size) = some cs.length)
    (h : wpList P ops Q rest (a.put op.dst (.agg cs.toArray)) w) : wpList P ops Q (op :: rest) a w :=
  wpList_step fun K hK => by rw [if_pos hw]; exact wp_load_mid ty x ho b o hx cs d hc hu hd hi (hK _ _ h)

/-! Two paths compared. -/
theorem isAgg_u8 : ∀ w : World, (isAgg 5).run Tryz.prog w = .ok false w := Tryz.isAgg5
theorem part_byte (p : ByteArray) (i : Nat) (h : i < p.size) (w : World) : (Go.part 5 (byteVs p.data.toList).toArray (i * 1)).run Tryz.prog w = .ok (byteV p[i]) w := by
  have e : (byteVs p.data.toList)[i]? = some (byteV p[i]) := by
    unfold byteVs
    rw [List.getElem?_map, List.getElem?_eq_getElem (by rw [size_list]; exact h)]
    rfl
  unfold Go.part
  rw [Sem.run_bind, isAgg_u8]
  simp [e, Result.andThen]
theorem items_bytes (p q : ByteArray) (hp : p.size = 32) (hq : q.size = 32) (d : Nat) (w : World) : ∀ is : List Nat, (∀ i ∈ is, i < 32) →
    (Op.eqItems (d + 1) 5 1 (byteVs p.data.toList).toArray (byteVs q.data.toList).toArray is).run Tryz.prog w = .ok (is.all fun i => byteN p i == byteN q i) w
  | [], _ => rfl
  | i :: is, h => by
    have hi := h i (List.mem_cons_self ..)
    have ih := items_bytes p q hp hq d w is (fun j hj => h j (List.mem_cons_of_mem _ hj))
    have e1 : byteN p i = (p[i]'(by omega)).toNat := by rw [← byteN_get p i (by omega), getElem!_pos p i (by omega)]
    have e2 : byteN q i = (q[i]'(by omega)).toNat := by rw [← byteN_get q i (by omega), getElem!_pos q i (by omega)]
    unfold Op.eqItems
    rw [Sem.run_bind, part_byte p i (by omega)]
    simp only [Result.andThen_ok]
    rw [Sem.run_bind, part_byte q i (by omega)]
    simp only [Result.andThen_ok]
    have h3 : (Op.equalIn (d + 1) 5 (byteV (p[i]'(by omega))) (byteV (q[i]'(by omega)))).run Tryz.prog w = .ok (byteN p i == byteN q i) w := by
      rw [e1, e2]
      unfold byteV
      have e3 : (((p[i]'(by omega)).toNat : Int) == ((q[i]'(by omega)).toNat : Int)) = ((p[i]'(by omega)).toNat == (q[i]'(by omega)).toNat) := by
        rw [Bool.eq_iff_iff, beq_iff_eq, beq_iff_eq]; omega
      rw [← e3]
      rfl
    rw [Sem.run_bind, h3]
    simp only [Result.andThen_ok]
    cases hb : (byteN p i == byteN q i) with
    | true => simp [hb, ih]
    | false => simp [hb]
theorem bytes_all (p q : ByteArray) (hp : p.size = 32) (hq : q.size = 32) : ((List.range 32).all fun i => byteN p i == byteN q i) = decide (p = q) := by
  rw [Bool.eq_iff_iff, decide_eq_true_iff, List.all_eq_true]
  constructor
  · intro h
    refine numP_inj hp hq (numB_same _ _ 32 fun j hj => ?_)
    simpa using h j (List.mem_range.2 hj)
  · rintro rfl
    simp
theorem infoU8 : ∃ i0, Tryz.prog.info? 5 = some i0 := by
  have h := byteOneP
  cases h2 : Tryz.prog.info? 5 with
  | none => rw [h2] at h; cases h
  | some i => exact ⟨i, rfl⟩
theorem cellsU8 : Tryz.prog.cellsOf 5 = 1 := by kernel_rfl
theorem equal_paths (p q : ByteArray) (hp : p.size = 32) (hq : q.size = 32) (w : World) : (Op.equalIn 10000 67 (.agg (byteVs p.data.toList).toArray) (.agg (byteVs q.data.toList).toArray)).run Tryz.prog w = .ok (decide (p = q)) w := by
  obtain ⟨i0, hi0⟩ := infoU8
  rw [run_equalIn_array w _ _ _ Tryz.underlying67 hi0, cellsU8, items_bytes p q hp hq 9998 w (List.range 32) (fun i hi => List.mem_range.1 hi), bytes_all p q hp hq]

/-- What vacant says. -/
def vacB (P : ByteArray) (q : Prf) : Bool := if q.leaf then decide (q.path.size = 32) && !decide (cutP q.path = P) && beginsB (cutP q.path) P q.beside.length else decide (q.path = .empty) && decide (q.value = .empty)
theorem empP (a : ByteArray) : a.toList.isEmpty = decide (a = .empty) := by
  by_cases h : a = .empty
  · subst h
    rw [decide_eq_true rfl, Lib.toList_data]
    rfl
  · rw [decide_eq_false h]
    cases e : a.toList with
    | nil =>
      exfalso
      apply h
      apply list_inj
      rw [← Lib.toList_data, e]; rfl
    | cons x l => rfl

set_option maxHeartbeats 2000000 in
theorem vacant_none (P : ByteArray) (bs : List ByteArray) (qp qv : ByteArray) (a : Option Addr) (n c : Nat) (w : World) :
    Calls Tryz.prog 56 #[keyV P, prfV a n c ⟨bs, false, qp, qv⟩] w fun e w' => e = .returned (.bool (vacB P ⟨bs, false, qp, qv⟩)) ∧ Below w.heap.size w w' := by
  have hr : vacB P ⟨bs, false, qp, qv⟩ = (qp.toList.isEmpty && qv.toList.isEmpty) := by
    rw [empP, empP]; rfl
  rw [hr]
  unfold prfV keyV
  simp only
  obtain ⟨cs, hcs⟩ : ∃ cs, (byteVs P.data.toList).toArray = cs := ⟨_, rfl⟩
  rw [hcs]
  obtain ⟨b1, e1⟩ : ∃ b, qp.toList.isEmpty = b := ⟨_, rfl⟩
  obtain ⟨b2, e2⟩ : ∃ b, qv.toList.isEmpty = b := ⟨_, rfl⟩
  rw [e1, e2]
  clear hcs hr
  have HB := Lib.hid (((Below.refl w.heap.size w).alloc (Nat.le_refl _) (.cells cs 67)).alloc (by simp) (.cells #[.slice a n c, .bool false, .string qp, .string qv] 39))
  cases b1 with
  | false =>
    go_enter Tryz.func56, Tryz.ntmps56
    go_wp2_with fail
    go_ret
    exact ⟨rfl, HB.out⟩
  | true =>
    go_enter Tryz.func56, Tryz.ntmps56
    go_wp2_with fail
    go_ret
    exact ⟨rfl, HB.out⟩

set_option maxHeartbeats 4000000 in
theorem vacant_leaf (P : ByteArray) (hP : P.size = 32) (bs : List ByteArray) (qp qv : ByteArray) (a : Option Addr) (n c : Nat) (hn : n ≤ 256) (hbs : bs.length = n) (w : World) :
    Calls Tryz.prog 56 #[keyV P, prfV a n c ⟨bs, true, qp, qv⟩] w fun e w' => e = .returned (.bool (vacB P ⟨bs, true, qp, qv⟩)) ∧ Below w.heap.size w w' := by
  have hQ := cutP_size qp
  have HPl := Lib.hid (fun w => place_any qp w)
  have hr : vacB P ⟨bs, true, qp, qv⟩ = (decide (qp.size = 32) && !decide (cutP qp = P) && beginsB (cutP qp) P n) := by
    rw [← hbs]; rfl
  rw [hr]
  obtain ⟨Q, hQe⟩ : ∃ Q, cutP qp = Q := ⟨_, rfl⟩
  rw [hQe] at hQ HPl ⊢
  have HAg := Lib.hid (fun w => agree_any Q P hQ hP n hn w)
  have heq := fun w => equal_paths Q P hQ hP w
  have hi1 := info32 hP
  have hi2 := info32 hQ
  have hl2 := len32 hQ
  have hone : (byteVs Q.data.toList).toArray.all (·.oneCell') = true := bytes_one _
  have A0 := Lib.hid (At.of_blk ((Blk.new w 67 (byteVs P.data.toList).toArray).alloc (.cells #[.slice a n c, .bool true, .string qp, .string qv] 39)))
  have K0 := Blk.new (w.alloc (.cells (byteVs P.data.toList).toArray 67)) 39 #[.slice a n c, .bool true, .string qp, .string qv]
  rw [World.size_alloc] at K0
  have B0 := Lib.hid (((Below.refl w.heap.size w).alloc (Nat.le_refl _) (.cells (byteVs P.data.toList).toArray 67)).alloc (by simp) (.cells #[.slice a n c, .bool true, .string qp, .string qv] 39))
  have hkP : keyV P = .agg (byteVs P.data.toList).toArray := rfl
  have hkQ : keyV Q = .agg (byteVs Q.data.toList).toArray := rfl
  unfold At at A0
  unfold prfV
  rw [hkP] at HAg ⊢
  rw [hkQ] at HAg HPl
  obtain ⟨L, hL⟩ : ∃ L, byteVs P.data.toList = L := ⟨_, rfl⟩
  obtain ⟨M, hM⟩ : ∃ M, byteVs Q.data.toList = M := ⟨_, rfl⟩
  rw [hL] at HAg heq hi1 A0 K0 B0 ⊢
  rw [hM] at HAg heq hi2 hl2 hone HPl
  have HK0 := Lib.hid K0
  have hPl := K0.lt
  simp only
  obtain ⟨E, hE⟩ : ∃ E, decide (Q = P) = E := ⟨_, rfl⟩
  rw [hE] at heq
  obtain ⟨G, hG⟩ : ∃ G, beginsB Q P n = G := ⟨_, rfl⟩
  rw [hG] at HAg
  obtain ⟨D, hD⟩ : ∃ D, decide (qp.size = 32) = D := ⟨_, rfl⟩
  have HD := Lib.hid hD
  have HR := Lib.hid (show (decide (qp.size = 32) && !decide (Q = P) && beginsB Q P n) = (D && !E && G) from by rw [hD, hE, hG])
  rw [HR.out]
  clear hD
  clear hkP hkQ hL hM hQe hr K0 hE hG hP hQ
  go_enter Tryz.func56, Tryz.ntmps56
  go_upto_region 1 with fail
  generalize (w.alloc (.cells L.toArray 67)).alloc (.cells #[.slice a n c, .bool true, .string qp, .string qv] 39) = w0 at *
  have d1 := HK0.out.cell 1
  have d2 := HK0.out.cell 2
  simp only [List.getElem?_toArray, List.getElem?_cons_zero, List.getElem?_cons_succ] at d1 d2
  go_wp2_with fail
  refine (HPl.out w0).mono ?_
  rintro e w1 ⟨rfl, h1⟩
  have hst := run_storeCells_new (P := Tryz.prog) w1 67 #[.int .u8 0, .int .u8 0, .int .u8 0, .int .u8 0, .int .u8 0, .int .u8 0, .int .u8 0, .int .u8 0, .int .u8 0, .int .u8 0, .int .u8 0, .int .u8 0, .int .u8 0, .int .u8 0, .int .u8 0, .int .u8 0, .int .u8 0, .int .u8 0, .int .u8 0, .int .u8 0, .int .u8 0, .int .u8 0, .int .u8 0, .int .u8 0, .int .u8 0, .int .u8 0, .int .u8 0, .int .u8 0, .int .u8 0, .int .u8 0, .int .u8 0, .int .u8 0] M.toArray hi2 (by rw [show M.toArray.size = 32 from hl2]; rfl) hone
  simp only at hst
  have B1 := Lib.hid (B0.out.trans (h1.mono B0.out.size))
  have K1 := HK0.out.below h1 HK0.out.lt
  have A1 := Lib.hid (show (w1.alloc (.cells M.toArray 67)).rangeAt w.heap.size 0 L from World.rangeAt_alloc (fun j v hv => by rw [cell_below h1 (a := ⟨w.heap.size, 0 + j, none⟩) (by show w.heap.size < w0.heap.size; have := HK0.out.lt; omega)]; exact A0.out j v hv) _)
  have A2 := Lib.hid (show (w1.alloc (.cells M.toArray 67)).rangeAt w1.heap.size 0 M from fun j v hv => by rw [(Blk.new w1 67 M.toArray).cell, Nat.zero_add, List.getElem?_toArray]; exact hv)
  have B2 := Lib.hid (B1.out.alloc B1.out.size (.cells M.toArray 67))
  have e0 := (K1.alloc (.cells M.toArray 67)).cell 0
  have e2 := (K1.alloc (.cells M.toArray 67)).cell 2
  simp only [List.getElem?_toArray, List.getElem?_cons_zero, List.getElem?_cons_succ] at e0 e2
  clear h1 d1 d2 K1
  go_upto_region 4 with fail
  clear hst
  generalize w1.alloc (.cells M.toArray 67) = w2 at *
  cases D with
  | true =>
    have h32 : qp.size = 32 := of_decide_eq_true HD.out
    have h32i : (qp.size : Int) = 32 := by omega
    cases E with
    | true =>
      clear h32
      go_wp2_with (first
        | (refine wpList_load_when (by rfl) 67 (.tmp 5) rfl w1.heap.size 0 rfl M _ A2.out Tryz.underlying67 rfl hi2 ?_)
        | (refine wpList_load_when (by rfl) 67 (.tmp 2) rfl w.heap.size 0 rfl L _ A1.out Tryz.underlying67 rfl hi1 ?_))
      go_ret
      exact ⟨rfl, B2.out⟩
    | false =>
      clear h32
      go_wp2_with (first
        | (refine wpList_load_when (by rfl) 67 (.tmp 5) rfl w1.heap.size 0 rfl M _ A2.out Tryz.underlying67 rfl hi2 ?_)
        | (refine wpList_load_when (by rfl) 67 (.tmp 2) rfl w.heap.size 0 rfl L _ A1.out Tryz.underlying67 rfl hi1 ?_)
        | (go_at_call 74; refine (HAg.out w2).mono ?_; rintro e w3 ⟨rfl, h3⟩))
      go_ret
      exact ⟨rfl, B2.out.trans (h3.mono B2.out.size)⟩
  | false =>
    have h32 : ¬ qp.size = 32 := of_decide_eq_false HD.out
    have h32i : ¬ (qp.size : Int) = 32 := by omega
    clear h32
    go_wp2_with fail
    go_ret
    exact ⟨rfl, B2.out⟩
end Go.Proofs.YtnkkckmejjcfkaaGreatDoor.Sp

/- Package trie: Has and Lacks. -/
namespace Go.Proofs.YtnkkckmejjcfkaaGreatDoor.Sp
open Go Go.RowKit
set_option maxRecDepth 100000

theorem beqP (a b : ByteArray) : (a.toList == b.toList) = decide (a = b) := by
  by_cases h : a = b
  · rw [h]; simp
  · have h2 : ¬ a.toList = b.toList := fun e => h (list_inj (by rw [← Lib.toList_data, e, Lib.toList_data]))
    rw [decide_eq_false h, beq_eq_false_iff_ne]
    exact h2
theorem tab_drewP {w : World} (h : Tab w) : Tab w.drew := h

set_option maxHeartbeats 4000000 in
theorem has_any (root key v : ByteArray) (q : Prf) (a : Option Addr) (n c : Nat) (w : World) (hk : key.size ≤ 140737488351232) (hv : v.size ≤ 140737488355000) (hn : n ≤ 9223372036854775807) (hl : Strs w a n q.beside) (hT : Tab w) :
    Calls Tryz.prog 24 #[.string root, .string key, .string v, prfV a n c q] w fun e w' => e = .returned (.bool (hasB root (keyP key) v q)) ∧ Below w.heap.size w w' := by
  obtain ⟨bs, lf, qp, qv⟩ := q
  have hr : hasB root (keyP key) v ⟨bs, lf, qp, qv⟩ = (rightB bs && lf && decide (qp = keyP key) && decide (qv = v) && decide (upF (keyP key) 0 (leafB (keyP key) v) bs = root)) := rfl
  rw [hr]
  unfold prfV
  simp only at hl ⊢
  have hP32 := keyP_32 key
  have HK := Lib.hid (fun w hT => tpath_any key w hk hT)
  have HPl := Lib.hid (fun w => place_any (keyP key) w)
  rw [cutP_same hP32] at HPl
  obtain ⟨P, hP⟩ : ∃ P, keyP key = P := ⟨_, rfl⟩
  rw [hP] at HK hP32 HPl hr ⊢
  have HLf := Lib.hid (fun w ht => tleaf_any P v w (by omega) ht)
  have hF32 : (leafB P v).size = 32 := sumT_32 _
  have HCl := Lib.hid (fun w (h1 : n ≤ 256) (h2 : ∀ y ∈ bs, y.size = 32) hs ht => climb_any (leafB P v) P bs a n c hP32 hF32 h1 h2 w hs ht)
  have HVa := Lib.hid (fun w hs => valid_any bs a n c hn w hs)
  have HRi := Lib.hid (show rightB bs = true → n ≤ 256 ∧ ∀ y ∈ bs, y.size = 32 from fun h => by rw [← hl.1]; exact right_iff.1 h)
  have HL := Lib.hid hl
  have HT := Lib.hid hT
  obtain ⟨F, hF⟩ : ∃ F, leafB P v = F := ⟨_, rfl⟩
  rw [hF] at HLf HCl
  rw [hF]
  obtain ⟨U, hU⟩ : ∃ U, upF P 0 F bs = U := ⟨_, rfl⟩
  rw [hU] at HCl
  rw [hU]
  obtain ⟨V, hV⟩ : ∃ V, rightB bs = V := ⟨_, rfl⟩
  rw [hV] at HVa HRi
  rw [hV]
  obtain ⟨kv, hkv⟩ : ∃ kv, keyV P = kv := ⟨_, rfl⟩
  rw [hkv] at HPl HCl
  have K0 := Lib.hid (Blk.new w 39 #[.slice a n c, .bool lf, .string qp, .string qv])
  have B0 := Lib.hid ((Below.refl w.heap.size w).alloc (Nat.le_refl _) (.cells #[.slice a n c, .bool lf, .string qp, .string qv] 39))
  obtain ⟨b1, e1⟩ : ∃ b, (qp.toList == P.toList) = b := ⟨_, rfl⟩
  obtain ⟨b2, e2⟩ : ∃ b, (qv.toList == v.toList) = b := ⟨_, rfl⟩
  obtain ⟨b3, e3⟩ : ∃ b, (U.toList == root.toList) = b := ⟨_, rfl⟩
  rw [← beqP, ← beqP, ← beqP, e1, e2, e3]
  clear hr hl hT hk hv hP hF hU hV hkv hP32 hF32 hn
  go_enter Tryz.func24, Tryz.ntmps24
  go_upto_region 1 with fail
  obtain ⟨G, hG⟩ : ∃ G, w.heap.size = G := ⟨_, rfl⟩
  rw [hG] at K0 B0
  generalize w.alloc (.cells #[.slice a n c, .bool lf, .string qp, .string qv] 39) = w0 at *
  rw [hG]
  have HG := Lib.hid hG
  clear hG
  go_wp2_with fail
  refine (HK.out w0 (HT.out.below B0.out (by rw [← HG.out]; exact HT.out.lt))).mono ?_
  rintro e w1 ⟨rfl, h1⟩
  have B1 := Lib.hid (B0.out.trans (h1.mono (by have hz1 := B0.out.size; have hz2 := HG.out; omega)))
  have K1 := Lib.hid (K0.out.below h1 K0.out.lt)
  have d0 := K1.out.cell 0
  have d1 := K1.out.cell 1
  have d2 := K1.out.cell 2
  have d3 := K1.out.cell 3
  simp only [List.getElem?_toArray, List.getElem?_cons_zero, List.getElem?_cons_succ] at d0 d1 d2 d3
  clear h1
  have HLw := Lib.hid (show ∀ w' : World, Below G w w' → Strs w' a n bs from fun w' hb => HL.out.below (by rw [HG.out]; exact hb))
  have HTw := Lib.hid (show ∀ w' : World, Below G w w' → Tab w' from fun w' hb => HT.out.below hb (by rw [← HG.out]; exact HT.out.lt))
  have hGl := K1.out.lt
  cases lf with
  | false =>
    go_wp2_with fail
    go_ret
    exact ⟨by simp, by rw [HG.out]; exact B1.out⟩
  | true =>
    cases b1 with
    | false =>
      go_wp2_with fail
      go_ret
      exact ⟨by simp, by rw [HG.out]; exact B1.out⟩
    | true =>
      cases b2 with
      | false =>
        go_wp2_with fail
        go_ret
        exact ⟨by simp, by rw [HG.out]; exact B1.out⟩
      | true =>
        go_wp2_with fail
        refine (HVa.out w1 (HLw.out w1 B1.out)).mono ?_
        rintro e w2 ⟨rfl, h2⟩
        have B2 := Lib.hid (B1.out.trans (h2.mono (by have hz1 := B1.out.size; have hz2 := HG.out; omega)))
        have K2 := Lib.hid (K1.out.below h2 K1.out.lt)
        clear h2 d0 d1 d2 d3
        have d0 := K2.out.cell 0
        simp only [List.getElem?_toArray, List.getElem?_cons_zero] at d0
        have hGl2 := K2.out.lt
        cases V with
        | false =>
          go_wp2_with fail
          go_ret
          exact ⟨by simp, by rw [HG.out]; exact B2.out⟩
        | true =>
          obtain ⟨hn256, hM⟩ := HRi.out rfl
          have HM := Lib.hid hM
          clear hM
          go_wp2_with fail
          go_region_held3 (fun w' => w'.cell? ⟨G, 0, none⟩ = some (.slice a n c)) ((first | (with_reducible assumption) | exact d0)) ((first
            | (go_at_call 33; refine (HLf.out _ (by first | exact HTw.out _ B2.out | exact tab_drewP (HTw.out _ B2.out))).mono ?_; rintro e w3 ⟨rfl, h3⟩; have B3 := Lib.hid (show Below G w w3 from B2.out.trans (Below.mono (show Below w2.heap.size w2 w3 from ⟨h3.os, h3.tape, h3.output, h3.size, h3.block⟩) (by have hz1 := B2.out.size; have hz2 := HG.out; omega))); have d3 := (K2.out.below (show Below w2.heap.size w2 w3 from ⟨h3.os, h3.tape, h3.output, h3.size, h3.block⟩) hGl2).cell 0; simp only [List.getElem?_toArray, List.getElem?_cons_zero] at d3; have K3 := Lib.hid (K2.out.below (show Below w2.heap.size w2 w3 from ⟨h3.os, h3.tape, h3.output, h3.size, h3.block⟩) hGl2); clear h3)
            | (go_at_call 38; refine (HPl.out _).mono ?_; rintro e w4 ⟨rfl, h4⟩; have B4 := Lib.hid (show Below G w w4 from B3.out.trans (Below.mono (show Below w3.heap.size w3 w4 from ⟨h4.os, h4.tape, h4.output, h4.size, h4.block⟩) (by have hz1 := B3.out.size; have hz2 := HG.out; omega))); have d4 := (K3.out.below (show Below w3.heap.size w3 w4 from ⟨h4.os, h4.tape, h4.output, h4.size, h4.block⟩) K3.out.lt).cell 0; simp only [List.getElem?_toArray, List.getElem?_cons_zero] at d4; have K4 := Lib.hid (K3.out.below (show Below w3.heap.size w3 w4 from ⟨h4.os, h4.tape, h4.output, h4.size, h4.block⟩) K3.out.lt); clear h4)
            | (go_at_call 52; refine (HCl.out _ hn256 HM.out (by first | exact HLw.out _ B4.out) (by first | exact HTw.out _ B4.out)).mono ?_; rintro e w5 ⟨rfl, h5⟩; have B5 := Lib.hid (show Below G w w5 from B4.out.trans (Below.mono (show Below w4.heap.size w4 w5 from ⟨h5.os, h5.tape, h5.output, h5.size, h5.block⟩) (by have hz1 := B4.out.size; have hz2 := HG.out; omega))); have d5 := (K4.out.below (show Below w4.heap.size w4 w5 from ⟨h5.os, h5.tape, h5.output, h5.size, h5.block⟩) K4.out.lt).cell 0; simp only [List.getElem?_toArray, List.getElem?_cons_zero] at d5; clear h5)))
          all_goals
            go_wp2_with fail
            go_ret
            exact ⟨by simp, by rw [HG.out]; exact B5.out⟩
end Go.Proofs.YtnkkckmejjcfkaaGreatDoor.Sp

/- Package trie: Lacks. -/
namespace Go.Proofs.YtnkkckmejjcfkaaGreatDoor.Sp
open Go Go.RowKit
set_option maxRecDepth 100000

theorem vacant_any (P : ByteArray) (hP : P.size = 32) (bs : List ByteArray) (lf : Bool) (qp qv : ByteArray) (a : Option Addr) (n c : Nat) (hn : n ≤ 256) (hbs : bs.length = n) (w : World) :
    Calls Tryz.prog 56 #[keyV P, .agg #[.slice a n c, .bool lf, .string qp, .string qv]] w fun e w' => e = .returned (.bool (vacB P ⟨bs, lf, qp, qv⟩)) ∧ Below w.heap.size w w' := by
  cases lf with
  | false => exact vacant_none P bs qp qv a n c w
  | true => exact vacant_leaf P hP bs qp qv a n c hn hbs w
theorem lacks_eq (root P : ByteArray) (q : Prf) : lacksB root P q = (rightB q.beside && vacB P q && decide (upF P 0 (endH q.end) q.beside = root)) := by
  unfold lacksB vacB
  cases hq : q.leaf with
  | false => rfl
  | true =>
    simp only [if_true]
    by_cases h : q.path.size = 32
    · rw [cutP_same h]
    · simp [h]

set_option maxHeartbeats 4000000 in
theorem lacks_any (root key : ByteArray) (q : Prf) (a : Option Addr) (n c : Nat) (w : World) (hk : key.size ≤ 140737488351232) (hv : q.value.size ≤ 140737488351232) (hn : n ≤ 9223372036854775807) (hl : Strs w a n q.beside) (hT : Tab w) :
    Calls Tryz.prog 26 #[.string root, .string key, prfV a n c q] w fun e w' => e = .returned (.bool (lacksB root (keyP key) q)) ∧ Below w.heap.size w w' := by
  rw [lacks_eq]
  obtain ⟨bs, lf, qp, qv⟩ := q
  unfold prfV
  simp only at hl hv ⊢
  have hP32 := keyP_32 key
  have HK := Lib.hid (fun w hT => tpath_any key w hk hT)
  have HPl := Lib.hid (fun w => place_any (keyP key) w)
  rw [cutP_same hP32] at HPl
  obtain ⟨P, hP⟩ : ∃ P, keyP key = P := ⟨_, rfl⟩
  rw [hP] at HK hP32 HPl ⊢
  have HNo := Lib.hid (fun w ht => tnothing_any w ht)
  have HLf := Lib.hid (fun w (h32 : qp.size = 32) ht => tleaf_any qp qv w (by omega) ht)
  have HCl := Lib.hid (fun w (h1 : n ≤ 256) (h2 : ∀ y ∈ bs, y.size = 32) hs ht => climb_any (endH (Prf.end ⟨bs, lf, qp, qv⟩)) P bs a n c hP32 (endH_32 _) h1 h2 w hs ht)
  have HVa := Lib.hid (fun w hs => valid_any bs a n c hn w hs)
  have HRi := Lib.hid (show rightB bs = true → n ≤ 256 ∧ ∀ y ∈ bs, y.size = 32 from fun h => by rw [← hl.1]; exact right_iff.1 h)
  have HVc := Lib.hid (fun (h1 : n ≤ 256) w => vacant_any P hP32 bs lf qp qv a n c h1 hl.1 w)
  have HVs := Lib.hid (show vacB P ⟨bs, lf, qp, qv⟩ = true → lf = true → qp.size = 32 from fun h h2 => by
    subst h2
    unfold vacB at h
    simp only [if_true, Bool.and_eq_true, decide_eq_true_iff] at h
    exact h.1.1)
  have HL := Lib.hid hl
  have HT := Lib.hid hT
  have HEn := Lib.hid (show endH (Prf.end ⟨bs, lf, qp, qv⟩) = if lf then leafB qp qv else nothingB from by cases lf <;> rfl)
  obtain ⟨F, hF⟩ : ∃ F, endH (Prf.end ⟨bs, lf, qp, qv⟩) = F := ⟨_, rfl⟩
  rw [hF] at HCl HEn
  rw [hF]
  obtain ⟨U, hU⟩ : ∃ U, upF P 0 F bs = U := ⟨_, rfl⟩
  rw [hU] at HCl
  rw [hU]
  obtain ⟨V, hV⟩ : ∃ V, rightB bs = V := ⟨_, rfl⟩
  rw [hV] at HVa HRi
  rw [hV]
  obtain ⟨X, hX⟩ : ∃ X, vacB P ⟨bs, lf, qp, qv⟩ = X := ⟨_, rfl⟩
  rw [hX] at HVc HVs
  rw [hX]
  have hinf := info32 hP32
  have hl32 := len32 hP32
  have hone : (byteVs P.data.toList).toArray.all (·.oneCell') = true := bytes_one _
  have hkv : keyV P = .agg (byteVs P.data.toList).toArray := rfl
  rw [hkv] at HPl HCl HVc
  obtain ⟨L, hLe⟩ : ∃ L, byteVs P.data.toList = L := ⟨_, rfl⟩
  rw [hLe] at HPl HCl HVc hinf hl32 hone
  have K0 := Lib.hid (Blk.new w 39 #[.slice a n c, .bool lf, .string qp, .string qv])
  have B0 := Lib.hid ((Below.refl w.heap.size w).alloc (Nat.le_refl _) (.cells #[.slice a n c, .bool lf, .string qp, .string qv] 39))
  obtain ⟨b3, e3⟩ : ∃ b, (U.toList == root.toList) = b := ⟨_, rfl⟩
  rw [← beqP, e3]
  clear hl hT hk hv hP hF hU hV hX hkv hLe hn hP32
  go_enter Tryz.func26, Tryz.ntmps26
  go_upto_region 1 with fail
  obtain ⟨G, hG⟩ : ∃ G, w.heap.size = G := ⟨_, rfl⟩
  rw [hG] at K0 B0
  generalize w.alloc (.cells #[.slice a n c, .bool lf, .string qp, .string qv] 39) = w0 at *
  rw [hG]
  have HG := Lib.hid hG
  clear hG
  have HLw := Lib.hid (show ∀ w' : World, Below G w w' → Strs w' a n bs from fun w' hb => HL.out.below (by rw [HG.out]; exact hb))
  have HTw := Lib.hid (show ∀ w' : World, Below G w w' → Tab w' from fun w' hb => HT.out.below hb (by rw [← HG.out]; exact HT.out.lt))
  go_wp2_with fail
  refine (HK.out w0 (HTw.out _ B0.out)).mono ?_
  rintro e w1 ⟨rfl, h1⟩
  have B1 := Lib.hid (B0.out.trans (h1.mono (by have hz1 := B0.out.size; have hz2 := HG.out; omega)))
  have K1 := Lib.hid (K0.out.below h1 K0.out.lt)
  clear h1
  go_wp2_with fail
  refine (HPl.out w1).mono ?_
  rintro e w2 ⟨rfl, h2⟩
  have B2 := Lib.hid (B1.out.trans (h2.mono (by have hz1 := B1.out.size; have hz2 := HG.out; omega)))
  have K2 := Lib.hid (K1.out.below h2 K1.out.lt)
  clear h2
  have hst := run_storeCells_new (P := Tryz.prog) w2 67 #[.int .u8 0, .int .u8 0, .int .u8 0, .int .u8 0, .int .u8 0, .int .u8 0, .int .u8 0, .int .u8 0, .int .u8 0, .int .u8 0, .int .u8 0, .int .u8 0, .int .u8 0, .int .u8 0, .int .u8 0, .int .u8 0, .int .u8 0, .int .u8 0, .int .u8 0, .int .u8 0, .int .u8 0, .int .u8 0, .int .u8 0, .int .u8 0, .int .u8 0, .int .u8 0, .int .u8 0, .int .u8 0, .int .u8 0, .int .u8 0, .int .u8 0, .int .u8 0] L.toArray hinf (by rw [show L.toArray.size = 32 from hl32]; rfl) hone
  simp only at hst
  have A3 := Lib.hid (show (w2.alloc (.cells L.toArray 67)).rangeAt w2.heap.size 0 L from fun j v hv => by rw [(Blk.new w2 67 L.toArray).cell, Nat.zero_add, List.getElem?_toArray]; exact hv)
  have B3 := Lib.hid (B2.out.alloc (by have hz1 := B2.out.size; have hz2 := HG.out; omega) (.cells L.toArray 67))
  have K3 := Lib.hid (K2.out.alloc (.cells L.toArray 67))
  have hG2 := K2.out.lt
  have hW3 : w2.heap.size < (w2.alloc (.cells L.toArray 67)).heap.size := by simp
  go_upto_region 2 with fail
  clear hst
  generalize w2.alloc (.cells L.toArray 67) = w3 at *
  have d0 := K3.out.cell 0
  simp only [List.getElem?_toArray, List.getElem?_cons_zero] at d0
  go_wp2_with fail
  refine (HVa.out w3 (HLw.out w3 B3.out)).mono ?_
  rintro e w4 ⟨rfl, h4⟩
  have B4 := Lib.hid (B3.out.trans (h4.mono (by have hz1 := B3.out.size; have hz2 := HG.out; omega)))
  have K4 := Lib.hid (K3.out.below h4 K3.out.lt)
  have A4 := Lib.hid (show w4.rangeAt w2.heap.size 0 L from fun j v hv => by rw [cell_below h4 (a := ⟨w2.heap.size, 0 + j, none⟩) hW3]; exact A3.out j v hv)
  have hW4 := Nat.lt_of_lt_of_le hW3 h4.size
  clear h4 d0
  cases V with
  | false =>
    go_wp2_with fail
    go_ret
    exact ⟨by simp, by rw [HG.out]; exact B4.out⟩
  | true =>
    obtain ⟨hn256, hM⟩ := HRi.out rfl
    have HM := Lib.hid hM
    clear hM
    have d0 := K4.out.cell 0
    have d1 := K4.out.cell 1
    have d2 := K4.out.cell 2
    have d3 := K4.out.cell 3
    simp only [List.getElem?_toArray, List.getElem?_cons_zero, List.getElem?_cons_succ] at d0 d1 d2 d3
    go_wp2_with (refine wpList_load_when (by rfl) 67 (.tmp 7) rfl w2.heap.size 0 rfl L _ A4.out Tryz.underlying67 rfl hinf ?_)
    refine (HVc.out hn256 w4).mono ?_
    rintro e w5 ⟨rfl, h5⟩
    have B5 := Lib.hid (B4.out.trans (h5.mono (by have hz1 := B4.out.size; have hz2 := HG.out; omega)))
    have K5 := Lib.hid (K4.out.below h5 K4.out.lt)
    have A5 := Lib.hid (show w5.rangeAt w2.heap.size 0 L from fun j v hv => by rw [cell_below h5 (a := ⟨w2.heap.size, 0 + j, none⟩) hW4]; exact A4.out j v hv)
    have hW5 := Nat.lt_of_lt_of_le hW4 h5.size
    clear h5 d0 d1 d2 d3
    cases X with
    | false =>
      go_wp2_with fail
      go_ret
      exact ⟨by simp, by rw [HG.out]; exact B5.out⟩
    | true =>
      go_wp2_with fail
      refine (HNo.out w5 (HTw.out _ B5.out)).mono ?_
      rintro e w6 ⟨rfl, h6⟩
      have B6 := Lib.hid (B5.out.trans (h6.mono (by have hz1 := B5.out.size; have hz2 := HG.out; omega)))
      have K6 := Lib.hid (K5.out.below h6 K5.out.lt)
      have A6 := Lib.hid (show w6.rangeAt w2.heap.size 0 L from fun j v hv => by rw [cell_below h6 (a := ⟨w2.heap.size, 0 + j, none⟩) hW5]; exact A5.out j v hv)
      have hW6 := Nat.lt_of_lt_of_le hW5 h6.size
      clear h6
      have d0 := K6.out.cell 0
      have d1 := K6.out.cell 1
      have d2 := K6.out.cell 2
      have d3 := K6.out.cell 3
      simp only [List.getElem?_toArray, List.getElem?_cons_zero, List.getElem?_cons_succ] at d0 d1 d2 d3
      cases lf with
      | false =>
        have he : F = nothingB := HEn.out
        rw [← he]
        clear he
        go_wp2_with (refine wpList_load_mid rfl 67 (.tmp 7) rfl w2.heap.size 0 rfl L _ A6.out Tryz.underlying67 rfl hinf ?_)
        refine (HCl.out w6 hn256 HM.out (HLw.out _ B6.out) (HTw.out _ B6.out)).mono ?_
        rintro e w7 ⟨rfl, h7⟩
        have B7 := Lib.hid (B6.out.trans (h7.mono (by have hz1 := B6.out.size; have hz2 := HG.out; omega)))
        clear h7 d0 d1 d2 d3
        go_wp2_with fail
        go_ret
        exact ⟨by simp, by rw [HG.out]; exact B7.out⟩
      | true =>
        have he : F = leafB qp qv := HEn.out
        have h32 := HVs.out (by first | rfl | trivial) (by first | rfl | trivial)
        have HLf2 := Lib.hid (fun w ht => HLf.out w h32 ht)
        rw [← he] at HLf2
        clear he h32
        go_wp2_with fail
        refine (HLf2.out w6 (HTw.out _ B6.out)).mono ?_
        rintro e w7 ⟨rfl, h7⟩
        have B7 := Lib.hid (B6.out.trans (h7.mono (by have hz1 := B6.out.size; have hz2 := HG.out; omega)))
        have K7 := Lib.hid (K6.out.below h7 K6.out.lt)
        have A7 := Lib.hid (show w7.rangeAt w2.heap.size 0 L from fun j v hv => by rw [cell_below h7 (a := ⟨w2.heap.size, 0 + j, none⟩) hW6]; exact A6.out j v hv)
        clear h7 d0 d1 d2 d3
        have d0 := K7.out.cell 0
        simp only [List.getElem?_toArray, List.getElem?_cons_zero] at d0
        go_wp2_with (refine wpList_load_mid rfl 67 (.tmp 7) rfl w2.heap.size 0 rfl L _ A7.out Tryz.underlying67 rfl hinf ?_)
        refine (HCl.out w7 hn256 HM.out (HLw.out _ B7.out) (HTw.out _ B7.out)).mono ?_
        rintro e w8 ⟨rfl, h8⟩
        have B8 := Lib.hid (B7.out.trans (h8.mono (by have hz1 := B7.out.size; have hz2 := HG.out; omega)))
        clear h8 d0
        go_wp2_with fail
        go_ret
        exact ⟨by simp, by rw [HG.out]; exact B8.out⟩
end Go.Proofs.YtnkkckmejjcfkaaGreatDoor.Sp
