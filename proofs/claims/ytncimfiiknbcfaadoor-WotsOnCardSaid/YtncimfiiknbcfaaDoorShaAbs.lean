/- Package sha: a text whose blocks are absorbed one by one. -/
import Derived.Test.YtncimfiiknbcfaaDoorShaComp
import Derived.WalkSpells
import Derived.Lib.Strings
import Derived.Lib.IndexBytes
namespace Go.Proofs.YtncimfiiknbcfaaDoor.Sp
open Go Go.RowKit

theorem tk (t : ByteArray) : (t.extract 0 64).data.toList = t.data.toList.take 64 := by rw [Lib.extract_data]; simp
theorem dr (t : ByteArray) : (t.extract 64 t.size).data.toList = t.data.toList.drop 64 := Lib.extract_to_end t 64
theorem size_tk (t : ByteArray) (h : 64 ≤ t.size) : (t.extract 0 64).size = 64 := by simp; omega
theorem size_dr (t : ByteArray) : (t.extract 64 t.size).size = t.size - 64 := by simp
theorem Blk.far_row {w : World} {g g' : Nat} {t : TypeId} {cs : Array Value} (h : Blk w g t cs) (hg : g ≠ g') (cs' : Array Value) : Blk (w.setRow g' cs') g t cs := by
  unfold Blk at h ⊢
  simp only [World.setRow, Array.getElem?_modify]; rw [if_neg (by omega)]; exact h
theorem absorb_step (S : St) (t : ByteArray) (h : 64 ≤ t.size) :
    absorb ((t.extract 64 t.size).size / 64) (compress S (t.extract 0 64).data.toList) (t.extract 64 t.size).data.toList = absorb (t.size / 64) S t.data.toList := by
  rw [tk, dr, size_dr, show t.size / 64 = (t.size - 64) / 64 + 1 by omega]; rfl

set_option maxHeartbeats 2000000 in
set_option maxRecDepth 100000 in
theorem absorb_any (s : St) (b : ByteArray) (hb : b.size ≤ 9223372036854775807) (w : World) (hT : Tab w) :
    Calls Tryd.prog 49 #[.agg (arr s.ws), .string b] w fun e w' => e = .returned (.agg (arr (absorb (b.size / 64) s b.data.toList).ws)) ∧ Below w.heap.size w w' := by
  have HT := Lib.hid hT
  clear hT
  go_enter Tryd.func49, Tryd.ntmps49
  go_wp2_with fail
  go_loopw [1] (fun v wr => ∃ (S : St) (t : ByteArray), v = .string t ∧ t.size ≤ b.size ∧ absorb (t.size / 64) S t.data.toList = absorb (b.size / 64) s b.data.toList ∧ Blk wr w.heap.size 68 (arr S.ws) ∧ Blk wr (w.heap.size + 1) 68 (part [] 8) ∧ Below w.heap.size w wr)
    (fun v _ => match v with | .string t => t.size | _ => 0)
  case atStart => exact ⟨s, b, rfl, Nat.le_refl _, rfl, (Blk.new w _ _).alloc _, by rw [gap8]; exact heap_alloc2_new _ _ _, ((Below.refl _ _).alloc (Nat.le_refl _) _).alloc (by simp) _⟩
  case round =>
    obtain ⟨S, t, rfl, ht, habs, hb0, hb1, hbel⟩ := hrel
    have HA := Lib.hid habs
    have G0 := Lib.hid hb0
    have G1 := Lib.hid hb1
    have G3 := Lib.hid hbel
    by_cases hlt : 64 ≤ t.size
    · have e0 : wr.cell? ⟨w.heap.size, 0, none⟩ = some (.int .u32 (U S.a)) := G0.out.cell 0
      have e1 : wr.cell? ⟨w.heap.size, 1, none⟩ = some (.int .u32 (U S.b)) := G0.out.cell 1
      have e2 : wr.cell? ⟨w.heap.size, 2, none⟩ = some (.int .u32 (U S.c)) := G0.out.cell 2
      have e3 : wr.cell? ⟨w.heap.size, 3, none⟩ = some (.int .u32 (U S.d)) := G0.out.cell 3
      have e4 : wr.cell? ⟨w.heap.size, 4, none⟩ = some (.int .u32 (U S.e)) := G0.out.cell 4
      have e5 : wr.cell? ⟨w.heap.size, 5, none⟩ = some (.int .u32 (U S.f)) := G0.out.cell 5
      have e6 : wr.cell? ⟨w.heap.size, 6, none⟩ = some (.int .u32 (U S.g)) := G0.out.cell 6
      have e7 : wr.cell? ⟨w.heap.size, 7, none⟩ = some (.int .u32 (U S.h)) := G0.out.cell 7
      clear habs hb0 hb1 hbel
      have hti : (64 : Int) ≤ (t.size : Int) := by omega
      go_wp2_with fail
      go_still_tail 3, (by kernel_rfl)
      clear e0 e1 e2 e3 e4 e5 e6 e7
      go_wp2_with fail
      obtain ⟨S1, eS1⟩ : ∃ S1, S1 = compress S (t.extract 0 64).data.toList := ⟨_, rfl⟩
      have ES := Lib.hid eS1
      have hlt0 := G0.out.lt
      have hlt1 := G1.out.lt
      have HTr := Lib.hid (show Tab wr.drew from HT.out.below G3.out.drew HT.out.lt)
      refine (compress_any S (t.extract 0 64) (size_tk t hlt) wr.drew HTr.out).mono ?_
      rintro e w1 ⟨rfl, hbc⟩
      rw [← eS1]
      clear eS1
      have K0 := Lib.hid ((G0.out.drew).below hbc hlt0)
      have K1 := Lib.hid ((G1.out.drew).below hbc hlt1)
      have K3 := Lib.hid (G3.out.drew.trans (hbc.mono (by have := G3.out.size; exact this)))
      clear hbc
      go_wp2_with (refine wpList_store_row rfl 68 (.tmp 2) (.tmp 11) rfl w.heap.size (arr S1.ws) rfl rfl 68 _ K0.out cells8 rfl (arr_one _) ?_)
      go_roundw
      case rel =>
        refine ⟨S1, t.extract 64 t.size, rfl, by rw [size_dr]; omega, ?_, K0.out.row _, ?_, below_setRow K3.out (Nat.le_refl _) _⟩
        · rw [ES.out, absorb_step S t hlt]; exact HA.out
        · exact Blk.far_row K1.out (by omega) _
      case measure => simp; omega
    · clear habs hb0 hb1 hbel
      have hti : (t.size : Int) < 64 := by omega
      go_wp2_with (first
          | (refine wpList_load_row rfl 68 (.tmp 2) rfl _ rfl 68 _ (0, 0) _ G0.out Tryd.underlying68 rfl cells8 ?_)
          | (refine wpList_store_row rfl 68 (.tmp 4) (.tmp 14) rfl (w.heap.size + 1) (arr S.ws) rfl rfl 68 _ G1.out cells8 rfl (arr_one _) ?_))
      have e0 : absorb (t.size / 64) S t.data.toList = S := by rw [show t.size / 64 = 0 by omega]; rfl
      exact ret_agg rfl (w.heap.size + 1) _ _ _ rfl (G1.out.row _) rfl Tryd.underlying68 rfl cells8 ⟨by rw [← HA.out, e0], below_setRow G3.out (by omega) _⟩

end Go.Proofs.YtncimfiiknbcfaaDoor.Sp
