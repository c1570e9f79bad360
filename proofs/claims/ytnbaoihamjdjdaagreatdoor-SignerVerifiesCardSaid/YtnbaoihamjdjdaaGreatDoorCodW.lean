/- Package codec: the contracts of a Writer. -/
import Derived.Test.YtnbaoihamjdjdaaGreatDoorCodWn
namespace Go.Proofs.YtnbaoihamjdjdaaGreatDoor.Sp
open Go Go.RowKit
set_option maxRecDepth 100000

theorem text_own {w1 : World} {base gg cap : Nat} {b : List UInt8} {s : ByteArray} {m : Nat} (hm : m = b.length + s.size)
    (h : w1.ownsRow base 5 1 (.slice (some ⟨gg, 0, none⟩) m cap) m (byteVs b ++ Lib.strCells s)) :
    Own w1 base (.slice (some ⟨gg, 0, none⟩) m cap) (b ++ s.data.toList) := by
  unfold Own
  rw [byteVs_append, List.length_append, size_list, ← hm]
  exact h

set_option maxHeartbeats 1000000 in
theorem wtext_any (base g : Nat) (s : ByteArray) (l : List UInt8) (w : World) (hW : Wr w base g l) (hl : l.length + 4 + s.size ≤ 140737488355328) :
    Calls Tryz.prog 22 #[.pointer (some ⟨g, 0, none⟩), .string s] w fun e w' => e = .returned (.tuple #[]) ∧ Wr w' base g (l ++ (be 4 s.size ++ s.data.toList)) ∧ Below base w w' := by
  obtain ⟨i0, hi, hz0, hz1, hz2⟩ := info_parts infoByte
  have HW := Lib.hid hW
  clear hW
  have hs0 : s.size ≤ 9223372036854775807 := by omega
  go_enter Tryz.func22, Tryz.ntmps22
  go_wp2_with fail
  refine (put_any base g s.size 4 l (by omega) (by omega) _ HW.out (by omega)).mono ?_
  rintro e w1 ⟨rfl, ⟨hbg, v, hb, ho⟩, hbel⟩
  obtain ⟨L, eL⟩ : ∃ L, L = l ++ be 4 s.size := ⟨_, rfl⟩
  rw [← eL] at ho
  have hL : L.length = l.length + 4 := by rw [eL, List.length_append, be_length]
  have hA : L.length + s.size ≤ maxLen := by unfold maxLen; omega
  have hB : L.length + s.size ≤ 140737488355328 := by omega
  have hP : 0 < L.length + s.size := by omega
  have HL := Lib.hid eL
  clear eL
  have HB := Lib.hid hb
  have HO := Lib.hid ho
  have H2 := Lib.hid hbel
  have hcell : w1.cell? ⟨g, 0, none⟩ = some v := hb.cell 0
  have hfro := hb.frozen 0
  have hgl := hb.lt
  have hbz : base ≤ w1.heap.size := by omega
  have hne := Lib.hid (own_blk_ne ho hb (by decide))
  clear hb ho hbel hL
  go_wp2_with (at_builtin; refine Lib.wpList_append_own_string _ rfl (.tmp 13) (.tmp 14) 68 9 rfl base 5 i0 Tryz.underlying68 Tryz.underlying9 hi hz0 hz1 hz2 v L.length (byteVs L) rfl HO.out s rfl hA hB hbz ?_)
  intro v2 w2 hown2 hg2 _
  obtain ⟨gg, cap, rfl, _, _⟩ := hown2.form hP
  have hB1 := HB.out.kept (Below.refl _ _) hg2 hne.out
  have hc1 := hB1.cell 0
  have hf1 := hB1.frozen 0
  have HB1 := Lib.hid hB1
  have HO1 := Lib.hid hown2
  have HG1 := Lib.hid hg2
  obtain ⟨m, hm⟩ : ∃ m, m = L.length + s.size := ⟨_, rfl⟩
  rw [← hm] at HO1 ⊢
  have HM := Lib.hid hm
  clear hB1 hown2 hg2 hm hA hB hcell hfro
  go_wp2_with fail
  go_end0
  refine ⟨rfl, ⟨hbg, _, HB1.out.set_ 0 (.slice (some ⟨gg, 0, none⟩) m cap), ?_⟩, (H2.out.grown HG1.out hbz (fun k hk => (HO.out.lt k hk).1)).setCell (p := ⟨g, 0, none⟩) hbg _⟩
  rw [← List.append_assoc, ← HL.out]
  exact own_set (text_own HM.out HO1.out) HB1.out (by decide) 0 _

/-- An item as cells. -/
def itCell (x : It) (k : Nat) : Value := match k with | 0 => .bool x.t | 1 => .int .u64 (x.n : Int) | _ => .string x.s
/-- A slice value over n items. -/
def Items (w : World) (a : Option Addr) (n : Nat) (l : List It) : Prop :=
  l.length = n ∧ (0 < n → ∃ b off, a = some ⟨b, off, none⟩ ∧ ∀ j, j < n → ∀ k, k < 3 → w.cell? ⟨b, off + j * 3 + k, none⟩ = some (itCell (l.getD j It.none_) k))
end Go.Proofs.YtnbaoihamjdjdaaGreatDoor.Sp
