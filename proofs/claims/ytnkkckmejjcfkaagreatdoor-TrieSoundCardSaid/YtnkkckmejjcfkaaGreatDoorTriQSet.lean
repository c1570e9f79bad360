/- The document's own New, Set, Delete, Get, Len. -/
import Derived.Test.YtnkkckmejjcfkaaGreatDoorTriQPut
import Derived.Test.YtnkkckmejjcfkaaGreatDoorGzM
namespace Go.Proofs.YtnkkckmejjcfkaaGreatDoor.Sp
open Go Go.RowKit
set_option maxRecDepth 100000

set_option maxHeartbeats 1000000 in
theorem qtnew_any (w : World) :
    Calls Tryz.prog 9 #[] w fun e w' => ∃ g F, e = .returned (.pointer (some ⟨g, 0, none⟩)) ∧ Tq w' F g [] ∧ (∀ k, F k → w.heap.size ≤ k) ∧ Below w.heap.size w w' := by
  have hend : ∃ g F, Ending.returned (.pointer (some ⟨w.heap.size, 0, none⟩)) = .returned (.pointer (some ⟨g, 0, none⟩)) ∧ Tq (w.alloc (.cells #[.slice none 0 0] 60)) F g [] ∧ (∀ k, F k → w.heap.size ≤ k) ∧ Below w.heap.size w (w.alloc (.cells #[.slice none 0 0] 60)) := by
    refine ⟨w.heap.size, fun q => q = w.heap.size, rfl, ⟨[], none, 0, List.Perm.refl _, Blk.new w _ _, ⟨rfl, fun h => absurd h (by decide)⟩, rfl, (fun p hp => by cases hp), (fun k hk => by rw [hk]; simp), fitT_nil, (fun e he => by cases he)⟩, (fun k hk => by rw [hk]; exact Nat.le_refl _), (Below.refl _ _).alloc (Nat.le_refl _) _⟩
  have HEnd := Lib.hid hend
  clear hend
  go_enter Tryz.func9, Tryz.ntmps9
  go_wp2_with fail
  go_ret
  exact HEnd.out

/-- What a call of its own leaves, and then a method of a trie. -/
theorem TgTo.after {Tg : World → (Nat → Prop) → Nat → List Ent → Prop} {w w1 w2 : World} {F : Nat → Prop} {g : Nat} {l : List Ent} {v : Value} {e : Ending} (_hF : ∀ k, F k → k < w.heap.size) (hb : Below w.heap.size w w1) (h : TgTo Tg w1 F g l v e w2) : TgTo Tg w F g l v e w2 := by
  obtain ⟨F', h1, h2, h3, h4⟩ := h
  exact ⟨F', h1, h2, (Turned.of_below hb).trans (Within.refl F w) h3, (Within.refl F w).trans hb.size h4⟩

set_option maxHeartbeats 1000000 in
theorem qset_any (w : World) (F : Nat → Prop) (g : Nat) (l : List Ent) (key v : ByteArray) (s : Tq w F g l) (hk : key.size ≤ 140737488351232) (hv : v.size ≤ 140737488351232) (hlen : l.length ≤ 1000000) (hT : Tabs w) :
    Calls Tryz.prog 35 #[.pointer (some ⟨g, 0, none⟩), .string key, .string v] w (TgTo Tq w F g (setF l (keyP key) v) (.tuple #[])) := by
  have S := Lib.hid s
  have HK := Lib.hid (qkey_any key w hk hT)
  have HP := Lib.hid (fun w s => qput_true w F g l (keyP key) v s (keyP_32 key) hv hlen)
  obtain ⟨P, hP⟩ : ∃ P, keyP key = P := ⟨_, rfl⟩
  rw [hP] at HK HP ⊢
  clear s hk hv hT hP hlen
  go_enter Tryz.func35, Tryz.ntmps35
  go_wp2_with fail
  refine HK.out.mono ?_
  rintro e w1 ⟨rfl, h1⟩
  have B1 := Lib.hid h1
  clear h1
  go_wp2_with fail
  refine (HP.out w1 (S.out.below B1.out)).mono ?_
  rintro e w2 h2
  have HE := Lib.hid (TgTo.after S.out.lt B1.out h2)
  obtain ⟨F', rfl, _, _, _⟩ := h2
  go_wp2_with fail
  go_end0
  exact HE.out
set_option maxHeartbeats 1000000 in
theorem qdelete_any (w : World) (F : Nat → Prop) (g : Nat) (l : List Ent) (key : ByteArray) (s : Tq w F g l) (hk : key.size ≤ 140737488351232) (hlen : l.length ≤ 1000000) (hT : Tabs w) :
    Calls Tryz.prog 37 #[.pointer (some ⟨g, 0, none⟩), .string key] w (TgTo Tq w F g (delF l (keyP key)) (.tuple #[])) := by
  have S := Lib.hid s
  have HK := Lib.hid (qkey_any key w hk hT)
  have HP := Lib.hid (fun w s => qput_false w F g l (keyP key) .empty s (keyP_32 key) (by decide) hlen)
  obtain ⟨P, hP⟩ : ∃ P, keyP key = P := ⟨_, rfl⟩
  rw [hP] at HK HP ⊢
  clear s hk hT hP hlen
  go_enter Tryz.func37, Tryz.ntmps37
  go_wp2_with fail
  refine HK.out.mono ?_
  rintro e w1 ⟨rfl, h1⟩
  have B1 := Lib.hid h1
  clear h1
  go_wp2_with fail
  refine (HP.out w1 (S.out.below B1.out)).mono ?_
  rintro e w2 h2
  have HE := Lib.hid (TgTo.after S.out.lt B1.out h2)
  obtain ⟨F', rfl, _, _, _⟩ := h2
  go_wp2_with fail
  go_end0
  exact HE.out
end Go.Proofs.YtnkkckmejjcfkaaGreatDoor.Sp
