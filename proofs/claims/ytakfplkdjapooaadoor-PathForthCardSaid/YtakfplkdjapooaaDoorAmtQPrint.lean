/- The document's own Print of amounts: the number's decimal. -/
import Derived.Test.YtakfplkdjapooaaDoorAmtPure
import Derived.Test.YtakfplkdjapooaaDoorMem
import Derived.Deep.RegionLaw
import Derived.Lib.SmallJoins
namespace Go.Proofs.YtakfplkdjapooaaDoor.Sp
open Go Go.RowKit

theorem blk_digit (r : Nat) (h : r < 10) (W : World) : Blk (W.alloc (.cells #[Value.int .u8 (48 + (r : Int))] 5)) W.heap.size 5 (byteVs [digB r]).toArray := by
  have e : (byteVs [digB r]).toArray = #[Value.int .u8 (48 + (r : Int))] := by
    simp only [byteVs, byteV, List.map_cons, List.map_nil, digB_nat r h]
    simp
  rw [e]
  exact Blk.new _ _ _
theorem one_digit (r : Nat) (h : r < 10) (W : World) (k : Nat) :
    (convert 35 9 (.slice (some ⟨W.heap.size, 0, none⟩) 1 1)).run Tryd.prog ((W.alloc (.cells #[Value.int .u8 (48 + (r : Int))] 5)).drewN k) = .ok (.string ⟨[digB r].toArray⟩) ((W.alloc (.cells #[Value.int .u8 (48 + (r : Int))] 5)).drewN k) :=
  run_text_of_blk ((blk_digit r h W).drewN k) rfl
theorem one_digit1 (r : Nat) (h : r < 10) (W : World) :
    (convert 35 9 (.slice (some ⟨W.heap.size, 0, none⟩) 1 1)).run Tryd.prog ((W.alloc (.cells #[Value.int .u8 (48 + (r : Int))] 5)).drew) = .ok (.string ⟨[digB r].toArray⟩) ((W.alloc (.cells #[Value.int .u8 (48 + (r : Int))] 5)).drew) :=
  run_text_of_blk ((blk_digit r h W).drew) rfl
theorem one_digit2 (r : Nat) (h : r < 10) (W : World) :
    (convert 35 9 (.slice (some ⟨W.heap.size, 0, none⟩) 1 1)).run Tryd.prog ((W.alloc (.cells #[Value.int .u8 (48 + (r : Int))] 5)).drew.drew) = .ok (.string ⟨[digB r].toArray⟩) ((W.alloc (.cells #[Value.int .u8 (48 + (r : Int))] 5)).drew.drew) :=
  run_text_of_blk ((blk_digit r h W).drew.drew) rfl
theorem join_text (a b : List UInt8) : (⟨a.toArray⟩ : ByteArray) ++ ⟨b.toArray⟩ = ⟨(a ++ b).toArray⟩ := by
  apply of_list
  rw [Go.Joins.data_append]

theorem qprint_any (n : Nat) : n < 18446744073709551616 → ∀ w : World,
    Calls Tryd.prog 16 #[.int .u64 (n : Int)] w fun e w' => e = .returned (.string ⟨(dec n).toArray⟩) ∧ Below w.heap.size w w' := by
  induction n using Nat.strongRecOn with
  | _ n ih =>
    intro hn w
    by_cases h : n < 10
    · have hi : (n : Int) < 10 := by omega
      have hc0 := one_digit n h w 0
      rw [World.drewN_zero] at hc0
      have HD := Lib.hid (dec_lt n h)
      clear ih h
      go_enter Tryd.func16, Tryd.ntmps16
      go_wp2_with fail
      go_ret
      rw [HD.out]
      exact ⟨rfl, (Below.refl _ _).alloc (Nat.le_refl _) _⟩
    · have hi : ¬ (n : Int) < 10 := by omega
      obtain ⟨q, hq⟩ : ∃ q : Nat, (n : Int) / 10 = (q : Int) := ⟨n / 10, by omega⟩
      obtain ⟨r, hr⟩ : ∃ r : Nat, (n : Int) % 10 = (r : Int) := ⟨n % 10, by omega⟩
      have hr9 : (r : Int) < 10 := by omega
      have hr0 : (0 : Int) ≤ (r : Int) := by omega
      have hq0 : (0 : Int) ≤ (q : Int) := by omega
      have hqn : q < n := by omega
      have hwq : IntKind.u64.wrap (q : Int) = (q : Int) := by rw [IntKind.wrap_u64]; omega
      have htm : (n : Int).tmod 10 = (r : Int) := by rw [Int.tmod_eq_emod_of_nonneg (by omega)]; exact hr
      have hw1 : IntKind.u64.wrap (48 + (r : Int)) = 48 + (r : Int) := by rw [IntKind.wrap_u64]; omega
      have hw2 : IntKind.u8.wrap (48 + (r : Int)) = 48 + (r : Int) := by rw [IntKind.wrap_u8]; omega
      have HD := Lib.hid (show dec n = dec q ++ [digB r] from by
        rw [dec_ge n h, show n / 10 = q by omega, show n % 10 = r by omega])
      have HC := Lib.hid (ih q hqn (by omega))
      have HR := Lib.hid (show r < 10 by omega)
      have hcv1 := one_digit1 r HR.out
      have hcv2 := one_digit2 r HR.out
      have hcv0 := fun W => one_digit r HR.out W 0
      simp only [World.drewN_zero] at hcv0
      obtain ⟨D, hD⟩ : ∃ D, D = dec q := ⟨_, rfl⟩
      have hDl : D.length ≤ 20 := by rw [hD]; exact (dec_len q 20 (by omega)).2 (Nat.lt_trans (show q < 18446744073709551616 by omega) (by decide))
      have hlen : ¬ 9223372036854775807 < D.length + 1 := by omega
      rw [← hD] at HD HC
      clear ih h hD hqn
      go_enter Tryd.func16, Tryd.ntmps16
      go_wp2_with fail
      go_region_law ((go_simp; go_at_call 16; refine (HC.out _).mono ?_; rintro e w1 ⟨rfl, hb1⟩; try have hcx := run_text_of_blk (cap := 1) (n := 1) (l := [digB r]) (Blk.below (Blk.drew (blk_digit r HR.out w)) hb1 (by simp)) rfl))
      all_goals
        clear hcv0 hcv1 hcv2
        have HB1 := Lib.hid hb1
        clear hb1
        go_wp2_with fail
        go_ret
        rw [HD.out, join_text]
        refine ⟨rfl, ?_⟩
        have h := HB1.out
        first
          | exact ((Below.refl _ _).drew.trans h).alloc h.size _
          | exact (((Below.refl w.heap.size w).alloc (Nat.le_refl _) _).drew).trans (h.mono (by simp))
          | exact (((Below.refl w.heap.size w).alloc (Nat.le_refl _) _).drew.drew).trans (h.mono (by simp))
end Go.Proofs.YtakfplkdjapooaaDoor.Sp
