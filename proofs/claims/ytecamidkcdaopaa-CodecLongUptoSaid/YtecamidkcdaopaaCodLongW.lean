/- The walk of CodecLong. -/
import Derived.Test.YtecamidkcdaopaaCodFew
namespace Go.Proofs.Ytecamidkcdaopaa.Sp
open Go Go.RowKit

/-- The k-th item's cells, in a world in which what there was is as it was. -/
theorem Items.at_ {w wr : World} {a : Option Addr} {n k : Nat} {l : List It} (h : Items w a n l) (hb : Below w.heap.size w wr) (hk : k < n) :
    ∃ b off X, a = some ⟨b, off, none⟩ ∧ X = l.getD k It.none_ ∧ X ∈ l ∧ b < w.heap.size ∧ wr.cell? ⟨b, off + k * 3, none⟩ = some (.bool X.t) ∧ wr.cell? ⟨b, off + k * 3 + 1, none⟩ = some (.int .u64 (X.n : Int)) ∧ wr.cell? ⟨b, off + k * 3 + 2, none⟩ = some (.string X.s) := by
  have hn := h.1
  have hlt := h.lt
  obtain ⟨b, off, rfl, hc⟩ := h.2 (by omega)
  have hbw := hlt b off rfl (by omega)
  refine ⟨b, off, _, rfl, rfl, ?_, hbw, ?_, ?_, ?_⟩
  · rw [List.getD_eq_getElem?_getD, List.getElem?_eq_getElem (by rw [hn]; exact hk)]; exact List.getElem_mem _
  · exact (hb.cell (p := ⟨b, off + k * 3 + 0, none⟩) hbw).trans (hc k hk 0 (by omega))
  · exact (hb.cell (p := ⟨b, off + k * 3 + 1, none⟩) hbw).trans (hc k hk 1 (by omega))
  · exact (hb.cell (p := ⟨b, off + k * 3 + 2, none⟩) hbw).trans (hc k hk 2 (by omega))
theorem laidLen_at (l : List It) (k : Nat) (hk : k < l.length) : laidLen (l.take (k + 1)) = laidLen (l.take k) + (l.getD k It.none_).long ∧ laidLen (l.take (k + 1)) ≤ laidLen l := ⟨laidLen_succ l k hk, laidLen_le l (k + 1)⟩

set_option maxHeartbeats 1000000 in
theorem long_law (a : Option Addr) (n c : Nat) (l : List It) (hwf : ∀ x ∈ l, x.n < 18446744073709551616) (w : World) (hI : Items w a n l) (hn : n ≤ 9223372036854775807) (hlen : laidLen l ≤ 140737488355328) :
    Calls Try.prog 9 #[.slice a n c] w fun e w' => e = .returned (.bool true) ∧ Below w.heap.size w w' := by
  have HI := Lib.hid hI
  have HN := Lib.hid hI.1
  have HWF := Lib.hid hwf
  clear hI hwf
  go_enter Try.func9, Try.ntmps9
  go_wp2_with fail
  refine (awake_any _).mono ?_
  rintro e w1 ⟨rfl, h1⟩
  have B1 := Lib.hid h1
  clear h1
  go_wp2_with fail
  go_loop [4, 5] (fun v i => ∃ k m : Nat, k ≤ n ∧ i = .int .i64 (k : Int) ∧ v = .int .i64 (m : Int) ∧ Hid (m = laidLen (l.take k))) (fun _ i => n - (intOf i).toNat)
  case atStart => exact ⟨0, 0, Nat.zero_le _, rfl, rfl, rfl⟩
  case round =>
    obtain ⟨k, m, hk, rfl, rfl, HM⟩ := hrel
    by_cases hlt : k < n
    · obtain ⟨b, off, X, rfl, eX, _, _, c0, c1, c2⟩ := HI.out.at_ B1.out hlt
      obtain ⟨hs, hb⟩ := laidLen_at l k (by rw [HN.out]; exact hlt)
      rw [← eX] at hs
      have hmm := HM.out
      have hbnd : m + X.long ≤ 140737488355328 := by omega
      have HS := Lib.hid hs
      clear hs hb eX hmm
      rcases hXt : X.t with _ | _
      · have hl8 : X.long = 8 := by unfold It.long; rw [hXt]; rfl
        rw [hXt] at c0
        have hb8 : (m : Int) + 8 ≤ 140737488355328 := by omega
        have HL := Lib.hid hl8
        clear hXt hl8 c1 c2
        go_wp2_with fail
        refine ⟨⟨k + 1, m + 8, by omega, by go_num, by go_num, ?_⟩, by simp [intOf]; omega⟩
        show _ = _
        rw [HS.out, HM.out, HL.out]
      · have hl8 : X.long = 4 + X.s.size := by unfold It.long; rw [hXt]; rfl
        rw [hXt] at c0
        have hb8 : (m : Int) + 4 + (X.s.size : Int) ≤ 140737488355328 := by omega
        have HL := Lib.hid hl8
        clear hXt hl8 c1
        go_wp2_with fail
        refine ⟨⟨k + 1, m + 4 + X.s.size, by omega, by go_num, by go_num, ?_⟩, by simp [intOf]; omega⟩
        show _ = _
        rw [HS.out, HM.out, HL.out]; omega
    · have HK := Lib.hid (show k = n by omega)
      have hki : ¬ (k : Int) < (n : Int) := by omega
      clear hk hlt
      go_wp2_with fail
      refine (laid_any a n c l HWF.out _ (HI.out.below' B1.out) hn hlen).mono ?_
      rintro e w2 ⟨rfl, h2⟩
      have B2 := Lib.hid (B1.out.trans (h2.mono B1.out.size))
      clear h2
      have hmL : (laid l).length = m := by rw [HM.out, laid_length, HK.out, ← HN.out, List.take_length]
      obtain ⟨L, eL⟩ : ∃ L : ByteArray, L = ⟨(laid l).toArray⟩ := ⟨_, rfl⟩
      have hLs : (L.size : Int) = (m : Int) := by
        rw [← hmL, eL]
        show (((laid l).toArray.size : Nat) : Int) = _
        simp
      have hbq : ((L.size : Int) == (m : Int)) = true := by rw [hLs]; simp
      rw [← eL]
      clear hmL eL hLs
      go_wp2_with fail
      go_ret
      exact ⟨rfl, B2.out⟩
end Go.Proofs.Ytecamidkcdaopaa.Sp
