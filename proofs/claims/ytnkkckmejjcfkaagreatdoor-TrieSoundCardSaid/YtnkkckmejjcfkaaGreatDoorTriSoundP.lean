/- What it means that a proof is held though Get says otherwise: a clash. No program is named here. -/
import Derived.Test.YtnkkckmejjcfkaaGreatDoorTriProof
import Derived.Test.YtnkkckmejjcfkaaGreatDoorTriLastP
import Derived.Test.YtnkkckmejjcfkaaGreatDoorGzZ
import Derived.Test.YtnkkckmejjcfkaaGreatDoorTriQProved
namespace Go.Proofs.YtnkkckmejjcfkaaGreatDoor.Sp
open Go

theorem upIn_small (p : ByteArray) : ∀ (bs : List ByteArray) (d : Nat) (h : ByteArray), h.size = 32 → (∀ x ∈ bs, x.size = 32) → ∀ x ∈ upIn p d h bs, x.size ≤ 73
  | [], d, h, hh, hb, x, hx => by simp [upIn] at hx
  | b :: bs, d, h, hh, hb, x, hx => by
    rw [upIn, List.mem_append] at hx
    have h1 := upF_32 p (d + 1) h hh bs
    have h2 := hb b (List.mem_cons_self ..)
    rcases hx with hx | hx
    · exact upIn_small p bs (d + 1) h hh (fun y hy => hb y (List.mem_cons_of_mem _ hy)) x hx
    · rw [List.mem_singleton] at hx
      rw [hx]
      split
      · rw [inT_two_size, h1, h2]; omega
      · rw [inT_two_size, h1, h2]; omega
theorem provedA_small (key : ByteArray) (q : Prf) (hk : key.size ≤ 140737488351232) (hp : q.path.size ≤ 140737488351232) (hv : q.value.size ≤ 140737488351232) : ∀ x ∈ provedA key q, x.size ≤ 9223372036854775000 := by
  intro x hx
  unfold provedA at hx
  rw [List.mem_cons, List.mem_cons] at hx
  rcases hx with rfl | rfl | hx
  · exact inT_one_size 6 key hk
  · unfold Prf.end
    split
    · show (inT 7 [q.path, q.value]).size ≤ _
      rw [inT_two_size]; omega
    · show (inT 9 []).size ≤ _
      rw [inT_none_size]; omega
  · split at hx
    · rename_i hr
      exact Nat.le_trans (upIn_small _ _ _ _ (endH_32 _) (right_iff.1 hr).2 x hx) (by omega)
    · cases hx
theorem proved_sub {key : ByteArray} {q : Prf} (hr : rightB q.beside = true) : ∀ x ∈ provedF (keyP key) q, x ∈ provedA key q := by
  intro x hx
  unfold provedA
  rw [if_pos hr]
  exact List.mem_cons_of_mem _ hx
theorem has_bad {L : List Ent} (hF : FitT L) {key value : ByteArray} {q : Prf} (h : hasB (rootF L) (keyP key) value q = true) (hn : getF L (keyP key) ≠ some value) : ClashIn (inputsF 256 0 L ++ provedA key q) := by
  rcases has_sound hF (keyP_32 key) h with h1 | h1
  · exact absurd h1 hn
  · refine h1.mono fun x hx => ?_
    rcases List.mem_append.1 hx with hx | hx
    · exact List.mem_append_left _ hx
    · exact List.mem_append_right _ (proved_sub (has_iff.1 h).1 x hx)
theorem lacks_bad {L : List Ent} (hF : FitT L) {key : ByteArray} {q : Prf} (h : lacksB (rootF L) (keyP key) q = true) (hn : getF L (keyP key) ≠ none) : ClashIn (inputsF 256 0 L ++ provedA key q) := by
  rcases lacks_sound hF h with h1 | h1
  · exact absurd h1 hn
  · refine h1.mono fun x hx => ?_
    rcases List.mem_append.1 hx with hx | hx
    · exact List.mem_append_left _ hx
    · exact List.mem_append_right _ (proved_sub (lacks_iff.1 h).1 x hx)
/-- What the statement looks at, and what it means where that is not so. -/
def soundB (has is X lacks : Bool) : Bool := (!has || (is && X)) && (!lacks || !is)
theorem sound_bad {L : List Ent} (hF : FitT L) (key value : ByteArray) (q : Prf)
    (h : soundB (hasB (rootF L) (keyP key) value q) (getF L (keyP key)).isSome (((getF L (keyP key)).getD .empty).toList == value.toList) (lacksB (rootF L) (keyP key) q) = false) : ClashIn (inputsF 256 0 L ++ provedA key q) := by
  cases hg : getF L (keyP key) with
  | none =>
    rw [hg] at h
    cases hh : hasB (rootF L) (keyP key) value q with
    | true => exact has_bad hF hh (by rw [hg]; exact fun e => by cases e)
    | false =>
      rw [hh] at h
      cases hl : lacksB (rootF L) (keyP key) q <;> rw [hl] at h <;> simp [soundB] at h
  | some v =>
    rw [hg] at h
    cases hl : lacksB (rootF L) (keyP key) q with
    | true => exact lacks_bad hF hl (by rw [hg]; exact fun e => by cases e)
    | false =>
      cases hh : hasB (rootF L) (keyP key) value q with
      | true =>
        refine has_bad hF hh ?_
        rw [hg]
        intro e
        have e2 := Option.some.inj e
        rw [hl, hh] at h
        simp only [Option.getD_some, Option.isSome_some, e2] at h
        rw [show (value.toList == value.toList) = true from beq_self_eq_true _] at h
        exact absurd h (by decide)
      | false =>
        rw [hl, hh] at h
        simp [soundB] at h
end Go.Proofs.YtnkkckmejjcfkaaGreatDoor.Sp
