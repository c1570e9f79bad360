/- Package trie: the landed trie is as wanted. -/
import Derived.Test.YtnkkckmejjcfkaaGreatDoorTrlPrv
import Derived.Test.YtnkkckmejjcfkaaGreatDoorGzV
namespace Go.Proofs.YtnkkckmejjcfkaaGreatDoor.Sp
open Go Go.RowKit

theorem tg_lt {w : World} {F : Nat → Prop} {g : Nat} {l : List Ent} (s : Tg0 w F g l) : ∀ k, F k → k < w.heap.size := by
  obtain ⟨_, _, _, _, _, _, hlt, _⟩ := s
  exact hlt
theorem tg_below {w w' : World} {F : Nat → Prop} {g : Nat} {l : List Ent} (s : Tg0 w F g l) (hb : Below w.heap.size w w') : Tg0 w' F g l := s.keep (fun k hk => hb.block k (tg_lt s k hk)) hb.size
theorem triH : TriH where
  path key w hk hT := tpath_any key w hk hT
  nothing w hT := tnothing_any w hT
  leaf a b w h hT := tleaf_any a b w h hT
  inner a b w h hT := tinner_any a b w h hT
  has root key v q a n c w hk hv hn hl hT := has_any root key v q a n c w hk hv hn hl hT
  lacks root key q a n c w hk hv hn hl hT := lacks_any root key q a n c w hk hv hn hl hT
theorem triR : TriR Tg0 where
  toTriH := triH
  lt s := tg_lt s
  fit s := by
    obtain ⟨_, _, _, _, _, _, _, hF, hv, _⟩ := s
    exact ⟨hF, hv⟩
  len_le s := by
    obtain ⟨_, _, _, _, _, _, _, _, _, h⟩ := s
    exact h
  keep s hb hz := s.keep hb hz
  perm s hp := s.perm hp
  new w := mnew_any w
  set w F g l key v s hk hv hl hT := mset_any w F g l key v s hk hv hl hT
  delete w F g l key s hk hT := mdelete_any w F g l key s hk hT
  get w F g l key s hk hT := (mget_any w F g l key s hk hT).mono fun _ _ ⟨he, hb⟩ => ⟨F, he, tg_below s hb, Turned.of_below hb, Within.refl _ _⟩
  len w F g l s := (mlen_any w F g l s).mono fun _ _ ⟨he, hw⟩ => ⟨F, he, hw ▸ s, hw ▸ Turned.refl F w, Within.refl _ _⟩
  root w F g l s hT := by
    have s2 := s
    obtain ⟨b, h1, h2, _, _, _, _, hF, hv, hl⟩ := s2
    exact (root_any g b l w h1 h2 hF hl hv hT).mono fun _ _ ⟨he, hb⟩ => ⟨F, he, tg_below s hb, Turned.of_below hb, Within.refl _ _⟩
  prove w F g l key s hk hT := (mprove_any w F g l key s hk hT).mono fun _ _ ⟨a, c, he, hs, hf, hc, hb⟩ => ⟨F, a, c, he, hs, fun p hp => ⟨hf p hp, fun h => by have h1 := hf p hp; have h2 := tg_lt s _ h; omega⟩, hc, tg_below s hb, Turned.of_below hb, Within.refl _ _⟩
  copy w F g l s := mcopy_any w F g l s
end Go.Proofs.YtnkkckmejjcfkaaGreatDoor.Sp
