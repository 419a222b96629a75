import Derived.Test.YtpmdfgoajffmeaaITree
import Derived.Deep.LoopGhost

namespace Go.Proofs.Ytpmdfgoajffmeaa
open Go.RowKit
attribute [local go_sem ↓] Go.wp_at_zero Go.wp_at_succ

/-- What stands at a key. -/
def HasKey (l : List Ent) (k : KT) : Prop := ∃ x ∈ l, x.1 = k

/-- What 'find' answers: no node, and the key is not there; or the node whose entry has the key. -/
def FindSays (W : World) (l : List Ent) (k : KT) (p : Option Addr) : Prop :=
  (p = none ∧ ∀ x ∈ l, x.1 ≠ k) ∨ ∃ b x, p = some ⟨b, 0, none⟩ ∧ b < W.heap.size ∧ W.cell? ⟨b, 0, none⟩ = some (.int .i64 x.1) ∧ W.cell? ⟨b, 1, none⟩ = some (.int .i64 x.2) ∧ x ∈ l ∧ x.1 = k

def BT.height : BT → Nat
  | .leaf => 0
  | .node l _ r => l.height + r.height + 1

set_option maxRecDepth 100000 in
set_option maxHeartbeats 2000000 in
theorem find_any (T : BT) (W : World) (p : Option Addr) (k : KT) (ht : IsT W.heap.size W p T) (hs : Srt T.io) :
    Calls Try.prog 28 #[.pointer p, .int .i64 k] W fun o W' => ∃ q, o = .returned (.pointer q) ∧ FindSays W T.io k q ∧ W' = W := by
  have Ht := hide ht
  have Hs := hide hs
  clear ht hs
  go_enter Try.func28, Try.ntmps28
  go_wp2
  go_loopg [0] T.height (fun n v wr => wr = W ∧ ∃ q S, v = .pointer q ∧ S.height = n ∧ IsT W.heap.size W q S ∧ Srt S.io ∧ (∀ x ∈ S.io, x ∈ T.io) ∧ (∀ x ∈ T.io, x.1 = k → x ∈ S.io))
  case atStart => exact ⟨rfl, p, T, rfl, rfl, unhide Ht, unhide Hs, fun _ h => h, fun _ h _ => h⟩
  case round =>
    obtain ⟨rfl, q, S, rfl, hn, hS, hsS, hsub, hsup⟩ := hrel
    cases S with
    | leaf =>
      obtain rfl : q = none := hS
      have Hsup := hide hsup
      clear hsub hsup hsS
      go_wp2
      go_ret
      exact ⟨_, rfl, .inl ⟨rfl, fun x hx e => by simpa [BT.io] using unhide Hsup x hx e⟩, rfl⟩
    | node l e r =>
      obtain ⟨b, pl, pr, rfl, hb, h0, h1, h2, h3, h4, hl, hr⟩ := hS
      have hm := srt_mid.1 (show Srt (l.io ++ e :: r.io) from hsS)
      have Hsub := hide hsub
      have Hsup := hide hsup
      have Hm := hide hm
      clear hsub hsup hsS hm h4
      have hh : l.height < gk ∧ r.height < gk := by rw [← hn]; simp only [BT.height]; omega
      clear hn
      by_cases hlt : k < e.1
      · go_wp2
        go_roundg l.height
        case measure => exact hh.1
        case rel => exact ⟨rfl, pl, l, rfl, rfl, hl, (unhide Hm).1, fun x hx => unhide Hsub x (List.mem_append_left _ hx), fun x hx e' => by
          rcases List.mem_append.1 (unhide Hsup x hx e') with h | h
          · exact h
          · rcases List.mem_cons.1 h with rfl | h
            · exact (klt_irrefl (e' ▸ hlt)).elim
            · exact (klt_irrefl (klt_trans (e' ▸ (unhide Hm).2.2.2 x h) hlt)).elim⟩
      · have hd1 : decide (k < e.1) = false := decide_eq_false hlt
        by_cases hgt : e.1 < k
        · clear hlt
          go_wp2
          go_roundg r.height
          case measure => exact hh.2
          case rel => exact ⟨rfl, pr, r, rfl, rfl, hr, (unhide Hm).2.1, fun x hx => unhide Hsub x (List.mem_append_right _ (List.mem_cons_of_mem _ hx)), fun x hx e' => by
            rcases List.mem_append.1 (unhide Hsup x hx e') with h | h
            · exact (klt_irrefl (klt_trans (e' ▸ (unhide Hm).2.2.1 x h) hgt)).elim
            · rcases List.mem_cons.1 h with rfl | h
              · exact (klt_irrefl (e' ▸ hgt)).elim
              · exact h⟩
        · have hd2 : decide (e.1 < k) = false := decide_eq_false hgt
          have Heq := hide (keq_of hgt hlt)
          clear hgt hlt
          go_wp2
          go_ret
          exact ⟨_, rfl, .inr ⟨b, e, rfl, hb, h0, h1, unhide Hsub e (List.mem_append_right _ List.mem_cons_self), unhide Heq⟩, rfl⟩
end Go.Proofs.Ytpmdfgoajffmeaa
