import Derived.Test.YtpmdfgoajffmeaaISnap

namespace Go.Proofs.Ytpmdfgoajffmeaa
open Go.RowKit Go.Shelf
attribute [local go_sem ↓] Go.wp_at_zero Go.wp_at_succ

/-- A map that is there. -/
def Made (W : World) (m : Option Addr) (T : BT) (n : Nat) : Prop := IsM W m T ∧ T.io.length ≤ n ∧ ∃ bm, m = some ⟨bm, 0, none⟩
theorem Made.up {W w : World} {m : Option Addr} {T : BT} {n : Nat} (h : Made W m T n) (hb : Below W.heap.size W w) : Made w m T n := ⟨h.1.up hb, h.2⟩

/-- A list of keys that came in. -/
def IsArg (W : World) (v : Value) (l : List KT) : Prop := ∃ a c, v = .slice a l.length c ∧ l.length ≤ c ∧ c ≤ maxLen ∧
  (0 < l.length → ∃ g off, a = some ⟨g, off, none⟩ ∧ g < W.heap.size ∧ ∀ i k, l[i]? = some k → W.cell? ⟨g, off + i, none⟩ = some (.int .i64 k))
theorem IsArg.up {W w : World} (hb : Below W.heap.size W w) {v : Value} {l : List KT} (h : IsArg W v l) : IsArg w v l := by
  obtain ⟨a, c, rfl, h1, h2, h3⟩ := h
  refine ⟨a, c, rfl, h1, h2, fun hp => ?_⟩
  obtain ⟨g, off, rfl, h4, h5⟩ := h3 hp
  exact ⟨g, off, rfl, Nat.lt_of_lt_of_le h4 hb.size, fun i k hk => (hb.cell (p := ⟨g, off + i, none⟩) h4).trans (h5 i k hk)⟩
theorem isArg_ks {W : World} {v : Value} {l : List KT} (h : IsKs W v l) : IsArg W v l := by
  obtain ⟨a, c, rfl, h1, h2, h3⟩ := h
  refine ⟨a, c, rfl, h1, h2, fun hp => ?_⟩
  obtain ⟨g, rfl, h4, h5⟩ := h3 hp
  exact ⟨g, 0, rfl, h4, fun i k hk => by rw [Nat.zero_add]; exact h5 i k hk⟩

set_option maxRecDepth 100000 in
set_option maxHeartbeats 2000000 in
theorem made_any {W : World} {v : Value} {l : List KT} (h : IsArg W v l) (hl : l.length ≤ 1152921504606846975) :
    Calls Try.prog 5 #[v] W fun e W' => ∃ m T, e = .returned (.pointer m) ∧ Made W' m T l.length ∧ (∀ k ∈ l, HasKey T.io k) ∧ Below W.heap.size W W' := by
  obtain ⟨a, c, rfl, h1, h2, h3⟩ := h
  have H3 := hide h3
  clear h3
  go_enter Try.func5, Try.ntmps5
  go_wp2_with fail
  refine (new_any _).mono ?_
  rintro e w ⟨m, rfl, hm, hb⟩
  have hm0 : ∃ bm, m = some ⟨bm, 0, none⟩ := by obtain ⟨bm, _, rfl, _⟩ := hm; exact ⟨bm, rfl⟩
  obtain ⟨bm, rfl⟩ := hm0
  have HM : Hid (Made w (some ⟨bm, 0, none⟩) .leaf 0 ∧ Below W.heap.size W w) := ⟨⟨hm, Nat.le_refl _, _, rfl⟩, hb⟩
  clear hm hb
  go_wp2
  go_loopg [3, 4] l.length (fun gk v3 v4 wr => ∃ (j : Nat) (bm : Nat) (T : BT), v3 = .pointer (some ⟨bm, 0, none⟩) ∧ v4 = .int .i64 (j : Int) ∧ gk = l.length - j ∧ j ≤ l.length ∧ Made wr (some ⟨bm, 0, none⟩) T j ∧ (∀ k ∈ l.take j, HasKey T.io k) ∧ Below W.heap.size W wr)
  case atStart => exact ⟨0, bm, .leaf, rfl, rfl, rfl, Nat.zero_le _, (unhide HM).1, fun k hk => by simp at hk, (unhide HM).2⟩
  case round =>
    obtain ⟨j, bm, T, rfl, rfl, hgk, hj, hM, hK, hB⟩ := hrel
    have Hgk := hide hgk
    have HK := hide hK
    clear hgk hK HM
    by_cases hlt : j < l.length
    · obtain ⟨g, off, rfl, hg, hc⟩ := unhide H3 (by omega)
      obtain ⟨x, hx⟩ : ∃ x, l[j]? = some x := ⟨_, List.getElem?_eq_getElem hlt⟩
      have c0 := (hB.cell (p := ⟨g, off + j, none⟩) hg).trans (hc j x hx)
      have hj0 : (0 : Int) ≤ (j : Int) := Int.natCast_nonneg _
      have hj1 : (j : Int) < (l.length : Int) := by omega
      have Hx := hide hx
      have HMr := hide hM
      have hMr := hM.1
      have hsz := hM.2.1
      clear hx hc hM
      go_wp2_with fail
      refine (mput_any (x, (j : Int)) hMr (by omega)).mono ?_
      rintro e w2 ⟨m', T', rfl, hm', hT', hb', bm', rfl, _⟩
      have hB' := hB.trans (hb'.mono hB.size)
      have Hm := hide hm'
      have HT := hide hT'
      clear hm' hT' c0 hMr
      go_wp2
      go_roundg (l.length - (j + 1))
      case measure => have := unhide Hgk; omega
      case rel =>
        refine ⟨j + 1, bm', T', rfl, by go_num, rfl, by omega, ⟨unhide Hm, ?_, _, rfl⟩, ?_, hB'⟩
        · have hs' : Srt T'.io := by obtain ⟨_, _, _, _, _, _, q⟩ := unhide Hm; exact q
          have := hs'.len_le (z := (x, (j : Int)) :: T.io) (fun y hy => by
            rcases (unhide HT y).1 hy with h | h
            · simp [h]
            · simp [h.1])
          simp at this
          omega
        · intro k hk
          rw [List.take_add_one, unhide Hx] at hk
          simp at hk
          rcases hk with hk | rfl
          · obtain ⟨y, hy, rfl⟩ := unhide HK k hk
            by_cases e : y.1 = x
            · exact ⟨(x, (j : Int)), (unhide HT _).2 (.inl rfl), e.symm⟩
            · exact ⟨y, (unhide HT _).2 (.inr ⟨hy, e⟩), rfl⟩
          · exact ⟨(k, (j : Int)), (unhide HT _).2 (.inl rfl), rfl⟩
    · obtain rfl : j = l.length := by omega
      go_wp2
      go_ret
      exact ⟨_, T, rfl, hM, fun k hk => unhide HK k (by simpa using hk), hB⟩

end Go.Proofs.Ytpmdfgoajffmeaa
