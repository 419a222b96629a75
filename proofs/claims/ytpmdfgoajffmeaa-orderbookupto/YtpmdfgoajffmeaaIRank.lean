import Derived.Test.YtpmdfgoajffmeaaIFind

namespace Go.Proofs.Ytpmdfgoajffmeaa
open Go.RowKit
attribute [local go_sem ↓] Go.wp_at_zero Go.wp_at_succ

/-- How many keys lie below k. -/
def rk (k : KT) (l : List Ent) : Nat := (l.filter fun x => decide (x.1 < k)).length
theorem rk_app (k : KT) (l r : List Ent) : rk k (l ++ r) = rk k l + rk k r := by simp [rk, List.filter_append]
theorem rk_cons_lt {k : KT} {x : Ent} (h : x.1 < k) (r : List Ent) : rk k (x :: r) = rk k r + 1 := by simp [rk, h]
theorem rk_cons_not {k : KT} {x : Ent} (h : ¬ x.1 < k) (r : List Ent) : rk k (x :: r) = rk k r := by simp [rk, h]
theorem rk_all {k : KT} {l : List Ent} (h : ∀ x ∈ l, x.1 < k) : rk k l = l.length := by
  unfold rk; rw [List.filter_eq_self.2]; intro x hx; exact decide_eq_true (h x hx)
theorem rk_none {k : KT} {l : List Ent} (h : ∀ x ∈ l, ¬ x.1 < k) : rk k l = 0 := by
  unfold rk; rw [List.filter_eq_nil_iff.2]; rfl; intro x hx; simpa using h x hx
theorem rk_le (k : KT) (l : List Ent) : rk k l ≤ l.length := List.length_filter_le _ _

set_option maxRecDepth 100000 in
set_option maxHeartbeats 2000000 in
theorem rank_any (T : BT) (W : World) (p : Option Addr) (k : KT) (ht : IsT W.heap.size W p T) (hs : Srt T.io) (hsz : (T.io.length : Int) ≤ 1152921504606846976) :
    Calls Try.prog 27 #[.pointer p, .int .i64 k] W fun o W' => ∃ f : Bool, o = .returned (.tuple #[.int .i64 (rk k T.io : Int), .bool f]) ∧ (f = true ↔ HasKey T.io k) ∧ W' = W := by
  have Ht := hide ht
  have Hs := hide hs
  clear ht hs
  go_enter Try.func27, Try.ntmps27
  go_wp2
  go_loopg [0, 6] T.height (fun n v u wr => wr = W ∧ ∃ q S c, v = .pointer q ∧ u = .int .i64 (c : Nat) ∧ S.height = n ∧ IsT W.heap.size W q S ∧ Srt S.io ∧ c + rk k S.io = rk k T.io ∧ (HasKey S.io k ↔ HasKey T.io k) ∧ c + S.io.length ≤ T.io.length)
  case atStart => exact ⟨rfl, p, T, 0, rfl, rfl, rfl, unhide Ht, unhide Hs, by simp, Iff.rfl, by simp⟩
  case round =>
    obtain ⟨rfl, q, S, c, rfl, rfl, hn, hS, hsS, hc, hk, hcl⟩ := hrel
    have Hc := hide hc
    have Hk := hide hk
    clear hc hk
    cases S with
    | leaf =>
      obtain rfl : q = none := hS
      clear hsS
      go_wp2
      go_ret2
      refine ⟨false, ?_, ?_, rfl⟩
      · rw [← unhide Hc]; simp [rk, BT.io]
      · rw [← unhide Hk]; simp [HasKey, BT.io]
    | node l e r =>
      obtain ⟨b, pl, pr, rfl, hb, h0, h1, h2, h3, h4, hl, hr⟩ := hS
      have hh : l.height < gk ∧ r.height < gk := by rw [← hn]; simp only [BT.height]; omega
      have hm := srt_mid.1 (show Srt (l.io ++ e :: r.io) from hsS)
      have hl4 : (BT.node l e r).io.length = l.io.length + 1 + r.io.length := by simp [BT.io]; omega
      have hcl' : (c : Int) + (l.io.length : Int) + 1 + (r.io.length : Int) ≤ 1152921504606846976 := by omega
      have Hcl : Hid (c + (l.io.length + 1 + r.io.length) ≤ T.io.length) := by show _ ≤ _; omega
      have Hm := hide hm
      clear hn h4 hsS hm hl4 hcl
      by_cases hlt : k < e.1
      · go_wp2
        go_roundg l.height
        case measure => exact hh.1
        case rel =>
          obtain ⟨m1, m2, m3, m4⟩ := unhide Hm
          have hcl := unhide Hcl
          refine ⟨rfl, pl, l, c, rfl, rfl, rfl, hl, m1, ?_, ?_, by omega⟩
          · rw [← unhide Hc]
            simp only [BT.io]
            rw [rk_app, rk_cons_not (fun h => klt_irrefl (klt_trans h hlt)), rk_none fun x hx h => klt_irrefl (klt_trans (klt_trans h hlt) (m4 x hx))]
            rfl
          · rw [← unhide Hk]
            constructor
            · rintro ⟨x, hx, e'⟩; exact ⟨x, List.mem_append_left _ hx, e'⟩
            · rintro ⟨x, hx, e'⟩
              rcases List.mem_append.1 hx with h | h
              · exact ⟨x, h, e'⟩
              · rcases List.mem_cons.1 h with rfl | h
                · exact (klt_irrefl (e' ▸ hlt)).elim
                · exact (klt_irrefl (klt_trans (e' ▸ m4 x h) hlt)).elim
      · have hd1 : decide (k < e.1) = false := decide_eq_false hlt
        by_cases hgt : e.1 < k
        · clear hlt
          go_wp2_with (go_at_call 20; refine (count_any (T := l) hl).mono ?_; rintro o w' ⟨rfl, rfl⟩)
          go_roundg r.height
          case measure => exact hh.2
          case rel =>
            obtain ⟨m1, m2, m3, m4⟩ := unhide Hm
            have hcl := unhide Hcl
            refine ⟨rfl, pr, r, c + (l.io.length + 1), rfl, by go_num, rfl, hr, m2, ?_, ?_, by omega⟩
            · rw [← unhide Hc]
              simp only [BT.io]
              rw [rk_app, rk_cons_lt hgt, rk_all fun x hx => klt_trans (m3 x hx) hgt]
              omega
            · rw [← unhide Hk]
              constructor
              · rintro ⟨x, hx, e'⟩; exact ⟨x, List.mem_append_right _ (List.mem_cons_of_mem _ hx), e'⟩
              · rintro ⟨x, hx, e'⟩
                rcases List.mem_append.1 hx with h | h
                · exact (klt_irrefl (klt_trans (e' ▸ m3 x h) hgt)).elim
                · rcases List.mem_cons.1 h with rfl | h
                  · exact (klt_irrefl (e' ▸ hgt)).elim
                  · exact ⟨x, h, e'⟩
        · have hd2 : decide (e.1 < k) = false := decide_eq_false hgt
          have Heq := hide (keq_of hgt hlt)
          clear hgt hlt
          go_wp2_with (go_at_call 20; refine (count_any (T := l) hl).mono ?_; rintro o w' ⟨rfl, rfl⟩)
          go_ret2
          have heq := unhide Heq
          obtain ⟨m1, m2, m3, m4⟩ := unhide Hm
          refine ⟨true, ?_, ?_, rfl⟩
          · rw [← unhide Hc]
            simp only [BT.io]
            rw [rk_app, rk_cons_not (fun h => klt_irrefl (heq ▸ h)), rk_none (fun x hx h => klt_irrefl (klt_trans (heq ▸ h) (m4 x hx))), rk_all (fun x hx => heq ▸ m3 x hx)]
            simp
          · rw [← unhide Hk]
            exact ⟨fun _ => ⟨e, List.mem_append_right _ List.mem_cons_self, heq⟩, fun _ => rfl⟩
end Go.Proofs.Ytpmdfgoajffmeaa
