import Derived.Test.YtokiplfdhoealaaDoorQY
import Derived.Test.YtokiplfdhoealaaDoorSO
namespace Go.Proofs.YtokiplfdhoealaaDoor
open Go.RowKit Go.Lib
attribute [local go_sem ↓] Go.wp_at_zero Go.wp_at_succ

set_option maxRecDepth 100000 in
set_option maxHeartbeats 1000000 in
theorem xutf8_any (W : World) (s : ByteArray) (hs : s.size ≤ 140737488351232) :
    Calls Tryd.prog 25 #[.string s] W fun e w => e = .returned (.int .i64 (utfAt s 0)) ∧ w = W := by
  go_enter Tryd.func25, Tryd.ntmps25
  go_wp2
  go_loopg [3, 4] s.size (fun gk v3 _ wr => ∃ (k : Nat), v3 = .int .i64 (k : Int) ∧ gk = s.size - k ∧ k ≤ s.size ∧ wr = W ∧ Hid (utfAt s 0 = utfAt s k))
  case atStart => exact ⟨0, rfl, rfl, by omega, rfl, rfl⟩
  case round =>
    obtain ⟨k, rfl, hgk, hk, rfl, Hu⟩ := hrel
    have Hgk := hide hgk
    clear hgk
    by_cases hlt : k < s.size
    · go_wp2_with fail
      refine (follow_any wr s k hlt hs).mono ?_
      rintro e w2 ⟨rfl, he⟩
      obtain rfl : wr = w2 := he.symm
      obtain ⟨q1, q2⟩ := chAt_le s k hk
      by_cases h0 : chAt s k = 0
      · have Hr : Hid (utfAt s 0 = (k : Int)) := (unhide Hu).trans (utf_bad hlt h0)
        rw [h0]
        clear h0 q1 q2
        go_wp2
        go_ret
        exact ⟨by rw [unhide Hr]; rfl, rfl⟩
      · have Hr : Hid (utfAt s 0 = utfAt s (k + chAt s k)) := (unhide Hu).trans (utf_step hlt h0)
        obtain ⟨n, hn⟩ : ∃ n, n = chAt s k := ⟨_, rfl⟩
        rw [← hn] at h0 q1 q2 Hr ⊢
        have n0 : ((n : Int) == 0) = false := by simp; omega
        clear hn
        go_wp2
        go_roundg (s.size - (k + n))
        case measure => have := unhide Hgk; omega
        case rel => exact ⟨k + n, by go_num, rfl, by omega, rfl, Hr⟩
    · have Hr : Hid (utfAt s 0 = -1) := (unhide Hu).trans (utf_end hlt)
      obtain rfl : k = s.size := by omega
      go_wp2
      go_ret
      exact ⟨by rw [unhide Hr]; rfl, rfl⟩
theorem utf_ascii {s : ByteArray} (h : ∀ k, k < s.size → byteAt s k < 128) : ∀ (m k : Nat), s.size - k ≤ m → utfAt s k = -1 := by
  intro m
  induction m with
  | zero => intro k hm; exact utf_end (by omega)
  | succ m ih =>
    intro k hm
    by_cases hk : k < s.size
    · have hc := chAt_low hk (h k hk)
      rw [utf_step hk (by omega), hc]
      exact ih (k + 1) (by omega)
    · exact utf_end hk
/-- A text and an error. -/
def UE (W : World) (s : ByteArray) (e : Ending) (w : World) : Prop := Below W.heap.size W w ∧ ∃ (t : ByteArray) (c : Int), e = .returned (.tuple #[.string t, .int .i64 c]) ∧ unqR s = (t, c)
theorem ueIs {W w : World} {s t : ByteArray} {c : Int} (hb : Below W.heap.size W w) (h : unqR s = (t, c)) : UE W s (.returned (.tuple #[.string t, .int .i64 c])) w := ⟨hb, t, c, rfl, h⟩
theorem unqR_long {s : ByteArray} (h : 65536 < s.size) : unqR s = (⟨#[]⟩, 2) := by unfold unqR; rw [if_pos h]; rfl
theorem unqR_cod {s : ByteArray} (h : ¬ 65536 < s.size) (h2 : 0 ≤ utfAt s 0) : unqR s = (⟨#[]⟩, 44) := by unfold unqR; rw [if_neg h, if_pos h2]; rfl
theorem unqR_bad {s : ByteArray} (h : ¬ 65536 < s.size) (h2 : ¬ 0 ≤ utfAt s 0) (h3 : unqL s = none ∨ ∃ l e, unqL s = some (l, e) ∧ ¬ e = s.size) : unqR s = (⟨#[]⟩, 42) := by
  unfold unqR
  rw [if_neg h, if_neg h2]
  rcases h3 with h3 | ⟨l, e, h3, h4⟩
  · rw [h3]; rfl
  · rw [h3]
    show (if e = s.size then (ofN l, (0 : Int)) else (.empty, 42)) = _
    rw [if_neg h4]; rfl
theorem unqR_ok {s : ByteArray} {l : List Nat} (h : ¬ 65536 < s.size) (h2 : ¬ 0 ≤ utfAt s 0) (h3 : unqL s = some (l, s.size)) : unqR s = (ofN l, 0) := by
  unfold unqR
  rw [if_neg h, if_neg h2, h3]
  show (if s.size = s.size then (ofN l, (0 : Int)) else (.empty, 42)) = _
  rw [if_pos rfl]
theorem unqL_le {s : ByteArray} {l : List Nat} {e : Nat} (h : unqL s = some (l, e)) : 1 < e ∧ e ≤ s.size ∧ Byt l := by
  unfold unqL at h
  split at h
  · cases h
  · split at h
    · have := uq_le _ 1 l e (Nat.le_refl _) h
      exact ⟨this.1, this.2.1, this.2.2.1⟩
    · cases h
set_option maxRecDepth 100000 in
set_option maxHeartbeats 1000000 in
theorem unq_any {W : World} (hF : HasF W) (hE : HasE W) (s : ByteArray) : Calls Tryd.prog 11 #[.string s] W (UE W s) := by
  have hb0 := Below.refl W.heap.size W
  by_cases h0 : 65536 < s.size
  · have Hr := hide (unqR_long h0)
    have e0 := ltT (a := s.size) (k := 65536) (by omega)
    clear h0
    go_enter Tryd.func11, Tryd.ntmps11
    go_wp2
    go_ret2
    exact ueIs hb0 (unhide Hr)
  · have e0 := ltF (a := s.size) (k := 65536) (by omega)
    have hs : s.size ≤ 65536 := by omega
    have H0 := hide h0
    clear h0
    go_enter Tryd.func11, Tryd.ntmps11
    go_wp2_with fail
    refine (utf8_any hF s (by omega)).mono ?_
    rintro e w1 ⟨rfl, hb1⟩
    have Hb1 := hide hb1
    clear hb1 hb0
    by_cases h1 : 0 ≤ utfAt s 0
    · have Hr := hide (unqR_cod (unhide H0) h1)
      obtain ⟨u, hu⟩ : ∃ u, u = utfAt s 0 := ⟨_, rfl⟩
      rw [← hu] at h1 ⊢
      have e1 : decide (0 ≤ u) = true := by simp; omega
      clear hu h1
      go_wp2
      go_ret2
      exact ueIs (unhide Hb1) (unhide Hr)
    · have H1 : Hid (utfAt s 0 < 0) := by show _ < _; omega
      obtain ⟨u, hu⟩ : ∃ u, u = utfAt s 0 := ⟨_, rfl⟩
      rw [← hu] at h1 ⊢
      have e1 : decide (0 ≤ u) = false := by simp; omega
      clear hu h1
      go_wp2_with fail
      refine (unquote_any (hE.up (unhide Hb1)) s hs).mono ?_
      rintro e w2 ⟨hb2, ⟨ho, rfl⟩ | ⟨l, n, v, ho, rfl, hv⟩⟩
      · have Hr := hide (unqR_bad (unhide H0) (Int.not_le.2 (unhide H1)) (.inl ho))
        have HB2 : Hid (Below W.heap.size W w2) := (unhide Hb1).trans (hb2.mono (unhide Hb1).size)
        clear ho hb2
        go_wp2
        go_ret2
        exact ueIs (unhide HB2) (unhide Hr)
      · obtain ⟨n1, n2, hbyt⟩ := unqL_le ho
        have HB2 : Hid (Below W.heap.size W w2) := (unhide Hb1).trans (hb2.mono (unhide Hb1).size)
        have n0 : ((n : Int) == 0) = false := by simp; omega
        obtain ⟨va, vn, vc, rfl⟩ := hv.shape
        by_cases h2 : n = s.size
        · have Hr := hide (unqR_ok (unhide H0) (Int.not_le.2 (unhide H1)) (by rw [ho, h2]))
          have hcv := conv_any hv.has hbyt
          have e2 : decide (n < s.size) = false := by simp; omega
          clear ho hb2 hv h2 hbyt
          go_wp2
          go_ret2
          exact ueIs (unhide HB2) (unhide Hr)
        · have Hr := hide (unqR_bad (unhide H0) (Int.not_le.2 (unhide H1)) (.inr ⟨l, n, ho, h2⟩))
          have e2 : decide (n < s.size) = true := by simp; omega
          clear ho hb2 hv h2 hbyt
          go_wp2
          go_ret2
          exact ueIs (unhide HB2) (unhide Hr)
set_option maxRecDepth 100000 in
set_option maxHeartbeats 1000000 in
theorem xunq_any (W : World) (s : ByteArray) : Calls Tryd.prog 12 #[.string s] W (UE W s) := by
  have hb0 := Below.refl W.heap.size W
  by_cases h0 : 65536 < s.size
  · have Hr := hide (unqR_long h0)
    have e0 := ltT (a := s.size) (k := 65536) (by omega)
    clear h0
    go_enter Tryd.func12, Tryd.ntmps12
    go_wp2
    go_ret2
    exact ueIs hb0 (unhide Hr)
  · have e0 := ltF (a := s.size) (k := 65536) (by omega)
    have hs : s.size ≤ 65536 := by omega
    have H0 := hide h0
    clear h0
    go_enter Tryd.func12, Tryd.ntmps12
    go_wp2_with fail
    refine (xutf8_any W s (by omega)).mono ?_
    rintro e w1 ⟨rfl, he⟩
    obtain rfl : W = w1 := he.symm
    by_cases h1 : 0 ≤ utfAt s 0
    · have Hr := hide (unqR_cod (unhide H0) h1)
      obtain ⟨u, hu⟩ : ∃ u, u = utfAt s 0 := ⟨_, rfl⟩
      rw [← hu] at h1 ⊢
      have e1 : decide (0 ≤ u) = true := by simp; omega
      clear hu h1
      go_wp2
      go_ret2
      exact ueIs hb0 (unhide Hr)
    · have H1 : Hid (utfAt s 0 < 0) := by show _ < _; omega
      obtain ⟨u, hu⟩ : ∃ u, u = utfAt s 0 := ⟨_, rfl⟩
      rw [← hu] at h1 ⊢
      have e1 : decide (0 ≤ u) = false := by simp; omega
      clear hu h1
      by_cases hz : s.size = 0
      · have Hr := hide (unqR_bad (unhide H0) (Int.not_le.2 (unhide H1)) (.inl (by unfold unqL; rw [if_pos hz])))
        obtain rfl := isEmptyT hz
        go_wp2
        go_ret2
        exact ueIs hb0 (unhide Hr)
      · have e2 := isEmptyF hz
        have s0 : 0 < s.size := by omega
        obtain ⟨q, hq, hq2, gq⟩ := strN_ex s 0 s0
        have hbq : byteAt s 0 = q := (byteAt_eq s 0 s0).trans gq
        by_cases hqt : q = 39 ∨ q = 34
        · have hL := unqL_some hz (by rw [hbq]; exact hqt)
          have HL := hide hL
          have hf : ((q : Int) != 34) = false ∨ (((q : Int) != 34) = true ∧ ((q : Int) != 39) = false) := by
            rcases hqt with rfl | rfl
            · exact .inr ⟨by decide, by decide⟩
            · exact .inl (by decide)
          have hxq := xquoted_any W s 0 s0 hs
          rw [Nat.zero_add, ← hL] at hxq
          have Hxq := hide hxq
          clear hq hbq hqt hL hz hxq
          rcases hf with f1 | ⟨f1, f2⟩
          · go_wp2_with fail
            refine (unhide Hxq).mono ?_
            rintro e w2 ⟨hb2, ⟨ho, rfl⟩ | ⟨l, n, v, ho, rfl, hv⟩⟩
            · have Hr := hide (unqR_bad (unhide H0) (Int.not_le.2 (unhide H1)) (.inl ho))
              have HB2 := hide hb2
              have e3 : ((0 : Int) != (s.size : Int)) = true := by simp; omega
              clear ho hb2
              go_wp2
              go_ret2
              exact ueIs (unhide HB2) (unhide Hr)
            · obtain ⟨n1, n2, hbyt⟩ := unqL_le ho
              have HB2 := hide hb2
              obtain ⟨va, vn, vc, rfl⟩ := hv.shape
              by_cases h2 : n = s.size
              · have Hr := hide (unqR_ok (unhide H0) (Int.not_le.2 (unhide H1)) (by rw [ho, h2]))
                have hcv := conv_any hv.has hbyt
                have e3 : ((n : Int) != (s.size : Int)) = false := by simp; omega
                clear ho hb2 hv h2 hbyt
                go_wp2
                go_ret2
                exact ueIs (unhide HB2) (unhide Hr)
              · have Hr := hide (unqR_bad (unhide H0) (Int.not_le.2 (unhide H1)) (.inr ⟨l, n, ho, h2⟩))
                have e3 : ((n : Int) != (s.size : Int)) = true := by simp; omega
                clear ho hb2 hv h2 hbyt
                go_wp2
                go_ret2
                exact ueIs (unhide HB2) (unhide Hr)
          · go_wp2_with fail
            refine (unhide Hxq).mono ?_
            rintro e w2 ⟨hb2, ⟨ho, rfl⟩ | ⟨l, n, v, ho, rfl, hv⟩⟩
            · have Hr := hide (unqR_bad (unhide H0) (Int.not_le.2 (unhide H1)) (.inl ho))
              have HB2 := hide hb2
              have e3 : ((0 : Int) != (s.size : Int)) = true := by simp; omega
              clear ho hb2
              go_wp2
              go_ret2
              exact ueIs (unhide HB2) (unhide Hr)
            · obtain ⟨n1, n2, hbyt⟩ := unqL_le ho
              have HB2 := hide hb2
              obtain ⟨va, vn, vc, rfl⟩ := hv.shape
              by_cases h2 : n = s.size
              · have Hr := hide (unqR_ok (unhide H0) (Int.not_le.2 (unhide H1)) (by rw [ho, h2]))
                have hcv := conv_any hv.has hbyt
                have e3 : ((n : Int) != (s.size : Int)) = false := by simp; omega
                clear ho hb2 hv h2 hbyt
                go_wp2
                go_ret2
                exact ueIs (unhide HB2) (unhide Hr)
              · have Hr := hide (unqR_bad (unhide H0) (Int.not_le.2 (unhide H1)) (.inr ⟨l, n, ho, h2⟩))
                have e3 : ((n : Int) != (s.size : Int)) = true := by simp; omega
                clear ho hb2 hv h2 hbyt
                go_wp2
                go_ret2
                exact ueIs (unhide HB2) (unhide Hr)
        · have Hr := hide (unqR_bad (unhide H0) (Int.not_le.2 (unhide H1)) (.inl (unqL_none hz (by rw [hbq]; exact hqt))))
          have f1 : ((q : Int) != 34) = true := by simp; omega
          have f2 : ((q : Int) != 39) = true := by simp; omega
          clear hq hbq hqt
          go_wp2
          go_ret2
          exact ueIs hb0 (unhide Hr)
theorem unq_ex : unqR ⟨#[39, 97, 92, 120, 52, 49, 39]⟩ = (⟨#[97, 65]⟩, 0) := by
  have hu : utfAt ⟨#[39, 97, 92, 120, 52, 49, 39]⟩ 0 = -1 := utf_ascii (by decide) _ 0 (Nat.le_refl _)
  have h1 : unqL ⟨#[39, 97, 92, 120, 52, 49, 39]⟩ = some ([97, 65], 7) := by
    rw [unqL_some (by decide) (by decide)]
    rw [show byteAt ⟨#[39, 97, 92, 120, 52, 49, 39]⟩ 0 = 39 from by decide]
    rw [uq_step (b := 97) (n := 1) (by decide) (by decide) (by decide), uq_step (k := 1 + 1) (b := 65) (n := 4) (by decide) (by decide) (by decide), uq_quote (k := 1 + 1 + 4) (by decide) (by decide)]
    rfl
  have h2 : unqR ⟨#[39, 97, 92, 120, 52, 49, 39]⟩ = (ofN [97, 65], 0) := unqR_ok (by decide) (by rw [hu]; decide) h1
  rw [h2]
  rfl
set_option maxRecDepth 100000 in
set_option maxHeartbeats 1000000 in
theorem unquotes_any {W : World} {v : Value} {l : List ByteArray} (hF : HasF W) (hE : HasE W) (h : HasS W v l) (hl : l.length ≤ 140737488351232) :
    Calls Tryd.prog 5 #[v] W fun e W' => e = .returned (.bool true) ∧ Below W.heap.size W W' := by
  obtain ⟨a, c, rfl, hm, h3⟩ := id h
  have H3 := hide h3
  clear hm h3 h
  go_enter Tryd.func5, Tryd.ntmps5
  go_wp2_with fail
  refine (unq_any hF hE _).mono ?_
  rintro e w1 ⟨hb1, t, c, rfl, hu⟩
  rw [unq_ex] at hu
  obtain ⟨rfl, rfl⟩ := Prod.mk.inj hu
  have Hb1 := hide hb1
  clear hu hb1
  go_wp2
  go_loopg [5, 6, 7, 8, 9] l.length (fun gk v5 _ _ _ _ wr => ∃ (k : Nat), v5 = .int .i64 (k : Int) ∧ gk = l.length - k ∧ k ≤ l.length ∧ Hid (Below W.heap.size W wr))
  case atStart => exact ⟨0, rfl, rfl, by omega, Hb1⟩
  case round =>
    obtain ⟨k, rfl, hgk, hk, HB⟩ := hrel
    have Hgk := hide hgk
    clear hgk
    by_cases hlt : k < l.length
    · obtain ⟨g, off, rfl, hg, hc⟩ := unhide H3 (by omega)
      obtain ⟨s, hs⟩ : ∃ s, l[k]? = some s := ⟨_, List.getElem?_eq_getElem hlt⟩
      have Hcl : Hid (∀ w, Below W.heap.size W w → w.cell? ⟨g, off + k, none⟩ = some (.string s)) := fun w hw => (hw.cell (p := ⟨g, off + k, none⟩) hg).trans (hc k s hs)
      have hcell := unhide Hcl wr (unhide HB)
      clear hc hs hg
      go_wp2_with fail
      refine (unq_any (hF.up (unhide HB)) (hE.up (unhide HB)) s).mono ?_
      rintro e w2 ⟨hb2, t, c, rfl, hu⟩
      have HB2 : Hid (Below W.heap.size W w2) := (unhide HB).trans (hb2.mono (unhide HB).size)
      have hcell2 := unhide Hcl w2 (unhide HB2)
      have Hu := hide hu
      clear hcell hb2 hu
      go_wp2_with fail
      refine (xunq_any w2 s).mono ?_
      rintro e w3 ⟨hb3, t', c', rfl, hu⟩
      rw [unhide Hu] at hu
      obtain ⟨rfl, rfl⟩ := Prod.mk.inj hu
      have HB3 : Hid (Below W.heap.size W w3) := (unhide HB2).trans (hb3.mono (unhide HB2).size)
      have n2 : (c != c) = false := by simp
      clear hu Hu hb3 hcell2 HB2 HB Hcl
      go_wp2
      go_roundg (l.length - (k + 1))
      case measure => have := unhide Hgk; omega
      case rel => exact ⟨k + 1, by go_num, rfl, by omega, HB3⟩
    · obtain rfl : k = l.length := by omega
      go_wp2
      go_ret
      exact ⟨rfl, unhide HB⟩
end Go.Proofs.YtokiplfdhoealaaDoor
