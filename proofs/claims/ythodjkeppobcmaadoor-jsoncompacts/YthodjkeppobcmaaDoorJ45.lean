import Derived.Test.YthodjkeppobcmaaDoorLU
import Derived.Outline
import Derived.Test.YthodjkeppobcmaaDoorUM
import Derived.Test.YthodjkeppobcmaaDoorKA

namespace Go.Proofs.YthodjkeppobcmaaDoor
open Go.RowKit Go.Lib

/-- No longer than what was read. -/
def Ln (a : Nat) (r : RR) : Prop := ∀ l p, r = .ok (l, p) → a + l.length ≤ p
theorem Ln.err {a : Nat} {x : Nat × Nat} : Ln a (.error x) := fun _ _ e => (by cases e)
theorem Ln.go {a : Nat} {r : RR} {k : Nat → RR} (h : Ln a r) (hk : ∀ q, Ln q (k q)) : Ln a (r.go k) := by
  match r, h with
  | .error x, _ => exact Ln.err
  | .ok (b, q), h =>
    have h1 := h b q rfl
    have hq := hk q
    show Ln a (RR.pre b (k q))
    cases hkq : k q with
    | error x => exact Ln.err
    | ok x =>
      obtain ⟨l2, p2⟩ := x
      have g1 := hq l2 p2 hkq
      intro l p e
      cases e
      rw [List.length_append]
      omega
theorem tok_ln {L : List Nat} {a : Nat} : Ln a (tokR L a) := by
  unfold tokR
  have h1 : a ≤ skB L a := tw_ge _ _ _
  split
  · intro l p e
    cases e
    rw [List.length_take]
    omega
  · exact Ln.err
theorem must_ln {L : List Nat} {a : Nat} (c : Nat) : Ln a (mustR L c a) := by
  unfold mustR
  split
  · exact tok_ln
  · exact Ln.err
theorem items_ln {L : List Nat} {ea : Nat → RR} (tt : Nat) (h : ∀ q, Ln q (ea q)) : ∀ (f q : Nat), Ln q (itemsR L ea tt f q) := by
  intro f
  induction f with
  | zero => intro q; exact Ln.err
  | succ f ih =>
    intro q
    rw [items_succ]
    refine (h q).go (fun q' => ?_)
    unfold moreR
    split
    · exact tok_ln.go (fun q2 => ih q2)
    · exact must_ln _
theorem row_ln {L : List Nat} {ea : Nat → RR} (ff tt : Nat) {a : Nat} (h : ∀ q, Ln q (ea q)) : Ln a (rowR L ea ff tt a) := by
  refine (must_ln _).go (fun q => ?_)
  split
  · exact must_ln _
  · exact items_ln _ h _ _
theorem val_ln {L : List Nat} : ∀ (d a : Nat), Ln a (valR L d a) := by
  intro d
  induction d with
  | zero =>
    intro a
    unfold valR
    split
    · exact Ln.err
    · split
      · exact Ln.err
      · exact tok_ln
  | succ d ih =>
    intro a
    unfold valR
    split
    · exact row_ln _ _ (fun _ => (must_ln _).go (fun _ => (must_ln _).go ih))
    · split
      · exact row_ln _ _ ih
      · split
        · exact Ln.err
        · exact tok_ln
theorem ck_len {s : ByteArray} {l : List Nat} {p : Nat} (h : ckR s = .ok (l, p)) : l.length ≤ 67108864 ∧ s.size ≤ 67108864 := by
  unfold ckR at h
  split at h
  · cases h
  · rename_i h1
    split at h
    · cases h
    · have hl : Ln 0 (topR (strN s)) := by
        unfold topR
        refine (val_ln 200 0).go (fun q => ?_)
        split
        · exact Ln.err
        · intro l p e
          cases e
          simp
      have h2 := hl l p h
      have hp : p ≤ s.size := by
        have hv := val_gd (s := s) 200 0 (Nat.zero_le _)
        unfold topR at h
        match hr : valR (strN s) 200 0, hv with
        | .error _, _ => rw [hr] at h; cases h
        | .ok (l', q), hv =>
          rw [hr] at h
          have h' : RR.pre l' (if skB (strN s) q < (strN s).length then .error (120, skB (strN s) q) else .ok ([], q)) = .ok (l, p) := h
          split at h'
          · cases h'
          · have e : q = p := by cases h'; rfl
            rw [← e]
            exact (hv.1 _ _ rfl).2.1
      omega
end Go.Proofs.YthodjkeppobcmaaDoor

namespace Go.Proofs.YthodjkeppobcmaaDoor
open Go.RowKit Go.Lib
attribute [local go_sem ↓] Go.wp_at_zero Go.wp_at_succ

def CoA (W : World) (r : RR) (e : Ending) (w : World) : Prop := Below W.heap.size W w ∧ match r with
  | .error (c, p) => e = .returned (.tuple #[.string ⟨#[]⟩, .int .i64 (c : Int), .int .i64 (p : Int)])
  | .ok (l, _) => e = .returned (.tuple #[.string (ofN l), .int .i64 0, .int .i64 0])
set_option maxRecDepth 100000 in
set_option maxHeartbeats 2000000 in
theorem kcompact_any {W : World} (s : ByteArray) (hs : s.size ≤ 140737488351232) : Calls Tryd.prog 5 #[.string s] W (CoA W (ckR s)) := by
  have HR := hide (fun W => read_any (W := W) s hs)
  obtain ⟨R, hR⟩ : ∃ R, ckR s = R := ⟨_, rfl⟩
  rw [hR] at HR ⊢
  have HRR := hide hR
  clear hR
  go_enter Tryd.func5, Tryd.ntmps5
  go_wp2_with fail
  refine (unhide HR _).mono ?_
  rintro e w1 ⟨hb1, h1⟩
  rcases R with ⟨c, p⟩ | ⟨l, p⟩
  · obtain ⟨⟨dk, da, de, dx, dn, di⟩, ⟨⟨an, nn, cn, h8⟩, ai, ni, ci, h9⟩, rfl⟩ := h1
    simp only at h8 h9
    subst h8 h9
    have hc := ck_err (unhide HRR)
    have q1 : ((c : Int) != 0) = true := by simp; omega
    have q2 : ((c : Int) == 0) = false := by simp; omega
    unfold NdV.val
    simp only
    have HF := hide (show Below W.heap.size W (w1.alloc (.cells #[.int .i64 dk, .int .i64 da, .int .i64 de, .string dx, .slice an nn cn, .slice ai ni ci] 43)) from hb1.trans ((((Below.refl _ _).alloc (Nat.le_refl _) _)).mono hb1.size))
    clear hb1
    clear hc
    go_wp2_with fail
    refine bodyPost_ret (results_tmp3 rfl _ _ _) rfl ?_
    exact ⟨unhide HF, rfl⟩
  · obtain ⟨⟨dk, da, de, dx, dn, di⟩, rfl, hn⟩ := h1
    obtain ⟨hl1, hl2⟩ := ck_len (unhide HRR)
    have HBy := hide (ck_byt (unhide HRR))
    obtain ⟨hT, ⟨an, nn, cn, h8⟩, ai, ni, ci, h9⟩ := tight_any hl2 hn
    simp only at h8 h9
    subst h8 h9
    have hbA : Below w1.heap.size w1 (w1.alloc (.cells #[.int .i64 dk, .int .i64 da, .int .i64 de, .string dx, .slice an nn cn, .slice ai ni ci] 43)) := (Below.refl _ _).alloc (Nat.le_refl _) _
    have hnb := heap_new w1 (.cells #[.int .i64 dk, .int .i64 da, .int .i64 de, .string dx, .slice an nn cn, .slice ai ni ci] 43)
    have HT := hide (hT (w1.alloc (.cells #[.int .i64 dk, .int .i64 da, .int .i64 de, .string dx, .slice an nn cn, .slice ai ni ci] 43)) (.slice none 0 0) [] hbA (bytes_nil _ _) (by show 0 + _ ≤ _; omega))
    have HB := hide (hb1.trans (hbA.mono hb1.size))
    have HS := hide (Nat.le_trans hb1.size hbA.size)
    have HS1 := hide hbA.size
    have Hb1 := hide hb1.size
    unfold NdV.val at HT ⊢
    simp only at HT ⊢
    have n6 := (cells6 hnb).1
    obtain ⟨n0, n1, n2, n3, n4, n5⟩ := n6
    clear hn hT hbA hnb hb1 hl1 hl2
    go_wp2_with fail
    refine (unhide HT).mono ?_
    rintro e w3 ⟨v3, rfl, hB3, hE3⟩
    rw [List.nil_append] at hB3
    obtain ⟨a3, c3, rfl⟩ := slice_of hB3
    have cv := conv_any hB3.has (unhide HBy)
    have HF := hide ((unhide HB).trans ((ext_below hE3 (bytes_nil _ _) (unhide HS1)).mono (unhide Hb1)))
    obtain ⟨nl, hnl⟩ : ∃ n, l.length = n := ⟨_, rfl⟩
    rw [hnl] at cv ⊢
    clear hB3 hE3 hnl HT n0 n1 n2 n3 n4 n5
    go_wp2_with fail
    refine bodyPost_ret (results_tmp3 rfl _ _ _) rfl ?_
    exact ⟨unhide HF, rfl⟩
end Go.Proofs.YthodjkeppobcmaaDoor

namespace Go.Proofs.YthodjkeppobcmaaDoor
open Go.RowKit Go.Lib

/-- A text of ASCII alone is UTF-8. -/
theorem utf_ascii {s : ByteArray} (h : ∀ k, k < s.size → byteAt s k < 128) : ∀ (n k : Nat), s.size ≤ k + n → utfAt s k = -1 := by
  intro n
  induction n with
  | zero => intro k hk; exact utf_end (by omega)
  | succ n ih =>
    intro k hk
    rcases Nat.lt_or_ge k s.size with q | q
    · have hf : frm (byteAt s k) = some (0, 0, 0) := by unfold frm; rw [if_pos (h k q)]
      have hc : chAt s k = 1 + 0 := chAt_ok hf ⟨by omega, fun j j1 j2 => by omega⟩
      rw [utf_step q (by omega)]
      exact ih _ (by omega)
    · exact utf_end (by omega)
def lit1 : ByteArray := ⟨#[32, 91, 32, 49, 32, 44, 32, 123, 34, 97, 34, 32, 58, 32, 110, 117, 108, 108, 32, 125, 32, 93, 32]⟩
def lit2 : List Nat := [91, 49, 44, 123, 34, 97, 34, 58, 110, 117, 108, 108, 125, 93]
theorem lit_ascii : ∀ k : Fin 23, byteAt lit1 k.val < 128 := by decide +kernel
def isOk (r : RR) (l : List Nat) (p : Nat) : Bool := match r with
  | .ok (l', p') => decide (l' = l) && decide (p' = p)
  | .error _ => false
theorem of_isOk {r : RR} {l : List Nat} {p : Nat} (h : isOk r l p = true) : r = .ok (l, p) := by
  unfold isOk at h
  split at h
  · simp at h; obtain ⟨rfl, rfl⟩ := h; rfl
  · cases h
theorem lit_top : topR [32, 91, 32, 49, 32, 44, 32, 123, 34, 97, 34, 32, 58, 32, 110, 117, 108, 108, 32, 125, 32, 93, 32] = .ok (lit2, 22) := of_isOk (by decide +kernel)
theorem lit_strN : strN lit1 = [32, 91, 32, 49, 32, 44, 32, 123, 34, 97, 34, 32, 58, 32, 110, 117, 108, 108, 32, 125, 32, 93, 32] := by decide +kernel
theorem lit_size : lit1.size = 23 := by decide +kernel
theorem lit_utf : utfAt lit1 0 = -1 := utf_ascii (fun k hk => lit_ascii ⟨k, by rw [lit_size] at hk; exact hk⟩) 23 0 (by rw [lit_size]; omega)
end Go.Proofs.YthodjkeppobcmaaDoor
