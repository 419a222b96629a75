import Derived.Test.YthodjkeppobcmaaDoorLS

namespace Go.Proofs.YthodjkeppobcmaaDoor
open Go.RowKit Go.Lib

/-- A node's tokens, written behind others. -/
theorem tight_any {s : ByteArray} {P : Nat → Prop} {w0 : World} (hs : s.size ≤ 67108864) {d : NdV} {b : List Nat} (h : HasNd (strN s) P w0 d b) : PutT s w0 d b ∧ isSl d.vn ∧ isSl d.vi := by
  induction h with
  | leaf k a e x vn vi hsl h1 h2 h3 h4 =>
    obtain ⟨⟨an, nn, cn, rfl⟩, ai, ni, ci, rfl⟩ := hsl
    exact ⟨tight_leaf k a e x an ai nn cn ni ci h1 h2 h3 (by rw [strN_len] at h4; exact h4), ⟨an, nn, cn, rfl⟩, ai, ni, ci, rfl⟩
  | row k a e x vn vi its hsl hk ha he hi hn hm hc ih =>
    rw [strN_len] at ha he hm
    refine ⟨?_, hsl, by obtain ⟨a, c, h, -⟩ := hi; exact ⟨_, _, _, h⟩⟩
    rcases hk with rfl | rfl
    · exact tightO a e x vn vi its ha he hi (hn rfl) (fun i q => hm i q rfl) (fun i q => (ih i q).1) (fun i q => (ih i q).2) hs
    · exact tightA a e x vn vi its hsl ha he hi (fun i q => (ih i q).1) (fun i q => (ih i q).2) hs
end Go.Proofs.YthodjkeppobcmaaDoor
