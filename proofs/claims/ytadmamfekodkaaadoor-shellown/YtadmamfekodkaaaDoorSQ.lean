import Derived.Test.YtadmamfekodkaaaDoorSPx
import Derived.Test.YtadmamfekodkaaaDoorNL

namespace Go.Proofs.YtadmamfekodkaaaDoor
open Go.RowKit
attribute [local go_sem ↓] Go.wp_at_zero Go.wp_at_succ

/-- What the two variables of strconv hold can be read. -/
def HasV (W : World) (g : Nat) : Prop := g < W.heap.size ∧ ∃ ev, W.cell? ⟨g, 0, none⟩ = some ev ∧ (ev = .nilIface ∨ ∃ te pe, ev = .iface te pe)
def HasE (W : World) : Prop := HasV W 1 ∧ HasV W 2
theorem HasV.up {W w : World} {g : Nat} (h : HasV W g) (hb : Below W.heap.size W w) : HasV w g := by
  obtain ⟨h1, ev, h2, h3⟩ := h
  exact ⟨Nat.lt_of_lt_of_le h1 hb.size, ev, (hb.cell (p := ⟨g, 0, none⟩) h1).trans h2, h3⟩
theorem HasE.up {W w : World} (h : HasE W) (hb : Below W.heap.size W w) : HasE w := ⟨h.1.up hb, h.2.up hb⟩

/-- What strconv.ParseUint answers. -/
def SPU (W : World) (B M : Nat) (s : ByteArray) (e : Ending) (w : World) : Prop := Below W.heap.size W w ∧
  ((∃ u : Nat, e = .returned (.tuple #[.int .u64 (u : Int), .nilIface]) ∧ 0 < s.size ∧ nval B M (strN s) 0 = some u) ∨
   (∃ (u : Int) (p : Value), e = .returned (.tuple #[.int .u64 u, .iface 72 p]) ∧ (s.size = 0 ∨ nval B M (strN s) 0 = none)))
theorem toErr_any {W : World} (h : HasE W) (s : ByteArray) (hs : s.size ≤ 65536) (b t c : Int) (hc : c = 1 ∨ c = 2) (fn : ByteArray) :
    Calls Tryd.prog 43 #[.string fn, .string s, .int .i64 b, .int .i64 t, .iface 70 (.int .i64 c)] W fun e w => ∃ p, e = .returned (.iface 72 p) ∧ Below W.heap.size W w := by
  rcases hc with rfl | rfl
  · obtain ⟨_, ev, h2, h3⟩ := h.2
    refine (AnyPu.strconv_toError_range Tryd.laysPu17 fn s b t ev W (by omega) h2 h3).mono ?_
    rintro e w ⟨n, he, _, _, hb⟩
    exact ⟨_, he, hb⟩
  · obtain ⟨_, ev, h2, h3⟩ := h.1
    refine (AnyPu.strconv_toError_syntax Tryd.laysPu17 fn s b t ev W (by omega) h2 h3).mono ?_
    rintro e w ⟨n, he, _, _, hb⟩
    exact ⟨_, he, hb⟩
set_option maxRecDepth 100000 in
set_option maxHeartbeats 1000000 in
theorem sparse_any {W : World} (h : HasE W) (s : ByteArray) (hs : s.size ≤ 65536) (B M : Nat) (b t : Int)
    (hin : Calls Tryd.prog 42 #[.string s, .int .i64 b, .int .i64 t] W (PU W B M s)) :
    Calls Tryd.prog 41 #[.string s, .int .i64 b, .int .i64 t] W (SPU W B M s) := by
  have hb0 := Below.refl W.heap.size W
  go_enter Tryd.func41, Tryd.ntmps41
  go_wp2_with fail
  refine hin.mono ?_
  rintro e w1 ⟨hb1, ⟨u, rfl, hu⟩ | ⟨u, c, rfl, hc, hu⟩⟩
  · have Hb := hide hb1
    have Hu := hide hu
    clear hb1 hu hin
    go_wp2
    go_ret2
    exact ⟨unhide Hb, .inl ⟨u, rfl, unhide Hu⟩⟩
  · have Hb := hide hb1
    have Hu := hide hu
    have Hc := hide hc
    clear hb1 hu hin hc
    go_wp2_with fail
    refine (toErr_any (h.up (unhide Hb)) s hs b t c (unhide Hc) _).mono ?_
    rintro e w2 ⟨p, rfl, hb2⟩
    have hb02 : Below W.heap.size W w2 := (unhide Hb).trans (hb2.mono (unhide Hb).size)
    have Hb2 := hide hb02
    clear hb2 hb02
    go_wp2
    go_ret2
    exact ⟨unhide Hb2, .inr ⟨u, p, rfl, unhide Hu⟩⟩
end Go.Proofs.YtadmamfekodkaaaDoor
