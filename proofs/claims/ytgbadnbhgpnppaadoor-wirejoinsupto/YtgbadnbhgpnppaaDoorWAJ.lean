import Derived.Test.YtgbadnbhgpnppaaDoorWBJ
import Derived.Deep.MidRow
import Derived.Laws.Rows
namespace Go.Proofs.YtgbadnbhgpnppaaDoor
open Go.RowKit
attribute [local go_sem ↓] Go.wp_at_zero Go.wp_at_succ

/-- A block that is written from a place on. -/
def written : Array Value → Nat → List Value → Array Value
  | cs, _, [] => cs
  | cs, o, v :: vs => written (cs.setIfInBounds o v) (o + 1) vs
theorem heap_setCells {t : TypeId} {g : Nat} : ∀ (vs : List Value) (o : Nat) (w : World) (cs : Array Value), w.heap[g]? = some (.cells cs t (0, 0)) → (w.setCells g o vs).heap[g]? = some (.cells (written cs o vs) t (0, 0)) ∧ (∀ b, b ≠ g → (w.setCells g o vs).heap[b]? = w.heap[b]?)
  | [], _, _, _, h => ⟨h, fun _ _ => rfl⟩
  | v :: vs, o, w, cs, h => by
    obtain ⟨h1, h2⟩ := heap_setCells vs (o + 1) (w.setCell ⟨g, o, none⟩ v) (cs.setIfInBounds o v) (heap_setCell_same w g o cs t v h)
    exact ⟨h1, fun b hb => (h2 b hb).trans (heap_setCell_other w _ b v hb)⟩

theorem below_setCells {n g : Nat} {A : World} (hg : n ≤ g) : ∀ (vs : List Value) (o : Nat) (w : World), Below n A w → Below n A (w.setCells g o vs)
  | [], _, _, h => h
  | v :: vs, o, _, h => below_setCells hg vs (o + 1) _ (h.setCell (p := ⟨g, o, none⟩) hg v)

/-- The table of what is done, by wire kind. -/
def actCells : List Value := [.func (.func 66) #[] #[], .func (.func 67) #[] #[], .func (.func 69) #[] #[], .func (.func 70) #[] #[], .func (.func 72) #[] #[], .func (.func 73) #[] #[], .func (.func 74) #[] #[], .func (.func 75) #[] #[], .func (.func 76) #[] #[], .func (.func 77) #[] #[], .func (.func 79) #[] #[], .func (.func 81) #[] #[], .func (.func 82) #[] #[], .func (.func 83) #[] #[], .func (.func 84) #[] #[], .func (.func 85) #[] #[], .nilFunc, .nilFunc, .nilFunc, .func (.func 86) #[] #[], .func (.func 87) #[] #[], .func (.func 88) #[] #[], .func (.func 89) #[] #[], .func (.func 90) #[] #[]]
theorem Tryd.infoActs : (Tryd.prog.info? 109).map (·.size) = some actCells.toArray.size := by kernel_rfl

theorem actOne : actCells.toArray.all (·.oneCell') = true := by decide +kernel

set_option maxRecDepth 100000 in
set_option maxHeartbeats 2000000 in
theorem acts_any (W : World) : Calls Tryd.prog 57 #[] W fun e W' => e = .returned (.agg actCells.toArray) ∧ Below W.heap.size W W' := by
  have hth : (W.alloc (.cells #[.nilFunc, .nilFunc, .nilFunc, .nilFunc, .nilFunc, .nilFunc, .nilFunc, .nilFunc, .nilFunc, .nilFunc, .nilFunc, .nilFunc, .nilFunc, .nilFunc, .nilFunc, .nilFunc, .nilFunc, .nilFunc, .nilFunc, .nilFunc, .nilFunc, .nilFunc, .nilFunc, .nilFunc] 109)).there W.heap.size 0 actCells.toArray.size := by
    intro j hj
    have hb := heap_alloc_new W (.cells #[.nilFunc, .nilFunc, .nilFunc, .nilFunc, .nilFunc, .nilFunc, .nilFunc, .nilFunc, .nilFunc, .nilFunc, .nilFunc, .nilFunc, .nilFunc, .nilFunc, .nilFunc, .nilFunc, .nilFunc, .nilFunc, .nilFunc, .nilFunc, .nilFunc, .nilFunc, .nilFunc, .nilFunc] 109)
    refine ⟨?_, frozen_of_row _ _ _ _ _ hb⟩
    rw [Nat.zero_add, cell_of_row _ _ _ _ _ _ hb]
    have hj' : j < 24 := hj
    simp
    omega
  go_enter Tryd.func57, Tryd.ntmps57
  go_wp2_with (refine wpList_store_mid rfl 109 (.tmp 0) (.tmp 7) rfl W.heap.size 0 actCells.toArray rfl rfl hth Tryd.infoActs actOne ?_)
  obtain ⟨hw1, hw2⟩ := heap_setCells (t := 109) (g := W.heap.size) actCells 0 (W.alloc (.cells #[.nilFunc, .nilFunc, .nilFunc, .nilFunc, .nilFunc, .nilFunc, .nilFunc, .nilFunc, .nilFunc, .nilFunc, .nilFunc, .nilFunc, .nilFunc, .nilFunc, .nilFunc, .nilFunc, .nilFunc, .nilFunc, .nilFunc, .nilFunc, .nilFunc, .nilFunc, .nilFunc, .nilFunc] 109)) #[.nilFunc, .nilFunc, .nilFunc, .nilFunc, .nilFunc, .nilFunc, .nilFunc, .nilFunc, .nilFunc, .nilFunc, .nilFunc, .nilFunc, .nilFunc, .nilFunc, .nilFunc, .nilFunc, .nilFunc, .nilFunc, .nilFunc, .nilFunc, .nilFunc, .nilFunc, .nilFunc, .nilFunc] (heap_alloc_new W _)
  have hw3 : written #[.nilFunc, .nilFunc, .nilFunc, .nilFunc, .nilFunc, .nilFunc, .nilFunc, .nilFunc, .nilFunc, .nilFunc, .nilFunc, .nilFunc, .nilFunc, .nilFunc, .nilFunc, .nilFunc, .nilFunc, .nilFunc, .nilFunc, .nilFunc, .nilFunc, .nilFunc, .nilFunc, .nilFunc] 0 actCells = actCells.toArray := by rfl
  rw [hw3] at hw1
  have hB : Below W.heap.size W ((W.alloc (.cells #[.nilFunc, .nilFunc, .nilFunc, .nilFunc, .nilFunc, .nilFunc, .nilFunc, .nilFunc, .nilFunc, .nilFunc, .nilFunc, .nilFunc, .nilFunc, .nilFunc, .nilFunc, .nilFunc, .nilFunc, .nilFunc, .nilFunc, .nilFunc, .nilFunc, .nilFunc, .nilFunc, .nilFunc] 109)).setCells W.heap.size 0 actCells) := by
    exact below_setCells (Nat.le_refl _) _ _ _ ((Below.refl _ W).alloc (Nat.le_refl _) _)
  refine bodyPost_ret (v := .agg actCells.toArray) (results_cell_row rfl _ _ W.heap.size 109 actCells.toArray (0, 0) _ rfl hw1 Tryd.underlying109 rfl Tryd.infoActs) rfl ⟨rfl, hB⟩
end Go.Proofs.YtgbadnbhgpnppaaDoor
namespace Go.Proofs.YtgbadnbhgpnppaaDoor
open Go.RowKit
attribute [local go_sem ↓] Go.wp_at_zero Go.wp_at_succ

/-- A record without others in it. -/
structure Rec where
  number : Nat
  kind : Nat
  num : Int
  text : ByteArray
  ia : Option Addr
  ic : Nat
def Rec.val (r : Rec) : Value := .agg #[.int .i64 (r.number : Int), .int .i64 (r.kind : Int), .int .i64 r.num, .string r.text, .slice r.ia 0 r.ic]
/-- Records that can be read. -/
def HasR (W : World) (v : Value) (rs : List Rec) : Prop := ∃ a c, v = .slice a rs.length c ∧ rs.length ≤ 1048576 ∧ (0 < rs.length → ∃ g off, a = some ⟨g, off, none⟩ ∧ g < W.heap.size ∧ ∀ i r, rs[i]? = some r →
  W.cell? ⟨g, off + i * 5, none⟩ = some (.int .i64 (r.number : Int)) ∧ W.cell? ⟨g, off + i * 5 + 1, none⟩ = some (.int .i64 (r.kind : Int)) ∧ W.cell? ⟨g, off + i * 5 + 2, none⟩ = some (.int .i64 r.num) ∧ W.cell? ⟨g, off + i * 5 + 3, none⟩ = some (.string r.text) ∧ W.cell? ⟨g, off + i * 5 + 4, none⟩ = some (.slice r.ia 0 r.ic))
theorem HasR.up {W w : World} {v : Value} {rs : List Rec} (h : HasR W v rs) (hb : Below W.heap.size W w) : HasR w v rs := by
  obtain ⟨a, c, rfl, hm, h3⟩ := h
  refine ⟨a, c, rfl, hm, fun hp => ?_⟩
  obtain ⟨g, off, rfl, h4, h5⟩ := h3 hp
  refine ⟨g, off, rfl, Nat.lt_of_lt_of_le h4 hb.size, fun i k hk => ?_⟩
  obtain ⟨q0, q1, q2, q3, q4⟩ := h5 i k hk
  exact ⟨(hb.cell (p := ⟨g, off + i * 5, none⟩) h4).trans q0, (hb.cell (p := ⟨g, off + i * 5 + 1, none⟩) h4).trans q1, (hb.cell (p := ⟨g, off + i * 5 + 2, none⟩) h4).trans q2, (hb.cell (p := ⟨g, off + i * 5 + 3, none⟩) h4).trans q3, (hb.cell (p := ⟨g, off + i * 5 + 4, none⟩) h4).trans q4⟩

set_option maxRecDepth 100000 in
set_option maxHeartbeats 2000000 in
theorem tooDeep_flat {W : World} {v : Value} {rs : List Rec} (h : HasR W v rs) (hk : ∀ r ∈ rs, r.kind ≠ 3) (d : Int) :
    Calls Tryd.prog 28 #[v, .int .i64 d] W fun e W' => e = .returned (.bool false) ∧ Below W.heap.size W W' := by
  obtain ⟨a, c, rfl, hm, h3⟩ := h
  have H3 := hide h3
  clear h3
  go_enter Tryd.func28, Tryd.ntmps28
  go_wp2
  go_loopg [9] rs.length (fun gk v9 wr => ∃ (i : Nat), v9 = .int .i64 (i : Int) ∧ gk = rs.length - i ∧ i ≤ rs.length ∧ Below W.heap.size W wr)
  case atStart => exact ⟨0, rfl, rfl, Nat.zero_le _, Below.refl _ _⟩
  case round =>
    obtain ⟨i, rfl, hgk, hin, hB⟩ := hrel
    have Hgk := hide hgk
    clear hgk
    by_cases hlt : i < rs.length
    · obtain ⟨g, off, rfl, hg, hc⟩ := unhide H3 (by omega)
      obtain ⟨r, hr⟩ : ∃ r, rs[i]? = some r := ⟨_, List.getElem?_eq_getElem hlt⟩
      obtain ⟨q0, q1, q2, q3, q4⟩ := hc i r hr
      have d0 := (hB.cell (p := ⟨g, off + i * 5, none⟩) hg).trans q0
      have d1 := (hB.cell (p := ⟨g, off + i * 5 + 1, none⟩) hg).trans q1
      have d2 := (hB.cell (p := ⟨g, off + i * 5 + 2, none⟩) hg).trans q2
      have d3 := (hB.cell (p := ⟨g, off + i * 5 + 3, none⟩) hg).trans q3
      have d4 := (hB.cell (p := ⟨g, off + i * 5 + 4, none⟩) hg).trans q4
      have hi0 : (0 : Int) ≤ (i : Int) := Int.natCast_nonneg _
      have hi1 : (i : Int) < (rs.length : Int) := by omega
      have hk3 : ((r.kind : Int) != 3) = true := by have := hk r (List.mem_of_getElem? hr); simp; omega
      clear q0 q1 q2 q3 q4 hc hr hk
      go_wp2
      go_roundg (rs.length - (i + 1))
      case measure => have := unhide Hgk; omega
      case rel => exact ⟨i + 1, by go_num, rfl, by omega, hB.alloc hB.size _⟩
    · obtain rfl : i = rs.length := by omega
      go_wp2
      go_ret
      exact ⟨rfl, hB⟩

set_option maxRecDepth 100000 in
set_option maxHeartbeats 4000000 in
theorem tooMany_flat {W : World} {v : Value} {rs : List Rec} (h : HasR W v rs) :
    Calls Tryd.prog 27 #[v] W fun e W' => e = .returned (.bool false) ∧ Below W.heap.size W W' := by
  have HR := hide h
  obtain ⟨a, c, rfl, hm, h3⟩ := h
  have hn := heap_alloc_new W (.cells #[.slice a rs.length c] 24)
  have hB0 : Below W.heap.size W (W.alloc (.cells #[.slice a rs.length c] 24)) := (Below.refl _ _).alloc (Nat.le_refl _) _
  have hc0 : (W.alloc (.cells #[.slice a rs.length c] 24)).cell? ⟨W.heap.size, 0, none⟩ = some (.slice a rs.length c) := by
    unfold World.cell?
    rw [hn]
    rfl
  have H3 := hide h3
  clear h3 hn
  go_enter Tryd.func27, Tryd.ntmps27
  go_wp2
  generalize W.alloc (.cells #[.slice a rs.length c] 24) = V at *
  go_loopg [3, 4] 1 (fun gk v3 v4 wr => Below W.heap.size W wr ∧ (gk = 1 ∧ v3 = .int .i64 0 ∧ v4 = .slice (some ⟨W.heap.size, 0, none⟩) 1 1 ∧ wr.cell? ⟨W.heap.size, 0, none⟩ = some (.slice a rs.length c) ∨ gk = 0 ∧ v4 = .slice (some ⟨W.heap.size, 0, none⟩) 0 1))
  case atStart => exact ⟨hB0, .inl ⟨rfl, rfl, rfl, hc0⟩⟩
  case round =>
    obtain ⟨hB, ⟨hgk, rfl, rfl, hc⟩ | ⟨hgk, rfl⟩⟩ := hrel
    · have Hgk := hide hgk
      clear hgk
      have hm' : decide ((1048576 : Int) < (rs.length : Int)) = false := by simp; omega
      go_wp2
      clear hc hB0 hc0
      go_loopg [4, 32] rs.length (fun gk v4 v32 wx => ∃ (i : Nat), v4 = .slice (some ⟨W.heap.size, 0, none⟩) 0 1 ∧ v32 = .int .i64 (i : Int) ∧ gk = rs.length - i ∧ i ≤ rs.length ∧ Below W.heap.size W wx)
      case atStart => exact ⟨0, rfl, rfl, rfl, Nat.zero_le _, hB⟩
      case round =>
        clear hB
        obtain ⟨i, rfl, rfl, hgk, hin, hB⟩ := hrel
        have Hgk2 := hide hgk
        clear hgk
        by_cases hlt : i < rs.length
        · skip
          obtain ⟨g, off, rfl, hg, hc⟩ := unhide H3 (by omega)
          obtain ⟨r, hr⟩ : ∃ r, rs[i]? = some r := ⟨_, List.getElem?_eq_getElem hlt⟩
          obtain ⟨q0, q1, q2, q3, q4⟩ := hc i r hr
          have d0 := (hB.cell (p := ⟨g, off + i * 5, none⟩) hg).trans q0
          have d1 := (hB.cell (p := ⟨g, off + i * 5 + 1, none⟩) hg).trans q1
          have d2 := (hB.cell (p := ⟨g, off + i * 5 + 2, none⟩) hg).trans q2
          have d3 := (hB.cell (p := ⟨g, off + i * 5 + 3, none⟩) hg).trans q3
          have d4 := (hB.cell (p := ⟨g, off + i * 5 + 4, none⟩) hg).trans q4
          have hi0 : (0 : Int) ≤ (i : Int) := Int.natCast_nonneg _
          have hi1 : (i : Int) < (rs.length : Int) := by omega
          clear q0 q1 q2 q3 q4 hc hr
          go_wp2
          go_roundg (rs.length - (i + 1))
          case measure => have := unhide Hgk2; omega
          case rel => exact ⟨i + 1, rfl, by go_num, rfl, by omega, hB.alloc hB.size _⟩
        · obtain rfl : i = rs.length := by omega
          go_wp2
          go_roundg 0
          case measure => have := unhide Hgk; omega
          case rel => exact ⟨hB, .inr ⟨rfl, rfl⟩⟩
    · go_wp2
      go_ret
      exact ⟨rfl, hB⟩
end Go.Proofs.YtgbadnbhgpnppaaDoor
