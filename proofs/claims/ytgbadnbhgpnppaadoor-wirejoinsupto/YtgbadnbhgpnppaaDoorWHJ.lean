import Derived.Test.YtgbadnbhgpnppaaDoorWPK
import Derived.Test.YtgbadnbhgpnppaaDoorWGK
namespace Go.Proofs.YtgbadnbhgpnppaaDoor
open Go.ChangeShapes Go.WideShapes Go.ChangeAt Go.RowKit

/-- A record that came in: any numbers. -/
inductive Ri where
  | mk (number kind num : Int) (text : ByteArray) (inner : List Ri)
def Ri.inner : Ri → List Ri | .mk _ _ _ _ l => l
def icells : Ri → Value → List Value | .mk nb kd x t _, u => [.int .i64 nb, .int .i64 kd, .int .i64 x, .string t, u]
mutual
/-- How much there is of a record. -/
def blR : Ri → Nat
  | .mk _ _ _ t li => t.size + 1 + blL li
def blL : List Ri → Nat
  | [] => 0
  | r :: rs => blR r + blL rs
end
def RngI (x : Int) : Prop := -9223372036854775808 ≤ x ∧ x ≤ 9223372036854775807
/-- Records that came in. -/
inductive HasRi (W : World) : Value → List Ri → Prop
  | nil (a : Option Addr) (c : Nat) : HasRi W (.slice a 0 c) []
  | row (g off n c : Nat) (rs : List Ri) (us : Nat → Value) (hn : rs.length = n) (hm : n ≤ maxLen) (hg : g < W.heap.size) (hw : ∀ (i : Nat) (nb kd x : Int) (t : ByteArray) (li : List Ri), rs[i]? = some (.mk nb kd x t li) → RngI nb ∧ RngI kd ∧ RngI x) (hc : ∀ (i : Nat) (r : Ri), rs[i]? = some r → ∀ (j : Nat) (x : Value), (icells r (us i))[j]? = some x → W.cell? ⟨g, off + i * 5 + j, none⟩ = some x) (hi : ∀ (i : Nat) (r : Ri), rs[i]? = some r → HasRi W (us i) r.inner) : HasRi W (.slice (some ⟨g, off, none⟩) n c) rs
theorem HasRi.form {W : World} {v : Value} {rs : List Ri} (h : HasRi W v rs) : ∃ a c, v = .slice a rs.length c := by
  cases h with
  | nil a c => exact ⟨a, c, rfl⟩
  | row g off n c rs us hn hm hg hw hc hi => exact ⟨_, c, by rw [hn]⟩
theorem HasRi.up {W w : World} {v : Value} {rs : List Ri} (h : HasRi W v rs) (hb : Below W.heap.size W w) : HasRi w v rs := by
  induction h with
  | nil a c => exact .nil a c
  | row g off n c rs us hn hm hg hw hc hi ih => exact .row g off n c rs us hn hm (Nat.lt_of_lt_of_le hg hb.size) hw (fun i r hr j x hx => (hb.cell (p := ⟨g, off + i * 5 + j, none⟩) hg).trans (hc i r hr j x hx)) ih
/-- A record of those that came in. -/
theorem HasRi.rec' {W : World} {v : Value} {rs : List Ri} (h : HasRi W v rs) {i : Nat} {nb kd x : Int} {t : ByteArray} {li : List Ri} (hr : rs[i]? = some (.mk nb kd x t li)) :
    ∃ g off c ia ic, v = .slice (some ⟨g, off, none⟩) rs.length c ∧ g < W.heap.size ∧ (RngI nb ∧ RngI kd ∧ RngI x) ∧ W.cell? ⟨g, off + i * 5, none⟩ = some (.int .i64 nb) ∧ W.cell? ⟨g, off + i * 5 + 1, none⟩ = some (.int .i64 kd) ∧ W.cell? ⟨g, off + i * 5 + 2, none⟩ = some (.int .i64 x) ∧ W.cell? ⟨g, off + i * 5 + 3, none⟩ = some (.string t) ∧ W.cell? ⟨g, off + i * 5 + 4, none⟩ = some (.slice ia li.length ic) ∧ HasRi W (.slice ia li.length ic) li := by
  cases h with
  | nil a c => simp at hr
  | row g off n c rs us hn hm hg hw hc hi =>
    have hcs := hc i _ hr
    have hin := hi i _ hr
    obtain ⟨ia, ic, eu⟩ := hin.form
    rw [eu] at hcs hin
    exact ⟨g, off, c, ia, ic, by rw [hn], hg, hw i nb kd x t li hr, hcs 0 _ rfl, hcs 1 _ rfl, hcs 2 _ rfl, hcs 3 _ rfl, hcs 4 _ rfl, hin⟩
theorem cellsRecW : Tryd.prog.cellsOf 55 = 5 := by kernel_rfl
theorem cellsStrW : Tryd.prog.cellsOf 9 = 1 := by kernel_rfl
theorem cellsRecsW : Tryd.prog.cellsOf 24 = 1 := by kernel_rfl
instance : Inhabited Ri := ⟨.mk 0 0 0 .empty []⟩
theorem blL_map {H : Type} (L : Nat → Ri) (D : Nat → DataW H) : ∀ (is : List Nat), (∀ i ∈ is, blR (L i) ≤ Rows.uptoBulk (D i)) → blL (is.map L) ≤ Rows.uptoBulkAll (is.map D)
  | [], _ => by simp [blL, Rows.uptoBulkAll]
  | i :: is, h => by
    have h1 := h i (List.mem_cons_self)
    have h2 := blL_map L D is (fun j hj => h j (List.mem_cons_of_mem _ hj))
    simp only [List.map_cons, blL, Rows.uptoBulkAll]
    omega
/-- A record, its fields told. -/
def RecIn (w : World) (a : Addr) (r : Ri) : Prop := ∃ nb kd x t li u, r = .mk nb kd x t li ∧ (RngI nb ∧ RngI kd ∧ RngI x) ∧ w.cell? (a.add 0) = some (.int .i64 nb) ∧ w.cell? (a.add 1) = some (.int .i64 kd) ∧ w.cell? (a.add 2) = some (.int .i64 x) ∧ w.cell? (a.add 3) = some (.string t) ∧ w.cell? (a.add 4) = some u ∧ HasRi w u li
set_option maxRecDepth 100000 in
theorem open_rec {H : Type} {enc : TypeId × Value → H} {w : World} {base : Nat} {spare : Nat → Bool} {held : Bool} {n : Nat} {a : Addr} {cs : List Value} {x : DataW H × List MemPlace}
    (ih : ∀ m, m < n → ∀ (v : Value) (y : DataW H × List MemPlace), DataW.trod enc Tryd.prog w base spare held m 24 [v] = some y → ∃ rs, HasRi w v rs ∧ blL rs ≤ Rows.uptoBulk y.1)
    (h1 : w.cells? base a 5 = some cs) (h2 : DataW.trod enc Tryd.prog w base spare held n 55 cs = some x) :
    ∃ r : Ri, RecIn w a r ∧ blR r ≤ Rows.uptoBulk x.1 := by
  obtain ⟨_, hlen, hcell⟩ := World.cells?_some h1
  obtain ⟨xs, k, hk, hxe, _, hxl, hf⟩ := DataW.trod_struct Tryd.underlying55 h2
  match xs, hxl, cs, hlen with
  | [y0, y1, y2, y3, y4], _, [v0, v1, v2, v3, v4], _ =>
    have g0 := hf 0 _ rfl
    have g1 := hf 1 _ rfl
    have g2 := hf 2 _ rfl
    have g3 := hf 3 _ rfl
    have g4 := hf 4 _ rfl
    simp [cellsIntW, cellsStrW, cellsRecsW] at g0 g1 g2 g3 g4
    obtain ⟨n0, e0, _, f0⟩ := DataW.trod_int Tryd.underlying3 g0
    obtain ⟨n1, e1, _, f1⟩ := DataW.trod_int Tryd.underlying3 g1
    obtain ⟨n2, e2, _, f2⟩ := DataW.trod_int Tryd.underlying3 g2
    obtain ⟨s, e3, f3, _⟩ := DataW.trod_string Tryd.underlying9 g3
    obtain ⟨li, q1, q2⟩ := ih k (by omega) v4 y4 g4
    simp at e0 e1 e2 e3
    subst e0 e1 e2 e3
    refine ⟨.mk n0 n1 n2 s li, ⟨n0, n1, n2, s, li, v4, rfl, ⟨bounds_i64 f0, bounds_i64 f1, bounds_i64 f2⟩, hcell 0 (by omega), hcell 1 (by omega), hcell 2 (by omega), hcell 3 (by omega), hcell 4 (by omega), q1⟩, ?_⟩
    have f3' := congrArg Prod.fst f3
    rw [hxe]
    simp only [List.map_cons, List.map_nil, Rows.uptoBulk, Rows.uptoBulkAll, blR]
    rw [f3']
    simp only [Rows.uptoBulk]
    have e : s.data.toList.length = s.size := rfl
    omega
/-- Nested records that came in. -/
theorem open_hasRi {H : Type} {enc : TypeId × Value → H} {w : World} {base : Nat} {spare : Nat → Bool} {held : Bool} : ∀ (fuel : Nat) (v : Value) (x : DataW H × List MemPlace), DataW.trod enc Tryd.prog w base spare held fuel 24 [v] = some x → ∃ rs, HasRi w v rs ∧ blL rs ≤ Rows.uptoBulk x.1 := by
  intro fuel
  induction fuel using Nat.strongRecOn with
  | ind fuel ih =>
    intro v x h
    rcases DataW.trod_slice Tryd.underlying24 h with ⟨hcs, rfl⟩ | ⟨y, len, cap, elems, rest, n, rfl, hcs, rfl, _, hl, hm, hel, hat, _, _⟩
    · obtain rfl : v = .slice none 0 0 := by simpa using hcs
      exact ⟨[], .nil _ _, by simp [blL]⟩
    · obtain rfl : v = .slice (some y) len cap := by simpa using hcs
      have each : ∀ i, i < len → ∃ r : Ri, RecIn w (y.add (i * 5)) r ∧ blR r ≤ Rows.uptoBulk (elems.getD i (.nil, [])).1 := by
        intro i hi
        have q := hat i hi
        rw [cellsRecW] at q
        have hei : elems[i]? = some elems[i] := List.getElem?_eq_getElem (by omega)
        rw [hei] at q
        obtain ⟨cs, h1, h2⟩ := Option.bind_eq_some_iff.1 q
        have hgd : elems.getD i (.nil, []) = elems[i] := by rw [List.getD_eq_getElem?_getD, hei]; rfl
        rw [hgd]
        exact open_rec (fun m hm => ih m (by omega)) h1 h2
      obtain ⟨q, hq⟩ := Go.Deep.choose_lt each
      have hlen : ((List.range len).map q).length = len := by simp
      have hb : blL ((List.range len).map q) ≤ Rows.uptoBulkAll (elems.map (·.1)) := by
        have h1 := blL_map q (fun i => (elems.getD i (.nil, [])).1) (List.range len) (fun i hi => (hq i (List.mem_range.1 hi)).2)
        have h2 : (List.range len).map (fun i => (elems.getD i (.nil, [])).1) = elems.map (·.1) := by
          rw [← hel]
          refine List.ext_getElem (by simp) fun i p1 p2 => ?_
          simp at p1 p2
          simp [List.getD_eq_getElem?_getD, p1]
        rw [h2] at h1
        exact h1
      refine ⟨(List.range len).map q, ?_, by simp only [Rows.uptoBulk]; omega⟩
      by_cases h0 : len = 0
      · subst h0
        exact .nil _ _
      · obtain ⟨nb0, kd0, x0, t0, li0, u0, _, _, c0, _⟩ := (hq 0 (by omega)).1
        obtain ⟨b, off, spot⟩ := y
        have hspot : spot = none := by simpa [Addr.add] using World.cell?_spot c0
        subst hspot
        have hbl : b < w.heap.size := by
          rw [Go.Deep.add_add, Go.WideShapes.add_plain] at c0
          exact World.block_lt_of_cell? w _ c0
        have hget : ∀ (i : Nat) (r : Ri), ((List.range len).map q)[i]? = some r → i < len ∧ r = q i := by
          intro i o ho
          rw [List.getElem?_map, Option.map_eq_some_iff] at ho
          obtain ⟨j, hj, rfl⟩ := ho
          rw [List.getElem?_eq_some_iff] at hj
          obtain ⟨hj, e⟩ := hj
          simp at hj e
          exact ⟨hj, by rw [e]⟩
        have hu : ∀ i, ∃ u : Value, i < len → ∃ nb kd x t li, q i = .mk nb kd x t li ∧ (RngI nb ∧ RngI kd ∧ RngI x) ∧ w.cell? ⟨b, off + i * 5, none⟩ = some (.int .i64 nb) ∧ w.cell? ⟨b, off + i * 5 + 1, none⟩ = some (.int .i64 kd) ∧ w.cell? ⟨b, off + i * 5 + 2, none⟩ = some (.int .i64 x) ∧ w.cell? ⟨b, off + i * 5 + 3, none⟩ = some (.string t) ∧ w.cell? ⟨b, off + i * 5 + 4, none⟩ = some u ∧ HasRi w u li := fun i => by
          by_cases hi : i < len
          · obtain ⟨nb, kd, x, t, li, u, hr, hw, q0, q1, q2, q3, q4, q5⟩ := (hq i hi).1
            simp only [Go.WideShapes.add_plain] at q0 q1 q2 q3 q4
            exact ⟨u, fun _ => ⟨nb, kd, x, t, li, hr, hw, q0, q1, q2, q3, q4, q5⟩⟩
          · exact ⟨.int .i64 0, fun h => absurd h hi⟩
        obtain ⟨U, hU⟩ := Classical.axiomOfChoice hu
        refine .row b off len cap _ U hlen (by omega) hbl (fun i nb kd x t li hr => ?_) (fun i r hr j z hz => ?_) (fun i r hr => ?_)
        · obtain ⟨hi, e⟩ := hget i _ hr
          obtain ⟨nb', kd', x', t', li', e', hw, _⟩ := hU i hi
          rw [e'] at e
          injection e with e1 e2 e3
          subst e1 e2 e3
          exact hw
        · obtain ⟨hi, rfl⟩ := hget i _ hr
          obtain ⟨nb', kd', x', t', li', e', _, q0, q1, q2, q3, q4, _⟩ := hU i hi
          rw [e'] at hz
          match j, hz with
          | 0, hz => simp [icells] at hz; rw [← hz]; exact q0
          | 1, hz => simp [icells] at hz; rw [← hz]; exact q1
          | 2, hz => simp [icells] at hz; rw [← hz]; exact q2
          | 3, hz => simp [icells] at hz; rw [← hz]; exact q3
          | 4, hz => simp [icells] at hz; rw [← hz]; exact q4
          | j + 5, hz => simp [icells] at hz
        · obtain ⟨hi, rfl⟩ := hget i _ hr
          obtain ⟨nb', kd', x', t', li', e', _, _, _, _, _, _, q5⟩ := hU i hi
          rw [e']
          exact q5
#print axioms open_hasRi
end Go.Proofs.YtgbadnbhgpnppaaDoor
namespace Go.Proofs.YtgbadnbhgpnppaaDoor

theorem bl_mem {r : Ri} : ∀ {rs : List Ri} {i : Nat}, rs[i]? = some r → blR r ≤ blL rs
  | [], i, h => by simp at h
  | q :: rs, 0, h => by simp at h; subst h; rw [blL]; omega
  | q :: rs, i + 1, h => by
    rw [List.getElem?_cons_succ] at h
    have := bl_mem h
    rw [blL]
    omega
theorem blR_pos (r : Ri) : 1 ≤ blR r := by cases r; rw [blR]; omega
theorem bl_len : ∀ rs : List Ri, rs.length ≤ blL rs
  | [] => Nat.le_refl _
  | r :: rs => by
    have := bl_len rs
    have := blR_pos r
    rw [blL, List.length_cons]
    omega
end Go.Proofs.YtgbadnbhgpnppaaDoor
