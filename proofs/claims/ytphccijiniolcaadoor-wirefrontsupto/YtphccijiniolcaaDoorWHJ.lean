import Derived.Test.YtphccijiniolcaaDoorWPK
import Derived.Test.YtphccijiniolcaaDoorWGK
namespace Go.Proofs.YtphccijiniolcaaDoor
open Go.ChangeShapes Go.WideShapes Go.ChangeAt Go.RowKit

/-- A record that came in: any numbers. -/
inductive Ri where
  | mk (number kind num : Int) (text : ByteArray) (inner : List Ri)
def Ri.inner : Ri → List Ri | .mk _ _ _ _ l => l
def icells : Ri → Value → List Value | .mk nb kd x t _, u => [.int .i64 nb, .int .i64 kd, .int .i64 x, .string t, u]
mutual
/-- How much there is of a record. -/
def blR : Ri → Nat
  | .mk _ _ _ t li => t.size + 1 + blL li
def blL : List Ri → Nat
  | [] => 0
  | r :: rs => blR r + blL rs
end
def RngI (x : Int) : Prop := -9223372036854775808 ≤ x ∧ x ≤ 9223372036854775807
/-- Records that came in. -/
inductive HasRi (W : World) : Value → List Ri → Prop
  | nil (a : Option Addr) (c : Nat) : HasRi W (.slice a 0 c) []
  | row (g off n c : Nat) (rs : List Ri) (us : Nat → Value) (hn : rs.length = n) (hm : n ≤ maxLen) (hg : g < W.heap.size) (hw : ∀ (i : Nat) (nb kd x : Int) (t : ByteArray) (li : List Ri), rs[i]? = some (.mk nb kd x t li) → RngI nb ∧ RngI kd ∧ RngI x) (hc : ∀ (i : Nat) (r : Ri), rs[i]? = some r → ∀ (j : Nat) (x : Value), (icells r (us i))[j]? = some x → W.cell? ⟨g, off + i * 5 + j, none⟩ = some x) (hi : ∀ (i : Nat) (r : Ri), rs[i]? = some r → HasRi W (us i) r.inner) : HasRi W (.slice (some ⟨g, off, none⟩) n c) rs
theorem HasRi.form {W : World} {v : Value} {rs : List Ri} (h : HasRi W v rs) : ∃ a c, v = .slice a rs.length c := by
  cases h with
  | nil a c => exact ⟨a, c, rfl⟩
  | row g off n c rs us hn hm hg hw hc hi => exact ⟨_, c, by rw [hn]⟩
theorem HasRi.up {W w : World} {v : Value} {rs : List Ri} (h : HasRi W v rs) (hb : Below W.heap.size W w) : HasRi w v rs := by
  induction h with
  | nil a c => exact .nil a c
  | row g off n c rs us hn hm hg hw hc hi ih => exact .row g off n c rs us hn hm (Nat.lt_of_lt_of_le hg hb.size) hw (fun i r hr j x hx => (hb.cell (p := ⟨g, off + i * 5 + j, none⟩) hg).trans (hc i r hr j x hx)) ih
/-- A record of those that came in. -/
theorem HasRi.rec' {W : World} {v : Value} {rs : List Ri} (h : HasRi W v rs) {i : Nat} {nb kd x : Int} {t : ByteArray} {li : List Ri} (hr : rs[i]? = some (.mk nb kd x t li)) :
    ∃ g off c ia ic, v = .slice (some ⟨g, off, none⟩) rs.length c ∧ g < W.heap.size ∧ (RngI nb ∧ RngI kd ∧ RngI x) ∧ W.cell? ⟨g, off + i * 5, none⟩ = some (.int .i64 nb) ∧ W.cell? ⟨g, off + i * 5 + 1, none⟩ = some (.int .i64 kd) ∧ W.cell? ⟨g, off + i * 5 + 2, none⟩ = some (.int .i64 x) ∧ W.cell? ⟨g, off + i * 5 + 3, none⟩ = some (.string t) ∧ W.cell? ⟨g, off + i * 5 + 4, none⟩ = some (.slice ia li.length ic) ∧ HasRi W (.slice ia li.length ic) li := by
  cases h with
  | nil a c => simp at hr
  | row g off n c rs us hn hm hg hw hc hi =>
    have hcs := hc i _ hr
    have hin := hi i _ hr
    obtain ⟨ia, ic, eu⟩ := hin.form
    rw [eu] at hcs hin
    exact ⟨g, off, c, ia, ic, by rw [hn], hg, hw i nb kd x t li hr, hcs 0 _ rfl, hcs 1 _ rfl, hcs 2 _ rfl, hcs 3 _ rfl, hcs 4 _ rfl, hin⟩
theorem cellsRecW : Tryd.prog.cellsOf 45 = 5 := by kernel_rfl
theorem cellsStrW : Tryd.prog.cellsOf 9 = 1 := by kernel_rfl
theorem cellsRecsW : Tryd.prog.cellsOf 25 = 1 := by kernel_rfl
instance : Inhabited Ri := ⟨.mk 0 0 0 .empty []⟩
theorem blL_map {H : Type} (L : Nat → Ri) (D : Nat → DataW H) : ∀ (is : List Nat), (∀ i ∈ is, blR (L i) ≤ Rows.uptoBulk (D i)) → blL (is.map L) ≤ Rows.uptoBulkAll (is.map D)
  | [], _ => by simp [blL, Rows.uptoBulkAll]
  | i :: is, h => by
    have h1 := h i (List.mem_cons_self)
    have h2 := blL_map L D is (fun j hj => h j (List.mem_cons_of_mem _ hj))
    simp only [List.map_cons, blL, Rows.uptoBulkAll]
    omega
/-- A record, its fields told. -/
def RecIn (w : World) (a : Addr) (r : Ri) : Prop := ∃ nb kd x t li u, r = .mk nb kd x t li ∧ (RngI nb ∧ RngI kd ∧ RngI x) ∧ w.cell? (a.add 0) = some (.int .i64 nb) ∧ w.cell? (a.add 1) = some (.int .i64 kd) ∧ w.cell? (a.add 2) = some (.int .i64 x) ∧ w.cell? (a.add 3) = some (.string t) ∧ w.cell? (a.add 4) = some u ∧ HasRi w u li
set_option maxRecDepth 100000 in
theorem open_rec {H : Type} {enc : TypeId × Value → H} {w : World} {base : Nat} {spare : Nat → Bool} {held : Bool} {n : Nat} {a : Addr} {cs : List Value} {x : DataW H × List MemPlace}
    (ih : ∀ m, m < n → ∀ (v : Value) (y : DataW H × List MemPlace), DataW.trod enc Tryd.prog w base spare held m 25 [v] = some y → ∃ rs, HasRi w v rs ∧ blL rs ≤ Rows.uptoBulk y.1)
    (h1 : w.cells? base a 5 = some cs) (h2 : DataW.trod enc Tryd.prog w base spare held n 45 cs = some x) :
    ∃ r : Ri, RecIn w a r ∧ blR r ≤ Rows.uptoBulk x.1 := by
  obtain ⟨_, hlen, hcell⟩ := World.cells?_some h1
  obtain ⟨xs, k, hk, hxe, _, hxl, hf⟩ := DataW.trod_struct Tryd.underlying45 h2
  match xs, hxl, cs, hlen with
  | [y0, y1, y2, y3, y4], _, [v0, v1, v2, v3, v4], _ =>
    have g0 := hf 0 _ rfl
    have g1 := hf 1 _ rfl
    have g2 := hf 2 _ rfl
    have g3 := hf 3 _ rfl
    have g4 := hf 4 _ rfl
    simp [cellsIntW, cellsStrW, cellsRecsW] at g0 g1 g2 g3 g4
    obtain ⟨n0, e0, _, f0⟩ := DataW.trod_int Tryd.underlying3 g0
    obtain ⟨n1, e1, _, f1⟩ := DataW.trod_int Tryd.underlying3 g1
    obtain ⟨n2, e2, _, f2⟩ := DataW.trod_int Tryd.underlying3 g2
    obtain ⟨s, e3, f3, _⟩ := DataW.trod_string Tryd.underlying9 g3
    obtain ⟨li, q1, q2⟩ := ih k (by omega) v4 y4 g4
    simp at e0 e1 e2 e3
    subst e0 e1 e2 e3
    refine ⟨.mk n0 n1 n2 s li, ⟨n0, n1, n2, s, li, v4, rfl, ⟨bounds_i64 f0, bounds_i64 f1, bounds_i64 f2⟩, hcell 0 (by omega), hcell 1 (by omega), hcell 2 (by omega), hcell 3 (by omega), hcell 4 (by omega), q1⟩, ?_⟩
    have f3' := congrArg Prod.fst f3
    rw [hxe]
    simp only [List.map_cons, List.map_nil, Rows.uptoBulk, Rows.uptoBulkAll, blR]
    rw [f3']
    simp only [Rows.uptoBulk]
    have e : s.data.toList.length = s.size := rfl
    omega
/-- Nested records that came in. -/
theorem open_hasRi {H : Type} {enc : TypeId × Value → H} {w : World} {base : Nat} {spare : Nat → Bool} {held : Bool} : ∀ (fuel : Nat) (v : Value) (x : DataW H × List MemPlace), DataW.trod enc Tryd.prog w base spare held fuel 25 [v] = some x → ∃ rs, HasRi w v rs ∧ blL rs ≤ Rows.uptoBulk x.1 := by
  intro fuel
  induction fuel using Nat.strongRecOn with
  | ind fuel ih =>
    intro v x h
    rcases DataW.trod_slice Tryd.underlying25 h with ⟨hcs, rfl⟩ | ⟨y, len, cap, elems, rest, n, rfl, hcs, rfl, _, hl, hm, hel, hat, _, _⟩
    · obtain rfl : v = .slice none 0 0 := by simpa using hcs
      exact ⟨[], .nil _ _, by simp [blL]⟩
    · obtain rfl : v = .slice (some y) len cap := by simpa using hcs
      have each : ∀ i, i < len → ∃ r : Ri, RecIn w (y.add (i * 5)) r ∧ blR r ≤ Rows.uptoBulk (elems.getD i (.nil, [])).1 := by
        intro i hi
        have q := hat i hi
        rw [cellsRecW] at q
        have hei : elems[i]? = some elems[i] := List.getElem?_eq_getElem (by omega)
        rw [hei] at q
        obtain ⟨cs, h1, h2⟩ := Option.bind_eq_some_iff.1 q
        have hgd : elems.getD i (.nil, []) = elems[i] := by rw [List.getD_eq_getElem?_getD, hei]; rfl
        rw [hgd]
        exact open_rec (fun m hm => ih m (by omega)) h1 h2
      obtain ⟨q, hq⟩ := Go.Deep.choose_lt each
      have hlen : ((List.range len).map q).length = len := by simp
      have hb : blL ((List.range len).map q) ≤ Rows.uptoBulkAll (elems.map (·.1)) := by
        have h1 := blL_map q (fun i => (elems.getD i (.nil, [])).1) (List.range len) (fun i hi => (hq i (List.mem_range.1 hi)).2)
        have h2 : (List.range len).map (fun i => (elems.getD i (.nil, [])).1) = elems.map (·.1) := by
          rw [← hel]
          refine List.ext_getElem (by simp) fun i p1 p2 => ?_
          simp at p1 p2
          simp [List.getD_eq_getElem?_getD, p1]
        rw [h2] at h1
        exact h1
      refine ⟨(List.range len).map q, ?_, by simp only [Rows.uptoBulk]; omega⟩
      by_cases h0 : len = 0
      · subst h0
        exact .nil _ _
      · obtain ⟨nb0, kd0, x0, t0, li0, u0, _, _, c0, _⟩ := (hq 0 (by omega)).1
        obtain ⟨b, off, spot⟩ := y
        have hspot : spot = none := by simpa [Addr.add] using World.cell?_spot c0
        subst hspot
        have hbl : b < w.heap.size := by
          rw [Go.Deep.add_add, Go.WideShapes.add_plain] at c0
          exact World.block_lt_of_cell? w _ c0
        have hget : ∀ (i : Nat) (r : Ri), ((List.range len).map q)[i]? = some r → i < len ∧ r = q i := by
          intro i o ho
          rw [List.getElem?_map, Option.map_eq_some_iff] at ho
          obtain ⟨j, hj, rfl⟩ := ho
          rw [List.getElem?_eq_some_iff] at hj
          obtain ⟨hj, e⟩ := hj
          simp at hj e
          exact ⟨hj, by rw [e]⟩
        have hu : ∀ i, ∃ u : Value, i < len → ∃ nb kd x t li, q i = .mk nb kd x t li ∧ (RngI nb ∧ RngI kd ∧ RngI x) ∧ w.cell? ⟨b, off + i * 5, none⟩ = some (.int .i64 nb) ∧ w.cell? ⟨b, off + i * 5 + 1, none⟩ = some (.int .i64 kd) ∧ w.cell? ⟨b, off + i * 5 + 2, none⟩ = some (.int .i64 x) ∧ w.cell? ⟨b, off + i * 5 + 3, none⟩ = some (.string t) ∧ w.cell? ⟨b, off + i * 5 + 4, none⟩ = some u ∧ HasRi w u li := fun i => by
          by_cases hi : i < len
          · obtain ⟨nb, kd, x, t, li, u, hr, hw, q0, q1, q2, q3, q4, q5⟩ := (hq i hi).1
            simp only [Go.WideShapes.add_plain] at q0 q1 q2 q3 q4
            exact ⟨u, fun _ => ⟨nb, kd, x, t, li, hr, hw, q0, q1, q2, q3, q4, q5⟩⟩
          · exact ⟨.int .i64 0, fun h => absurd h hi⟩
        obtain ⟨U, hU⟩ := Classical.axiomOfChoice hu
        refine .row b off len cap _ U hlen (by omega) hbl (fun i nb kd x t li hr => ?_) (fun i r hr j z hz => ?_) (fun i r hr => ?_)
        · obtain ⟨hi, e⟩ := hget i _ hr
          obtain ⟨nb', kd', x', t', li', e', hw, _⟩ := hU i hi
          rw [e'] at e
          injection e with e1 e2 e3
          subst e1 e2 e3
          exact hw
        · obtain ⟨hi, rfl⟩ := hget i _ hr
          obtain ⟨nb', kd', x', t', li', e', _, q0, q1, q2, q3, q4, _⟩ := hU i hi
          rw [e'] at hz
          match j, hz with
          | 0, hz => simp [icells] at hz; rw [← hz]; exact q0
          | 1, hz => simp [icells] at hz; rw [← hz]; exact q1
          | 2, hz => simp [icells] at hz; rw [← hz]; exact q2
          | 3, hz => simp [icells] at hz; rw [← hz]; exact q3
          | 4, hz => simp [icells] at hz; rw [← hz]; exact q4
          | j + 5, hz => simp [icells] at hz
        · obtain ⟨hi, rfl⟩ := hget i _ hr
          obtain ⟨nb', kd', x', t', li', e', _, _, _, _, _, _, q5⟩ := hU i hi
          rw [e']
          exact q5
#print axioms open_hasRi
end Go.Proofs.YtphccijiniolcaaDoor
namespace Go.Proofs.YtphccijiniolcaaDoor
open Go.RowKit
attribute [local go_sem ↓] Go.wp_at_zero Go.wp_at_succ

theorem tmod_emod (v n : Int) (hn : 0 < n) : -n < v.tmod n ∧ v.tmod n < n ∧ ((0 ≤ v.tmod n ∧ v % n = v.tmod n) ∨ (v.tmod n < 0 ∧ v % n = v.tmod n + n)) := by
  rcases Int.le_total 0 v with h | h
  · have h2 : v.tmod n = v % n := Int.tmod_eq_emod_of_nonneg h
    have h3 := Int.emod_nonneg v (by omega : n ≠ 0)
    have h4 := Int.emod_lt_of_pos v hn
    exact ⟨by omega, by omega, .inl ⟨by omega, by omega⟩⟩
  · have h2 : (-v).tmod n = (-v) % n := Int.tmod_eq_emod_of_nonneg (by omega)
    rw [Int.neg_tmod] at h2
    have h3 := Int.emod_nonneg (-v) (by omega : n ≠ 0)
    have h4 := Int.emod_lt_of_pos (-v) hn
    have h5 := Int.emod_nonneg v (by omega : n ≠ 0)
    have h6 := Int.emod_lt_of_pos v hn
    have h7 : (n ∣ v + (-v) % n) := ⟨-((-v) / n), by have := Int.mul_ediv_add_emod (-v) n; rw [Int.mul_neg]; omega⟩
    by_cases h0 : (-v) % n = 0
    · have h8 : v % n = 0 := by
        rw [h0, Int.add_zero] at h7
        exact Int.emod_eq_zero_of_dvd h7
      exact ⟨by omega, by omega, .inl ⟨by omega, by omega⟩⟩
    · have h8 : v % n = n - (-v) % n := by
        have e1 : v = (n - (-v) % n) + n * (-((-v) / n) - 1) := by
          have := Int.mul_ediv_add_emod (-v) n
          rw [Int.mul_sub, Int.mul_neg, Int.mul_one]
          omega
        rw [e1, Int.add_mul_emod_self_left]
        rw [← e1]
        exact Int.emod_eq_of_lt (by omega) (by omega)
      exact ⟨by omega, by omega, .inr ⟨by omega, by omega⟩⟩
set_option maxRecDepth 100000 in
/-- within, in general. -/
theorem within_all (W : World) {v lo hi d N : Int} (hv : RngI v) (hlo : 0 ≤ lo ∧ lo ≤ 4294967295) (hd : hi - lo = d) (hN : d + 1 = N) (h0 : 0 ≤ d) (hh : hi ≤ 4294967295) :
    Calls Tryd.prog 18 #[.int .i64 v, .int .i64 lo, .int .i64 hi] W fun e w => e = .returned (.int .i64 (lo + v % N)) ∧ w = W := by
  obtain ⟨hv1, hv2⟩ := hv
  obtain ⟨b1, b2, b3⟩ := tmod_emod v N (by omega)
  obtain ⟨r, hr⟩ : ∃ r, v.tmod N = r := ⟨_, rfl⟩
  rw [hr] at b1 b2 b3
  have c1 : N ≤ 4294967296 := by omega
  have c2 : 0 < N := by omega
  have c3 : ¬ N = 0 := by omega
  have c4 : d ≤ 4294967295 := by omega
  rcases b3 with ⟨b3, b4⟩ | ⟨b3, b4⟩
  · have q1 : decide (r < 0) = false := by simp; omega
    rw [b4]
    clear b4
    go_enter Tryd.func18, Tryd.ntmps18
    go_wp2
    go_ret
    exact ⟨rfl, rfl⟩
  · have q1 : decide (r < 0) = true := by simp; omega
    rw [b4]
    clear b4
    go_enter Tryd.func18, Tryd.ntmps18
    go_wp2
    go_ret
    exact ⟨rfl, rfl⟩
theorem within_k (W : World) {v : Int} (hv : RngI v) : Calls Tryd.prog 18 #[.int .i64 v, .int .i64 0, .int .i64 4] W fun e w => e = .returned (.int .i64 (v % 5)) ∧ w = W := by
  have := within_all W (v := v) (lo := 0) (hi := 4) (d := 4) (N := 5) hv (by decide) (by decide) (by decide) (by decide) (by decide)
  rwa [Int.zero_add] at this
theorem within_n (W : World) {v : Int} (hv : RngI v) : Calls Tryd.prog 18 #[.int .i64 v, .int .i64 1, .int .i64 536870911] W fun e w => e = .returned (.int .i64 (1 + v % 536870911)) ∧ w = W :=
  within_all W (v := v) (lo := 1) (hi := 536870911) (d := 536870910) (N := 536870911) hv (by decide) (by decide) (by decide) (by decide) (by decide)
theorem within_w (W : World) {v : Int} (hv : RngI v) : Calls Tryd.prog 18 #[.int .i64 v, .int .i64 0, .int .i64 4294967295] W fun e w => e = .returned (.int .i64 (v % 4294967296)) ∧ w = W := by
  have := within_all W (v := v) (lo := 0) (hi := 4294967295) (d := 4294967295) (N := 4294967296) hv (by decide) (by decide) (by decide) (by decide) (by decide)
  rwa [Int.zero_add] at this
end Go.Proofs.YtphccijiniolcaaDoor
namespace Go.Proofs.YtphccijiniolcaaDoor
open Go.RowKit
attribute [local go_sem ↓] Go.wp_at_zero Go.wp_at_succ

def tmB (nb k : Nat) (x : Int) (t : ByteArray) (ys : List Rt) : Rt := if k = 0 then .mk nb 0 x .empty [] else if k = 1 then .mk nb 1 x .empty [] else if k = 2 then .mk nb 2 0 t [] else if k = 3 then .mk nb 5 (x % 4294967296) .empty [] else .mk nb 3 0 .empty ys
def numN (nb : Int) : Nat := (1 + nb % 536870911).toNat
theorem numN_eq (nb : Int) : ((numN nb : Nat) : Int) = 1 + nb % 536870911 := by unfold numN; omega
theorem numN_rng (nb : Int) : 1 ≤ numN nb ∧ numN nb ≤ 536870911 := by unfold numN; omega
mutual
/-- A right record, made of any. -/
def tmR (d : Nat) : Ri → Rt
  | .mk nb kd x t li => tmB (numN nb) (kd % 5).toNat x t (match d with | 0 => [] | d + 1 => tmL d li)
def tmL (d : Nat) : List Ri → List Rt
  | [] => []
  | r :: rs => tmR d r :: tmL d rs
end
theorem tmL_len (d : Nat) : ∀ rs, (tmL d rs).length = rs.length
  | [] => rfl
  | r :: rs => by show (tmL d rs).length + 1 = _; rw [tmL_len d rs]; rfl
theorem tmL_get (d : Nat) : ∀ (rs : List Ri) (i : Nat) (r : Ri), rs[i]? = some r → (tmL d rs)[i]? = some (tmR d r)
  | [], i, r, h => by simp at h
  | q :: rs, 0, r, h => by simp at h; subst h; rfl
  | q :: rs, i + 1, r, h => by
    rw [List.getElem?_cons_succ] at h
    show (tmL d rs)[i]? = _
    exact tmL_get d rs i r h
/-- What tame answers. -/
def TmA (w0 : World) (t : Rt) (e : Ending) (W' : World) : Prop := ∃ ya yl yc, e = .returned (.agg (rcells t (.slice ya yl yc)).toArray) ∧ yl = t.inner.length ∧ HasRt W' (fun g => w0.heap.size ≤ g) (.slice ya yl yc) t.inner ∧ Below w0.heap.size w0 W'
theorem heap_mid (w : World) (a b : Array Value) (t t' : TypeId) (o : Obj) : (((w.alloc (.cells a t)).alloc (.cells b t')).alloc o).heap[w.heap.size + 1]? = some (.cells b t' (0, 0)) := by
  have e := World.size_alloc w (.cells a t)
  rw [← e]
  exact (Below.heap_alloc _ _ _ (by have := World.size_alloc (w.alloc (.cells a t)) (.cells b t'); omega)).trans (heap_alloc_new _ _)
theorem sizeRec : (Tryd.prog.info? 45).map (·.size) = some 5 := by
  obtain ⟨i0, hi, hz0, hz1, hz2⟩ := info_parts Tryd.infoRec
  rw [hi]
  simp [hz1]
theorem below3 (w : World) (a b c : Obj) : Below w.heap.size w (((w.alloc a).alloc b).alloc c) := by
  have h1 := (Below.refl w.heap.size w).alloc (Nat.le_refl _) a
  have h2 := h1.alloc h1.size b
  exact h2.alloc h2.size c
set_option maxRecDepth 100000 in
set_option maxHeartbeats 4000000 in
theorem tame0 {w0 : World} {nb kd x : Int} {t : ByteArray} {ia : Option Addr} {il ic : Nat} {most : Int} (ys : List Rt) (hw : RngI nb ∧ RngI kd ∧ RngI x) (hk : kd % 5 = 0) :
    Calls Tryd.prog 45 #[.agg #[.int .i64 nb, .int .i64 kd, .int .i64 x, .string t, .slice ia il ic], .int .i64 most] w0 (TmA w0 (tmB (numN nb) 0 x t ys)) := by
  have h1 := fun V : World => within_k V hw.2.1
  rw [hk] at h1
  have h2 := fun V : World => within_n V hw.1
  rw [← numN_eq] at h2
  have H1 := hide h1
  have H2 := hide h2
  obtain ⟨m, hm⟩ : ∃ m, numN nb = m := ⟨_, rfl⟩
  rw [hm] at H2 ⊢
  clear h1 h2 hm hk hw


  go_enter Tryd.func45, Tryd.ntmps45
  go_wp2_with fail
  refine (unhide H1 _).mono ?_
  rintro e w1 ⟨rfl, hw1⟩
  subst hw1
  go_wp2_with fail
  refine (unhide H2 _).mono ?_
  rintro e w1 ⟨rfl, hw1⟩
  subst hw1
  go_wp2
  refine bodyPost_ret (results_cell_row rfl _ _ (w0.heap.size + 1) 45 #[.int .i64 (m : Int), .int .i64 0, .int .i64 x, .string ⟨#[]⟩, .slice none 0 0] (0, 0) _ rfl (heap_mid _ _ _ _ _ _) Tryd.underlying45 rfl sizeRec) rfl ?_
  exact ⟨none, 0, 0, rfl, rfl, .nil _ _, below3 _ _ _ _⟩
set_option maxRecDepth 100000 in
set_option maxHeartbeats 4000000 in
theorem tame1 {w0 : World} {nb kd x : Int} {t : ByteArray} {ia : Option Addr} {il ic : Nat} {most : Int} (ys : List Rt) (hw : RngI nb ∧ RngI kd ∧ RngI x) (hk : kd % 5 = 1) :
    Calls Tryd.prog 45 #[.agg #[.int .i64 nb, .int .i64 kd, .int .i64 x, .string t, .slice ia il ic], .int .i64 most] w0 (TmA w0 (tmB (numN nb) 1 x t ys)) := by
  have h1 := fun V : World => within_k V hw.2.1
  rw [hk] at h1
  have h2 := fun V : World => within_n V hw.1
  rw [← numN_eq] at h2
  have H1 := hide h1
  have H2 := hide h2
  obtain ⟨m, hm⟩ : ∃ m, numN nb = m := ⟨_, rfl⟩
  rw [hm] at H2 ⊢
  clear h1 h2 hm hk hw


  go_enter Tryd.func45, Tryd.ntmps45
  go_wp2_with fail
  refine (unhide H1 _).mono ?_
  rintro e w1 ⟨rfl, hw1⟩
  subst hw1
  go_wp2_with fail
  refine (unhide H2 _).mono ?_
  rintro e w1 ⟨rfl, hw1⟩
  subst hw1
  go_wp2
  refine bodyPost_ret (results_cell_row rfl _ _ (w0.heap.size + 1) 45 #[.int .i64 (m : Int), .int .i64 1, .int .i64 x, .string ⟨#[]⟩, .slice none 0 0] (0, 0) _ rfl (heap_mid _ _ _ _ _ _) Tryd.underlying45 rfl sizeRec) rfl ?_
  exact ⟨none, 0, 0, rfl, rfl, .nil _ _, below3 _ _ _ _⟩
set_option maxRecDepth 100000 in
set_option maxHeartbeats 4000000 in
theorem tame2 {w0 : World} {nb kd x : Int} {t : ByteArray} {ia : Option Addr} {il ic : Nat} {most : Int} (ys : List Rt) (hw : RngI nb ∧ RngI kd ∧ RngI x) (hk : kd % 5 = 2) :
    Calls Tryd.prog 45 #[.agg #[.int .i64 nb, .int .i64 kd, .int .i64 x, .string t, .slice ia il ic], .int .i64 most] w0 (TmA w0 (tmB (numN nb) 2 x t ys)) := by
  have h1 := fun V : World => within_k V hw.2.1
  rw [hk] at h1
  have h2 := fun V : World => within_n V hw.1
  rw [← numN_eq] at h2
  have H1 := hide h1
  have H2 := hide h2
  obtain ⟨m, hm⟩ : ∃ m, numN nb = m := ⟨_, rfl⟩
  rw [hm] at H2 ⊢
  clear h1 h2 hm hk hw


  go_enter Tryd.func45, Tryd.ntmps45
  go_wp2_with fail
  refine (unhide H1 _).mono ?_
  rintro e w1 ⟨rfl, hw1⟩
  subst hw1
  go_wp2_with fail
  refine (unhide H2 _).mono ?_
  rintro e w1 ⟨rfl, hw1⟩
  subst hw1
  go_wp2
  refine bodyPost_ret (results_cell_row rfl _ _ (w0.heap.size + 1) 45 #[.int .i64 (m : Int), .int .i64 2, .int .i64 0, .string t, .slice none 0 0] (0, 0) _ rfl (heap_mid _ _ _ _ _ _) Tryd.underlying45 rfl sizeRec) rfl ?_
  exact ⟨none, 0, 0, rfl, rfl, .nil _ _, below3 _ _ _ _⟩
set_option maxRecDepth 100000 in
set_option maxHeartbeats 4000000 in
theorem tame3 {w0 : World} {nb kd x : Int} {t : ByteArray} {ia : Option Addr} {il ic : Nat} {most : Int} (ys : List Rt) (hw : RngI nb ∧ RngI kd ∧ RngI x) (hk : kd % 5 = 3) :
    Calls Tryd.prog 45 #[.agg #[.int .i64 nb, .int .i64 kd, .int .i64 x, .string t, .slice ia il ic], .int .i64 most] w0 (TmA w0 (tmB (numN nb) 3 x t ys)) := by
  have h1 := fun V : World => within_k V hw.2.1
  rw [hk] at h1
  have h2 := fun V : World => within_n V hw.1
  rw [← numN_eq] at h2
  have H3 := hide (fun V : World => within_w V hw.2.2)
  have H1 := hide h1
  have H2 := hide h2
  obtain ⟨m, hm⟩ : ∃ m, numN nb = m := ⟨_, rfl⟩
  rw [hm] at H2 ⊢
  clear h1 h2 hm hk hw
  generalize hx : x % 4294967296 = xx at H3
  have HX := hide hx
  clear hx
  go_enter Tryd.func45, Tryd.ntmps45
  go_wp2_with fail
  refine (unhide H1 _).mono ?_
  rintro e w1 ⟨rfl, hw1⟩
  subst hw1
  go_wp2_with fail
  refine (unhide H2 _).mono ?_
  rintro e w1 ⟨rfl, hw1⟩
  subst hw1
  go_wp2_with fail
  refine (unhide H3 _).mono ?_
  rintro e w1 ⟨rfl, hw1⟩
  subst hw1
  go_wp2
  refine bodyPost_ret (results_cell_row rfl _ _ (w0.heap.size + 1) 45 #[.int .i64 (m : Int), .int .i64 5, .int .i64 xx, .string ⟨#[]⟩, .slice none 0 0] (0, 0) _ rfl (heap_mid _ _ _ _ _ _) Tryd.underlying45 rfl sizeRec) rfl ?_
  rw [← unhide HX]
  exact ⟨none, 0, 0, rfl, rfl, .nil _ _, below3 _ _ _ _⟩
end Go.Proofs.YtphccijiniolcaaDoor
