import Derived.Test.YtaadpiimcaabkaaGreatDoorYCg
import Derived.OpenShut
import Derived.Deep.Slices
import Derived.SizedLaws

namespace Go.Proofs.YtaadpiimcaabkaaGreatDoor
open Go.ChangeShapes Go.WideShapes Go.RowKit

theorem weightsAll_in {H : Type} {P : Program} {t : TypeId} {d : DataW H} {n : Nat} (hn : n ∈ d.weights P t) : ∀ {l : List (DataW H)}, d ∈ l → n ∈ DataW.weightsAll P t l
  | [], h => by simp at h
  | e :: r, h => by
    simp only [DataW.weightsAll, List.mem_append]
    rcases List.mem_cons.1 h with rfl | h
    · exact .inl hn
    · exact .inr (weightsAll_in hn h)
/-- No list and no text of what came in is too great. -/
def Okw {H : Type} (t : TypeId) (d : DataW H) : Prop := ∀ n ∈ d.weights Tryz.prog t, n ≤ 140737488351232
theorem flat_in {k : Nat} {x : Value} : ∀ (L : List (List Value)) (j : Nat), (∀ cs ∈ L, cs.length = k) → L.flatten[j]? = some x → ∃ i r cs, j = i * k + r ∧ L[i]? = some cs ∧ cs[r]? = some x
  | [], j, _, h => by simp at h
  | c :: L, j, hk, h => by
    rw [List.flatten_cons] at h
    have hc := hk c (List.mem_cons_self ..)
    by_cases hj : j < c.length
    · rw [List.getElem?_append_left hj] at h
      exact ⟨0, j, c, by omega, rfl, h⟩
    · rw [List.getElem?_append_right (by omega)] at h
      obtain ⟨i, r, cs, h1, h2, h3⟩ := flat_in L _ (fun cs hcs => hk cs (List.mem_cons_of_mem _ hcs)) h
      exact ⟨i + 1, r, cs, by rw [Nat.succ_mul]; omega, h2, h3⟩
section
variable {H : Type} {enc : TypeId × Value → H} {w : World} {base : Nat} {spare : Nat → Bool} {held : Bool}
/-- What is told of the cells of one that lies in a row. -/
def InRow (enc : TypeId × Value → H) (w : World) (base : Nat) (spare : Nat → Bool) (held : Bool) (fuel te k : Nat) (cs : List Value) : Prop := ∃ m y, m < fuel ∧ cs.length = k ∧ DataW.trod enc Tryz.prog w base spare held m te cs = some y ∧ Okw te y.1
/-- A row that came in. -/
theorem open_row {fuel ts te k b : Nat} (hu : Tryz.prog.underlying ts = some (.slice te)) (hk : Tryz.prog.cellsOf te = k) (hb : Tryz.prog.bytesOf te = b) (hk0 : 0 < k) (hb0 : 0 < b) {v : Value} {x : DataW H × List MemPlace} (h : DataW.trod enc Tryz.prog w base spare held fuel ts [v] = some x) (hw : Okw ts x.1) :
    ∃ L : List (List Value), Rl w v L.length L.flatten ∧ L.length * b ≤ 140737488351232 ∧ ∀ cs ∈ L, InRow enc w base spare held fuel te k cs := by
  rcases DataW.trod_slice hu h with ⟨hcs, rfl⟩ | ⟨y, len, cap, elems, rest, n, rfl, hcs, rfl, _, hl, hm, hel, hat, _, _⟩
  · obtain rfl : v = .slice none 0 0 := by simpa using hcs
    exact ⟨[], rl_nil _ _, by simp, fun cs h => by simp at h⟩
  · obtain rfl : v = .slice (some y) len cap := by simpa using hcs
    have each : ∀ i, i < len → ∃ cs : List Value, w.cells? base (y.add (i * k)) k = some cs ∧ InRow enc w base spare held (n + 1) te k cs := by
      intro i hi
      have q := hat i hi
      rw [hk] at q
      have hei : elems[i]? = some elems[i] := List.getElem?_eq_getElem (by omega)
      rw [hei] at q
      obtain ⟨cs, h1, h2⟩ := Option.bind_eq_some_iff.1 q
      refine ⟨cs, h1, n, elems[i], by omega, (World.cells?_some h1).2.1, h2, fun z hz => hw z ?_⟩
      simp only [DataW.weights, hu]
      exact List.mem_cons_of_mem _ (List.mem_append_left _ (weightsAll_in hz (List.mem_map.2 ⟨_, List.getElem_mem _, rfl⟩)))
    obtain ⟨q, hq⟩ := Go.Deep.choose_lt each
    have hn : len * b ≤ 140737488351232 := by
      have := hw ((elems.map (·.1)).length * b + (rest.map (·.1)).length * b) (by
        simp only [DataW.weights, hu, hb]
        rw [← Nat.add_mul]
        exact List.mem_cons_self ..)
      rw [List.length_map, hel] at this
      omega
    have hlen : ((List.range len).map q).length = len := by simp
    have hin : ∀ cs ∈ (List.range len).map q, InRow enc w base spare held (n + 1) te k cs := by
      intro cs hcs
      obtain ⟨i, hi, rfl⟩ := List.mem_map.1 hcs
      exact (hq i (List.mem_range.1 hi)).2
    refine ⟨(List.range len).map q, ⟨some y, cap, by rw [hlen], by rw [hlen]; have := Nat.le_mul_of_pos_right len hb0; omega, fun hp => ?_⟩, by rw [hlen]; exact hn, hin⟩
    rw [hlen] at hp
    have h0 : w.cell? ((y.add (0 * k)).add 0) = some _ := ((World.cells?_some (hq 0 hp).1).2.2 0 hk0).trans (List.getElem?_eq_getElem (by rw [(World.cells?_some (hq 0 hp).1).2.1]; exact hk0))
    obtain ⟨g, o, spot⟩ := y
    have hspot : spot = none := by simpa [Addr.add] using World.cell?_spot h0
    subst hspot
    have hg : g < w.heap.size := by
      rw [Go.Deep.add_add, Go.WideShapes.add_plain] at h0
      exact World.block_lt_of_cell? w _ h0
    refine ⟨g, o, rfl, hg, fun j x hx => ?_⟩
    obtain ⟨i, r, cs, rfl, h2, h3⟩ := flat_in (k := k) _ j (fun cs hcs => (hin cs hcs).choose_spec.choose_spec.2.1) hx
    rw [List.getElem?_map] at h2
    obtain ⟨i', hi', rfl⟩ := Option.map_eq_some_iff.1 h2
    obtain ⟨hi, rfl⟩ : i < len ∧ i = i' := by
      have hi := (List.getElem?_eq_some_iff.1 hi').1
      rw [List.length_range] at hi
      rw [List.getElem?_range hi] at hi'
      exact ⟨hi, Option.some.inj hi'⟩
    have hr := (List.getElem?_eq_some_iff.1 h3).1
    rw [(World.cells?_some (hq i hi).1).2.1] at hr
    have h4 := (World.cells?_some (hq i hi).1).2.2 r hr
    rw [Go.WideShapes.add_plain, Go.WideShapes.add_plain] at h4
    rw [← Nat.add_assoc, h4, h3]
theorem lift_rows {α : Type} (f : α → List Value) (Q : α → Prop) : ∀ (L : List (List Value)), (∀ cs ∈ L, ∃ a, cs = f a ∧ Q a) → ∃ l : List α, L.flatten = l.flatMap f ∧ L.length = l.length ∧ ∀ a ∈ l, Q a
  | [], _ => ⟨[], rfl, rfl, fun a h => by simp at h⟩
  | c :: L, h => by
    obtain ⟨a, rfl, ha⟩ := h c (List.mem_cons_self ..)
    obtain ⟨l, h1, h2, h3⟩ := lift_rows f Q L (fun cs hcs => h cs (List.mem_cons_of_mem _ hcs))
    refine ⟨a :: l, by rw [List.flatten_cons, List.flatMap_cons, h1], by rw [List.length_cons, List.length_cons, h2], fun x hx => ?_⟩
    rcases List.mem_cons.1 hx with rfl | hx
    · exact ha
    · exact h3 x hx
theorem cOfInt : Tryz.prog.cellsOf 3 = 1 := by kernel_rfl
theorem cOfStr : Tryz.prog.cellsOf 9 = 1 := by kernel_rfl
theorem cOfStrs : Tryz.prog.cellsOf 22 = 1 := by kernel_rfl
theorem cOfRgs : Tryz.prog.cellsOf 44 = 1 := by kernel_rfl
theorem cOfFds : Tryz.prog.cellsOf 43 = 1 := by kernel_rfl
theorem cOfVls : Tryz.prog.cellsOf 65 = 1 := by kernel_rfl
theorem cOfEns : Tryz.prog.cellsOf 24 = 1 := by kernel_rfl
theorem cOfMss : Tryz.prog.cellsOf 23 = 1 := by kernel_rfl
theorem strC_flat : ∀ l : List ByteArray, l.flatMap (fun s : ByteArray => [Value.string s]) = strC l
  | [] => rfl
  | a :: l => by rw [List.flatMap_cons, strC_flat l]; rfl
/-- A list of texts. -/
theorem open_strs {fuel : Nat} {v : Value} {x : DataW H × List MemPlace} (h : DataW.trod enc Tryz.prog w base spare held fuel 22 [v] = some x) (hw : Okw 22 x.1) :
    ∃ l : List ByteArray, Rl w v l.length (strC l) ∧ l.length * 16 ≤ 140737488351232 := by
  obtain ⟨L, h1, h2, h3⟩ := open_row (k := 1) (b := 16) Tryz.underlying22 cOfStr (by kernel_rfl) (by omega) (by omega) h hw
  obtain ⟨l, e1, e2, -⟩ := lift_rows (fun s : ByteArray => [Value.string s]) (fun _ => True) L (fun cs hcs => by
    obtain ⟨m, y, -, -, q, -⟩ := h3 cs hcs
    obtain ⟨s, rfl, -, -⟩ := DataW.trod_string Tryz.underlying9 q
    exact ⟨s, rfl, trivial⟩)
  rw [e1, e2, strC_flat] at h1
  exact ⟨l, h1, by omega⟩
set_option maxRecDepth 100000 in
theorem open_rgs {fuel : Nat} {v : Value} {x : DataW H × List MemPlace} (h : DataW.trod enc Tryz.prog w base spare held fuel 44 [v] = some x) (hw : Okw 44 x.1) :
    ∃ l : List (Int × Int), Rl w v l.length (rgC l) ∧ l.length * 16 ≤ 140737488351232 := by
  obtain ⟨L, h1, h2, h3⟩ := open_row (k := 2) (b := 16) Tryz.underlying44 (by kernel_rfl) (by kernel_rfl) (by omega) (by omega) h hw
  obtain ⟨l, e1, e2, -⟩ := lift_rows (fun p : Int × Int => [Value.int .i64 p.1, .int .i64 p.2]) (fun _ => True) L (fun cs hcs => by
    obtain ⟨m, y, -, hl, q, -⟩ := h3 cs hcs
    obtain ⟨xs, k, -, -, -, hxl, hf⟩ := DataW.trod_struct Tryz.underlying111 q
    match xs, hxl, cs, hl with
    | [y0, y1], _, [v0, v1], _ =>
      have g0 := hf 0 _ rfl
      have g1 := hf 1 _ rfl
      simp [cOfInt] at g0 g1
      obtain ⟨n0, e0, -, -⟩ := DataW.trod_int Tryz.underlying3 g0
      obtain ⟨n1, e1, -, -⟩ := DataW.trod_int Tryz.underlying3 g1
      simp at e0 e1
      subst e0 e1
      exact ⟨(n0, n1), rfl, trivial⟩)
  rw [e1, e2] at h1
  exact ⟨l, h1, by omega⟩
set_option maxRecDepth 100000 in
theorem open_vls {fuel : Nat} {v : Value} {x : DataW H × List MemPlace} (h : DataW.trod enc Tryz.prog w base spare held fuel 65 [v] = some x) (hw : Okw 65 x.1) :
    ∃ l : List (ByteArray × Int), Rl w v l.length (evC l) ∧ l.length * 24 ≤ 140737488351232 := by
  obtain ⟨L, h1, h2, h3⟩ := open_row (k := 2) (b := 24) Tryz.underlying65 (by kernel_rfl) (by kernel_rfl) (by omega) (by omega) h hw
  obtain ⟨l, e1, e2, -⟩ := lift_rows (fun p : ByteArray × Int => [Value.string p.1, .int .i64 p.2]) (fun _ => True) L (fun cs hcs => by
    obtain ⟨m, y, -, hl, q, -⟩ := h3 cs hcs
    obtain ⟨xs, k, -, -, -, hxl, hf⟩ := DataW.trod_struct Tryz.underlying74 q
    match xs, hxl, cs, hl with
    | [y0, y1], _, [v0, v1], _ =>
      have g0 := hf 0 _ rfl
      have g1 := hf 1 _ rfl
      simp [cOfInt, cOfStr] at g0 g1
      obtain ⟨n0, e0, -, -⟩ := DataW.trod_string Tryz.underlying9 g0
      obtain ⟨n1, e1, -, -⟩ := DataW.trod_int Tryz.underlying3 g1
      simp at e0 e1
      subst e0 e1
      exact ⟨(n0, n1), rfl, trivial⟩)
  rw [e1, e2] at h1
  exact ⟨l, h1, by omega⟩
set_option maxRecDepth 100000 in
theorem open_fds {fuel : Nat} {v : Value} {x : DataW H × List MemPlace} (h : DataW.trod enc Tryz.prog w base spare held fuel 43 [v] = some x) (hw : Okw 43 x.1) :
    ∃ l : List Fd, Rl w v l.length (fldC l) ∧ l.length * 72 ≤ 140737488351232 ∧ ∀ d ∈ l, d.ty.size ≤ 140737488351232 := by
  obtain ⟨L, h1, h2, h3⟩ := open_row (k := 6) (b := 72) Tryz.underlying43 (by kernel_rfl) (by kernel_rfl) (by omega) (by omega) h hw
  obtain ⟨l, e1, e2, e3⟩ := lift_rows Fd.cs (fun d => d.ty.size ≤ 140737488351232) L (fun cs hcs => by
    obtain ⟨m, y, -, hl, q, hy⟩ := h3 cs hcs
    obtain ⟨xs, k, -, hxe, -, hxl, hf⟩ := DataW.trod_struct Tryz.underlying42 q
    match xs, hxl, cs, hl with
    | [y0, y1, y2, y3, y4, y5], _, [v0, v1, v2, v3, v4, v5], _ =>
      have g0 := hf 0 _ rfl
      have g1 := hf 1 _ rfl
      have g2 := hf 2 _ rfl
      have g3 := hf 3 _ rfl
      have g4 := hf 4 _ rfl
      have g5 := hf 5 _ rfl
      simp [cOfInt, cOfStr] at g0 g1 g2 g3 g4 g5
      obtain ⟨n0, e0, -, -⟩ := DataW.trod_int Tryz.underlying3 g0
      obtain ⟨n1, e1, -, -⟩ := DataW.trod_string Tryz.underlying9 g1
      obtain ⟨n2, e2, f2, -⟩ := DataW.trod_string Tryz.underlying9 g2
      obtain ⟨n3, e3, -, -⟩ := DataW.trod_string Tryz.underlying9 g3
      obtain ⟨n4, e4, -, -⟩ := DataW.trod_int Tryz.underlying3 g4
      obtain ⟨n5, e5, -, -⟩ := DataW.trod_int Tryz.underlying3 g5
      simp at e0 e1 e2 e3 e4 e5
      subst e0 e1 e2 e3 e4 e5
      refine ⟨⟨n0, n1, n2, n3, n4, n5⟩, rfl, ?_⟩
      refine hy _ ?_
      rw [hxe, f2]
      simp only [List.map_cons, DataW.weights, Tryz.underlying42]
      simp [DataW.weightsEach, DataW.weights])
  rw [e1, e2] at h1
  exact ⟨l, h1, by omega, e3⟩
/-- One enum. -/
def EnIn (w : World) (cs : List Value) (e : En) : Prop := ∃ vv vr vg, cs = [.string e.name, vv, vr, vg] ∧ Rl w vv e.vals.length (evC e.vals) ∧ Rl w vr e.res.length (rgC e.res) ∧ Rl w vg e.gone.length (strC e.gone) ∧ ReE e
theorem lift_en : ∀ (L : List (List Value)), (∀ cs ∈ L, ∃ e, EnIn w cs e) → ∃ l : List En, EsL w L.flatten l ∧ L.length = l.length ∧ ∀ e ∈ l, ReE e
  | [], _ => ⟨[], .nil, rfl, fun a h => by simp at h⟩
  | c :: L, h => by
    obtain ⟨e, vv, vr, vg, rfl, a1, a2, a3, a4⟩ := h c (List.mem_cons_self ..)
    obtain ⟨l, h1, h2, h3⟩ := lift_en L (fun cs hcs => h cs (List.mem_cons_of_mem _ hcs))
    refine ⟨e :: l, .cons a1 a2 a3 h1, by rw [List.length_cons, List.length_cons, h2], fun x hx => ?_⟩
    rcases List.mem_cons.1 hx with rfl | hx
    · exact a4
    · exact h3 x hx
set_option maxRecDepth 100000 in
theorem open_ens {fuel : Nat} {v : Value} {x : DataW H × List MemPlace} (h : DataW.trod enc Tryz.prog w base spare held fuel 24 [v] = some x) (hw : Okw 24 x.1) :
    ∃ (l : List En) (cs : List Value), Rl w v l.length cs ∧ EsL w cs l ∧ l.length * 88 ≤ 140737488351232 ∧ ∀ e ∈ l, ReE e := by
  obtain ⟨L, h1, h2, h3⟩ := open_row (k := 4) (b := 88) Tryz.underlying24 (by kernel_rfl) (by kernel_rfl) (by omega) (by omega) h hw
  obtain ⟨l, e1, e2, e3⟩ := lift_en (w := w) L (fun cs hcs => by
    obtain ⟨m, y, -, hl, q, hy⟩ := h3 cs hcs
    obtain ⟨xs, k, -, hxe, -, hxl, hf⟩ := DataW.trod_struct Tryz.underlying67 q
    match xs, hxl, cs, hl with
    | [y0, y1, y2, y3], _, [v0, v1, v2, v3], _ =>
      have g0 := hf 0 _ rfl
      have g1 := hf 1 _ rfl
      have g2 := hf 2 _ rfl
      have g3 := hf 3 _ rfl
      simp [cOfStr, cOfStrs, cOfRgs, cOfVls] at g0 g1 g2 g3
      unfold Okw at hy
      rw [hxe] at hy
      simp only [List.map_cons, List.map_nil, DataW.weights, Tryz.underlying67] at hy
      simp [DataW.weightsEach] at hy
      obtain ⟨n0, e0, -, -⟩ := DataW.trod_string Tryz.underlying9 g0
      obtain ⟨l1, a1, b1⟩ := open_vls g1 (fun n hn => hy n (.inr (.inl hn)))
      obtain ⟨l2, a2, b2⟩ := open_rgs g2 (fun n hn => hy n (.inr (.inr (.inl hn))))
      obtain ⟨l3, a3, b3⟩ := open_strs g3 (fun n hn => hy n (.inr (.inr (.inr hn))))
      simp at e0
      subst e0
      exact ⟨⟨n0, l1, l2, l3⟩, v1, v2, v3, rfl, a1, a2, a3, by show l1.length * 24 ≤ _; omega, by show l2.length * 16 ≤ _; omega, by show l3.length * 16 ≤ _; omega⟩)
  rw [e2] at h1 h2
  exact ⟨l, _, h1, e1, h2, e3⟩
/-- One message. -/
def MsIn (w : World) (cs : List Value) (m : Ms) : Prop := ∃ vf vo vm ve vr vg nm fs os ms es rs gs cm ce, cs = [.string nm, vf, vo, vm, ve, vr, vg] ∧ MsV w m vf vo vm ve vr vg nm fs os ms es rs gs cm ce ∧ ∀ f, ReM f m ∧ SzM f m
theorem lift_ms : ∀ (L : List (List Value)), (∀ cs ∈ L, ∃ m, MsIn w cs m) → ∃ l : List Ms, MsL w L.flatten l ∧ L.length = l.length ∧ ∀ m ∈ l, ∀ f, ReM f m ∧ SzM f m
  | [], _ => ⟨[], .nil, rfl, fun a h => by simp at h⟩
  | c :: L, h => by
    obtain ⟨m, vf, vo, vm, ve, vr, vg, nm, fs, os, ms, es, rs, gs, cm, ce, rfl, hV, ha⟩ := h c (List.mem_cons_self ..)
    obtain ⟨l, h1, h2, h3⟩ := lift_ms L (fun cs hcs => h cs (List.mem_cons_of_mem _ hcs))
    obtain rfl := hV.is
    refine ⟨_ :: l, .cons hV.hf hV.ho hV.hm hV.hms hV.he hV.hes hV.hr hV.hg h1, by rw [List.length_cons, List.length_cons, h2], fun x hx => ?_⟩
    rcases List.mem_cons.1 hx with rfl | hx
    · exact ha
    · exact h3 x hx
theorem re_all {nm : ByteArray} {fs : List Fd} {os : List ByteArray} {ms : List Ms} {es : List En} {rs : List (Int × Int)} {gs : List ByteArray} (h : ReS fs os ms es rs gs) (hf : ∀ d ∈ fs, d.ty.size ≤ 281474976710656) (hm : ∀ m ∈ ms, ∀ f, ReM f m ∧ SzM f m) : ∀ f, ReM f (.mk nm fs os ms es rs gs) ∧ SzM f (.mk nm fs os ms es rs gs)
  | 0 => ⟨h, trivial⟩
  | f + 1 => ⟨⟨h, fun m hmm => (hm m hmm f).1⟩, ⟨hf, fun m hmm => (hm m hmm f).2⟩⟩
set_option maxRecDepth 100000 in
/-- Messages that came in. -/
theorem open_mss : ∀ (fuel : Nat) (v : Value) (x : DataW H × List MemPlace), DataW.trod enc Tryz.prog w base spare held fuel 23 [v] = some x → Okw 23 x.1 →
    ∃ (l : List Ms) (cs : List Value), Rl w v l.length cs ∧ MsL w cs l ∧ l.length * 160 ≤ 140737488351232 ∧ ∀ m ∈ l, ∀ f, ReM f m ∧ SzM f m := by
  intro fuel
  induction fuel using Nat.strongRecOn with
  | ind fuel ih =>
    intro v x h hw
    obtain ⟨L, h1, h2, h3⟩ := open_row (k := 7) (b := 160) Tryz.underlying23 (by kernel_rfl) (by kernel_rfl) (by omega) (by omega) h hw
    obtain ⟨l, e1, e2, e3⟩ := lift_ms (w := w) L (fun cs hcs => by
      obtain ⟨m, y, hmf, hl, q, hy⟩ := h3 cs hcs
      obtain ⟨xs, k, hk, hxe, -, hxl, hf⟩ := DataW.trod_struct Tryz.underlying46 q
      match xs, hxl, cs, hl with
      | [y0, y1, y2, y3, y4, y5, y6], _, [v0, v1, v2, v3, v4, v5, v6], _ =>
        have g0 := hf 0 _ rfl
        have g1 := hf 1 _ rfl
        have g2 := hf 2 _ rfl
        have g3 := hf 3 _ rfl
        have g4 := hf 4 _ rfl
        have g5 := hf 5 _ rfl
        have g6 := hf 6 _ rfl
        simp [cOfStr, cOfStrs, cOfRgs, cOfFds, cOfMss, cOfEns] at g0 g1 g2 g3 g4 g5 g6
        unfold Okw at hy
        rw [hxe] at hy
        simp only [List.map_cons, List.map_nil, DataW.weights, Tryz.underlying46] at hy
        simp [DataW.weightsEach] at hy
        obtain ⟨n0, e0, -, -⟩ := DataW.trod_string Tryz.underlying9 g0
        obtain ⟨l1, a1, b1, c1⟩ := open_fds g1 (fun n hn => hy n (.inr (.inl hn)))
        obtain ⟨l2, a2, b2⟩ := open_strs g2 (fun n hn => hy n (.inr (.inr (.inl hn))))
        obtain ⟨l3, cm, a3, d3, b3, c3⟩ := ih k (by omega) v3 y3 g3 (fun n hn => hy n (.inr (.inr (.inr (.inl hn)))))
        obtain ⟨l4, ce, a4, d4, b4, c4⟩ := open_ens g4 (fun n hn => hy n (.inr (.inr (.inr (.inr (.inl hn))))))
        obtain ⟨l5, a5, b5⟩ := open_rgs g5 (fun n hn => hy n (.inr (.inr (.inr (.inr (.inr (.inl hn)))))))
        obtain ⟨l6, a6, b6⟩ := open_strs g6 (fun n hn => hy n (.inr (.inr (.inr (.inr (.inr (.inr hn)))))))
        simp at e0
        subst e0
        exact ⟨.mk n0 l1 l2 l3 l4 l5 l6, v1, v2, v3, v4, v5, v6, n0, l1, l2, l3, l4, l5, l6, cm, ce, rfl, ⟨rfl, a1, a2, a3, d3, a4, d4, a5, a6⟩, re_all ⟨by omega, by omega, by omega, by omega, c4, by omega, by omega⟩ (fun d hd => by have := c1 d hd; omega) c3⟩)
    rw [e2] at h1 h2
    exact ⟨l, _, h1, e1, h2, e3⟩
set_option maxRecDepth 100000 in
/-- A file that came in. -/
theorem open_file {fuel : Nat} {cs : List Value} {x : DataW H × List MemPlace} (h : DataW.trod enc Tryz.prog w base spare held fuel 26 cs = some x) (hw : Okw 26 x.1) :
    ∃ (F : Fl) (vi vm ve : Value) (cm ce : List Value), cs = [.string F.pkg, vi, vm, ve] ∧ FlL w (.agg #[.string F.pkg, vi, vm, ve]) F vi vm ve cm ce ∧ ReF F ∧ ∀ m ∈ F.ms, SzM 32 m := by
  obtain ⟨xs, k, -, hxe, hl, hxl, hf⟩ := DataW.trod_struct Tryz.underlying26 h
  rw [show Tryz.prog.cellsOf 26 = 4 by kernel_rfl] at hl
  match xs, hxl, cs, hl with
  | [y0, y1, y2, y3], _, [v0, v1, v2, v3], _ =>
    have g0 := hf 0 _ rfl
    have g1 := hf 1 _ rfl
    have g2 := hf 2 _ rfl
    have g3 := hf 3 _ rfl
    simp [cOfStr, cOfStrs, cOfMss, cOfEns] at g0 g1 g2 g3
    unfold Okw at hw
    rw [hxe] at hw
    simp only [List.map_cons, List.map_nil, DataW.weights, Tryz.underlying26] at hw
    simp [DataW.weightsEach] at hw
    obtain ⟨n0, e0, -, -⟩ := DataW.trod_string Tryz.underlying9 g0
    obtain ⟨l1, a1, b1⟩ := open_strs g1 (fun n hn => hw n (.inr (.inl hn)))
    obtain ⟨l2, cm, a2, d2, b2, c2⟩ := open_mss k v2 y2 g2 (fun n hn => hw n (.inr (.inr (.inl hn))))
    obtain ⟨l3, ce, a3, d3, b3, c3⟩ := open_ens g3 (fun n hn => hw n (.inr (.inr (.inr hn))))
    simp at e0
    subst e0
    exact ⟨⟨n0, l1, l2, l3⟩, v1, v2, v3, cm, ce, rfl, ⟨rfl, a1, a2, d2, a3, d3⟩, ⟨by show l1.length * 16 ≤ _; omega, by show l2.length * 160 ≤ _; omega, fun m hm => (c2 m hm 200).1, by show l3.length * 88 ≤ _; omega, c3⟩, fun m hm => (c2 m hm 32).2⟩
end
end Go.Proofs.YtaadpiimcaabkaaGreatDoor
