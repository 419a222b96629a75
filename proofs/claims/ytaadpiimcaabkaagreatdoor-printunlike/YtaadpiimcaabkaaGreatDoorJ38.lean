import Derived.Test.YtaadpiimcaabkaaGreatDoorJ37

namespace Go.Proofs.YtaadpiimcaabkaaGreatDoor
open Go.RowKit
attribute [local go_sem ↓] Go.wp_at_zero Go.wp_at_succ

theorem infoRg : (Tryz.prog.info? 111).map (fun i => (i.zero, i.size, i.bytes)) = some (some (.agg #[.int .i64 0, .int .i64 0]), 2, 16) := by kernel_rfl
theorem take_rg {l : List (Int × Int)} {i : Nat} {x : Int × Int} (h : l[i]? = some x) : rgC (l.take (i + 1)) = rgC (l.take i) ++ [.int .i64 x.1, .int .i64 x.2] := by
  rw [take_app h]
  unfold rgC
  rw [List.flatMap_append]
  simp
theorem cell_new2 (w : World) (x y : Value) (t : TypeId) : ∀ j u, [x, y][j]? = some u → (w.alloc (.cells #[x, y] t)).cell? ((⟨w.heap.size, 0, none⟩ : Addr).add j) = some u := by
  intro j u h
  match j with
  | 0 => rw [show (⟨w.heap.size, 0, none⟩ : Addr).add 0 = ⟨w.heap.size, 0, none⟩ from rfl, cell_of_row _ _ _ _ _ _ (heap_new w _)]; exact h
  | 1 => rw [show (⟨w.heap.size, 0, none⟩ : Addr).add 1 = ⟨w.heap.size, 1, none⟩ from rfl, cell_of_row _ _ _ _ _ _ (heap_new w _)]; exact h
  | j + 2 => simp at h
theorem take_st {l : List ByteArray} {i : Nat} {x : ByteArray} (h : l[i]? = some x) : strC (l.take (i + 1)) = strC (l.take i) ++ [.string x] := by
  rw [take_app h]
  unfold strC
  simp
set_option maxRecDepth 100000 in
set_option maxHeartbeats 2000000 in
theorem texts_any {W : World} {v : Value} {l : List ByteArray} (hv : Rl W v l.length (strC l)) (hl : l.length * 16 ≤ 140737488355328) (w0 : World) (hw : Below W.heap.size W w0) :
    Calls Tryz.prog 16 #[v] w0 fun e w => ∃ u, e = .returned u ∧ w.ownsRow w0.heap.size 9 1 u l.length (strC l) ∧ Below w0.heap.size w0 w := by
  obtain ⟨a, c, rfl, hn, h2⟩ := hv
  obtain ⟨i0, hi, hz0, hz1, hz2⟩ := info_parts info9s
  have H2 := hide h2
  have HW := hide hw
  have Hl := hide hl
  clear h2 hw hl
  go_enter Tryz.func16, Tryz.ntmps16
  go_wp2
  go_loopg [3, 4] l.length (fun gk v3 v4 wr => ∃ (i : Nat), v4 = .int .i64 (i : Int) ∧ gk = l.length - i ∧ i ≤ l.length ∧ Hid (wr.ownsRow w0.heap.size 9 1 v3 i (strC (l.take i))) ∧ Hid (Below w0.heap.size w0 wr))
  case atStart => exact ⟨0, rfl, rfl, by omega, ⟨rfl, .inl ⟨rfl, rfl⟩⟩, Below.refl _ _⟩
  case round =>
    obtain ⟨i, rfl, hgk, hi2, HO, HB⟩ := hrel
    have Hgk := hide hgk
    clear hgk
    by_cases hlt : i < l.length
    · obtain ⟨g, o, rfl, hg, hc⟩ := unhide H2 (by omega)
      have hr := List.getElem?_eq_getElem hlt
      obtain ⟨r, hrr⟩ : ∃ r, l[i] = r := ⟨_, rfl⟩
      rw [hrr] at hr
      have HBW := hide (show Below W.heap.size W wr from (unhide HW).trans ((unhide HB).mono (unhide HW).size))
      have x0 := ((unhide HBW).cell (p := ⟨g, o + i, none⟩) hg).trans (hc _ _ (strC_at hr))
      have HT := hide (take_st hr)
      have i0' : (0 : Int) ≤ (i : Int) := Int.natCast_nonneg _
      have i1 : (i : Int) < (l.length : Int) := by omega
      have Hlt := hide hlt
      have HS1 := hide (unhide HB).size
      clear hc hr hrr HBW hlt
      go_wp2_with (at_builtin; refine wpList_append_own_at _ rfl _ _ 22 rfl w0.heap.size 9 i0 (.string ByteArray.empty) 1 16 Tryz.underlying22 hi hz0 hz1 hz2 rfl (by decide) _ _ _ rfl ((unhide HO).alloc _) ⟨wr.heap.size, 0, none⟩ 1 1 [.string r] rfl rfl (cell_one_new _ _ _) (by simp [Value.oneCell']) (by have := unhide Hlt; unfold maxLen; omega) (by have := unhide Hlt; have := unhide Hl; omega) (by rw [World.size_alloc]; have := unhide HS1; omega) ?_; intro v' w2 ho hg2 _ _; have HO2 := hide ho; have HB2 := hide (((unhide HB).alloc (unhide HB).size _).grown hg2 (by rw [World.size_alloc]; have := unhide HS1; omega) (fun k e => ((unhide HO).lt k e).1)); clear ho hg2)
      rw [← unhide HT] at HO2
      go_roundg (l.length - (i + 1))
      case measure => have := unhide Hgk; have := unhide Hlt; omega
      case rel => exact ⟨i + 1, by go_num, rfl, unhide Hlt, HO2, HB2⟩
    · obtain rfl : i = l.length := by omega
      have hO := unhide HO
      rw [List.take_length] at hO
      have HO2 := hide hO
      clear hO
      go_wp2
      go_ret
      exact ⟨_, rfl, unhide HO2, unhide HB⟩
set_option maxRecDepth 100000 in
set_option maxHeartbeats 2000000 in
theorem ranges_any {W : World} {v : Value} {l : List (Int × Int)} (hv : Rl W v l.length (rgC l)) (hl : l.length * 16 ≤ 140737488355328) (w0 : World) (hw : Below W.heap.size W w0) :
    Calls Tryz.prog 33 #[v] w0 fun e w => ∃ u, e = .returned u ∧ w.ownsRow w0.heap.size 111 2 u l.length (rgC l) ∧ Below w0.heap.size w0 w := by
  obtain ⟨a, c, rfl, hn, h2⟩ := hv
  obtain ⟨i0, hi, hz0, hz1, hz2⟩ := info_parts infoRg
  have H2 := hide h2
  have HW := hide hw
  have Hl := hide hl
  clear h2 hw hl
  go_enter Tryz.func33, Tryz.ntmps33
  go_wp2
  go_loopg [3, 4] l.length (fun gk v3 v4 wr => ∃ (i : Nat), v4 = .int .i64 (i : Int) ∧ gk = l.length - i ∧ i ≤ l.length ∧ Hid (wr.ownsRow w0.heap.size 111 2 v3 i (rgC (l.take i))) ∧ Hid (Below w0.heap.size w0 wr))
  case atStart => exact ⟨0, rfl, rfl, by omega, ⟨rfl, .inl ⟨rfl, rfl⟩⟩, Below.refl _ _⟩
  case round =>
    obtain ⟨i, rfl, hgk, hi2, HO, HB⟩ := hrel
    have Hgk := hide hgk
    clear hgk
    by_cases hlt : i < l.length
    · obtain ⟨g, o, rfl, hg, hc⟩ := unhide H2 (by omega)
      have hr := List.getElem?_eq_getElem hlt
      obtain ⟨r, hrr⟩ : ∃ r, l[i] = r := ⟨_, rfl⟩
      rw [hrr] at hr
      have HBW := hide (show Below W.heap.size W wr from (unhide HW).trans ((unhide HB).mono (unhide HW).size))
      have x0 := ((unhide HBW).cell (p := ⟨g, o + (i * 2 + 0), none⟩) hg).trans (hc _ _ (rgC_at hr (j := 0) (by decide)))
      have x1 := ((unhide HBW).cell (p := ⟨g, o + (i * 2 + 1), none⟩) hg).trans (hc _ _ (rgC_at hr (j := 1) (by decide)))
      rw [Nat.add_zero] at x0
      rw [← Nat.add_assoc] at x1
      have HT := hide (take_rg hr)
      have i0' : (0 : Int) ≤ (i : Int) := Int.natCast_nonneg _
      have i1 : (i : Int) < (l.length : Int) := by omega
      have Hlt := hide hlt
      have HS1 := hide (unhide HB).size
      clear hc hr hrr HBW hlt
      go_wp2_with (at_builtin; refine wpList_append_own_at _ rfl _ _ 44 rfl w0.heap.size 111 i0 (.agg #[.int .i64 0, .int .i64 0]) 2 16 Tryz.underlying44 hi hz0 hz1 hz2 rfl (by decide) _ _ _ rfl ((unhide HO).alloc _) ⟨wr.heap.size, 0, none⟩ 1 1 [.int .i64 r.1, .int .i64 r.2] rfl rfl (cell_new2 _ _ _ _) (by simp [Value.oneCell']) (by have := unhide Hlt; unfold maxLen; omega) (by have := unhide Hlt; have := unhide Hl; omega) (by rw [World.size_alloc]; have := unhide HS1; omega) ?_; intro v' w2 ho hg2 _ _; have HO2 := hide ho; have HB2 := hide (((unhide HB).alloc (unhide HB).size _).grown hg2 (by rw [World.size_alloc]; have := unhide HS1; omega) (fun k e => ((unhide HO).lt k e).1)); clear ho hg2)
      rw [← unhide HT] at HO2
      go_roundg (l.length - (i + 1))
      case measure => have := unhide Hgk; have := unhide Hlt; omega
      case rel => exact ⟨i + 1, by go_num, rfl, unhide Hlt, HO2, HB2⟩
    · obtain rfl : i = l.length := by omega
      have hO := unhide HO
      rw [List.take_length] at hO
      have HO2 := hide hO
      clear hO
      go_wp2
      go_ret
      exact ⟨_, rfl, unhide HO2, unhide HB⟩
end Go.Proofs.YtaadpiimcaabkaaGreatDoor

namespace Go.Proofs.YtaadpiimcaabkaaGreatDoor
open Go.RowKit

/-- A row in a block of its own, one of R. -/
def OwR (R : Nat → Prop) (w : World) (e : TypeId) (size : Nat) (v : Value) (n : Nat) (xs : List Value) : Prop :=
  xs.length = n * size ∧ n ≤ 140737488355328 ∧ ((v = .slice none 0 0 ∧ n = 0) ∨ ∃ g cap cur, v = .slice (some ⟨g, 0, none⟩) n cap ∧ R g ∧ w.heap[g]? = some (.cells cur e (0, 0)) ∧ n ≤ cap ∧ cap ≤ maxLen ∧ cur.size = cap * size ∧ cur.toList.take (n * size) = xs)
/-- The blocks of R are as they were, and are of R'. -/
def Stays (R R' : Nat → Prop) (w w' : World) : Prop := ∀ g, R g → g < w.heap.size → w'.heap[g]? = w.heap[g]? ∧ R' g
theorem Stays.trans {R R' R'' : Nat → Prop} {u v w : World} (h : Stays R R' u v) (k : Stays R' R'' v w) (hs : u.heap.size ≤ v.heap.size) : Stays R R'' u w := fun g hg hl =>
  ⟨(k g (h g hg hl).2 (Nat.lt_of_lt_of_le hl hs)).1.trans (h g hg hl).1, (k g (h g hg hl).2 (Nat.lt_of_lt_of_le hl hs)).2⟩
theorem OwR.mono {R R' : Nat → Prop} {w w' : World} {e size n : Nat} {v : Value} {xs : List Value} (h : OwR R w e size v n xs) (hs : Stays R R' w w') : OwR R' w' e size v n xs := by
  obtain ⟨h1, h0, h | ⟨g, cap, cur, rfl, h2, h3, h4⟩⟩ := h
  · exact ⟨h1, h0, .inl h⟩
  · have := hs g h2 (Array.getElem?_eq_some_iff.1 h3).1
    exact ⟨h1, h0, .inr ⟨g, cap, cur, rfl, this.2, this.1.trans h3, h4⟩⟩
theorem OwR.rl {R : Nat → Prop} {w : World} {e size n : Nat} {v : Value} {xs : List Value} (h : OwR R w e size v n xs) : Rl w v n xs := by
  obtain ⟨h1, h0, ⟨rfl, rfl⟩ | ⟨g, cap, cur, rfl, h2, h3, h4, h5, h6, h7⟩⟩ := h
  · exact ⟨none, 0, rfl, h0, fun h => absurd h (by omega)⟩
  · refine ⟨_, cap, rfl, h0, fun _ => ⟨g, 0, rfl, (Array.getElem?_eq_some_iff.1 h3).1, fun j x hx => ?_⟩⟩
    rw [Nat.zero_add, cell_of_row _ _ _ _ _ _ h3, ← Array.getElem?_toList]
    rw [← h7, List.getElem?_take] at hx
    split at hx
    · exact hx
    · cases hx
theorem own_owR {B : Nat} {w : World} {e size n : Nat} {v : Value} {xs : List Value} (h : w.ownsRow B e size v n xs) (hn : n ≤ 140737488355328) : OwR (fun g => B ≤ g) w e size v n xs := by
  obtain ⟨h1, h | ⟨g, cap, cur, rfl, h2⟩⟩ := h
  · exact ⟨h1, hn, .inl h⟩
  · exact ⟨h1, hn, .inr ⟨g, cap, cur, rfl, h2⟩⟩
/-- Enums in rows of their own. -/
inductive EsO (R : Nat → Prop) (w : World) : List Value → List En → Prop
  | nil : EsO R w [] []
  | cons {e : En} {vv vr vg : Value} {rest : List Value} {l : List En} (hv : OwR R w 74 2 vv e.vals.length (evC e.vals)) (hr : OwR R w 111 2 vr e.res.length (rgC e.res)) (hg : OwR R w 9 1 vg e.gone.length (strC e.gone)) (ht : EsO R w rest l) : EsO R w (.string e.name :: vv :: vr :: vg :: rest) (e :: l)
theorem EsO.mono {R R' : Nat → Prop} {w w' : World} {cs : List Value} {l : List En} (h : EsO R w cs l) (hs : Stays R R' w w') : EsO R' w' cs l := by
  induction h with
  | nil => exact .nil
  | cons hv hr hg _ ih => exact .cons (hv.mono hs) (hr.mono hs) (hg.mono hs) ih
theorem EsO.toL {R : Nat → Prop} {w : World} {cs : List Value} {l : List En} (h : EsO R w cs l) : EsL w cs l := by
  induction h with
  | nil => exact .nil
  | cons hv hr hg _ ih => exact .cons hv.rl hr.rl hg.rl ih
theorem EsO.app {R : Nat → Prop} {w : World} {cs cs' : List Value} {l l' : List En} (h : EsO R w cs l) (k : EsO R w cs' l') : EsO R w (cs ++ cs') (l ++ l') := by
  induction h with
  | nil => exact k
  | cons hv hr hg _ ih => exact .cons hv hr hg ih
/-- Messages in rows of their own. -/
inductive MsO (R : Nat → Prop) (w : World) : List Value → List Ms → Prop
  | nil : MsO R w [] []
  | cons {nm : ByteArray} {fs : List Fd} {os : List ByteArray} {ms : List Ms} {es : List En} {rs : List (Int × Int)} {gs : List ByteArray} {vf vo vm ve vr vg : Value} {cm ce rest : List Value} {l : List Ms}
      (hf : OwR R w 42 6 vf fs.length (fldC fs)) (ho : OwR R w 9 1 vo os.length (strC os)) (hm : OwR R w 46 7 vm ms.length cm) (hms : MsO R w cm ms) (he : OwR R w 67 4 ve es.length ce) (hes : EsO R w ce es)
      (hr : OwR R w 111 2 vr rs.length (rgC rs)) (hg : OwR R w 9 1 vg gs.length (strC gs)) (ht : MsO R w rest l) : MsO R w (.string nm :: vf :: vo :: vm :: ve :: vr :: vg :: rest) (.mk nm fs os ms es rs gs :: l)
theorem MsO.mono {R R' : Nat → Prop} {w w' : World} {cs : List Value} {l : List Ms} (h : MsO R w cs l) (hs : Stays R R' w w') : MsO R' w' cs l := by
  induction h with
  | nil => exact .nil
  | cons hf ho hm _ he hes hr hg _ ih1 ih2 => exact .cons (hf.mono hs) (ho.mono hs) (hm.mono hs) ih1 (he.mono hs) (hes.mono hs) (hr.mono hs) (hg.mono hs) ih2
theorem MsO.toL {R : Nat → Prop} {w : World} {cs : List Value} {l : List Ms} (h : MsO R w cs l) : MsL w cs l := by
  induction h with
  | nil => exact .nil
  | cons hf ho hm _ he hes hr hg _ ih1 ih2 => exact .cons hf.rl ho.rl hm.rl ih1 he.rl hes.toL hr.rl hg.rl ih2
theorem MsO.app {R : Nat → Prop} {w : World} {cs cs' : List Value} {l l' : List Ms} (h : MsO R w cs l) (k : MsO R w cs' l') : MsO R w (cs ++ cs') (l ++ l') := by
  induction h with
  | nil => exact k
  | cons hf ho hm hms he hes hr hg _ _ ih2 => exact .cons hf ho hm hms he hes hr hg ih2
theorem stays_below {R : Nat → Prop} {w w' : World} (hb : Below w.heap.size w w') : Stays R R w w' := fun g hg hl => ⟨hb.block g hl, hg⟩
theorem stays_grown {R : Nat → Prop} {w w' : World} {k : Option Nat} (hg : w.grownBy w' k) (hk : ∀ g, R g → k ≠ some g) : Stays R R w w' := fun g h hl => ⟨hg.block g hl (fun e => hk g h e.symm), h⟩
theorem step_app_own {P : Program} {w : World} {ops : Array Oper} {o : Oper} {a : Act} {K : Act → World → Prop} {Q : Exit → Act → World → Prop} {E : Prop} (x0 : Tmp) (hx0 : o.dst = some x0) (hgd : o.guard = none) (s x : Operand) (t : TypeId)
    (ho : o.op = .call { callee := .builtin .append, args := #[s, x], argTypes := #[t, t] })
    (base : Nat) (e : TypeId) (i : TypeInfo) (z : Value) (size bytes : Nat) (ht : P.underlying t = some (.slice e)) (hi : P.info? e = some i) (hz : i.zero = some z)
    (hsize : i.size = size) (hby : i.bytes = bytes) (hzs : z.cells.size = size) (hsz : 0 < size)
    (v : Value) (n : Nat) (xs : List Value) (hs : a.eval s = v) (hown : w.ownsRow base e size v n xs)
    (ad : Addr) (m c : Nat) (news : List Value) (hx : a.eval x = .slice (some ad) m c) (hl : news.length = m * size) (hnews : ∀ j u, news[j]? = some u → w.cell? (ad.add j) = some u) (h1 : ∀ u ∈ news, u.oneCell' = true)
    (h63 : n + m ≤ maxLen) (hbytes : (n + m) * bytes ≤ 140737488355328) (hbase : base ≤ w.heap.size)
    (h : ∀ v' w', w'.ownsRow base e size v' (n + m) (xs ++ news) → w.grownBy w' v.ownBlock → (v'.ownBlock = v.ownBlock ∨ v'.ownBlock = some w.heap.size) → K (a.put (some x0) v') w') :
    if Region.wanted o (yielded ops a.tmps) = true then Oper.wp P o a w K Q else E := by
  rw [← hx0] at h
  have hw : Region.wanted o (yielded ops a.tmps) = true := by simp [Region.wanted, hgd]
  rw [if_pos hw]
  obtain ⟨v', w', hr, h2, h3, h4, h5⟩ := run_append_own_at (P := P) w base t o.type e i z size bytes ht hi hz hsize hby hzs hsz v n xs hown ad m c news hl hnews h1 h63 hbytes hbase
  unfold Oper.wp execOp
  simp only [ho, resolve, invoke, builtin, Sem.run_bind, Sem.run_pure, Result.andThen_ok, List.map_toArray, List.map_cons, List.map_nil, hs, hx, hr]
  exact h v' w' h2 h3 h5
end Go.Proofs.YtaadpiimcaabkaaGreatDoor
