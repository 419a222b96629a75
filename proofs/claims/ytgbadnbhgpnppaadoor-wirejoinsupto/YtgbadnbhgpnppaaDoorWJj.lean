import Derived.Test.YtgbadnbhgpnppaaDoorWJM
import Derived.Test.YtgbadnbhgpnppaaDoorWXV
namespace Go.Proofs.YtgbadnbhgpnppaaDoor
open Go.RowKit Go.Lib
attribute [local go_sem ↓] Go.wp_at_zero Go.wp_at_succ

theorem bytes_formP {base : Nat} {W : World} {v : Value} {bs : List Int} (h : Bytes base W v bs) (hn : 0 < bs.length) : ∃ g c, v = .slice (some ⟨g, 0, none⟩) bs.length c ∧ (∀ (i : Nat) (b : Int), bs[i]? = some b → W.cell? ⟨g, 0 + i, none⟩ = some (.int .u8 b)) := by
  have h' := h
  obtain ⟨_, ⟨rfl, h0⟩ | ⟨g, c, cur, rfl, _⟩⟩ := h
  · omega
  · exact ⟨g, c, rfl, bytes_at h'⟩
/-- Bytes behind bytes of one's own. -/
theorem wpList_app_b {w : World} {ops : Array Oper} {rest : List Oper} {o : Oper} {a : Act} {Q : Exit → Act → World → Prop} (hgd : o.guard = none) (s x : Operand)
    (ho : o.op = .call { callee := .builtin .append, args := #[s, x], argTypes := #[26, 26] }) (base : Nat)
    (v : Value) (bs : List Int) (hs : a.eval s = v) (hown : Bytes base w v bs) (g c : Nat) (cs : List Int) (hx : a.eval x = .slice (some ⟨g, 0, none⟩) cs.length c) (hcs : ∀ (i : Nat) (b : Int), cs[i]? = some b → w.cell? ⟨g, 0 + i, none⟩ = some (.int .u8 b)) (hn : bs.length + cs.length ≤ 1099511627776) (hbase : base ≤ w.heap.size)
    (h : ∀ v' w', Bytes base w' v' (bs ++ cs) → Ext w v w' v' → wpList Tryd.prog ops Q rest (a.put o.dst v') w') : wpList Tryd.prog ops Q (o :: rest) a w := by
  obtain ⟨i0, hi, hz0, hz1, hz2⟩ := info_parts Tryd.infoByte
  refine wpList_append_own_at w hgd s x 26 ho base 5 i0 (.int .u8 0) 1 1 Tryd.underlying26 hi hz0 hz1 hz2 rfl (by decide) v bs.length (bs.map fun b => .int .u8 b) hs hown ⟨g, 0, none⟩ cs.length c (cs.map fun b => .int .u8 b) hx (by simp) (fun j y hj => ?_) (by simp [Value.oneCell']) (by unfold maxLen; omega) (by omega) hbase (fun v' w' hr hg _ hat => ?_)
  · rw [List.getElem?_map] at hj
    obtain ⟨b, hb, rfl⟩ := Option.map_eq_some_iff.1 hj
    rw [Go.WideShapes.add_plain]
    exact hcs j b hb
  · refine h v' w' ?_ (Ext.grown0 hg hat)
    unfold Bytes
    rw [List.map_append, List.length_append]
    exact hr
/-- What joined answers: all the bytes, or too many. -/
structure XjR (bl el : Nat) (enc cs : List Int) : Prop where
  all : bl + el ≤ 1048576 → cs = enc
  big : 1048576 < bl + el → 1048576 < bl + cs.length
  le : cs.length ≤ el
def XjA (W : World) (v : Value) (ys : List Nat) : Prop := ∀ (base : Nat) (w0 : World) (u : Value) (bs : List Int), Below W.heap.size W w0 → W.heap.size ≤ base → Bytes base w0 u bs → base ≤ w0.heap.size → bs.length + ys.length ≤ 1099511627000 →
  Calls Tryd.prog 34 #[u, v] w0 fun e W' => ∃ u' cs, e = .returned u' ∧ Bytes base W' u' (bs ++ cs) ∧ Ext w0 u W' u' ∧ XjR bs.length ys.length (byB ys) cs
theorem XjR.nil (bl : Nat) : XjR bl 0 [] [] := ⟨fun _ => rfl, fun h => by simpa using h, Nat.le_refl _⟩
/-- One record more: what came ahead is whole. -/
theorem XjR.more {bl : Nat} {e1 e2 : List Nat} {cs c2 : List Int} (h : XjR bl e1.length (byB e1) cs) (hle : bl + cs.length ≤ 1048576) (h2 : XjR (bl + cs.length) e2.length (byB e2) c2) : XjR bl (e1 ++ e2).length (byB (e1 ++ e2)) (cs ++ c2) := by
  have h0 : bl + e1.length ≤ 1048576 := by
    by_cases q : bl + e1.length ≤ 1048576
    · exact q
    · have := h.big (by omega); omega
  have hc := h.all h0
  have hl : cs.length = e1.length := by rw [hc]; simp [byB]
  refine ⟨fun q => ?_, fun q => ?_, ?_⟩
  · rw [List.length_append] at q
    rw [byB_append, hc, h2.all (by omega)]
  · rw [List.length_append] at q
    rw [List.length_append]
    have := h2.big (by omega)
    omega
  · rw [List.length_append, List.length_append]
    have := h2.le
    omega
theorem XjR.whole (bl : Nat) (e : List Nat) : XjR bl e.length (byB e) (byB e) := ⟨fun _ => rfl, fun h => by simpa [byB] using h, by simp [byB]⟩
/-- A group: its tag, what is in it, its end. -/
theorem XjR.group {bl : Nat} {t e z : List Nat} {cs : List Int} (h : XjR (bl + t.length) e.length (byB e) cs) : XjR bl (t ++ (e ++ z)).length (byB (t ++ (e ++ z))) (byB t ++ (cs ++ byB z)) := by
  have lt : (byB t).length = t.length := by simp [byB]
  have lz : (byB z).length = z.length := by simp [byB]
  refine ⟨fun q => ?_, fun q => ?_, ?_⟩
  · simp only [List.length_append] at q
    rw [byB_append, byB_append, h.all (by omega)]
  · simp only [List.length_append] at q ⊢
    by_cases q2 : bl + t.length + e.length ≤ 1048576
    · have := h.all q2
      have : cs.length = e.length := by rw [this]; simp [byB]
      omega
    · have := h.big (by omega)
      omega
  · simp only [List.length_append]
    have := h.le
    omega
theorem toTL_take (rs : List Ri) (i : Nat) (r : Ri) (h : rs[i]? = some r) : encL (toTL (rs.take (i + 1))) = encL (toTL (rs.take i)) ++ encR (toT r) := by
  have ap : ∀ a b : List Ri, toTL (a ++ b) = toTL a ++ toTL b := fun a b => by
    induction a with
    | nil => rfl
    | cons x a ih => show toT x :: toTL (a ++ b) = _; rw [ih]; rfl
  rw [List.take_add_one, h, ap, encL_append]
  simp [toTL, encL]
theorem toTL_front (rs : List Ri) (i : Nat) : (encL (toTL (rs.take i))).length ≤ (encL (toTL rs)).length := by
  have ap : ∀ a b : List Ri, toTL (a ++ b) = toTL a ++ toTL b := fun a b => by
    induction a with
    | nil => rfl
    | cons x a ih => show toT x :: toTL (a ++ b) = _; rw [ih]; rfl
  have e : rs = rs.take i ++ rs.drop i := (List.take_append_drop _ _).symm
  conv => rhs; rw [e, ap, encL_append, List.length_append]
  omega
/-- A text behind bytes of one's own. -/
theorem wpList_app_s {w : World} {ops : Array Oper} {rest : List Oper} {o : Oper} {a : Act} {Q : Exit → Act → World → Prop} (hgd : o.guard = none) (sl x : Operand)
    (ho : o.op = .call { callee := .builtin .append, args := #[sl, x], argTypes := #[26, 9] }) (base : Nat)
    (v : Value) (bs : List Int) (hs : a.eval sl = v) (hown : Bytes base w v bs) (s : ByteArray) (hx : a.eval x = .string s) (hn : bs.length + s.size ≤ 1099511627776) (hbase : base ≤ w.heap.size)
    (h : ∀ v' w', Bytes base w' v' (bs ++ byB (tN s)) → Ext w v w' v' → wpList Tryd.prog ops Q rest (a.put o.dst v') w') : wpList Tryd.prog ops Q (o :: rest) a w := by
  obtain ⟨i0, hi, hz0, hz1, hz2⟩ := info_parts Tryd.infoByte
  have hown' : w.ownsRow base 5 1 v bs.length (bs.map fun b => .int .u8 b) := hown
  refine wpList_append_str_at hgd sl x 26 9 ho base 5 i0 Tryd.underlying26 Tryd.underlying9 hi hz0 hz1 hz2 _ _ _ hs hown' s hx (by unfold maxLen; omega) (by omega) hbase (fun v' w' h1 h2 h3 => h v' w' ?_ (Ext.grown0 h2 h3))
  unfold Bytes
  rw [← strB_tN, List.map_append, List.length_append, strB_len, ← strB_cells]
  exact h1
theorem ext_ne {A B : World} {x y : Value} {q : Nat} (h : Ext A x B y) (hq : some q ≠ x.ownBlock) (hl : q < A.heap.size) : some q ≠ y.ownBlock := fun e => by
  rcases h.own with o | ⟨g, o, hg⟩
  · exact hq (e.trans o)
  · rw [o] at e
    have := Option.some.inj e
    omega
set_option maxRecDepth 100000 in
set_option maxHeartbeats 32000000 in
theorem xjoined_ri {W : World} {v : Value} {rs : List Ri} (h : HasRi W v rs) : fkL rs = 0 → XjA W v (encL (toTL rs)) := by
  induction h with
  | nil a c =>
    intro _ base w0 u bs _ _ hB _ _
    have HB := hide hB
    clear hB
    go_enter Tryd.func34, Tryd.ntmps34
    go_wp2
    refine wp_loop_rounds 1 ?_
    rw [rounds_succ]
    go_wp2
    go_ret
    exact ⟨u, [], rfl, by rw [List.append_nil]; exact unhide HB, Ext.refl _ _, XjR.nil _⟩
  | row g off n c rs us hn hm hg hw hc hi ih =>
    intro hf base w0 u bs hB0 hWb hu hbase hbd
    unfold maxLen at hm
    have Hc := hide hc
    have Hw := hide hw
    have Hih := hide ih
    have Hi := hide hi
    have Hn := hide hn
    have HB0 := hide hB0
    have Hf := hide hf
    have Hu := hide hu
    have Hbd := hide hbd
    obtain ⟨u9, hu9⟩ : ∃ u9, u = u9 := ⟨_, rfl⟩
    clear hc ih hi hn hB0 hw hf hu hbd hu9
    go_enter Tryd.func34, Tryd.ntmps34
    go_wp2
    go_loopg [0, 5] n (fun gk v0 v5 wr => ∃ (i : Nat) (cs : List Int), v5 = .int .i64 (i : Int) ∧ gk = n - i ∧ i ≤ n ∧ Hid (Bytes base wr v0 (bs ++ cs)) ∧ Hid (Ext w0 u wr v0) ∧ Hid (XjR bs.length (encL (toTL (rs.take i))).length (byB (encL (toTL (rs.take i)))) cs))
    case atStart => exact ⟨0, [], rfl, rfl, Nat.zero_le _, by show Bytes _ _ _ _; rw [List.append_nil]; exact unhide Hu, Ext.refl _ _, XjR.nil _⟩
    case round =>
      obtain ⟨i, cs, rfl, hgk, hin, HBy, HE, HX⟩ := hrel
      have Hgk := hide hgk
      clear hgk
      obtain ⟨ca, cc, efrm⟩ := row_form (unhide HBy)
      have hll : (bs ++ cs).length = bs.length + cs.length := List.length_append
      have hfr0 := toTL_front rs i
      have hXl := (unhide HX).le
      by_cases hgo : i < n ∧ bs.length + cs.length ≤ 1048576
      · obtain ⟨hlt, hle⟩ := hgo
        obtain ⟨r, hr⟩ : ∃ r, rs[i]? = some r := ⟨_, List.getElem?_eq_getElem (by rw [unhide Hn]; exact hlt)⟩
        have hBWr : Below W.heap.size W wr := (unhide HB0).trans ((unhide HE).below (unhide HB0).size (fun b hb => by have := ((unhide Hu).lt b hb).1; omega))
        have hcs := unhide Hc i r hr
        obtain ⟨ia, ic, eu⟩ := (unhide Hi i r hr).form
        have hcall0 := unhide Hih i r hr
        rw [eu] at hcs hcall0
        have hnx := toTL_take rs i r hr
        obtain ⟨nb, kd, x, t, li⟩ := r
        obtain ⟨hR, hfl, hnn, hkn⟩ := fk_right (fk_at (unhide Hf) hr) (unhide Hw i nb kd x t li hr).2.2
        have hx : Rng x := (unhide Hw i nb kd x t li hr).2.2
        obtain ⟨N, hNi⟩ : ∃ N : Nat, nb = (N : Int) := ⟨nb.toNat, by omega⟩
        subst hNi
        have hnum : 1 ≤ N ∧ N ≤ 536870911 := hR.rg.num
        have Hcall : Hid (XjA W (.slice ia li.length ic) (encL (toTL li))) := hcall0 hfl
        have hkk : kd = 0 ∨ kd = 1 ∨ kd = 2 ∨ kd = 3 ∨ kd = 5 := by have := hR.rg.kind; omega
        have d0 := (hBWr.cell (p := ⟨g, off + i * 5, none⟩) hg).trans (hcs 0 _ rfl)
        have d1 := (hBWr.cell (p := ⟨g, off + i * 5 + 1, none⟩) hg).trans (hcs 1 _ rfl)
        have d2 := (hBWr.cell (p := ⟨g, off + i * 5 + 2, none⟩) hg).trans (hcs 2 _ rfl)
        have d3 := (hBWr.cell (p := ⟨g, off + i * 5 + 3, none⟩) hg).trans (hcs 3 _ rfl)
        have d4 : wr.cell? ⟨g, off + i * 5 + 4, none⟩ = some (.slice ia li.length ic) := (hBWr.cell (p := ⟨g, off + i * 5 + 4, none⟩) hg).trans (hcs 4 _ rfl)
        have hi0 : (0 : Int) ≤ (i : Int) := Int.natCast_nonneg _
        have hi1 : (i : Int) < (n : Int) := by omega
        have HBW := hide hBWr
        have hbd := unhide Hbd
        have hwz : base ≤ wr.heap.size := Nat.le_trans hbase (unhide HE).size
        rw [hll] at efrm
        subst efrm
        clear hcs eu hcall0 hBWr hr hR hfl hkn hnn
        rcases hkk with rfl | rfl | rfl | rfl | rfl
        · have hbe : encR (toT (.mk (N : Int) 0 x t li)) = vN (8 * N + 0) ++ (vN (un x)) := by rw [toT, encR]; rfl
          rw [hbe] at hnx
          have hfr := toTL_front rs (i + 1)
          rw [hnx] at hfr
          simp only [List.length_append] at hfr
          have e7 : 8 * (N : Int) = ((8 * N : Nat) : Int) := by omega
          have hNb : N ≤ 536870911 := by omega
          obtain ⟨tg, htg⟩ : ∃ tg : Nat, 8 * N + 0 = tg := ⟨_, rfl⟩
          obtain ⟨m8, hm8⟩ : ∃ m8 : Nat, 8 * N = m8 := ⟨_, rfl⟩
          rw [htg] at hnx hfr
          rw [hm8] at e7
          obtain rfl : m8 = tg := by omega
          have htb : m8 ≤ 4294967301 := by omega
          have hmb : m8 ≤ 4294967296 := by omega
          have Hnx := hide hnx
          have hv1 := vN_pos m8
          have Hxv : Hid (∀ V : World, Calls Tryd.prog 59 #[.int .i64 (m8 : Int)] V fun e W' => ∃ v', e = .returned v' ∧ Bytes V.heap.size W' v' (byB (vN m8)) ∧ Below V.heap.size V W') := fun V => by have q := xvarint_any V (m8 : Int) (by unfold Rng; omega); rw [un_nat (by omega), ← byB_vN] at q; exact q
          have Hfr := hide hfr
          have HY0 : Hid (Bytes base (wr.alloc (.cells #[.int .i64 (N : Int), .int .i64 0, .int .i64 x, .string t, .slice ia li.length ic] 55)) (Value.slice ca (bs.length + cs.length) cc) (bs ++ cs)) := (unhide HBy).same fun z hz => Below.heap_alloc _ _ z ((unhide HBy).lt z hz).2
          have HE0 : Hid (Ext wr (Value.slice ca (bs.length + cs.length) cc) (wr.alloc (.cells #[.int .i64 (N : Int), .int .i64 0, .int .i64 x, .string t, .slice ia li.length ic] 55)) (Value.slice ca (bs.length + cs.length) cc)) := Ext.of_below ((Below.refl _ _).alloc (Nat.le_refl _) _) (Value.slice ca (bs.length + cs.length) cc)
          have Hx0 : Hid ((wr.alloc (.cells #[.int .i64 (N : Int), .int .i64 0, .int .i64 x, .string t, .slice ia li.length ic] 55)).heap[wr.heap.size]? = some (.cells #[.int .i64 (N : Int), .int .i64 0, .int .i64 x, .string t, .slice ia li.length ic] 55 (0, 0))) := heap_alloc_new _ _
          have hz0 : wr.heap.size < (wr.alloc (.cells #[.int .i64 (N : Int), .int .i64 0, .int .i64 x, .string t, .slice ia li.length ic] 55)).heap.size := by rw [World.size_alloc]; omega
          have hbs0 : base ≤ (wr.alloc (.cells #[.int .i64 (N : Int), .int .i64 0, .int .i64 x, .string t, .slice ia li.length ic] 55)).heap.size := by rw [World.size_alloc]; omega
          have hun0 : some wr.heap.size ≠ (Value.slice ca (bs.length + cs.length) cc).ownBlock := fun e => by have := ((unhide HBy).lt _ e.symm).2; omega
          have Hz0 := hide hz0
          have Hbs0 := hide hbs0
          have Hxx := hide (fun V : World => show Calls Tryd.prog 59 #[.int .i64 x] V fun e W' => ∃ v', e = .returned v' ∧ Bytes V.heap.size W' v' (byB (vN (un x))) ∧ Below V.heap.size V W' from (by have q := xvarint_any V x hx; rw [← byB_vN] at q; exact q))
          clear hbe hnx htg hm8 hz0 hbs0 hfr hx
          go_wp2_with fail
          have hz0 := unhide Hz0
          have hbs0 := unhide Hbs0
          generalize wr.alloc (.cells #[.int .i64 (N : Int), .int .i64 0, .int .i64 x, .string t, .slice ia li.length ic] 55) = w0' at *
          refine (unhide Hxv w0').mono ?_
          rintro e c0 ⟨p0, rfl, hp, hb⟩
          obtain ⟨g0, q0, rfl, hcc⟩ := bytes_formP hp (by rw [byB_length]; exact hv1)
          have Hc0 := hide hcc
          have HYc0 : Hid (Bytes base c0 (Value.slice ca (bs.length + cs.length) cc) (bs ++ cs)) := (unhide HY0).same fun z hz => hb.block z ((unhide HY0).lt z hz).2
          have HEc0 : Hid (Ext wr (Value.slice ca (bs.length + cs.length) cc) c0 (Value.slice ca (bs.length + cs.length) cc)) := (unhide HE0).trans (Ext.of_below hb (Value.slice ca (bs.length + cs.length) cc))
          have Hxc0 : Hid (c0.heap[wr.heap.size]? = some (.cells #[.int .i64 (N : Int), .int .i64 0, .int .i64 x, .string t, .slice ia li.length ic] 55 (0, 0))) := (hb.block wr.heap.size hz0).trans (unhide Hx0)
          have hzc0 : wr.heap.size < c0.heap.size := Nat.lt_of_lt_of_le hz0 hb.size
          have hbc0 : base ≤ c0.heap.size := Nat.le_trans hbs0 hb.size
          have HL0 : Hid ((bs ++ cs).length + (byB (vN m8)).length ≤ 1099511627776) := by show _ ≤ _; simp only [List.length_append, byB_length]; have := unhide Hfr; omega
          clear hp hcc hb HY0 HE0 Hx0
          go_wp2_with (at_builtin; refine wpList_app_b rfl _ _ rfl base _ _ rfl (unhide HYc0) g0 q0 (byB (vN m8)) rfl (unhide Hc0) (unhide HL0) hbc0 ?_; intro y1 w1 hB hE; have HY1 := hide hB; have HE1 := hide ((unhide HEc0).trans hE); have hX := (hE.far wr.heap.size hzc0 hun0).trans (unhide Hxc0); have Hx1 := hide hX; obtain ⟨x0, x1, x2, x3, x4, _⟩ := cells5_of' hX; have hz1 := Nat.lt_of_lt_of_le hzc0 hE.size; have hun1 : some wr.heap.size ≠ y1.ownBlock := ext_ne hE hun0 hzc0; have hbs1 := Nat.le_trans hbc0 hE.size; clear hB hE hX)
          refine (unhide Hxx w1).mono ?_
          rintro e c1 ⟨p1, rfl, hp, hb⟩
          obtain ⟨g1, q1, rfl, hcc⟩ := bytes_formP hp (by rw [byB_length]; exact vN_pos (un x))
          have Hc1 := hide hcc
          have HYc1 : Hid (Bytes base c1 y1 (bs ++ cs ++ byB (vN m8))) := (unhide HY1).same fun z hz => hb.block z ((unhide HY1).lt z hz).2
          have HEc1 : Hid (Ext wr (Value.slice ca (bs.length + cs.length) cc) c1 y1) := (unhide HE1).trans (Ext.of_below hb y1)
          have Hxc1 : Hid (c1.heap[wr.heap.size]? = some (.cells #[.int .i64 (N : Int), .int .i64 0, .int .i64 x, .string t, .slice ia li.length ic] 55 (0, 0))) := (hb.block wr.heap.size hz1).trans (unhide Hx1)
          have hzc1 : wr.heap.size < c1.heap.size := Nat.lt_of_lt_of_le hz1 hb.size
          have hbc1 : base ≤ c1.heap.size := Nat.le_trans hbs1 hb.size
          have HL1 : Hid ((bs ++ cs ++ byB (vN m8)).length + (byB (vN (un x))).length ≤ 1099511627776) := by show _ ≤ _; simp only [List.length_append, byB_length]; have := unhide Hfr; omega
          clear hp hcc hb HY1 HE1 Hx1
          go_wp2_with (at_builtin; refine wpList_app_b rfl _ _ rfl base _ _ rfl (unhide HYc1) g1 q1 (byB (vN (un x))) rfl (unhide Hc1) (unhide HL1) hbc1 ?_; intro y2 w2 hB hE; have HY2 := hide hB; have HE2 := hide ((unhide HEc1).trans hE); have hX := (hE.far wr.heap.size hzc1 hun1).trans (unhide Hxc1); have Hx2 := hide hX; obtain ⟨x0, x1, x2, x3, x4, _⟩ := cells5_of' hX; have hz2 := Nat.lt_of_lt_of_le hzc1 hE.size; have hun2 : some wr.heap.size ≠ y2.ownBlock := ext_ne hE hun1 hzc1; have hbs2 := Nat.le_trans hbc1 hE.size; clear hB hE hX)
          go_roundg (n - (i + 1))
          case measure => have := unhide Hgk; omega
          case rel =>
            refine ⟨i + 1, cs ++ (byB (vN m8 ++ (vN (un x)))), by go_num, rfl, by omega, ?_, ?_, ?_⟩
            · have q := unhide HY2
              show Bytes _ _ _ _
              simp only [byB_append, List.append_assoc] at q ⊢
              exact q
            · exact (unhide HE).trans (unhide HE2)
            · show XjR _ _ _ _
              rw [unhide Hnx]
              exact XjR.more (unhide HX) hle (XjR.whole _ (vN m8 ++ (vN (un x))))
        · have hbe : encR (toT (.mk (N : Int) 1 x t li)) = vN (8 * N + 1) ++ (fN (un x) 8) := by rw [toT, encR]; rfl
          rw [hbe] at hnx
          have hfr := toTL_front rs (i + 1)
          rw [hnx] at hfr
          simp only [List.length_append, fN_len] at hfr
          have e7 : 8 * (N : Int) = ((8 * N : Nat) : Int) := by omega
          have hNb : N ≤ 536870911 := by omega
          obtain ⟨tg, htg⟩ : ∃ tg : Nat, 8 * N + 1 = tg := ⟨_, rfl⟩
          obtain ⟨m8, hm8⟩ : ∃ m8 : Nat, 8 * N = m8 := ⟨_, rfl⟩
          rw [htg] at hnx hfr
          rw [hm8] at e7
          have e8 : (m8 : Int) + 1 = (tg : Int) := by omega
          have htb : tg ≤ 4294967301 := by omega
          have hmb : m8 ≤ 4294967296 := by omega
          have Hnx := hide hnx
          have hv1 := vN_pos tg
          have Hxv : Hid (∀ V : World, Calls Tryd.prog 59 #[.int .i64 (tg : Int)] V fun e W' => ∃ v', e = .returned v' ∧ Bytes V.heap.size W' v' (byB (vN tg)) ∧ Below V.heap.size V W') := fun V => by have q := xvarint_any V (tg : Int) (by unfold Rng; omega); rw [un_nat (by omega), ← byB_vN] at q; exact q
          have Hfr := hide hfr
          have HY0 : Hid (Bytes base (wr.alloc (.cells #[.int .i64 (N : Int), .int .i64 1, .int .i64 x, .string t, .slice ia li.length ic] 55)) (Value.slice ca (bs.length + cs.length) cc) (bs ++ cs)) := (unhide HBy).same fun z hz => Below.heap_alloc _ _ z ((unhide HBy).lt z hz).2
          have HE0 : Hid (Ext wr (Value.slice ca (bs.length + cs.length) cc) (wr.alloc (.cells #[.int .i64 (N : Int), .int .i64 1, .int .i64 x, .string t, .slice ia li.length ic] 55)) (Value.slice ca (bs.length + cs.length) cc)) := Ext.of_below ((Below.refl _ _).alloc (Nat.le_refl _) _) (Value.slice ca (bs.length + cs.length) cc)
          have Hx0 : Hid ((wr.alloc (.cells #[.int .i64 (N : Int), .int .i64 1, .int .i64 x, .string t, .slice ia li.length ic] 55)).heap[wr.heap.size]? = some (.cells #[.int .i64 (N : Int), .int .i64 1, .int .i64 x, .string t, .slice ia li.length ic] 55 (0, 0))) := heap_alloc_new _ _
          have hz0 : wr.heap.size < (wr.alloc (.cells #[.int .i64 (N : Int), .int .i64 1, .int .i64 x, .string t, .slice ia li.length ic] 55)).heap.size := by rw [World.size_alloc]; omega
          have hbs0 : base ≤ (wr.alloc (.cells #[.int .i64 (N : Int), .int .i64 1, .int .i64 x, .string t, .slice ia li.length ic] 55)).heap.size := by rw [World.size_alloc]; omega
          have hun0 : some wr.heap.size ≠ (Value.slice ca (bs.length + cs.length) cc).ownBlock := fun e => by have := ((unhide HBy).lt _ e.symm).2; omega
          have Hz0 := hide hz0
          have Hbs0 := hide hbs0
          have Hxx := hide (fun V : World => show Calls Tryd.prog 60 #[.int .i64 x, .int .i64 8] V fun e W' => ∃ v', e = .returned v' ∧ Bytes V.heap.size W' v' (byB (fN (un x) 8)) ∧ Below V.heap.size V W' from (by have q := xlow_any V x hx 8 (by decide); rw [lows_fN x 8 (by decide)] at q; exact q))
          clear hbe hnx htg hm8 hz0 hbs0 hfr hx
          go_wp2_with fail
          have hz0 := unhide Hz0
          have hbs0 := unhide Hbs0
          generalize wr.alloc (.cells #[.int .i64 (N : Int), .int .i64 1, .int .i64 x, .string t, .slice ia li.length ic] 55) = w0' at *
          refine (unhide Hxv w0').mono ?_
          rintro e c0 ⟨p0, rfl, hp, hb⟩
          obtain ⟨g0, q0, rfl, hcc⟩ := bytes_formP hp (by rw [byB_length]; exact hv1)
          have Hc0 := hide hcc
          have HYc0 : Hid (Bytes base c0 (Value.slice ca (bs.length + cs.length) cc) (bs ++ cs)) := (unhide HY0).same fun z hz => hb.block z ((unhide HY0).lt z hz).2
          have HEc0 : Hid (Ext wr (Value.slice ca (bs.length + cs.length) cc) c0 (Value.slice ca (bs.length + cs.length) cc)) := (unhide HE0).trans (Ext.of_below hb (Value.slice ca (bs.length + cs.length) cc))
          have Hxc0 : Hid (c0.heap[wr.heap.size]? = some (.cells #[.int .i64 (N : Int), .int .i64 1, .int .i64 x, .string t, .slice ia li.length ic] 55 (0, 0))) := (hb.block wr.heap.size hz0).trans (unhide Hx0)
          have hzc0 : wr.heap.size < c0.heap.size := Nat.lt_of_lt_of_le hz0 hb.size
          have hbc0 : base ≤ c0.heap.size := Nat.le_trans hbs0 hb.size
          have HL0 : Hid ((bs ++ cs).length + (byB (vN tg)).length ≤ 1099511627776) := by show _ ≤ _; simp only [List.length_append, byB_length]; have := unhide Hfr; omega
          clear hp hcc hb HY0 HE0 Hx0
          go_wp2_with (at_builtin; refine wpList_app_b rfl _ _ rfl base _ _ rfl (unhide HYc0) g0 q0 (byB (vN tg)) rfl (unhide Hc0) (unhide HL0) hbc0 ?_; intro y1 w1 hB hE; have HY1 := hide hB; have HE1 := hide ((unhide HEc0).trans hE); have hX := (hE.far wr.heap.size hzc0 hun0).trans (unhide Hxc0); have Hx1 := hide hX; obtain ⟨x0, x1, x2, x3, x4, _⟩ := cells5_of' hX; have hz1 := Nat.lt_of_lt_of_le hzc0 hE.size; have hun1 : some wr.heap.size ≠ y1.ownBlock := ext_ne hE hun0 hzc0; have hbs1 := Nat.le_trans hbc0 hE.size; clear hB hE hX)
          refine (unhide Hxx w1).mono ?_
          rintro e c1 ⟨p1, rfl, hp, hb⟩
          obtain ⟨g1, q1, rfl, hcc⟩ := bytes_formP hp (by rw [byB_length]; exact by rw [fN_len]; decide)
          have Hc1 := hide hcc
          have HYc1 : Hid (Bytes base c1 y1 (bs ++ cs ++ byB (vN tg))) := (unhide HY1).same fun z hz => hb.block z ((unhide HY1).lt z hz).2
          have HEc1 : Hid (Ext wr (Value.slice ca (bs.length + cs.length) cc) c1 y1) := (unhide HE1).trans (Ext.of_below hb y1)
          have Hxc1 : Hid (c1.heap[wr.heap.size]? = some (.cells #[.int .i64 (N : Int), .int .i64 1, .int .i64 x, .string t, .slice ia li.length ic] 55 (0, 0))) := (hb.block wr.heap.size hz1).trans (unhide Hx1)
          have hzc1 : wr.heap.size < c1.heap.size := Nat.lt_of_lt_of_le hz1 hb.size
          have hbc1 : base ≤ c1.heap.size := Nat.le_trans hbs1 hb.size
          have HL1 : Hid ((bs ++ cs ++ byB (vN tg)).length + (byB (fN (un x) 8)).length ≤ 1099511627776) := by show _ ≤ _; simp only [List.length_append, byB_length, fN_len]; have := unhide Hfr; omega
          clear hp hcc hb HY1 HE1 Hx1
          go_wp2_with (at_builtin; refine wpList_app_b rfl _ _ rfl base _ _ rfl (unhide HYc1) g1 q1 (byB (fN (un x) 8)) rfl (unhide Hc1) (unhide HL1) hbc1 ?_; intro y2 w2 hB hE; have HY2 := hide hB; have HE2 := hide ((unhide HEc1).trans hE); have hX := (hE.far wr.heap.size hzc1 hun1).trans (unhide Hxc1); have Hx2 := hide hX; obtain ⟨x0, x1, x2, x3, x4, _⟩ := cells5_of' hX; have hz2 := Nat.lt_of_lt_of_le hzc1 hE.size; have hun2 : some wr.heap.size ≠ y2.ownBlock := ext_ne hE hun1 hzc1; have hbs2 := Nat.le_trans hbc1 hE.size; clear hB hE hX)
          go_roundg (n - (i + 1))
          case measure => have := unhide Hgk; omega
          case rel =>
            refine ⟨i + 1, cs ++ (byB (vN tg ++ (fN (un x) 8))), by go_num, rfl, by omega, ?_, ?_, ?_⟩
            · have q := unhide HY2
              show Bytes _ _ _ _
              simp only [byB_append, List.append_assoc] at q ⊢
              exact q
            · exact (unhide HE).trans (unhide HE2)
            · show XjR _ _ _ _
              rw [unhide Hnx]
              exact XjR.more (unhide HX) hle (XjR.whole _ (vN tg ++ (fN (un x) 8)))
        · have hbe : encR (toT (.mk (N : Int) 2 x t li)) = vN (8 * N + 2) ++ (vN t.size ++ tN t) := by rw [toT, encR]; rfl
          rw [hbe] at hnx
          have hfr := toTL_front rs (i + 1)
          rw [hnx] at hfr
          simp only [List.length_append, tN_len] at hfr
          have e7 : 8 * (N : Int) = ((8 * N : Nat) : Int) := by omega
          have hNb : N ≤ 536870911 := by omega
          obtain ⟨tg, htg⟩ : ∃ tg : Nat, 8 * N + 2 = tg := ⟨_, rfl⟩
          obtain ⟨m8, hm8⟩ : ∃ m8 : Nat, 8 * N = m8 := ⟨_, rfl⟩
          rw [htg] at hnx hfr
          rw [hm8] at e7
          have e8 : (m8 : Int) + 2 = (tg : Int) := by omega
          have htb : tg ≤ 4294967301 := by omega
          have hmb : m8 ≤ 4294967296 := by omega
          have Hnx := hide hnx
          have hv1 := vN_pos tg
          have Hxv : Hid (∀ V : World, Calls Tryd.prog 59 #[.int .i64 (tg : Int)] V fun e W' => ∃ v', e = .returned v' ∧ Bytes V.heap.size W' v' (byB (vN tg)) ∧ Below V.heap.size V W') := fun V => by have q := xvarint_any V (tg : Int) (by unfold Rng; omega); rw [un_nat (by omega), ← byB_vN] at q; exact q
          have Hfr := hide hfr
          have HY0 : Hid (Bytes base (wr.alloc (.cells #[.int .i64 (N : Int), .int .i64 2, .int .i64 x, .string t, .slice ia li.length ic] 55)) (Value.slice ca (bs.length + cs.length) cc) (bs ++ cs)) := (unhide HBy).same fun z hz => Below.heap_alloc _ _ z ((unhide HBy).lt z hz).2
          have HE0 : Hid (Ext wr (Value.slice ca (bs.length + cs.length) cc) (wr.alloc (.cells #[.int .i64 (N : Int), .int .i64 2, .int .i64 x, .string t, .slice ia li.length ic] 55)) (Value.slice ca (bs.length + cs.length) cc)) := Ext.of_below ((Below.refl _ _).alloc (Nat.le_refl _) _) (Value.slice ca (bs.length + cs.length) cc)
          have Hx0 : Hid ((wr.alloc (.cells #[.int .i64 (N : Int), .int .i64 2, .int .i64 x, .string t, .slice ia li.length ic] 55)).heap[wr.heap.size]? = some (.cells #[.int .i64 (N : Int), .int .i64 2, .int .i64 x, .string t, .slice ia li.length ic] 55 (0, 0))) := heap_alloc_new _ _
          have hz0 : wr.heap.size < (wr.alloc (.cells #[.int .i64 (N : Int), .int .i64 2, .int .i64 x, .string t, .slice ia li.length ic] 55)).heap.size := by rw [World.size_alloc]; omega
          have hbs0 : base ≤ (wr.alloc (.cells #[.int .i64 (N : Int), .int .i64 2, .int .i64 x, .string t, .slice ia li.length ic] 55)).heap.size := by rw [World.size_alloc]; omega
          have hun0 : some wr.heap.size ≠ (Value.slice ca (bs.length + cs.length) cc).ownBlock := fun e => by have := ((unhide HBy).lt _ e.symm).2; omega
          have Hz0 := hide hz0
          have Hbs0 := hide hbs0
          have Hxx := hide (fun V : World => show Calls Tryd.prog 59 #[.int .i64 (t.size : Int)] V fun e W' => ∃ v', e = .returned v' ∧ Bytes V.heap.size W' v' (byB (vN t.size)) ∧ Below V.heap.size V W' from (by have q := xvarint_any V (t.size : Int) (by unfold Rng; omega); rw [un_nat (by omega), ← byB_vN] at q; exact q))
          clear hbe hnx htg hm8 hz0 hbs0 hfr hx
          go_wp2_with fail
          have hz0 := unhide Hz0
          have hbs0 := unhide Hbs0
          generalize wr.alloc (.cells #[.int .i64 (N : Int), .int .i64 2, .int .i64 x, .string t, .slice ia li.length ic] 55) = w0' at *
          refine (unhide Hxv w0').mono ?_
          rintro e c0 ⟨p0, rfl, hp, hb⟩
          obtain ⟨g0, q0, rfl, hcc⟩ := bytes_formP hp (by rw [byB_length]; exact hv1)
          have Hc0 := hide hcc
          have HYc0 : Hid (Bytes base c0 (Value.slice ca (bs.length + cs.length) cc) (bs ++ cs)) := (unhide HY0).same fun z hz => hb.block z ((unhide HY0).lt z hz).2
          have HEc0 : Hid (Ext wr (Value.slice ca (bs.length + cs.length) cc) c0 (Value.slice ca (bs.length + cs.length) cc)) := (unhide HE0).trans (Ext.of_below hb (Value.slice ca (bs.length + cs.length) cc))
          have Hxc0 : Hid (c0.heap[wr.heap.size]? = some (.cells #[.int .i64 (N : Int), .int .i64 2, .int .i64 x, .string t, .slice ia li.length ic] 55 (0, 0))) := (hb.block wr.heap.size hz0).trans (unhide Hx0)
          have hzc0 : wr.heap.size < c0.heap.size := Nat.lt_of_lt_of_le hz0 hb.size
          have hbc0 : base ≤ c0.heap.size := Nat.le_trans hbs0 hb.size
          have HL0 : Hid ((bs ++ cs).length + (byB (vN tg)).length ≤ 1099511627776) := by show _ ≤ _; simp only [List.length_append, byB_length]; have := unhide Hfr; omega
          clear hp hcc hb HY0 HE0 Hx0
          go_wp2_with (at_builtin; refine wpList_app_b rfl _ _ rfl base _ _ rfl (unhide HYc0) g0 q0 (byB (vN tg)) rfl (unhide Hc0) (unhide HL0) hbc0 ?_; intro y1 w1 hB hE; have HY1 := hide hB; have HE1 := hide ((unhide HEc0).trans hE); have hX := (hE.far wr.heap.size hzc0 hun0).trans (unhide Hxc0); have Hx1 := hide hX; obtain ⟨x0, x1, x2, x3, x4, _⟩ := cells5_of' hX; have hz1 := Nat.lt_of_lt_of_le hzc0 hE.size; have hun1 : some wr.heap.size ≠ y1.ownBlock := ext_ne hE hun0 hzc0; have hbs1 := Nat.le_trans hbc0 hE.size; clear hB hE hX)
          refine (unhide Hxx w1).mono ?_
          rintro e c1 ⟨p1, rfl, hp, hb⟩
          obtain ⟨g1, q1, rfl, hcc⟩ := bytes_formP hp (by rw [byB_length]; exact vN_pos t.size)
          have Hc1 := hide hcc
          have HYc1 : Hid (Bytes base c1 y1 (bs ++ cs ++ byB (vN tg))) := (unhide HY1).same fun z hz => hb.block z ((unhide HY1).lt z hz).2
          have HEc1 : Hid (Ext wr (Value.slice ca (bs.length + cs.length) cc) c1 y1) := (unhide HE1).trans (Ext.of_below hb y1)
          have Hxc1 : Hid (c1.heap[wr.heap.size]? = some (.cells #[.int .i64 (N : Int), .int .i64 2, .int .i64 x, .string t, .slice ia li.length ic] 55 (0, 0))) := (hb.block wr.heap.size hz1).trans (unhide Hx1)
          have hzc1 : wr.heap.size < c1.heap.size := Nat.lt_of_lt_of_le hz1 hb.size
          have hbc1 : base ≤ c1.heap.size := Nat.le_trans hbs1 hb.size
          have HL1 : Hid ((bs ++ cs ++ byB (vN tg)).length + (byB (vN t.size)).length ≤ 1099511627776) := by show _ ≤ _; simp only [List.length_append, byB_length]; have := unhide Hfr; omega
          clear hp hcc hb HY1 HE1 Hx1
          have HLs : Hid ((bs ++ cs ++ byB (vN tg) ++ byB (vN t.size)).length + t.size ≤ 1099511627776) := by show _ ≤ _; simp only [List.length_append, byB_length]; have := unhide Hfr; omega
          have GO1 : True := trivial
          have GO2 : True := trivial
          go_wp2_with (first | (at_builtin; clear GO1; refine wpList_app_b rfl _ _ rfl base _ _ rfl (unhide HYc1) g1 q1 (byB (vN t.size)) rfl (unhide Hc1) (unhide HL1) hbc1 ?_; intro y2 w2 hB hE; have HY2 := hide hB; have HE2 := hide ((unhide HEc1).trans hE); have hX := (hE.far wr.heap.size hzc1 hun1).trans (unhide Hxc1); have Hx2 := hide hX; obtain ⟨x0, x1, x2, x3, x4, _⟩ := cells5_of' hX; have hz2 := Nat.lt_of_lt_of_le hzc1 hE.size; have hun2 : some wr.heap.size ≠ y2.ownBlock := ext_ne hE hun1 hzc1; have hbs2 := Nat.le_trans hbc1 hE.size; clear hB hE hX) | (at_builtin; clear GO2; refine wpList_app_s rfl _ _ rfl base _ _ rfl (unhide HY2) t rfl (unhide HLs) hbs2 ?_; intro y3 w3 hB hE; have HY3 := hide hB; have HE3 := hide ((unhide HE2).trans hE); have hz3 := Nat.lt_of_lt_of_le hz2 hE.size; have hbs3 := Nat.le_trans hbs2 hE.size; clear hB hE))
          go_roundg (n - (i + 1))
          case measure => have := unhide Hgk; omega
          case rel =>
            refine ⟨i + 1, cs ++ (byB (vN tg ++ (vN t.size ++ tN t))), by go_num, rfl, by omega, ?_, ?_, ?_⟩
            · have q := unhide HY3
              show Bytes _ _ _ _
              simp only [byB_append, List.append_assoc] at q ⊢
              exact q
            · exact (unhide HE).trans (unhide HE3)
            · show XjR _ _ _ _
              rw [unhide Hnx]
              exact XjR.more (unhide HX) hle (XjR.whole _ (vN tg ++ (vN t.size ++ tN t)))
        · have hbe : encR (toT (.mk (N : Int) 3 x t li)) = vN (8 * N + 3) ++ (encL (toTL li) ++ vN (8 * N + 4)) := by rw [toT, encR]; rfl
          rw [hbe] at hnx
          have hfr := toTL_front rs (i + 1)
          rw [hnx] at hfr
          simp only [List.length_append] at hfr
          have e7 : 8 * (N : Int) = ((8 * N : Nat) : Int) := by omega
          have hNb : N ≤ 536870911 := by omega
          obtain ⟨tg, htg⟩ : ∃ tg : Nat, 8 * N + 3 = tg := ⟨_, rfl⟩
          obtain ⟨m8, hm8⟩ : ∃ m8 : Nat, 8 * N = m8 := ⟨_, rfl⟩
          rw [htg] at hnx hfr
          rw [hm8] at e7
          have e8 : (m8 : Int) + 3 = (tg : Int) := by omega
          have htb : tg ≤ 4294967301 := by omega
          have hmb : m8 ≤ 4294967296 := by omega
          have e4 : (m8 : Int) + 4 = ((8 * N + 4 : Nat) : Int) := by omega
          obtain ⟨tz, htz⟩ : ∃ tz : Nat, 8 * N + 4 = tz := ⟨_, rfl⟩
          rw [htz] at e4 hnx hfr
          have htzb : tz ≤ 4294967300 := by omega
          have Hnx := hide hnx
          have hv1 := vN_pos tg
          have Hxv : Hid (∀ V : World, Calls Tryd.prog 59 #[.int .i64 (tg : Int)] V fun e W' => ∃ v', e = .returned v' ∧ Bytes V.heap.size W' v' (byB (vN tg)) ∧ Below V.heap.size V W') := fun V => by have q := xvarint_any V (tg : Int) (by unfold Rng; omega); rw [un_nat (by omega), ← byB_vN] at q; exact q
          have Hfr := hide hfr
          have HY0 : Hid (Bytes base (wr.alloc (.cells #[.int .i64 (N : Int), .int .i64 3, .int .i64 x, .string t, .slice ia li.length ic] 55)) (Value.slice ca (bs.length + cs.length) cc) (bs ++ cs)) := (unhide HBy).same fun z hz => Below.heap_alloc _ _ z ((unhide HBy).lt z hz).2
          have HE0 : Hid (Ext wr (Value.slice ca (bs.length + cs.length) cc) (wr.alloc (.cells #[.int .i64 (N : Int), .int .i64 3, .int .i64 x, .string t, .slice ia li.length ic] 55)) (Value.slice ca (bs.length + cs.length) cc)) := Ext.of_below ((Below.refl _ _).alloc (Nat.le_refl _) _) (Value.slice ca (bs.length + cs.length) cc)
          have Hx0 : Hid ((wr.alloc (.cells #[.int .i64 (N : Int), .int .i64 3, .int .i64 x, .string t, .slice ia li.length ic] 55)).heap[wr.heap.size]? = some (.cells #[.int .i64 (N : Int), .int .i64 3, .int .i64 x, .string t, .slice ia li.length ic] 55 (0, 0))) := heap_alloc_new _ _
          have hz0 : wr.heap.size < (wr.alloc (.cells #[.int .i64 (N : Int), .int .i64 3, .int .i64 x, .string t, .slice ia li.length ic] 55)).heap.size := by rw [World.size_alloc]; omega
          have hbs0 : base ≤ (wr.alloc (.cells #[.int .i64 (N : Int), .int .i64 3, .int .i64 x, .string t, .slice ia li.length ic] 55)).heap.size := by rw [World.size_alloc]; omega
          have hun0 : some wr.heap.size ≠ (Value.slice ca (bs.length + cs.length) cc).ownBlock := fun e => by have := ((unhide HBy).lt _ e.symm).2; omega
          have Hz0 := hide hz0
          have Hbs0 := hide hbs0
          have Hxz : Hid (∀ V : World, Calls Tryd.prog 59 #[.int .i64 (tz : Int)] V fun e W' => ∃ v', e = .returned v' ∧ Bytes V.heap.size W' v' (byB (vN tz)) ∧ Below V.heap.size V W') := fun V => by have q := xvarint_any V (tz : Int) (by unfold Rng; omega); rw [un_nat (by omega), ← byB_vN] at q; exact q
          clear hbe hnx htg hm8 hz0 hbs0 hfr hx htz
          go_wp2_with fail
          have hz0 := unhide Hz0
          have hbs0 := unhide Hbs0
          generalize wr.alloc (.cells #[.int .i64 (N : Int), .int .i64 3, .int .i64 x, .string t, .slice ia li.length ic] 55) = w0' at *
          refine (unhide Hxv w0').mono ?_
          rintro e c0 ⟨p0, rfl, hp, hb⟩
          obtain ⟨g0, q0, rfl, hcc⟩ := bytes_formP hp (by rw [byB_length]; exact hv1)
          have Hc0 := hide hcc
          have HYc0 : Hid (Bytes base c0 (Value.slice ca (bs.length + cs.length) cc) (bs ++ cs)) := (unhide HY0).same fun z hz => hb.block z ((unhide HY0).lt z hz).2
          have HEc0 : Hid (Ext wr (Value.slice ca (bs.length + cs.length) cc) c0 (Value.slice ca (bs.length + cs.length) cc)) := (unhide HE0).trans (Ext.of_below hb (Value.slice ca (bs.length + cs.length) cc))
          have Hxc0 : Hid (c0.heap[wr.heap.size]? = some (.cells #[.int .i64 (N : Int), .int .i64 3, .int .i64 x, .string t, .slice ia li.length ic] 55 (0, 0))) := (hb.block wr.heap.size hz0).trans (unhide Hx0)
          have hzc0 : wr.heap.size < c0.heap.size := Nat.lt_of_lt_of_le hz0 hb.size
          have hbc0 : base ≤ c0.heap.size := Nat.le_trans hbs0 hb.size
          have HL0 : Hid ((bs ++ cs).length + (byB (vN tg)).length ≤ 1099511627776) := by show _ ≤ _; simp only [List.length_append, byB_length]; have := unhide Hfr; omega
          clear hp hcc hb HY0 HE0 Hx0
          go_wp2_with (at_builtin; refine wpList_app_b rfl _ _ rfl base _ _ rfl (unhide HYc0) g0 q0 (byB (vN tg)) rfl (unhide Hc0) (unhide HL0) hbc0 ?_; intro y1 w1 hB hE; have HY1 := hide hB; have HE1 := hide ((unhide HEc0).trans hE); have hX := (hE.far wr.heap.size hzc0 hun0).trans (unhide Hxc0); have Hx1 := hide hX; obtain ⟨x0, x1, x2, x3, x4, _⟩ := cells5_of' hX; have hz1 := Nat.lt_of_lt_of_le hzc0 hE.size; have hun1 : some wr.heap.size ≠ y1.ownBlock := ext_ne hE hun0 hzc0; have hbs1 := Nat.le_trans hbc0 hE.size; clear hB hE hX)
          have Hj := hide (unhide Hcall base w1 y1 (bs ++ cs ++ byB (vN tg)) ((unhide HBW).trans ((unhide HE1).below (unhide HBW).size (fun b hb => by have := ((unhide HBy).lt b hb).1; omega))) hWb (unhide HY1) hbs1 (by have := unhide Hfr; simp only [List.length_append, byB_length]; omega))
          refine (unhide Hj).mono ?_
          rintro e w2 ⟨y2, cj, rfl, hB, hE, hXj⟩
          have HXj := hide hXj
          have HY2 := hide hB
          have HE2 := hide ((unhide HE1).trans hE)
          have Hx2 : Hid (w2.heap[wr.heap.size]? = some (.cells #[.int .i64 (N : Int), .int .i64 3, .int .i64 x, .string t, .slice ia li.length ic] 55 (0, 0))) := (hE.far wr.heap.size hz1 hun1).trans (unhide Hx1)
          obtain ⟨x0, x1, x2, x3, x4, _⟩ := cells5_of' (unhide Hx2)
          have hz2 := Nat.lt_of_lt_of_le hz1 hE.size
          have hun2 : some wr.heap.size ≠ y2.ownBlock := ext_ne hE hun1 hz1
          have hbs2 := Nat.le_trans hbs1 hE.size
          have hcl := hXj.le
          have Hcl : Hid (cj.length ≤ (encL (toTL li)).length) := hcl
          clear hB hE hXj hcl Hj HY1 HE1 Hx1
          go_wp2_with fail
          refine (unhide Hxz w2).mono ?_
          rintro e c2 ⟨p2, rfl, hp, hb⟩
          obtain ⟨g2, q2, rfl, hcc⟩ := bytes_formP hp (by rw [byB_length]; exact vN_pos tz)
          have Hc2 := hide hcc
          have HYc2 : Hid (Bytes base c2 y2 (bs ++ cs ++ byB (vN tg) ++ cj)) := (unhide HY2).same fun z hz => hb.block z ((unhide HY2).lt z hz).2
          have HEc2 : Hid (Ext wr (Value.slice ca (bs.length + cs.length) cc) c2 y2) := (unhide HE2).trans (Ext.of_below hb y2)
          have Hxc2 : Hid (c2.heap[wr.heap.size]? = some (.cells #[.int .i64 (N : Int), .int .i64 3, .int .i64 x, .string t, .slice ia li.length ic] 55 (0, 0))) := (hb.block wr.heap.size hz2).trans (unhide Hx2)
          have hzc2 : wr.heap.size < c2.heap.size := Nat.lt_of_lt_of_le hz2 hb.size
          have hbc2 : base ≤ c2.heap.size := Nat.le_trans hbs2 hb.size
          have HL2 : Hid ((bs ++ cs ++ byB (vN tg) ++ cj).length + (byB (vN tz)).length ≤ 1099511627776) := by show _ ≤ _; simp only [List.length_append, byB_length]; have := unhide Hfr; have := unhide Hcl; omega
          clear hp hcc hb HY2 HE2 Hx2
          go_wp2_with (at_builtin; refine wpList_app_b rfl _ _ rfl base _ _ rfl (unhide HYc2) g2 q2 (byB (vN tz)) rfl (unhide Hc2) (unhide HL2) hbc2 ?_; intro y3 w3 hB hE; have HY3 := hide hB; have HE3 := hide ((unhide HEc2).trans hE); have hX := (hE.far wr.heap.size hzc2 hun2).trans (unhide Hxc2); have Hx3 := hide hX; obtain ⟨x0, x1, x2, x3, x4, _⟩ := cells5_of' hX; have hz3 := Nat.lt_of_lt_of_le hzc2 hE.size; have hun3 : some wr.heap.size ≠ y3.ownBlock := ext_ne hE hun2 hzc2; have hbs3 := Nat.le_trans hbc2 hE.size; clear hB hE hX)
          go_roundg (n - (i + 1))
          case measure => have := unhide Hgk; omega
          case rel =>
            refine ⟨i + 1, cs ++ (byB (vN tg) ++ (cj ++ byB (vN tz))), by go_num, rfl, by omega, ?_, ?_, ?_⟩
            · have q := unhide HY3
              show Bytes _ _ _ _
              simp only [List.append_assoc] at q ⊢
              exact q
            · exact (unhide HE).trans (unhide HE3)
            · show XjR _ _ _ _
              rw [unhide Hnx]
              exact XjR.more (unhide HX) hle (XjR.group (by have q := unhide HXj; simp only [List.length_append, byB_length] at q; exact q))
        · have hbe : encR (toT (.mk (N : Int) 5 x t li)) = vN (8 * N + 5) ++ (fN (un x) 4) := by rw [toT, encR]; rfl
          rw [hbe] at hnx
          have hfr := toTL_front rs (i + 1)
          rw [hnx] at hfr
          simp only [List.length_append, fN_len] at hfr
          have e7 : 8 * (N : Int) = ((8 * N : Nat) : Int) := by omega
          have hNb : N ≤ 536870911 := by omega
          obtain ⟨tg, htg⟩ : ∃ tg : Nat, 8 * N + 5 = tg := ⟨_, rfl⟩
          obtain ⟨m8, hm8⟩ : ∃ m8 : Nat, 8 * N = m8 := ⟨_, rfl⟩
          rw [htg] at hnx hfr
          rw [hm8] at e7
          have e8 : (m8 : Int) + 5 = (tg : Int) := by omega
          have htb : tg ≤ 4294967301 := by omega
          have hmb : m8 ≤ 4294967296 := by omega
          have Hnx := hide hnx
          have hv1 := vN_pos tg
          have Hxv : Hid (∀ V : World, Calls Tryd.prog 59 #[.int .i64 (tg : Int)] V fun e W' => ∃ v', e = .returned v' ∧ Bytes V.heap.size W' v' (byB (vN tg)) ∧ Below V.heap.size V W') := fun V => by have q := xvarint_any V (tg : Int) (by unfold Rng; omega); rw [un_nat (by omega), ← byB_vN] at q; exact q
          have Hfr := hide hfr
          have HY0 : Hid (Bytes base (wr.alloc (.cells #[.int .i64 (N : Int), .int .i64 5, .int .i64 x, .string t, .slice ia li.length ic] 55)) (Value.slice ca (bs.length + cs.length) cc) (bs ++ cs)) := (unhide HBy).same fun z hz => Below.heap_alloc _ _ z ((unhide HBy).lt z hz).2
          have HE0 : Hid (Ext wr (Value.slice ca (bs.length + cs.length) cc) (wr.alloc (.cells #[.int .i64 (N : Int), .int .i64 5, .int .i64 x, .string t, .slice ia li.length ic] 55)) (Value.slice ca (bs.length + cs.length) cc)) := Ext.of_below ((Below.refl _ _).alloc (Nat.le_refl _) _) (Value.slice ca (bs.length + cs.length) cc)
          have Hx0 : Hid ((wr.alloc (.cells #[.int .i64 (N : Int), .int .i64 5, .int .i64 x, .string t, .slice ia li.length ic] 55)).heap[wr.heap.size]? = some (.cells #[.int .i64 (N : Int), .int .i64 5, .int .i64 x, .string t, .slice ia li.length ic] 55 (0, 0))) := heap_alloc_new _ _
          have hz0 : wr.heap.size < (wr.alloc (.cells #[.int .i64 (N : Int), .int .i64 5, .int .i64 x, .string t, .slice ia li.length ic] 55)).heap.size := by rw [World.size_alloc]; omega
          have hbs0 : base ≤ (wr.alloc (.cells #[.int .i64 (N : Int), .int .i64 5, .int .i64 x, .string t, .slice ia li.length ic] 55)).heap.size := by rw [World.size_alloc]; omega
          have hun0 : some wr.heap.size ≠ (Value.slice ca (bs.length + cs.length) cc).ownBlock := fun e => by have := ((unhide HBy).lt _ e.symm).2; omega
          have Hz0 := hide hz0
          have Hbs0 := hide hbs0
          have Hxx := hide (fun V : World => show Calls Tryd.prog 60 #[.int .i64 x, .int .i64 4] V fun e W' => ∃ v', e = .returned v' ∧ Bytes V.heap.size W' v' (byB (fN (un x) 4)) ∧ Below V.heap.size V W' from (by have q := xlow_any V x hx 4 (by decide); rw [lows_fN x 4 (by decide)] at q; exact q))
          clear hbe hnx htg hm8 hz0 hbs0 hfr hx
          go_wp2_with fail
          have hz0 := unhide Hz0
          have hbs0 := unhide Hbs0
          generalize wr.alloc (.cells #[.int .i64 (N : Int), .int .i64 5, .int .i64 x, .string t, .slice ia li.length ic] 55) = w0' at *
          refine (unhide Hxv w0').mono ?_
          rintro e c0 ⟨p0, rfl, hp, hb⟩
          obtain ⟨g0, q0, rfl, hcc⟩ := bytes_formP hp (by rw [byB_length]; exact hv1)
          have Hc0 := hide hcc
          have HYc0 : Hid (Bytes base c0 (Value.slice ca (bs.length + cs.length) cc) (bs ++ cs)) := (unhide HY0).same fun z hz => hb.block z ((unhide HY0).lt z hz).2
          have HEc0 : Hid (Ext wr (Value.slice ca (bs.length + cs.length) cc) c0 (Value.slice ca (bs.length + cs.length) cc)) := (unhide HE0).trans (Ext.of_below hb (Value.slice ca (bs.length + cs.length) cc))
          have Hxc0 : Hid (c0.heap[wr.heap.size]? = some (.cells #[.int .i64 (N : Int), .int .i64 5, .int .i64 x, .string t, .slice ia li.length ic] 55 (0, 0))) := (hb.block wr.heap.size hz0).trans (unhide Hx0)
          have hzc0 : wr.heap.size < c0.heap.size := Nat.lt_of_lt_of_le hz0 hb.size
          have hbc0 : base ≤ c0.heap.size := Nat.le_trans hbs0 hb.size
          have HL0 : Hid ((bs ++ cs).length + (byB (vN tg)).length ≤ 1099511627776) := by show _ ≤ _; simp only [List.length_append, byB_length]; have := unhide Hfr; omega
          clear hp hcc hb HY0 HE0 Hx0
          go_wp2_with (at_builtin; refine wpList_app_b rfl _ _ rfl base _ _ rfl (unhide HYc0) g0 q0 (byB (vN tg)) rfl (unhide Hc0) (unhide HL0) hbc0 ?_; intro y1 w1 hB hE; have HY1 := hide hB; have HE1 := hide ((unhide HEc0).trans hE); have hX := (hE.far wr.heap.size hzc0 hun0).trans (unhide Hxc0); have Hx1 := hide hX; obtain ⟨x0, x1, x2, x3, x4, _⟩ := cells5_of' hX; have hz1 := Nat.lt_of_lt_of_le hzc0 hE.size; have hun1 : some wr.heap.size ≠ y1.ownBlock := ext_ne hE hun0 hzc0; have hbs1 := Nat.le_trans hbc0 hE.size; clear hB hE hX)
          refine (unhide Hxx w1).mono ?_
          rintro e c1 ⟨p1, rfl, hp, hb⟩
          obtain ⟨g1, q1, rfl, hcc⟩ := bytes_formP hp (by rw [byB_length]; exact by rw [fN_len]; decide)
          have Hc1 := hide hcc
          have HYc1 : Hid (Bytes base c1 y1 (bs ++ cs ++ byB (vN tg))) := (unhide HY1).same fun z hz => hb.block z ((unhide HY1).lt z hz).2
          have HEc1 : Hid (Ext wr (Value.slice ca (bs.length + cs.length) cc) c1 y1) := (unhide HE1).trans (Ext.of_below hb y1)
          have Hxc1 : Hid (c1.heap[wr.heap.size]? = some (.cells #[.int .i64 (N : Int), .int .i64 5, .int .i64 x, .string t, .slice ia li.length ic] 55 (0, 0))) := (hb.block wr.heap.size hz1).trans (unhide Hx1)
          have hzc1 : wr.heap.size < c1.heap.size := Nat.lt_of_lt_of_le hz1 hb.size
          have hbc1 : base ≤ c1.heap.size := Nat.le_trans hbs1 hb.size
          have HL1 : Hid ((bs ++ cs ++ byB (vN tg)).length + (byB (fN (un x) 4)).length ≤ 1099511627776) := by show _ ≤ _; simp only [List.length_append, byB_length, fN_len]; have := unhide Hfr; omega
          clear hp hcc hb HY1 HE1 Hx1
          go_wp2_with (at_builtin; refine wpList_app_b rfl _ _ rfl base _ _ rfl (unhide HYc1) g1 q1 (byB (fN (un x) 4)) rfl (unhide Hc1) (unhide HL1) hbc1 ?_; intro y2 w2 hB hE; have HY2 := hide hB; have HE2 := hide ((unhide HEc1).trans hE); have hX := (hE.far wr.heap.size hzc1 hun1).trans (unhide Hxc1); have Hx2 := hide hX; obtain ⟨x0, x1, x2, x3, x4, _⟩ := cells5_of' hX; have hz2 := Nat.lt_of_lt_of_le hzc1 hE.size; have hun2 : some wr.heap.size ≠ y2.ownBlock := ext_ne hE hun1 hzc1; have hbs2 := Nat.le_trans hbc1 hE.size; clear hB hE hX)
          go_roundg (n - (i + 1))
          case measure => have := unhide Hgk; omega
          case rel =>
            refine ⟨i + 1, cs ++ (byB (vN tg ++ (fN (un x) 4))), by go_num, rfl, by omega, ?_, ?_, ?_⟩
            · have q := unhide HY2
              show Bytes _ _ _ _
              simp only [byB_append, List.append_assoc] at q ⊢
              exact q
            · exact (unhide HE).trans (unhide HE2)
            · show XjR _ _ _ _
              rw [unhide Hnx]
              exact XjR.more (unhide HX) hle (XjR.whole _ (vN tg ++ (fN (un x) 4)))
      · have hend : ¬ i < n ∨ (i < n ∧ 1048576 < bs.length + cs.length) := by omega
        have Hfin : Hid (XjR bs.length (encL (toTL rs)).length (byB (encL (toTL rs))) cs) := by
          rcases hend with q | ⟨q1, q2⟩
          · have e : rs.take i = rs := List.take_of_length_le (by rw [unhide Hn]; omega)
            have q := unhide HX
            rw [e] at q
            exact q
          · exact ⟨fun z => by omega, fun _ => q2, by omega⟩
        rw [hll] at efrm
        subst efrm
        clear hgo
        rcases hend with q | ⟨q1, q2⟩
        · go_wp2
          go_ret
          exact ⟨_, cs, rfl, unhide HBy, unhide HE, unhide Hfin⟩
        · go_wp2
          go_ret
          exact ⟨_, cs, rfl, unhide HBy, unhide HE, unhide Hfin⟩
#print axioms xjoined_ri
end Go.Proofs.YtgbadnbhgpnppaaDoor
