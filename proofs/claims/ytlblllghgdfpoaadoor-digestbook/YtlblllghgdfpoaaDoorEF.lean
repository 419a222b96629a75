import Derived.Test.YtlblllghgdfpoaaDoorJ05
import Derived.Test.YtlblllghgdfpoaaDoorJ05
import Derived.Deep.DeepCutAuto

namespace Go.Proofs.YtlblllghgdfpoaaDoor
open Go.RowKit
attribute [local go_sem ↓] Go.wp_at_zero Go.wp_at_succ

section
variable {P : Program}
theorem step_append_keeps {w : World} {ops : Array Oper} {o : Oper} {a : Act} {K : Act → World → Prop} {Q : Exit → Act → World → Prop} {E : Prop} (x0 : Tmp) (hx0 : o.dst = some x0) (hgd : o.guard = none) (s x : Operand) (t : TypeId)
    (ho : o.op = .call { callee := .builtin .append, args := #[s, x], argTypes := #[t, t] })
    (base : Nat) (e : TypeId) (i : TypeInfo) (z : Value) (size bytes : Nat) (ht : P.underlying t = some (.slice e)) (hi : P.info? e = some i) (hz : i.zero = some z)
    (hsize : i.size = size) (hby : i.bytes = bytes) (hzs : z.cells.size = size) (hsz : 0 < size)
    (v : Value) (n : Nat) (xs : List Value) (hs : a.eval s = v) (hown : w.ownsRow base e size v n xs)
    (ad : Addr) (m c : Nat) (news : List Value) (hx : a.eval x = .slice (some ad) m c) (hl : news.length = m * size) (hnews : ∀ j u, news[j]? = some u → w.cell? (ad.add j) = some u) (h1 : ∀ u ∈ news, u.oneCell' = true)
    (hm : 0 < m) (h63 : n + m ≤ maxLen) (hbytes : (n + m) * bytes ≤ 140737488355328) (hbase : base ≤ w.heap.size)
    (h : ∀ g' c' w', w'.ownsRow base e size (.slice (some ⟨g', 0, none⟩) (n + m) c') (n + m) (xs ++ news) → w'.ownsRow base e size v n xs → w.grownBy w' v.ownBlock → (v.ownBlock = some g' ∨ w.heap.size ≤ g') → K (a.put (some x0) (.slice (some ⟨g', 0, none⟩) (n + m) c')) w') :
    if Region.wanted o (yielded ops a.tmps) = true then Oper.wp P o a w K Q else E := by
  rw [← hx0] at h
  have hw : Region.wanted o (yielded ops a.tmps) = true := by simp [Region.wanted, hgd]
  rw [if_pos hw]
  obtain ⟨g', c', w', hr, h2, h3, h4, h5, -⟩ := run_append_keeps (P := P) w t o.type base e i z size bytes ht hi hz hsize hby hzs hsz v n xs hown ad m c news hl hnews h1 hm h63 hbytes hbase
  unfold Oper.wp execOp
  simp only [ho, resolve, invoke, builtin, Sem.run_bind, Sem.run_pure, Result.andThen_ok, List.map_toArray, List.map_cons, List.map_nil, hs, hx, hr]
  exact h g' c' w' h2 h3 h4 h5
end
theorem callMk (w : World) (vs : Array Value) : (callFunc 37 vs).run Tryd.prog w = .ok (.enter 37 vs) w := by
  have hn : ¬ Tryd.f37.name = "runtime.NumGoroutine" := by decide +kernel
  have hb : Tryd.f37.body.isSome = true := by kernel_rfl
  obtain ⟨c, hc⟩ := Option.isSome_iff_exists.1 hb
  simp [callFunc, Tryd.func37, hn, hc]
theorem callGr (w : World) (vs : Array Value) : (callFunc 38 vs).run Tryd.prog w = .ok (.enter 38 vs) w := by
  have hn : ¬ Tryd.f38.name = "runtime.NumGoroutine" := by decide +kernel
  have hb : Tryd.f38.body.isSome = true := by kernel_rfl
  obtain ⟨c, hc⟩ := Option.isSome_iff_exists.1 hb
  simp [callFunc, Tryd.func38, hn, hc]
theorem Tryd.infoStr : (Tryd.prog.info? 9).map (fun i => (i.zero, i.size, i.bytes)) = some (some (.string .empty), 1, 16) := by kernel_rfl
/-- A row of headers that can be read. -/
def HdB (w : World) (va : Value) (us : List Value) : Prop := ∃ a c, va = .slice a us.length c ∧ (0 < us.length → ∃ g o, a = some ⟨g, o, none⟩ ∧ g < w.heap.size ∧ ¬ InB us g ∧ ∀ i v, us[i]? = some v → w.cell? ⟨g, o + i, none⟩ = some v)
theorem bytes_shape {B : Nat} {w : World} {v : Value} {l : List Nat} (h : Bytes B w v l) : ∃ a c, v = .slice a l.length c ∧ (0 < l.length → ∃ g, a = some ⟨g, 0, none⟩) := by
  obtain ⟨h1, ⟨rfl, h2⟩ | ⟨g, c, cur, rfl, h2, h3, h4, h5, h6⟩⟩ := id h
  · exact ⟨none, 0, by rw [h2], fun hp => by omega⟩
  · exact ⟨_, c, rfl, fun _ => ⟨g, rfl⟩⟩
set_option maxRecDepth 100000 in
set_option maxHeartbeats 8000000 in
theorem take_any {B : Nat} {W : World} {b : Nat} {vW0 vL0 va : Value} {vs0 us : List Value} {ls0 xs : List (List Nat)} (hk : Bk B W b vs0.length vW0 vL0 vs0 ls0) (hln : ls0.length = vs0.length) (hlb : Lb B W us xs) (hd : HdB W va us) (hB : B ≤ W.heap.size) (hdis : ∀ q, InB us q → ¬ BkIn b vW0 vL0 vs0 q) (hdh : ∀ q, va.ownBlock = some q → ¬ BkIn b vW0 vL0 vs0 q) (hxs : ∀ x ∈ xs, x.length ≤ 1073741824) (hsz : vs0.length + 4 * us.length ≤ 1073741824) :
    Calls Tryd.prog 18 #[.pointer (some ⟨b, 0, none⟩), va] W fun e w => e = .returned (.bool true) ∧ ∃ vW vL vs ls ms, TkS W B b (vs0.length + 4 * us.length) vW0 vL0 vs0 us ms w vW vL vs ls ∧ vs.length = vs0.length + 4 * us.length ∧ ls.length = vs.length := by
  obtain ⟨a, c, rfl, h3⟩ := hd
  obtain ⟨y0, -, -, yf⟩ := hk.cells
  obtain ⟨i1, qi, qz0, qz1, qz2⟩ := info_parts Tryd.infoBytes
  obtain ⟨i2, ri, rz0, rz1, rz2⟩ := info_parts Tryd.infoStr
  obtain ⟨n0, hn0⟩ : ∃ n0, vs0.length = n0 := ⟨_, rfl⟩
  rw [hn0] at hk y0 hsz ⊢
  obtain ⟨W1, hW1⟩ : ∃ W1, W1 = W.setCell ⟨b, 0, none⟩ (.int .i64 ((n0 + us.length : Nat) : Int)) := ⟨_, rfl⟩
  have far1 : ∀ q, q ≠ b → W1.heap[q]? = W.heap[q]? := fun q hq => by rw [hW1]; exact heap_setCell_other W ⟨b, 0, none⟩ q _ hq
  have hs1 : W1.heap.size = W.heap.size := by rw [hW1, World.size_setCell]
  have HK1 : Hid (Bk B W1 b (n0 + us.length) vW0 vL0 vs0 ls0) := by rw [hW1]; exact hk.setN _
  have HF1 : Hid (Fr W W1 (TkX b vW0 vL0 us)) := by rw [hW1]; exact (Fr.refl _ _).set (.inl (.inl rfl)) 0 _
  have HL1 : Hid (Lb B W1 us xs) := hlb.keep (fun q _ hi => far1 q (fun e => hdis q hi (.inl e)))
  have HDis := hide hdis
  have H3 : Hid (0 < us.length → ∃ g o, a = some ⟨g, o, none⟩ ∧ g < W.heap.size ∧ ¬ TkX b vW0 vL0 us g ∧ ∀ i v, us[i]? = some v → W.cell? ⟨g, o + i, none⟩ = some v) := fun hp => by
    obtain ⟨g, o, rfl, k1, k2, k3⟩ := h3 hp
    have hng := hdh g rfl
    exact ⟨g, o, rfl, k1, fun e => by rcases e with e | e | e | e; exact hng (.inl e); exact hng (.inr (.inl e)); exact hng (.inr (.inr (.inl e))); exact k2 e, k3⟩
  have HX := hide hxs
  have HLt := hide (fun q hq => (hlb.lt (g := q) hq).2)
  have HBs := hide hB
  have Hln := hide hln
  have Hn0 := hide hn0
  have f0 := yf 0
  have HA0 : Hid (TkA W1 B n0 us xs 0 W1 xs) := ⟨unhide HL1, Fr.refl _ _, fun _ => rfl, fun j c hj => by omega⟩
  clear hk hln hlb hdis hdh hxs h3 hB yf far1 hn0
  go_enter Tryd.func18, Tryd.ntmps18
  go_wp2
  have eW : W.setCell ⟨b, 0, none⟩ (.int .i64 ((n0 : Int) + (us.length : Int))) = W1 := by rw [hW1]; simp
  rw [eW]
  clear eW y0 f0
  go_loopg [6, 7] us.length (fun gk v6 _ wr => ∃ (i : Nat) (cs : List (List Nat)), v6 = .int .i64 (i : Int) ∧ gk = us.length - i ∧ i ≤ us.length ∧ Hid (TkA W1 B n0 us xs i wr cs))
  case atStart => exact ⟨0, xs, rfl, rfl, by omega, unhide HA0⟩
  case round =>
    obtain ⟨i, cs, rfl, hgk, hi, HG⟩ := hrel
    have HgkO := hide hgk
    clear hgk HA0
    obtain ⟨wo, hwo⟩ : ∃ x, x = wr := ⟨_, rfl⟩
    subst hwo
    by_cases hlt : i < us.length
    · obtain ⟨gA, oA, rfl, hgA, hnI, hc⟩ := unhide H3 (by omega)
      obtain ⟨v, l, hv, hb, hB⟩ := (unhide HG).lb.at hlt
      obtain ⟨av, cv, rfl, hsh⟩ := bytes_shape hB
      have Hx : Hid (∀ w', Fr W1 w' (InB us) → w'.cell? ⟨gA, oA + i, none⟩ = some (.slice av l.length cv)) := fun w' hf => (World.cell?_of_block (a := ⟨gA, oA + i, none⟩) ((hf.far gA (by omega) (fun e => hnI (.inr (.inr (.inr e))))).trans ((unhide HF1).far gA hgA hnI))).trans (hc i _ hv)
      have hbl : l.length ≤ 1073741824 := by
        have e := (unhide HG).ln i
        rw [hb] at e
        cases hq : xs[i]? with
        | none => rw [hq] at e; cases e
        | some q => rw [hq] at e; have e1 : l.length = q.length := by simpa using e
                    rw [e1]; exact unhide HX q (List.mem_of_getElem? hq)
      have x0 := unhide Hx wo (unhide HG).fr
      have HI0 : Hid (∃ cs' bs', TkA W1 B n0 us xs i wo cs' ∧ cs'[i]? = some bs' ∧ bs'.length = l.length ∧ bs'.take 0 = (mkL (n0 + i) l.length).take 0) := ⟨cs, l, unhide HG, hb, rfl, by simp⟩
      have Hsh := hide hsh
      have Hv := hide hv
      have j0 : (0 : Int) ≤ (i : Int) := Int.natCast_nonneg _
      have j1 : (i : Int) < (us.length : Int) := by omega
      have HltO := hide hlt
      clear hc hgA hnI hB hsh hv hb hlt HG
      go_wp2
      go_loopg [7] l.length (fun gk v7 wr => ∃ (k : Nat), v7 = .int .i64 (k : Int) ∧ gk = l.length - k ∧ k ≤ l.length ∧ Hid (∃ cs' bs', TkA W1 B n0 us xs i wr cs' ∧ cs'[i]? = some bs' ∧ bs'.length = l.length ∧ bs'.take k = (mkL (n0 + i) l.length).take k))
      case atStart => exact ⟨0, rfl, rfl, by omega, unhide HI0⟩
      case round =>
        obtain ⟨k, rfl, hgk, hk, HI⟩ := hrel
        have Hgk := hide hgk
        clear hgk x0 HI0
        obtain ⟨cs', bs', hG, hb, hl, ht⟩ := unhide HI
        have x0 := unhide Hx wr hG.fr
        by_cases hlt : k < l.length
        · obtain ⟨g, rfl⟩ := unhide Hsh (by omega)
          obtain ⟨y, hy⟩ : ∃ y, bs'[k]? = some y := ⟨_, List.getElem?_eq_getElem (by omega)⟩
          have hcl := bytes_cell (hG.lb.own i _ bs' (unhide Hv) hb) hy
          obtain ⟨y0, z0⟩ := hcl
          have HM := hide (fun w => mark_any w (n0 + i) k)
          have HIn : Hid (∃ cs' bs', TkA W1 B n0 us xs i (wr.setCell ⟨g, k, none⟩ (.int .u8 (mkB (n0 + i) k : Int))).drew cs' ∧ cs'[i]? = some bs' ∧ bs'.length = l.length ∧ bs'.take (k + 1) = (mkL (n0 + i) l.length).take (k + 1)) := by
            refine ⟨_, _, (hG.put (unhide Hv) hb (mkB (n0 + i) k)).drew, List.getElem?_set_self (by rw [hG.lb.len]; exact unhide HltO), by rw [List.length_set, hl], ?_⟩
            apply List.ext_getElem?
            intro j
            have ej := congrArg (fun l => l[j]?) ht
            simp only [List.getElem?_take] at ej ⊢
            by_cases h1 : j < k
            · rw [if_pos h1, if_pos h1] at ej
              rw [if_pos (by omega), if_pos (by omega), List.getElem?_set_ne (by omega)]
              exact ej
            · by_cases h2 : j = k
              · subst h2
                rw [if_pos (by omega), if_pos (by omega), List.getElem?_set_self (by omega), mkL_at hlt]
              · rw [if_neg (by omega), if_neg (by omega)]
          obtain ⟨m, hm⟩ : ∃ m, mkB (n0 + i) k = m := ⟨_, rfl⟩
          rw [hm] at HIn
          simp only [hm] at HM
          have en : ((n0 + i : Nat) : Int) = (n0 : Int) + (i : Int) := by omega
          simp only [en] at HM
          have i0 : (0 : Int) ≤ (k : Int) := Int.natCast_nonneg _
          have i1' : (k : Int) < (l.length : Int) := by omega
          have Hlt := hide hlt
          have hwr : IntKind.i64.wrap ((n0 : Int) + (i : Int)) = (n0 : Int) + (i : Int) := by rw [IntKind.wrap_i64]; omega
          clear hG hb hl ht hy hlt HI hm en
          go_wp2
          go_region_with (go_at_call 36; refine (unhide HM _).mono ?_; rintro e w2 ⟨rfl, rfl⟩)
          all_goals
            go_wp2
            go_roundg (l.length - (k + 1))
            case measure => have := unhide Hgk; have := unhide Hlt; omega
            case rel => exact ⟨k + 1, by go_num, rfl, unhide Hlt, unhide HIn⟩
        · obtain rfl : k = l.length := by omega
          have HGn := hide (hG.next hb hl ht)
          clear hG hb hl ht HI hlt hk Hgk
          go_wp2
          go_roundg (us.length - (i + 1))
          case measure => have := unhide HgkO; have := unhide HltO; omega
          case rel => exact ⟨i + 1, cs', by go_num, rfl, unhide HltO, unhide HGn⟩
    · obtain rfl : i = us.length := by omega
      have hA := unhide HG
      have HS0 : Hid (TkS W B b (n0 + us.length) vW0 vL0 vs0 us cs wo vW0 vL0 (vs0 ++ us.take 0) (ls0 ++ cs.take 0)) := by
        rw [List.take_zero, List.take_zero, List.append_nil, List.append_nil]
        refine ⟨(unhide HK1).keep hA.fr.size (fun q hq hi => hA.fr.far q hq (fun e => unhide HDis q e hi)), hA.lb, (unhide HF1).trans (hA.fr.wide (fun q e => .inr (.inr (.inr e)))), fun q e => .inl e, fun q e => .inl e, fun q hq => ?_, fun q hq => .inl hq⟩
        have hn := unhide HDis q hq
        exact ⟨unhide HLt q hq, fun e => hn (.inl e), fun e => hn (.inr (.inl e)), fun e => hn (.inr (.inr (.inl e)))⟩
      have HMd : Hid (∀ (j : Nat) (c : List Nat), cs[j]? = some c → c = mkL (n0 + j) c.length ∧ c.length ≤ 1073741824) := fun j c hc => by
        have hj := (List.getElem?_eq_some_iff.1 hc).1
        refine ⟨hA.md j c (by rw [← hA.lb.len]; exact hj) hc, ?_⟩
        have e := hA.ln j
        rw [hc] at e
        cases hq : xs[j]? with
        | none => rw [hq] at e; cases e
        | some q => rw [hq] at e; have e1 : c.length = q.length := by simpa using e
                    rw [e1]; exact unhide HX q (List.mem_of_getElem? hq)
      have HCl : Hid (cs.length = us.length) := hA.lb.len
      clear hA HG HgkO hlt hi HL1 HK1 HF1
      clear hW1 hs1
      go_wp2
      go_loopg [8] us.length (fun gk v8 wr => ∃ (i : Nat) (vW vL : Value), v8 = .int .i64 (i : Int) ∧ gk = us.length - i ∧ i ≤ us.length ∧ Hid (TkS W B b (n0 + us.length) vW0 vL0 vs0 us cs wr vW vL (vs0 ++ us.take i) (ls0 ++ cs.take i)))
      case atStart => exact ⟨0, vW0, vL0, rfl, rfl, by omega, unhide HS0⟩
      case round =>
        obtain ⟨i, vW, vL, rfl, hgk, hi, HS⟩ := hrel
        have Hgk := hide hgk
        clear hgk HS0
        have lenL : (vs0 ++ us.take i).length = n0 + i := by rw [List.length_append, List.length_take, unhide Hn0]; omega
        have lenW : (ls0 ++ cs.take i).length = n0 + i := by rw [List.length_append, List.length_take, unhide Hln, unhide Hn0]; have := unhide HCl; omega
        by_cases hlt : i < us.length
        · obtain ⟨gA, oA, rfl, hgA, hnI, hc⟩ := unhide H3 (by omega)
          obtain ⟨u, l, hu, hl, hB⟩ := (unhide HS).lb.at hlt
          obtain ⟨au, cu, rfl, -⟩ := bytes_shape hB
          have Hx : Hid (∀ w', Fr W w' (TkX b vW0 vL0 us) → w'.cell? ⟨gA, oA + i, none⟩ = some (.slice au l.length cu)) := fun w' hf => (World.cell?_of_block (a := ⟨gA, oA + i, none⟩) (hf.far gA hgA hnI)).trans (hc i _ hu)
          obtain ⟨y0, y1, y2, yf⟩ := (unhide HS).bk.cells
          have x0 := unhide Hx wr (unhide HS).fr
          have Hu := hide hu
          have Hl := hide hl
          have HB2 := hide hB
          have LenL := hide lenL
          have LenW := hide lenW
          have Hlt := hide hlt
          have j0 : (0 : Int) ≤ (i : Int) := Int.natCast_nonneg _
          have j1 : (i : Int) < (us.length : Int) := by omega
          have HSd : Hid (TkS W B b (n0 + us.length) vW0 vL0 vs0 us cs wr.drew vW vL (vs0 ++ us.take i) (ls0 ++ cs.take i)) := (unhide HS).up ⟨rfl, rfl, rfl, Nat.le_refl _, fun _ _ => rfl⟩
          have hbl : b < wr.drew.heap.size := (unhide HSd).bk.bl
          have hgl : gA < wr.drew.heap.size := Nat.lt_of_lt_of_le hgA (unhide HSd).fr.size
          have hBw : B ≤ wr.drew.heap.size := Nat.le_trans (unhide HBs) (unhide HSd).fr.size
          obtain ⟨aL, cL, rfl, -, -, -⟩ := own_form (unhide HS).bk.rl
          obtain ⟨aW, cW, rfl, -, -, -⟩ := own_form (unhide HS).bk.rw
          rw [lenL] at y2
          rw [lenW] at y1
          have HRL : Hid (wr.drew.ownsRow B 29 1 (.slice aL (n0 + i) cL) (n0 + i) (vs0 ++ us.take i)) := by have := (unhide HSd).bk.rl; rw [lenL] at this; exact this
          have hbA : Below wr.drew.heap.size wr.drew (wr.drew.alloc (.cells #[.slice au l.length cu] 29)) := (Below.refl _ _).alloc (Nat.le_refl _) _
          have HN13 : Hid (∀ g3 c3 w3, w3.ownsRow B 29 1 (.slice (some ⟨g3, 0, none⟩) (n0 + i + 1) c3) (n0 + i + 1) (vs0 ++ us.take i ++ [.slice au l.length cu]) → (wr.drew.alloc (.cells #[.slice au l.length cu] 29)).grownBy w3 (Value.slice aL (n0 + i) cL).ownBlock → ((Value.slice aL (n0 + i) cL).ownBlock = some g3 ∨ (wr.drew.alloc (.cells #[.slice au l.length cu] 29)).heap.size ≤ g3) →
              Hid (TkS W B b (n0 + us.length) vW0 vL0 vs0 us cs (w3.setCell ⟨b, 2, none⟩ (.slice (some ⟨g3, 0, none⟩) (n0 + i + 1) c3)) (.slice aW (n0 + i) cW) (.slice (some ⟨g3, 0, none⟩) (n0 + i + 1) c3) (vs0 ++ us.take (i + 1)) (ls0 ++ cs.take i)) ∧ w3.cell? ⟨b, 2, none⟩ = some (.slice aL (n0 + i) cL) ∧ w3.frozen? ⟨b, 2, none⟩ = false ∧ w3.cell? ⟨gA, oA + i, none⟩ = some (.slice au l.length cu)) := fun g3 c3 w3 q1 q2 q3 => by
            have hS := unhide HSd
            rw [lenL, lenW] at hS
            have al := hS.bk.al
            have e3 : w3.heap[b]? = wr.drew.heap[b]? := (q2.block b (by rw [World.size_alloc]; omega) (fun e => al e.symm)).trans (Below.heap_alloc _ _ b hbl)
            have hng : (Value.slice aL (n0 + i) cL).ownBlock ≠ some gA := fun e => by
              rcases hS.nl gA e with k | k
              · exact hnI (.inr (.inr (.inl k)))
              · omega
            have e4 : w3.heap[gA]? = wr.drew.heap[gA]? := (q2.block gA (by rw [World.size_alloc]; omega) (fun e => hng e.symm)).trans (Below.heap_alloc _ _ gA hgl)
            have htk : us.take (i + 1) = us.take i ++ [.slice au l.length cu] := by rw [List.take_add_one, hu]; rfl
            refine ⟨?_, (World.cell?_of_block (a := ⟨b, 2, none⟩) e3).trans y2, frozen_of_row _ _ _ _ _ (e3.trans hS.bk.blk), (World.cell?_of_block (a := ⟨gA, oA + i, none⟩) e4).trans x0⟩
            rw [htk, ← List.append_assoc]
            refine hS.pushL (by rw [lenL, lenW]; exact Nat.le_refl _) (by rw [lenL]; exact q1) q2 (q3.elim (fun e => .inl e.symm) (fun e => .inr ⟨g3, rfl, e⟩)) rfl (fun q hq => ?_)
            obtain ⟨k, x, hx, ex⟩ := hq
            have hk0 : k = 0 := by have := (List.getElem?_eq_some_iff.1 hx).1; simp at this; exact this
            subst hk0
            obtain rfl : Value.slice au l.length cu = x := by simpa using hx
            have hin : InB us q := ⟨i, _, hu, ex⟩
            obtain ⟨k1, k2, k3, k4⟩ := hS.ub q hin
            exact ⟨Nat.lt_of_lt_of_le k1 hS.fr.size, .inl hin, k2, k3, k4⟩
          have HgA := hide hgA
          have HnI := hide hnI
          clear hc hgA hnI hu hl hB lenL lenW hlt HS HSd
          go_wp2
          refine wp_region_any (by kernel_rfl) (Zz.wpAny_of_Z (z := 13) (T := fun w => w.cell? ⟨b, 2, none⟩ = some (.slice aL (n0 + i) cL) ∧ w.cell? ⟨gA, oA + i, none⟩ = some (.slice au l.length cu)) _ _ _ _ ?_)
          have hT : (fun w : World => w.cell? ⟨b, 2, none⟩ = some (.slice aL (n0 + i) cL) ∧ w.cell? ⟨gA, oA + i, none⟩ = some (.slice au l.length cu)) wr.drew := ⟨y2, x0⟩
          refine Zz.wpAnyZ_tk 0 (.pointer (some ⟨b, 0, none⟩)) 59 rfl rfl (Or.inl ⟨by rfl, fun w hw => by obtain ⟨hw0, hw1⟩ := hw; go_simp⟩) hT ?_
          simp only [Act.put, List.setIfInBounds_toArray, List.set_cons_zero, List.set_cons_succ]
          refine Zz.wpAnyZ_tk 1 (.pointer (some ⟨b, 0, none⟩)) 60 rfl rfl (Or.inl ⟨by rfl, fun w hw => by obtain ⟨hw0, hw1⟩ := hw; go_simp⟩) hT ?_
          simp only [Act.put, List.setIfInBounds_toArray, List.set_cons_zero, List.set_cons_succ]
          refine Zz.wpAnyZ_tk 2 (.pointer (some ⟨b, 0, none⟩)) 61 rfl rfl (Or.inl ⟨by rfl, fun w hw => by obtain ⟨hw0, hw1⟩ := hw; go_simp⟩) hT ?_
          simp only [Act.put, List.setIfInBounds_toArray, List.set_cons_zero, List.set_cons_succ]
          refine Zz.wpAnyZ_tk 3 (.pointer (some ⟨b, 2, none⟩)) 62 rfl rfl (Or.inl ⟨by rfl, fun w hw => by obtain ⟨hw0, hw1⟩ := hw; go_simp⟩) hT ?_
          simp only [Act.put, List.setIfInBounds_toArray, List.set_cons_zero, List.set_cons_succ]
          refine Zz.wpAnyZ_tk 4 (.slice aL (n0 + i) cL) 63 rfl rfl (Or.inl ⟨by rfl, fun w hw => by obtain ⟨hw0, hw1⟩ := hw; go_simp⟩) hT ?_
          simp only [Act.put, List.setIfInBounds_toArray, List.set_cons_zero, List.set_cons_succ]
          refine Zz.wpAnyZ_tk 5 (.slice (some ⟨gA, oA, none⟩) us.length c) 64 rfl rfl (Or.inl ⟨by rfl, fun w hw => by obtain ⟨hw0, hw1⟩ := hw; go_simp⟩) hT ?_
          simp only [Act.put, List.setIfInBounds_toArray, List.set_cons_zero, List.set_cons_succ]
          refine Zz.wpAnyZ_tk 6 (.int .i64 (i : Int)) 65 rfl rfl (Or.inl ⟨by rfl, fun w hw => by obtain ⟨hw0, hw1⟩ := hw; go_simp⟩) hT ?_
          simp only [Act.put, List.setIfInBounds_toArray, List.set_cons_zero, List.set_cons_succ]
          refine Zz.wpAnyZ_tk 7 (.pointer (some ⟨gA, oA + i, none⟩)) 66 rfl rfl (Or.inl ⟨by rfl, fun w hw => by obtain ⟨hw0, hw1⟩ := hw; go_simp⟩) hT ?_
          simp only [Act.put, List.setIfInBounds_toArray, List.set_cons_zero, List.set_cons_succ]
          refine Zz.wpAnyZ_tk 8 (.slice au l.length cu) 67 rfl rfl (Or.inl ⟨by rfl, fun w hw => by obtain ⟨hw0, hw1⟩ := hw; go_simp⟩) hT ?_
          simp only [Act.put, List.setIfInBounds_toArray, List.set_cons_zero, List.set_cons_succ]
          refine Zz.wpAnyZ_one 9 (by kernel_rfl) rfl (fun KK hK => ?_)
          go_simp
          refine hK _ _ ⟨fun _ => ⟨(hbA.cell (p := ⟨b, 2, none⟩) hbl).trans y2, (hbA.cell (p := ⟨gA, oA + i, none⟩) hgl).trans x0⟩, ?_⟩
          clear hK KK
          refine Zz.wpAnyZ_one 10 (by kernel_rfl) rfl (fun KK hK => ?_)
          refine step_append_keeps 69 rfl rfl (.tmp 63) (.tmp 68) 22 rfl B 29 i1 (.slice none 0 0) 1 24 Tryd.underlying22 qi qz0 qz1 qz2 rfl (by decide) (.slice aL (n0 + i) cL) (n0 + i) (vs0 ++ us.take i) (by first | rfl | simp [Act.eval]) (World.ownsRow.alloc (unhide HRL) _) ⟨wr.drew.heap.size, 0, none⟩ 1 1 [.slice au l.length cu] (by first | rfl | simp [Act.eval]) (by rfl) (cell_one_new _ _ _) (by simp [Value.oneCell']) (by decide) (by unfold maxLen; omega) (by omega) (Nat.le_trans hBw hbA.size) ?_
          intro g3 c3 w3 hown hold hgrow hat
          obtain ⟨HS3, y23, f23, x03⟩ := unhide HN13 g3 c3 w3 hown hgrow hat
          clear hown hold hgrow hat
          refine hK _ _ ⟨fun _ => ⟨y23, x03⟩, ?_⟩
          clear hK KK
          refine Zz.wpAnyZ_one 11 (by kernel_rfl) rfl (fun KK hK => ?_)
          go_simp
          refine hK _ _ ⟨fun _ => ⟨y23, x03⟩, ?_⟩
          clear hK KK
          refine Zz.wpAnyZ_one 12 (by kernel_rfl) rfl (fun KK hK => ?_)
          go_simp
          refine hK _ _ ⟨fun _ => ⟨y23, x03⟩, ?_⟩
          clear hK KK
          refine Zz.wpAnyZ_one 13 (by kernel_rfl) rfl (fun KK hK => ?_)
          go_simp
          refine hK _ _ ⟨fun h => absurd rfl h, ?_⟩
          clear hK KK
          refine Zz.wpAnyZ_done (by kernel_rfl) ?_
          go_wp2
          obtain ⟨w4, hw4⟩ : ∃ w4, w4 = w3.setCell ⟨b, 2, none⟩ (.slice (some ⟨g3, 0, none⟩) (n0 + i + 1) c3) := ⟨_, rfl⟩
          rw [← hw4] at HS3 ⊢
          clear hw4 y23 f23 x03 y0 y1 y2 yf x0 hbl hgl hBw hbA HRL HN13 hT
          obtain ⟨-, z1, -, -⟩ := (unhide HS3).bk.cells
          have x04 := unhide Hx w4 (unhide HS3).fr
          have HSe : Hid (TkS W B b (n0 + us.length) vW0 vL0 vs0 us cs w4.drew (.slice aW (n0 + i) cW) (.slice (some ⟨g3, 0, none⟩) (n0 + i + 1) c3) (vs0 ++ us.take (i + 1)) (ls0 ++ cs.take i)) := (unhide HS3).up ⟨rfl, rfl, rfl, Nat.le_refl _, fun _ _ => rfl⟩
          have hbl4 : b < w4.drew.heap.size := (unhide HSe).bk.bl
          have hgl4 : gA < w4.drew.heap.size := Nat.lt_of_lt_of_le (unhide HgA) (unhide HSe).fr.size
          have HMk : Hid (∀ w, Calls Tryd.prog 37 #[.int .i64 ((n0 : Int) + (i : Int)), .int .i64 (l.length : Int)] w fun e w' => ∃ v, e = .returned v ∧ Bytes w.heap.size w' v (mkL (n0 + i) l.length) ∧ Below w.heap.size w w') := fun w => by
            have := marked_any w (n0 + i) l.length (by have := (unhide HMd i l (unhide Hl)).2; omega)
            rw [show ((n0 + i : Nat) : Int) = (n0 : Int) + (i : Int) by omega] at this
            exact this
          have hwr : IntKind.i64.wrap ((n0 : Int) + (i : Int)) = (n0 : Int) + (i : Int) := by rw [IntKind.wrap_i64]; omega
          have HM14 : Hid (∀ w5, Below w4.drew.heap.size w4.drew w5 → Below w5.heap.size w5 (w5.alloc (.cells #[.string (ofN (mkL (n0 + i) l.length))] 9)) ∧ (w5.alloc (.cells #[.string (ofN (mkL (n0 + i) l.length))] 9)).cell? ⟨b, 1, none⟩ = some (.slice aW (n0 + i) cW) ∧ (w5.alloc (.cells #[.string (ofN (mkL (n0 + i) l.length))] 9)).cell? ⟨gA, oA + i, none⟩ = some (.slice au l.length cu) ∧ B ≤ (w5.alloc (.cells #[.string (ofN (mkL (n0 + i) l.length))] 9)).heap.size ∧ Hid ((w5.alloc (.cells #[.string (ofN (mkL (n0 + i) l.length))] 9)).ownsRow B 9 1 (.slice aW (n0 + i) cW) (n0 + i) ((ls0 ++ cs.take i).map fun l => .string (ofN l)))) := fun w5 hb5 => by
            have hS := (unhide HSe).up hb5
            have hbA : Below w5.heap.size w5 (w5.alloc (.cells #[.string (ofN (mkL (n0 + i) l.length))] 9)) := (Below.refl _ _).alloc (Nat.le_refl _) _
            refine ⟨hbA, (hbA.cell (p := ⟨b, 1, none⟩) hS.bk.bl).trans ((hb5.cell (p := ⟨b, 1, none⟩) hbl4).trans z1), (hbA.cell (p := ⟨gA, oA + i, none⟩) (Nat.lt_of_lt_of_le hgl4 hb5.size)).trans ((hb5.cell (p := ⟨gA, oA + i, none⟩) hgl4).trans x04), Nat.le_trans (unhide HBs) (Nat.le_trans hS.fr.size hbA.size), ?_⟩
            have := hS.bk.rw
            rw [unhide LenW] at this
            exact World.ownsRow.alloc this _
          have HN14 : Hid (∀ w5, Below w4.drew.heap.size w4.drew w5 → ∀ g7 c7 w7, w7.ownsRow B 9 1 (.slice (some ⟨g7, 0, none⟩) (n0 + i + 1) c7) (n0 + i + 1) (((ls0 ++ cs.take i).map fun l => .string (ofN l)) ++ [.string (ofN (mkL (n0 + i) l.length))]) → (w5.alloc (.cells #[.string (ofN (mkL (n0 + i) l.length))] 9)).grownBy w7 (Value.slice aW (n0 + i) cW).ownBlock → ((Value.slice aW (n0 + i) cW).ownBlock = some g7 ∨ (w5.alloc (.cells #[.string (ofN (mkL (n0 + i) l.length))] 9)).heap.size ≤ g7) →
              Hid (TkS W B b (n0 + us.length) vW0 vL0 vs0 us cs (w7.setCell ⟨b, 1, none⟩ (.slice (some ⟨g7, 0, none⟩) (n0 + i + 1) c7)) (.slice (some ⟨g7, 0, none⟩) (n0 + i + 1) c7) (.slice (some ⟨g3, 0, none⟩) (n0 + i + 1) c3) (vs0 ++ us.take (i + 1)) (ls0 ++ cs.take (i + 1))) ∧ w7.cell? ⟨b, 1, none⟩ = some (.slice aW (n0 + i) cW) ∧ w7.frozen? ⟨b, 1, none⟩ = false ∧ w7.cell? ⟨gA, oA + i, none⟩ = some (.slice au l.length cu)) := fun w5 hb5 g7 c7 w7 q1 q2 q3 => by
            have hS := (unhide HSe).up hb5
            have aw := hS.bk.aw
            have bl5 := hS.bk.bl
            have gl5 := Nat.lt_of_lt_of_le hgl4 hb5.size
            have e3 : w7.heap[b]? = w5.heap[b]? := (q2.block b (by rw [World.size_alloc]; omega) (fun e => aw e.symm)).trans (Below.heap_alloc _ _ b bl5)
            have hng : (Value.slice aW (n0 + i) cW).ownBlock ≠ some gA := fun e => by
              rcases hS.nw gA e with k | k
              · exact unhide HnI (.inr (.inl k))
              · have := unhide HgA; omega
            have e4 : w7.heap[gA]? = w5.heap[gA]? := (q2.block gA (by rw [World.size_alloc]; omega) (fun e => hng e.symm)).trans (Below.heap_alloc _ _ gA gl5)
            obtain ⟨hm1, -⟩ := unhide HMd i l (unhide Hl)
            have htk : cs.take (i + 1) = cs.take i ++ [l] := by rw [List.take_add_one, unhide Hl]; rfl
            refine ⟨?_, (World.cell?_of_block (a := ⟨b, 1, none⟩) e3).trans ((hb5.cell (p := ⟨b, 1, none⟩) hbl4).trans z1), frozen_of_row _ _ _ _ _ (e3.trans hS.bk.blk), (World.cell?_of_block (a := ⟨gA, oA + i, none⟩) e4).trans ((hb5.cell (p := ⟨gA, oA + i, none⟩) hgl4).trans x04)⟩
            rw [htk, ← List.append_assoc]
            refine hS.pushW (by rw [unhide LenW, List.map_append]; rw [← hm1] at q1; exact q1) q2 (q3.elim (fun e => .inl e.symm) (fun e => .inr ⟨g7, rfl, e⟩)) rfl (fun k v x hx hv => ?_)
            have hk0 : k = 0 := by have := (List.getElem?_eq_some_iff.1 hx).1; simp at this; exact this
            subst hk0
            obtain rfl : l = x := by simpa using hx
            rw [unhide LenW, List.getElem?_append_right (by rw [unhide Hn0]; omega), unhide Hn0, show n0 + i + 0 - n0 = i by omega, List.getElem?_take, if_pos (by omega), unhide Hu] at hv
            obtain rfl := Option.some.inj hv
            exact ⟨(hS.lb.own i _ l (unhide Hu) (unhide Hl)).has, by rw [hm1]; exact mkL_byt _ _⟩
          clear HS3
          refine wp_region_any (by kernel_rfl) (Zz.wpAny_of_Z (z := 19) (T := fun w => w.cell? ⟨b, 1, none⟩ = some (.slice aW (n0 + i) cW) ∧ w.cell? ⟨gA, oA + i, none⟩ = some (.slice au l.length cu)) _ _ _ _ ?_)
          have hT : (fun w : World => w.cell? ⟨b, 1, none⟩ = some (.slice aW (n0 + i) cW) ∧ w.cell? ⟨gA, oA + i, none⟩ = some (.slice au l.length cu)) w4.drew := ⟨z1, x04⟩
          refine Zz.wpAnyZ_tk 0 (.pointer (some ⟨b, 0, none⟩)) 72 rfl rfl (Or.inl ⟨by rfl, fun w hw => by obtain ⟨hw0, hw1⟩ := hw; go_simp⟩) hT ?_
          simp only [Act.put, List.setIfInBounds_toArray, List.set_cons_zero, List.set_cons_succ]
          refine Zz.wpAnyZ_tk 1 (.pointer (some ⟨b, 0, none⟩)) 73 rfl rfl (Or.inl ⟨by rfl, fun w hw => by obtain ⟨hw0, hw1⟩ := hw; go_simp⟩) hT ?_
          simp only [Act.put, List.setIfInBounds_toArray, List.set_cons_zero, List.set_cons_succ]
          refine Zz.wpAnyZ_tk 2 (.pointer (some ⟨b, 0, none⟩)) 74 rfl rfl (Or.inl ⟨by rfl, fun w hw => by obtain ⟨hw0, hw1⟩ := hw; go_simp⟩) hT ?_
          simp only [Act.put, List.setIfInBounds_toArray, List.set_cons_zero, List.set_cons_succ]
          refine Zz.wpAnyZ_tk 3 (.pointer (some ⟨b, 1, none⟩)) 75 rfl rfl (Or.inl ⟨by rfl, fun w hw => by obtain ⟨hw0, hw1⟩ := hw; go_simp⟩) hT ?_
          simp only [Act.put, List.setIfInBounds_toArray, List.set_cons_zero, List.set_cons_succ]
          refine Zz.wpAnyZ_tk 4 (.slice aW (n0 + i) cW) 76 rfl rfl (Or.inl ⟨by rfl, fun w hw => by obtain ⟨hw0, hw1⟩ := hw; go_simp⟩) hT ?_
          simp only [Act.put, List.setIfInBounds_toArray, List.set_cons_zero, List.set_cons_succ]
          refine Zz.wpAnyZ_tk 5 (.int .i64 (n0 : Int)) 77 rfl rfl (Or.inl ⟨by rfl, fun w hw => by obtain ⟨hw0, hw1⟩ := hw; go_simp⟩) hT ?_
          simp only [Act.put, List.setIfInBounds_toArray, List.set_cons_zero, List.set_cons_succ]
          refine Zz.wpAnyZ_tk 6 (.int .i64 (i : Int)) 78 rfl rfl (Or.inl ⟨by rfl, fun w hw => by obtain ⟨hw0, hw1⟩ := hw; go_simp⟩) hT ?_
          simp only [Act.put, List.setIfInBounds_toArray, List.set_cons_zero, List.set_cons_succ]
          refine Zz.wpAnyZ_tk 7 (.int .i64 ((n0 : Int) + (i : Int))) 79 rfl rfl (Or.inl ⟨by rfl, fun w hw => by obtain ⟨hw0, hw1⟩ := hw; go_simp⟩) hT ?_
          simp only [Act.put, List.setIfInBounds_toArray, List.set_cons_zero, List.set_cons_succ]
          refine Zz.wpAnyZ_tk 8 (.slice (some ⟨gA, oA, none⟩) us.length c) 80 rfl rfl (Or.inl ⟨by rfl, fun w hw => by obtain ⟨hw0, hw1⟩ := hw; go_simp⟩) hT ?_
          simp only [Act.put, List.setIfInBounds_toArray, List.set_cons_zero, List.set_cons_succ]
          refine Zz.wpAnyZ_tk 9 (.int .i64 (i : Int)) 81 rfl rfl (Or.inl ⟨by rfl, fun w hw => by obtain ⟨hw0, hw1⟩ := hw; go_simp⟩) hT ?_
          simp only [Act.put, List.setIfInBounds_toArray, List.set_cons_zero, List.set_cons_succ]
          refine Zz.wpAnyZ_tk 10 (.pointer (some ⟨gA, oA + i, none⟩)) 82 rfl rfl (Or.inl ⟨by rfl, fun w hw => by obtain ⟨hw0, hw1⟩ := hw; go_simp⟩) hT ?_
          simp only [Act.put, List.setIfInBounds_toArray, List.set_cons_zero, List.set_cons_succ]
          refine Zz.wpAnyZ_tk 11 (.slice au l.length cu) 83 rfl rfl (Or.inl ⟨by rfl, fun w hw => by obtain ⟨hw0, hw1⟩ := hw; go_simp⟩) hT ?_
          simp only [Act.put, List.setIfInBounds_toArray, List.set_cons_zero, List.set_cons_succ]
          refine Zz.wpAnyZ_tk 12 (.int .i64 (l.length : Int)) 84 rfl rfl (Or.inl ⟨by rfl, fun w hw => by obtain ⟨hw0, hw1⟩ := hw; go_simp⟩) hT ?_
          simp only [Act.put, List.setIfInBounds_toArray, List.set_cons_zero, List.set_cons_succ]
          refine Zz.wpAnyZ_one 13 (by kernel_rfl) rfl (fun KK hK => ?_)
          refine Zz.step_callD 85 rfl rfl 37 (callMk _) #[.tmp 79, .tmp 84] #[3, 3] rfl #[.int .i64 ((n0 : Int) + (i : Int)), .int .i64 (l.length : Int)] (by first | rfl | simp [Act.eval]) (unhide HMk _) ?_
          rintro o5 w5 ⟨v5, rfl, hB5, hb5⟩
          refine ⟨_, rfl, ?_⟩
          obtain ⟨a5, c5, rfl, -⟩ := bytes_shape hB5
          rw [mkL_len] at hB5 ⊢
          have cv5 := conv_any hB5.has (mkL_byt _ _)
          have z15 := (hb5.cell (p := ⟨b, 1, none⟩) hbl4).trans z1
          have x05 := (hb5.cell (p := ⟨gA, oA + i, none⟩) hgl4).trans x04
          have Hb5 := hide hb5
          clear hB5 hb5
          refine hK _ _ ⟨fun _ => ⟨z15, x05⟩, ?_⟩
          clear hK KK
          refine Zz.wpAnyZ_one 14 (by kernel_rfl) rfl (fun KK hK => ?_)
          go_simp
          refine hK _ _ ⟨fun _ => ⟨z15, x05⟩, ?_⟩
          clear hK KK
          obtain ⟨hb6, z16, x06, hBw6, HRW6⟩ := unhide HM14 w5 (unhide Hb5)
          refine Zz.wpAnyZ_one 15 (by kernel_rfl) rfl (fun KK hK => ?_)
          go_simp
          refine hK _ _ ⟨fun _ => ⟨z16, x06⟩, ?_⟩
          clear hK KK
          refine Zz.wpAnyZ_one 16 (by kernel_rfl) rfl (fun KK hK => ?_)
          refine step_append_keeps 88 rfl rfl (.tmp 76) (.tmp 87) 25 rfl B 9 i2 (.string .empty) 1 16 Tryd.underlying25 ri rz0 rz1 rz2 rfl (by decide) (.slice aW (n0 + i) cW) (n0 + i) ((ls0 ++ cs.take i).map fun l => .string (ofN l)) (by first | rfl | simp [Act.eval]) (unhide HRW6) ⟨w5.heap.size, 0, none⟩ 1 1 [.string (ofN (mkL (n0 + i) l.length))] (by first | rfl | simp [Act.eval]) (by rfl) (cell_one_new _ _ _) (by simp [Value.oneCell']) (by decide) (by unfold maxLen; omega) (by omega) hBw6 ?_
          intro g7 c7 w7 hown hold hgrow hat
          obtain ⟨HS7, z17, f17, x07⟩ := unhide HN14 w5 (unhide Hb5) g7 c7 w7 hown hgrow hat
          clear hown hold hgrow hat hb6 z16 x06 hBw6 HRW6
          refine hK _ _ ⟨fun _ => ⟨z17, x07⟩, ?_⟩
          clear hK KK
          refine Zz.wpAnyZ_one 17 (by kernel_rfl) rfl (fun KK hK => ?_)
          go_simp
          refine hK _ _ ⟨fun _ => ⟨z17, x07⟩, ?_⟩
          clear hK KK
          refine Zz.wpAnyZ_one 18 (by kernel_rfl) rfl (fun KK hK => ?_)
          go_simp
          refine hK _ _ ⟨fun _ => ⟨z17, x07⟩, ?_⟩
          clear hK KK
          refine Zz.wpAnyZ_one 19 (by kernel_rfl) rfl (fun KK hK => ?_)
          go_simp
          refine hK _ _ ⟨fun h => absurd rfl h, ?_⟩
          clear hK KK
          refine Zz.wpAnyZ_done (by kernel_rfl) ?_
          clear cv5 z15 x05 Hb5 z17 f17 x07 HM14 HN14 HSe hbl4 hgl4 z1 x04 hT
          go_wp2
          go_roundg (us.length - (i + 1))
          case measure => have := unhide Hgk; have := unhide Hlt; omega
          case rel => exact ⟨i + 1, _, _, by go_num, rfl, unhide Hlt, HS7⟩
        · obtain rfl : i = us.length := by omega
          have HS1 : Hid (TkS W B b (n0 + us.length) vW0 vL0 vs0 us cs wr vW vL (vs0 ++ us) (ls0 ++ cs)) := by
            have := unhide HS
            rw [List.take_length, ← unhide HCl, List.take_length] at this
            rw [← unhide HCl]
            exact this
          have HSt := hide (still_any (unhide HS1).bk (by rw [List.length_append, List.length_append, unhide Hln, unhide HCl]) (by rw [List.length_append, unhide Hn0]; omega))
          clear HS lenL lenW hlt hi Hgk
          go_wp2_with fail
          refine (unhide HSt).mono ?_
          rintro e w5 ⟨rfl, m5, rfl⟩
          have HD0 : Hid (TkD W B b n0 vW0 vL0 vs0 us cs ls0 0 (wr.drewN m5) vW vL [] []) := TkD.start ((unhide HS1).up (below_drewN (Below.refl _ _) m5)) (unhide Hn0) ((unhide Hln).trans (unhide Hn0)) (fun q hq e => unhide HDis q hq (.inr (.inr (.inr e))))
          generalize wr.drewN m5 = w5 at HD0 ⊢
          clear HS1 HSt
          go_wp2
          go_loopg [9, 10, 11, 12] us.length (fun gk v9 _ _ _ wr => ∃ (i : Nat) (vW vL : Value) (gs : List Value) (hs : List (List Nat)), v9 = .int .i64 (i : Int) ∧ gk = us.length - i ∧ i ≤ us.length ∧ Hid (TkD W B b n0 vW0 vL0 vs0 us cs ls0 i wr vW vL gs hs))
          case atStart => exact ⟨0, vW, vL, [], [], rfl, rfl, by omega, unhide HD0⟩
          case round =>
            obtain ⟨i, vW, vL, gs, hs, rfl, hgk, hi, HD⟩ := hrel
            have Hgk := hide hgk
            clear hgk HD0
            obtain ⟨M, hM⟩ : ∃ M, n0 + us.length + 3 * i = M := ⟨_, rfl⟩
            have hMb : M ≤ 1073741824 := by omega
            have lenL : (vs0 ++ us ++ gs).length = M := by rw [List.length_append, List.length_append, (unhide HD).gl, unhide Hn0]; exact hM
            have lenW : (ls0 ++ cs ++ hs).length = M := by rw [List.length_append, List.length_append, (unhide HD).hl, unhide Hln, unhide Hn0, unhide HCl]; exact hM
            obtain ⟨aL, cL, hvL, -, -, -⟩ := own_form (unhide HD).s.bk.rl
            rw [lenL] at hvL
            subst hvL
            obtain ⟨aW, cW, hvW, -, -, -⟩ := own_form (unhide HD).s.bk.rw
            rw [lenW] at hvW
            subst hvW
            by_cases hlt : i < us.length
            · obtain ⟨gA, oA, rfl, hgA, hnI, hc⟩ := unhide H3 (by omega)
              have HS0 : Hid (W.heap.size ≤ wr.heap.size ∧ b < wr.heap.size ∧ (∀ q, (Value.slice aW M cW).ownBlock = some q → q < wr.heap.size) ∧ ∀ q, (Value.slice aL M cL).ownBlock = some q → q < wr.heap.size) := ⟨(unhide HD).s.fr.size, (unhide HD).s.bk.bl, fun q e => ((unhide HD).s.bk.rw.lt q e).2, fun q e => ((unhide HD).s.bk.rl.lt q e).2⟩
              obtain ⟨u, l, hu, hl, hB⟩ := (unhide HD).s.lb.at hlt
              obtain ⟨au, cu, rfl, -⟩ := bytes_shape hB
              have Hx : Hid (∀ w', Fr W w' (TkX b vW0 vL0 us) → w'.cell? ⟨gA, oA + i, none⟩ = some (.slice au l.length cu)) := fun w' hf => (World.cell?_of_block (a := ⟨gA, oA + i, none⟩) (hf.far gA hgA hnI)).trans (hc i _ hu)
              have x0 := unhide Hx wr (unhide HD).s.fr
              have y0 := (unhide HD).s.bk.cells.1
              rw [hM] at y0
              obtain ⟨hl1, hl2⟩ := unhide HMd i l hl
              have HlB : Hid (Byt l) := by show Byt l; rw [hl1]; exact mkL_byt _ _
              have Hu := hide hu
              have Hl := hide hl
              have HlL := hide hl2
              have Hlt := hide hlt
              have HDd : Hid (TkD W B b n0 vW0 vL0 vs0 us cs ls0 i wr.drew (.slice aW M cW) (.slice aL M cL) gs hs) := (unhide HD).up ⟨rfl, rfl, rfl, Nat.le_refl _, fun _ _ => rfl⟩
              have HSz : Hid (wr.heap.size ≤ wr.drew.heap.size) := Nat.le_refl _
              have HGr : Hid (∀ (w : World), TkD W B b n0 vW0 vL0 vs0 us cs ls0 i w (.slice aW M cW) (.slice aL M cL) gs hs → ∀ w5, Below w.heap.size w w5 → ∀ (k cnt : Nat) (v5 : Value), cnt ≤ 1000 → Bytes w.heap.size w5 v5 (mkL (M + k) cnt) → Calls Tryd.prog 38 #[.slice au l.length cu, v5] w5 fun e w' => ∃ a c, e = .returned (.slice a (l.length + (mkL (M + k) cnt).length) c) ∧ GrA w5 B (.slice au l.length cu) l (mkL (M + k) cnt) w' (.slice a (l.length + (mkL (M + k) cnt).length) c)) := fun w hD w5 hb5 k cnt v5 hcnt hB5 => by
                have hO := (hD.s.up hb5).lb.own i _ l (unhide Hu) (unhide Hl)
                refine grown_any hO (Nat.le_trans (unhide HBs) (hD.s.up hb5).fr.size) hB5.has (fun q e1 e2 => ?_) (unhide HlB) (mkL_byt _ _) (by have := unhide HlL; omega) (by rw [mkL_len]; omega)
                have h1 := (hB5.lt q e1).1
                have h2 := (World.ownsRow.lt (hD.s.lb.own i _ l (unhide Hu) (unhide Hl)) q e2).2
                omega
              have j0 : (0 : Int) ≤ (i : Int) := Int.natCast_nonneg _
              have j1 : (i : Int) < (us.length : Int) := by omega
              have wr1 : IntKind.i64.wrap ((M : Int) + 1) = (M : Int) + 1 := by rw [IntKind.wrap_i64]; omega
              have wr2 : IntKind.i64.wrap ((M : Int) + 2) = (M : Int) + 2 := by rw [IntKind.wrap_i64]; omega
              have wr3 : IntKind.i64.wrap ((M : Int) + 3) = (M : Int) + 3 := by rw [IntKind.wrap_i64]; omega
              clear hc hnI hu hl hB hl1 hl2 hlt
              go_wp2
              refine wp_region_any (by kernel_rfl) (Zz.wpAny_of_Z (z := 99) (T := fun w => w.cell? ⟨gA, oA + i, none⟩ = some (.slice au l.length cu) ∧ w.cell? ⟨b, 0, none⟩ = some (.int .i64 (M : Int))) _ _ _ _ ?_)
              have hT : (fun w : World => w.cell? ⟨gA, oA + i, none⟩ = some (.slice au l.length cu) ∧ w.cell? ⟨b, 0, none⟩ = some (.int .i64 (M : Int))) wr.drew := ⟨x0, y0⟩
              refine Zz.wpAnyZ_tk 0 (.slice (some ⟨gA, oA, none⟩) us.length c) 100 rfl rfl (Or.inl ⟨by rfl, fun w hw => by obtain ⟨hw0, hw1⟩ := hw; go_simp⟩) hT ?_
              simp only [Act.put, List.setIfInBounds_toArray, List.set_cons_zero, List.set_cons_succ]
              refine Zz.wpAnyZ_tk 1 (.int .i64 (i : Int)) 101 rfl rfl (Or.inl ⟨by rfl, fun w hw => by obtain ⟨hw0, hw1⟩ := hw; go_simp⟩) hT ?_
              simp only [Act.put, List.setIfInBounds_toArray, List.set_cons_zero, List.set_cons_succ]
              refine Zz.wpAnyZ_tk 2 (.pointer (some ⟨gA, oA + i, none⟩)) 102 rfl rfl (Or.inl ⟨by rfl, fun w hw => by obtain ⟨hw0, hw1⟩ := hw; go_simp⟩) hT ?_
              simp only [Act.put, List.setIfInBounds_toArray, List.set_cons_zero, List.set_cons_succ]
              refine Zz.wpAnyZ_tk 3 (.slice au l.length cu) 103 rfl rfl (Or.inl ⟨by rfl, fun w hw => by obtain ⟨hw0, hw1⟩ := hw; go_simp⟩) hT ?_
              simp only [Act.put, List.setIfInBounds_toArray, List.set_cons_zero, List.set_cons_succ]
              refine Zz.wpAnyZ_tk 4 (.pointer (some ⟨b, 0, none⟩)) 104 rfl rfl (Or.inl ⟨by rfl, fun w hw => by obtain ⟨hw0, hw1⟩ := hw; go_simp⟩) hT ?_
              simp only [Act.put, List.setIfInBounds_toArray, List.set_cons_zero, List.set_cons_succ]
              refine Zz.wpAnyZ_tk 5 (.pointer (some ⟨b, 0, none⟩)) 105 rfl rfl (Or.inl ⟨by rfl, fun w hw => by obtain ⟨hw0, hw1⟩ := hw; go_simp⟩) hT ?_
              simp only [Act.put, List.setIfInBounds_toArray, List.set_cons_zero, List.set_cons_succ]
              refine Zz.wpAnyZ_tk 6 (.pointer (some ⟨b, 0, none⟩)) 106 rfl rfl (Or.inl ⟨by rfl, fun w hw => by obtain ⟨hw0, hw1⟩ := hw; go_simp⟩) hT ?_
              simp only [Act.put, List.setIfInBounds_toArray, List.set_cons_zero, List.set_cons_succ]
              refine Zz.wpAnyZ_tk 7 (.int .i64 (M : Int)) 107 rfl rfl (Or.inl ⟨by rfl, fun w hw => by obtain ⟨hw0, hw1⟩ := hw; go_simp⟩) hT ?_
              simp only [Act.put, List.setIfInBounds_toArray, List.set_cons_zero, List.set_cons_succ]
              refine Zz.wpAnyZ_tk 8 (.int .i64 ((M : Int) + 1)) 108 rfl rfl (Or.inl ⟨by rfl, fun w hw => by obtain ⟨hw0, hw1⟩ := hw; go_simp⟩) hT ?_
              simp only [Act.put, List.setIfInBounds_toArray, List.set_cons_zero, List.set_cons_succ]
              refine Zz.wpAnyZ_one 9 (by kernel_rfl) rfl (fun KK hK => ?_)
              refine Zz.step_callD 109 rfl rfl 37 (callMk _) #[.tmp 108, .const (.int .i64 1)] #[3, 3] rfl #[.int .i64 ((M : Int) + 1), .int .i64 1] (by first | rfl | simp [Act.eval]) (marked_at _ M 1 1 _ _ (by omega) rfl (by omega)) ?_
              rintro o5 w5 ⟨v5, rfl, hB5, hb5⟩
              refine ⟨_, rfl, ?_⟩
              obtain ⟨a5, c5, rfl, -⟩ := bytes_shape hB5
              rw [mkL_len] at hB5 ⊢
              have x05 := (hb5.cell (p := ⟨gA, oA + i, none⟩) (Nat.lt_of_lt_of_le hgA (unhide HD).s.fr.size)).trans x0
              have y05 := (hb5.cell (p := ⟨b, 0, none⟩) (unhide HD).s.bk.bl).trans y0
              have HB5 := hide hB5
              have Hb5 := hide hb5
              clear hB5 hb5
              refine hK _ _ ⟨fun _ => ⟨x05, y05⟩, ?_⟩
              clear hK KK
              simp only [Act.put, List.setIfInBounds_toArray, List.set_cons_zero, List.set_cons_succ]
              refine Zz.wpAnyZ_one 10 (by kernel_rfl) rfl (fun KK hK => ?_)
              refine Zz.step_callD 110 rfl rfl 38 (callGr _) #[.tmp 103, .tmp 109] #[29, 29] rfl #[.slice au l.length cu, .slice a5 1 c5] (by first | rfl | simp [Act.eval]) (unhide HGr wr.drew (unhide HDd) w5 (unhide Hb5) 1 1 _ (by omega) (unhide HB5)) ?_
              rintro o6 wG1 ⟨aG1, cG1, rfl, hG6⟩
              refine ⟨_, rfl, ?_⟩
              obtain ⟨LG1, hLG⟩ : ∃ n, l.length + (mkL (M + 1) 1).length = n := ⟨_, rfl⟩
              rw [hLG] at hG6 ⊢
              clear hLG
              have hD6 := ((unhide HDd).up (unhide Hb5)).grow (unhide Hu) (unhide Hl) hG6
              have x06 := unhide Hx wG1 hD6.s.fr
              have y06 := hD6.s.bk.cells.1
              rw [hM] at y06
              have HP1 := hide (hG6.pn (S := wr.heap.size) (Nat.le_trans (unhide HSz) (unhide Hb5).size) (unhide HlB) (mkL_byt _ _))
              have HY6 := hide ((below_byr (unhide Hb5)).trans hG6.by_)
              have HZ6 := hide (Nat.le_trans (unhide Hb5).size hG6.size)
              have HD6 := hide hD6
              clear hD6 hG6 HB5 Hb5
              refine hK _ _ ⟨fun _ => ⟨x06, y06⟩, ?_⟩
              clear hK KK
              simp only [Act.put, List.setIfInBounds_toArray, List.set_cons_zero, List.set_cons_succ]
              clear hT x05 y05
              have hT := And.intro x06 y06
              refine Zz.wpAnyZ_tk 11 (.slice aG1 LG1 cG1) 10 rfl rfl (Or.inl ⟨by rfl, fun w hw => by obtain ⟨hw0, hw1⟩ := hw; go_simp⟩) hT ?_
              simp only [Act.put, List.setIfInBounds_toArray, List.set_cons_zero, List.set_cons_succ]
              refine Zz.wpAnyZ_done (by kernel_rfl) ?_
              clear hT x0 y0 HD HDd HY6
              have x0 := x06
              have y0 := y06
              have HD := HD6
              clear x06 y06 HD6
              have HDd : Hid (TkD W B b n0 vW0 vL0 vs0 us cs ls0 i wG1.drew (.slice aW M cW) (.slice aL M cL) gs hs) := (unhide HD).up ⟨rfl, rfl, rfl, Nat.le_refl _, fun _ _ => rfl⟩
              have HSy : Hid (wr.heap.size ≤ wG1.drew.heap.size) := Nat.le_trans (unhide HSz) (unhide HZ6)
              clear HSz HZ6
              have HSz := HSy
              clear HSy
              go_wp2
              refine wp_region_any (by kernel_rfl) (Zz.wpAny_of_Z (z := 99) (T := fun w => w.cell? ⟨gA, oA + i, none⟩ = some (.slice au l.length cu) ∧ w.cell? ⟨b, 0, none⟩ = some (.int .i64 (M : Int))) _ _ _ _ ?_)
              have hT : (fun w : World => w.cell? ⟨gA, oA + i, none⟩ = some (.slice au l.length cu) ∧ w.cell? ⟨b, 0, none⟩ = some (.int .i64 (M : Int))) wG1.drew := ⟨x0, y0⟩
              refine Zz.wpAnyZ_tk 0 (.slice (some ⟨gA, oA, none⟩) us.length c) 111 rfl rfl (Or.inl ⟨by rfl, fun w hw => by obtain ⟨hw0, hw1⟩ := hw; go_simp⟩) hT ?_
              simp only [Act.put, List.setIfInBounds_toArray, List.set_cons_zero, List.set_cons_succ]
              refine Zz.wpAnyZ_tk 1 (.int .i64 (i : Int)) 112 rfl rfl (Or.inl ⟨by rfl, fun w hw => by obtain ⟨hw0, hw1⟩ := hw; go_simp⟩) hT ?_
              simp only [Act.put, List.setIfInBounds_toArray, List.set_cons_zero, List.set_cons_succ]
              refine Zz.wpAnyZ_tk 2 (.pointer (some ⟨gA, oA + i, none⟩)) 113 rfl rfl (Or.inl ⟨by rfl, fun w hw => by obtain ⟨hw0, hw1⟩ := hw; go_simp⟩) hT ?_
              simp only [Act.put, List.setIfInBounds_toArray, List.set_cons_zero, List.set_cons_succ]
              refine Zz.wpAnyZ_tk 3 (.slice au l.length cu) 114 rfl rfl (Or.inl ⟨by rfl, fun w hw => by obtain ⟨hw0, hw1⟩ := hw; go_simp⟩) hT ?_
              simp only [Act.put, List.setIfInBounds_toArray, List.set_cons_zero, List.set_cons_succ]
              refine Zz.wpAnyZ_tk 4 (.pointer (some ⟨b, 0, none⟩)) 115 rfl rfl (Or.inl ⟨by rfl, fun w hw => by obtain ⟨hw0, hw1⟩ := hw; go_simp⟩) hT ?_
              simp only [Act.put, List.setIfInBounds_toArray, List.set_cons_zero, List.set_cons_succ]
              refine Zz.wpAnyZ_tk 5 (.pointer (some ⟨b, 0, none⟩)) 116 rfl rfl (Or.inl ⟨by rfl, fun w hw => by obtain ⟨hw0, hw1⟩ := hw; go_simp⟩) hT ?_
              simp only [Act.put, List.setIfInBounds_toArray, List.set_cons_zero, List.set_cons_succ]
              refine Zz.wpAnyZ_tk 6 (.pointer (some ⟨b, 0, none⟩)) 117 rfl rfl (Or.inl ⟨by rfl, fun w hw => by obtain ⟨hw0, hw1⟩ := hw; go_simp⟩) hT ?_
              simp only [Act.put, List.setIfInBounds_toArray, List.set_cons_zero, List.set_cons_succ]
              refine Zz.wpAnyZ_tk 7 (.int .i64 (M : Int)) 118 rfl rfl (Or.inl ⟨by rfl, fun w hw => by obtain ⟨hw0, hw1⟩ := hw; go_simp⟩) hT ?_
              simp only [Act.put, List.setIfInBounds_toArray, List.set_cons_zero, List.set_cons_succ]
              refine Zz.wpAnyZ_tk 8 (.int .i64 ((M : Int) + 2)) 119 rfl rfl (Or.inl ⟨by rfl, fun w hw => by obtain ⟨hw0, hw1⟩ := hw; go_simp⟩) hT ?_
              simp only [Act.put, List.setIfInBounds_toArray, List.set_cons_zero, List.set_cons_succ]
              refine Zz.wpAnyZ_one 9 (by kernel_rfl) rfl (fun KK hK => ?_)
              refine Zz.step_callD 120 rfl rfl 37 (callMk _) #[.tmp 119, .const (.int .i64 70)] #[3, 3] rfl #[.int .i64 ((M : Int) + 2), .int .i64 70] (by first | rfl | simp [Act.eval]) (marked_at _ M 2 70 _ _ (by omega) rfl (by omega)) ?_
              rintro o5 w5 ⟨v5, rfl, hB5, hb5⟩
              refine ⟨_, rfl, ?_⟩
              obtain ⟨a5, c5, rfl, -⟩ := bytes_shape hB5
              rw [mkL_len] at hB5 ⊢
              have x05 := (hb5.cell (p := ⟨gA, oA + i, none⟩) (Nat.lt_of_lt_of_le hgA (unhide HD).s.fr.size)).trans x0
              have y05 := (hb5.cell (p := ⟨b, 0, none⟩) (unhide HD).s.bk.bl).trans y0
              have HB5 := hide hB5
              have Hb5 := hide hb5
              clear hB5 hb5
              refine hK _ _ ⟨fun _ => ⟨x05, y05⟩, ?_⟩
              clear hK KK
              simp only [Act.put, List.setIfInBounds_toArray, List.set_cons_zero, List.set_cons_succ]
              refine Zz.wpAnyZ_one 10 (by kernel_rfl) rfl (fun KK hK => ?_)
              refine Zz.step_callD 121 rfl rfl 38 (callGr _) #[.tmp 114, .tmp 120] #[29, 29] rfl #[.slice au l.length cu, .slice a5 70 c5] (by first | rfl | simp [Act.eval]) (unhide HGr wG1.drew (unhide HDd) w5 (unhide Hb5) 2 70 _ (by omega) (unhide HB5)) ?_
              rintro o6 wG2 ⟨aG2, cG2, rfl, hG6⟩
              refine ⟨_, rfl, ?_⟩
              obtain ⟨LG2, hLG⟩ : ∃ n, l.length + (mkL (M + 2) 70).length = n := ⟨_, rfl⟩
              rw [hLG] at hG6 ⊢
              clear hLG
              have hD6 := ((unhide HDd).up (unhide Hb5)).grow (unhide Hu) (unhide Hl) hG6
              have x06 := unhide Hx wG2 hD6.s.fr
              have y06 := hD6.s.bk.cells.1
              rw [hM] at y06
              have HP2 := hide (hG6.pn (S := wr.heap.size) (Nat.le_trans (unhide HSz) (unhide Hb5).size) (unhide HlB) (mkL_byt _ _))
              have HY6 := hide ((below_byr (unhide Hb5)).trans hG6.by_)
              have HZ6 := hide (Nat.le_trans (unhide Hb5).size hG6.size)
              have HQ1 := hide ((unhide HP1).byr (unhide HY6) (unhide HZ6))
              clear HP1
              have HP1 := HQ1
              clear HQ1
              have HD6 := hide hD6
              clear hD6 hG6 HB5 Hb5
              refine hK _ _ ⟨fun _ => ⟨x06, y06⟩, ?_⟩
              clear hK KK
              simp only [Act.put, List.setIfInBounds_toArray, List.set_cons_zero, List.set_cons_succ]
              clear hT x05 y05
              have hT := And.intro x06 y06
              refine Zz.wpAnyZ_tk 11 (.slice aG2 LG2 cG2) 11 rfl rfl (Or.inl ⟨by rfl, fun w hw => by obtain ⟨hw0, hw1⟩ := hw; go_simp⟩) hT ?_
              simp only [Act.put, List.setIfInBounds_toArray, List.set_cons_zero, List.set_cons_succ]
              refine Zz.wpAnyZ_done (by kernel_rfl) ?_
              clear hT x0 y0 HD HDd HY6
              have x0 := x06
              have y0 := y06
              have HD := HD6
              clear x06 y06 HD6
              have HDd : Hid (TkD W B b n0 vW0 vL0 vs0 us cs ls0 i wG2.drew (.slice aW M cW) (.slice aL M cL) gs hs) := (unhide HD).up ⟨rfl, rfl, rfl, Nat.le_refl _, fun _ _ => rfl⟩
              have HSy : Hid (wr.heap.size ≤ wG2.drew.heap.size) := Nat.le_trans (unhide HSz) (unhide HZ6)
              clear HSz HZ6
              have HSz := HSy
              clear HSy
              go_wp2
              refine wp_region_any (by kernel_rfl) (Zz.wpAny_of_Z (z := 99) (T := fun w => w.cell? ⟨gA, oA + i, none⟩ = some (.slice au l.length cu) ∧ w.cell? ⟨b, 0, none⟩ = some (.int .i64 (M : Int))) _ _ _ _ ?_)
              have hT : (fun w : World => w.cell? ⟨gA, oA + i, none⟩ = some (.slice au l.length cu) ∧ w.cell? ⟨b, 0, none⟩ = some (.int .i64 (M : Int))) wG2.drew := ⟨x0, y0⟩
              refine Zz.wpAnyZ_tk 0 (.slice (some ⟨gA, oA, none⟩) us.length c) 122 rfl rfl (Or.inl ⟨by rfl, fun w hw => by obtain ⟨hw0, hw1⟩ := hw; go_simp⟩) hT ?_
              simp only [Act.put, List.setIfInBounds_toArray, List.set_cons_zero, List.set_cons_succ]
              refine Zz.wpAnyZ_tk 1 (.int .i64 (i : Int)) 123 rfl rfl (Or.inl ⟨by rfl, fun w hw => by obtain ⟨hw0, hw1⟩ := hw; go_simp⟩) hT ?_
              simp only [Act.put, List.setIfInBounds_toArray, List.set_cons_zero, List.set_cons_succ]
              refine Zz.wpAnyZ_tk 2 (.pointer (some ⟨gA, oA + i, none⟩)) 124 rfl rfl (Or.inl ⟨by rfl, fun w hw => by obtain ⟨hw0, hw1⟩ := hw; go_simp⟩) hT ?_
              simp only [Act.put, List.setIfInBounds_toArray, List.set_cons_zero, List.set_cons_succ]
              refine Zz.wpAnyZ_tk 3 (.slice au l.length cu) 125 rfl rfl (Or.inl ⟨by rfl, fun w hw => by obtain ⟨hw0, hw1⟩ := hw; go_simp⟩) hT ?_
              simp only [Act.put, List.setIfInBounds_toArray, List.set_cons_zero, List.set_cons_succ]
              refine Zz.wpAnyZ_tk 4 (.pointer (some ⟨b, 0, none⟩)) 126 rfl rfl (Or.inl ⟨by rfl, fun w hw => by obtain ⟨hw0, hw1⟩ := hw; go_simp⟩) hT ?_
              simp only [Act.put, List.setIfInBounds_toArray, List.set_cons_zero, List.set_cons_succ]
              refine Zz.wpAnyZ_tk 5 (.pointer (some ⟨b, 0, none⟩)) 127 rfl rfl (Or.inl ⟨by rfl, fun w hw => by obtain ⟨hw0, hw1⟩ := hw; go_simp⟩) hT ?_
              simp only [Act.put, List.setIfInBounds_toArray, List.set_cons_zero, List.set_cons_succ]
              refine Zz.wpAnyZ_tk 6 (.pointer (some ⟨b, 0, none⟩)) 128 rfl rfl (Or.inl ⟨by rfl, fun w hw => by obtain ⟨hw0, hw1⟩ := hw; go_simp⟩) hT ?_
              simp only [Act.put, List.setIfInBounds_toArray, List.set_cons_zero, List.set_cons_succ]
              refine Zz.wpAnyZ_tk 7 (.int .i64 (M : Int)) 129 rfl rfl (Or.inl ⟨by rfl, fun w hw => by obtain ⟨hw0, hw1⟩ := hw; go_simp⟩) hT ?_
              simp only [Act.put, List.setIfInBounds_toArray, List.set_cons_zero, List.set_cons_succ]
              refine Zz.wpAnyZ_tk 8 (.int .i64 ((M : Int) + 3)) 130 rfl rfl (Or.inl ⟨by rfl, fun w hw => by obtain ⟨hw0, hw1⟩ := hw; go_simp⟩) hT ?_
              simp only [Act.put, List.setIfInBounds_toArray, List.set_cons_zero, List.set_cons_succ]
              refine Zz.wpAnyZ_one 9 (by kernel_rfl) rfl (fun KK hK => ?_)
              refine Zz.step_callD 131 rfl rfl 37 (callMk _) #[.tmp 130, .const (.int .i64 900)] #[3, 3] rfl #[.int .i64 ((M : Int) + 3), .int .i64 900] (by first | rfl | simp [Act.eval]) (marked_at _ M 3 900 _ _ (by omega) rfl (by omega)) ?_
              rintro o5 w5 ⟨v5, rfl, hB5, hb5⟩
              refine ⟨_, rfl, ?_⟩
              obtain ⟨a5, c5, rfl, -⟩ := bytes_shape hB5
              rw [mkL_len] at hB5 ⊢
              have x05 := (hb5.cell (p := ⟨gA, oA + i, none⟩) (Nat.lt_of_lt_of_le hgA (unhide HD).s.fr.size)).trans x0
              have y05 := (hb5.cell (p := ⟨b, 0, none⟩) (unhide HD).s.bk.bl).trans y0
              have HB5 := hide hB5
              have Hb5 := hide hb5
              clear hB5 hb5
              refine hK _ _ ⟨fun _ => ⟨x05, y05⟩, ?_⟩
              clear hK KK
              simp only [Act.put, List.setIfInBounds_toArray, List.set_cons_zero, List.set_cons_succ]
              refine Zz.wpAnyZ_one 10 (by kernel_rfl) rfl (fun KK hK => ?_)
              refine Zz.step_callD 132 rfl rfl 38 (callGr _) #[.tmp 125, .tmp 131] #[29, 29] rfl #[.slice au l.length cu, .slice a5 900 c5] (by first | rfl | simp [Act.eval]) (unhide HGr wG2.drew (unhide HDd) w5 (unhide Hb5) 3 900 _ (by omega) (unhide HB5)) ?_
              rintro o6 wG3 ⟨aG3, cG3, rfl, hG6⟩
              refine ⟨_, rfl, ?_⟩
              obtain ⟨LG3, hLG⟩ : ∃ n, l.length + (mkL (M + 3) 900).length = n := ⟨_, rfl⟩
              rw [hLG] at hG6 ⊢
              clear hLG
              have hD6 := ((unhide HDd).up (unhide Hb5)).grow (unhide Hu) (unhide Hl) hG6
              have x06 := unhide Hx wG3 hD6.s.fr
              have y06 := hD6.s.bk.cells.1
              rw [hM] at y06
              have HP3 := hide (hG6.pn (S := wr.heap.size) (Nat.le_trans (unhide HSz) (unhide Hb5).size) (unhide HlB) (mkL_byt _ _))
              have HY6 := hide ((below_byr (unhide Hb5)).trans hG6.by_)
              have HZ6 := hide (Nat.le_trans (unhide Hb5).size hG6.size)
              have HQ1 := hide ((unhide HP1).byr (unhide HY6) (unhide HZ6))
              clear HP1
              have HP1 := HQ1
              clear HQ1
              have HQ2 := hide ((unhide HP2).byr (unhide HY6) (unhide HZ6))
              clear HP2
              have HP2 := HQ2
              clear HQ2
              have HD6 := hide hD6
              clear hD6 hG6 HB5 Hb5
              refine hK _ _ ⟨fun _ => ⟨x06, y06⟩, ?_⟩
              clear hK KK
              simp only [Act.put, List.setIfInBounds_toArray, List.set_cons_zero, List.set_cons_succ]
              clear hT x05 y05
              have hT := And.intro x06 y06
              refine Zz.wpAnyZ_tk 11 (.slice aG3 LG3 cG3) 12 rfl rfl (Or.inl ⟨by rfl, fun w hw => by obtain ⟨hw0, hw1⟩ := hw; go_simp⟩) hT ?_
              simp only [Act.put, List.setIfInBounds_toArray, List.set_cons_zero, List.set_cons_succ]
              refine Zz.wpAnyZ_done (by kernel_rfl) ?_
              clear hT x0 y0 HD HDd HY6
              have x0 := x06
              have y0 := y06
              have HD := HD6
              clear x06 y06 HD6
              have HDd : Hid (TkD W B b n0 vW0 vL0 vs0 us cs ls0 i wG3.drew (.slice aW M cW) (.slice aL M cL) gs hs) := (unhide HD).up ⟨rfl, rfl, rfl, Nat.le_refl _, fun _ _ => rfl⟩
              have HSy : Hid (wr.heap.size ≤ wG3.drew.heap.size) := Nat.le_trans (unhide HSz) (unhide HZ6)
              clear HSz HZ6
              have HSz := HSy
              clear HSy
              clear HGr HDd HSz
              obtain ⟨-, -, -, yf⟩ := (unhide HD).s.bk.cells
              have f0 := yf 0
              go_upto_region 24 with fail
              obtain ⟨wN, hwN⟩ : ∃ wN, wN = wG3.setCell ⟨b, 0, none⟩ (.int .i64 ((M : Int) + 3)) := ⟨_, rfl⟩
              rw [← hwN]
              have HOk : Hid (∀ g, PnB (.slice au l.length cu) wr.heap.size wG3 g → ∀ q, g.ownBlock = some q → q < wG3.heap.size ∧ (InB us q ∨ W.heap.size ≤ q) ∧ q ≠ b ∧ (Value.slice aW M cW).ownBlock ≠ some q ∧ (Value.slice aL M cL).ownBlock ≠ some q) := fun g hg => hg.ok (unhide HD).s (unhide Hu) (unhide HS0).1 (unhide HS0).2.1 (unhide HS0).2.2.1 (unhide HS0).2.2.2
              have HPn : Hid (∀ g, PnB (.slice au l.length cu) wr.heap.size wG3 g → PnB (.slice au l.length cu) wr.heap.size wN g) := fun g hg => by
                rw [hwN]
                exact hg.stays (by rw [World.size_setCell]; exact Nat.le_refl _) (fun q e _ => heap_setCell_other wG3 ⟨b, 0, none⟩ q _ (unhide HOk g hg q e).2.2.1)
              have HSn : Hid (TkS W B b (M + 3) vW0 vL0 vs0 us cs wN (.slice aW M cW) (.slice aL M cL) (vs0 ++ us ++ gs) (ls0 ++ cs ++ hs)) := by
                rw [hwN]
                exact (unhide HD).s.setN (M + 3)
              have hsN : wN.heap.size = wG3.heap.size := by rw [hwN, World.size_setCell]
              clear hwN y0 f0 yf x0
              obtain ⟨-, -, y2, -⟩ := (unhide HSn).bk.cells
              have hbl := (unhide HSn).bk.bl
              have hBw : B ≤ wN.heap.size := Nat.le_trans (unhide HBs) (unhide HSn).fr.size
              have HRL : Hid (wN.ownsRow B 29 1 (.slice aL M cL) M (vs0 ++ us ++ gs)) := by have := (unhide HSn).bk.rl; rw [lenL] at this; exact this
              have HN24 : Hid (∀ gL cL' w8, w8.ownsRow B 29 1 (.slice (some ⟨gL, 0, none⟩) (M + 3) cL') (M + 3) (vs0 ++ us ++ gs ++ [.slice aG1 LG1 cG1, .slice aG2 LG2 cG2, .slice aG3 LG3 cG3]) → (wN.alloc (.cells #[.slice aG1 LG1 cG1, .slice aG2 LG2 cG2, .slice aG3 LG3 cG3] 29)).grownBy w8 (Value.slice aL M cL).ownBlock → ((Value.slice aL M cL).ownBlock = some gL ∨ (wN.alloc (.cells #[.slice aG1 LG1 cG1, .slice aG2 LG2 cG2, .slice aG3 LG3 cG3] 29)).heap.size ≤ gL) →
                  Hid (TkS W B b (M + 3) vW0 vL0 vs0 us cs (w8.setCell ⟨b, 2, none⟩ (.slice (some ⟨gL, 0, none⟩) (M + 3) cL')) (.slice aW M cW) (.slice (some ⟨gL, 0, none⟩) (M + 3) cL') (vs0 ++ us ++ gs ++ [.slice aG1 LG1 cG1, .slice aG2 LG2 cG2, .slice aG3 LG3 cG3]) (ls0 ++ cs ++ hs)) ∧ w8.cell? ⟨b, 2, none⟩ = some (.slice aL M cL) ∧ w8.frozen? ⟨b, 2, none⟩ = false ∧ Hid (∀ g, PnB (.slice au l.length cu) wr.heap.size wG3 g → PnB (.slice au l.length cu) wr.heap.size (w8.setCell ⟨b, 2, none⟩ (.slice (some ⟨gL, 0, none⟩) (M + 3) cL')) g)) := fun gL cL' w8 q1 q2 q3 => by
                have hS := unhide HSn
                have s8 := q2.size
                rw [World.size_alloc] at s8
                have key : ∀ q, q < wN.heap.size → (Value.slice aL M cL).ownBlock ≠ some q → w8.heap[q]? = wN.heap[q]? := fun q hq hn => (q2.block q (by rw [World.size_alloc]; omega) (fun e => hn e.symm)).trans (Below.heap_alloc _ _ q hq)
                have e3 := key b hbl hS.bk.al
                refine ⟨?_, (World.cell?_of_block (a := ⟨b, 2, none⟩) e3).trans y2, frozen_of_row _ _ _ _ _ (e3.trans hS.bk.blk), fun g hg => (unhide HPn g hg).stays (by rw [World.size_setCell]; omega) (fun q e hq => (heap_setCell_other w8 ⟨b, 2, none⟩ q _ (unhide HOk g hg q e).2.2.1).trans (key q hq (unhide HOk g hg q e).2.2.2.2))⟩
                refine hS.pushL (by rw [lenL, lenW]; exact Nat.le_refl _) (by rw [lenL]; exact q1) q2 (q3.elim (fun e => .inl e.symm) (fun e => .inr ⟨gL, rfl, e⟩)) rfl (fun q hq => ?_)
                obtain ⟨k, x, hx, ex⟩ := hq
                rw [hsN]
                match k, hx with
                | 0, hx => obtain rfl : Value.slice aG1 LG1 cG1 = x := by simpa using hx
                           exact unhide HOk _ (unhide HP1) q ex
                | 1, hx => obtain rfl : Value.slice aG2 LG2 cG2 = x := by simpa using hx
                           exact unhide HOk _ (unhide HP2) q ex
                | 2, hx => obtain rfl : Value.slice aG3 LG3 cG3 = x := by simpa using hx
                           exact unhide HOk _ (unhide HP3) q ex
              clear HPn
              go_wp2_with (at_builtin; refine wpList_append_keeps rfl _ _ 22 rfl B 29 i1 (.slice none 0 0) 1 24 Tryd.underlying22 qi qz0 qz1 qz2 rfl (by decide) (.slice aL M cL) M (vs0 ++ us ++ gs) (by first | rfl | simp [Act.eval]) ((unhide HRL).alloc _) ⟨wN.heap.size, 0, none⟩ 3 3 [.slice aG1 LG1 cG1, .slice aG2 LG2 cG2, .slice aG3 LG3 cG3] (by first | rfl | simp [Act.eval]) rfl (three_cells _ _ _ _ _) (by simp [Value.oneCell']) (by decide) (by unfold maxLen; omega) (by omega) (by rw [World.size_alloc]; omega) ?_; intro gL cL' w8 q1 q2 q3 q4 q5; obtain ⟨HS8, y28, f28, HP8⟩ := unhide HN24 gL cL' w8 q1 q3 q4; clear q1 q2 q3 q4 q5)
              obtain ⟨wL, hwL⟩ : ∃ wL, wL = w8.setCell ⟨b, 2, none⟩ (.slice (some ⟨gL, 0, none⟩) (M + 3) cL') := ⟨_, rfl⟩
              rw [← hwL] at HS8 HP8 ⊢
              clear hwL y28 f28 HN24 HRL y2 hbl hBw hsN HSn
              obtain ⟨⟨k1, hk1, kb1⟩, -⟩ := unhide HP8 _ (unhide HP1)
              obtain ⟨⟨k2, hk2, kb2⟩, -⟩ := unhide HP8 _ (unhide HP2)
              obtain ⟨⟨k3, hk3, kb3⟩, -⟩ := unhide HP8 _ (unhide HP3)
              have HCv : Hid (∀ w', Below wL.heap.size wL w' → (convert 29 9 (.slice aG1 LG1 cG1)).run Tryd.prog w' = .ok (.string (ofN k1)) w' ∧ (convert 29 9 (.slice aG2 LG2 cG2)).run Tryd.prog w' = .ok (.string (ofN k2)) w' ∧ (convert 29 9 (.slice aG3 LG3 cG3)).run Tryd.prog w' = .ok (.string (ofN k3)) w') := fun w' hb => ⟨conv_any (hk1.up hb) kb1, conv_any (hk2.up hb) kb2, conv_any (hk3.up hb) kb3⟩
              obtain ⟨-, z1, -, -⟩ := (unhide HS8).bk.cells
              have hbl : b < wL.drew.heap.size := (unhide HS8).bk.bl
              have hBw : B ≤ wL.drew.heap.size := Nat.le_trans (unhide HBs) (unhide HS8).fr.size
              have HRW : Hid (wL.drew.ownsRow B 9 1 (.slice aW M cW) M ((ls0 ++ cs ++ hs).map fun l => .string (ofN l))) := by have := ((unhide HS8).up (w' := wL.drew) ⟨rfl, rfl, rfl, Nat.le_refl _, fun _ _ => rfl⟩).bk.rw; rw [lenW] at this; exact this
              have hbA : Below wL.drew.heap.size wL.drew (wL.drew.alloc (.cells #[.string (ofN k1), .string (ofN k2), .string (ofN k3)] 9)) := (Below.refl _ _).alloc (Nat.le_refl _) _
              have hbB : Below wL.heap.size wL (wL.drew.alloc (.cells #[.string (ofN k1), .string (ofN k2), .string (ofN k3)] 9)) := ⟨hbA.os, hbA.tape, hbA.output, hbA.size, fun q hq => hbA.block q hq⟩
              have HN25 : Hid (∀ g7 c7 w7, w7.ownsRow B 9 1 (.slice (some ⟨g7, 0, none⟩) (M + 3) c7) (M + 3) (((ls0 ++ cs ++ hs).map fun l => .string (ofN l)) ++ [.string (ofN k1), .string (ofN k2), .string (ofN k3)]) → (wL.drew.alloc (.cells #[.string (ofN k1), .string (ofN k2), .string (ofN k3)] 9)).grownBy w7 (Value.slice aW M cW).ownBlock → ((Value.slice aW M cW).ownBlock = some g7 ∨ (wL.drew.alloc (.cells #[.string (ofN k1), .string (ofN k2), .string (ofN k3)] 9)).heap.size ≤ g7) →
                  Hid (TkD W B b n0 vW0 vL0 vs0 us cs ls0 (i + 1) (w7.setCell ⟨b, 1, none⟩ (.slice (some ⟨g7, 0, none⟩) (M + 3) c7)) (.slice (some ⟨g7, 0, none⟩) (M + 3) c7) (.slice (some ⟨gL, 0, none⟩) (M + 3) cL') (gs ++ [.slice aG1 LG1 cG1, .slice aG2 LG2 cG2, .slice aG3 LG3 cG3]) (hs ++ [k1, k2, k3])) ∧ w7.cell? ⟨b, 1, none⟩ = some (.slice aW M cW) ∧ w7.frozen? ⟨b, 1, none⟩ = false ∧ (convert 29 9 (.slice aG1 LG1 cG1)).run Tryd.prog w7 = .ok (.string (ofN k1)) w7 ∧ (convert 29 9 (.slice aG2 LG2 cG2)).run Tryd.prog w7 = .ok (.string (ofN k2)) w7 ∧ (convert 29 9 (.slice aG3 LG3 cG3)).run Tryd.prog w7 = .ok (.string (ofN k3)) w7) := fun g7 c7 w7 q1 q2 q3 => by
                have hS := (unhide HS8).up (w' := wL.drew) ⟨rfl, rfl, rfl, Nat.le_refl _, fun _ _ => rfl⟩
                have s7 := q2.size
                rw [World.size_alloc] at s7
                have key : ∀ q, q < wL.drew.heap.size → (Value.slice aW M cW).ownBlock ≠ some q → w7.heap[q]? = wL.drew.heap[q]? := fun q hq hn => (q2.block q (by rw [World.size_alloc]; omega) (fun e => hn e.symm)).trans (Below.heap_alloc _ _ q hq)
                have e3 := key b hbl hS.bk.aw
                have st : ∀ g k, PnB (.slice au l.length cu) wr.heap.size wG3 g → HasB wL g k → HasB w7 g k := fun g k hg hk => HasB.stays (W := wL.drew) (hk.up ⟨rfl, rfl, rfl, Nat.le_refl _, fun _ _ => rfl⟩) (by omega) (fun q e hq => key q hq (unhide HOk g hg q e).2.2.2.1)
                refine ⟨?_, (World.cell?_of_block (a := ⟨b, 1, none⟩) e3).trans z1, frozen_of_row _ _ _ _ _ (e3.trans hS.bk.blk), conv_any (st _ _ (unhide HP1) hk1) kb1, conv_any (st _ _ (unhide HP2) hk2) kb2, conv_any (st _ _ (unhide HP3) hk3) kb3⟩
                have hm3 : n0 + us.length + 3 * (i + 1) = M + 3 := by omega
                refine (unhide HD).next (c1 := k1) (c2 := k2) (c3 := k3) (unhide Hu) (unhide HS0).1 (unhide HP1) (unhide HP2) (unhide HP3) ?_ (unhide Hn0) ((unhide Hln).trans (unhide Hn0))
                rw [hm3]
                refine hS.pushW (by rw [lenW, List.map_append]; exact q1) q2 (q3.elim (fun e => .inl e.symm) (fun e => .inr ⟨g7, rfl, e⟩)) rfl (fun k v x hx hv => ?_)
                rw [lenW, List.getElem?_append_right (by rw [lenL]; omega), lenL, Nat.add_sub_cancel_left] at hv
                match k, hx, hv with
                | 0, hx, hv => obtain rfl : k1 = x := by simpa using hx
                               obtain rfl : Value.slice aG1 LG1 cG1 = v := by simpa using hv
                               exact ⟨hk1, kb1⟩
                | 1, hx, hv => obtain rfl : k2 = x := by simpa using hx
                               obtain rfl : Value.slice aG2 LG2 cG2 = v := by simpa using hv
                               exact ⟨hk2, kb2⟩
                | 2, hx, hv => obtain rfl : k3 = x := by simpa using hx
                               obtain rfl : Value.slice aG3 LG3 cG3 = v := by simpa using hv
                               exact ⟨hk3, kb3⟩
              clear HS8 HP8 hk1 hk2 hk3 kb1 kb2 kb3 HP1 HP2 HP3 HOk HD
              refine wp_region_any (by kernel_rfl) (Zz.wpAny_of_Z (z := 15) (T := fun w => w.cell? ⟨b, 1, none⟩ = some (.slice aW M cW) ∧ (convert 29 9 (.slice aG1 LG1 cG1)).run Tryd.prog w = .ok (.string (ofN k1)) w ∧ (convert 29 9 (.slice aG2 LG2 cG2)).run Tryd.prog w = .ok (.string (ofN k2)) w ∧ (convert 29 9 (.slice aG3 LG3 cG3)).run Tryd.prog w = .ok (.string (ofN k3)) w) _ _ _ _ ?_)
              have hT : (fun w : World => w.cell? ⟨b, 1, none⟩ = some (.slice aW M cW) ∧ (convert 29 9 (.slice aG1 LG1 cG1)).run Tryd.prog w = .ok (.string (ofN k1)) w ∧ (convert 29 9 (.slice aG2 LG2 cG2)).run Tryd.prog w = .ok (.string (ofN k2)) w ∧ (convert 29 9 (.slice aG3 LG3 cG3)).run Tryd.prog w = .ok (.string (ofN k3)) w) wL.drew := ⟨z1, unhide HCv wL.drew ⟨rfl, rfl, rfl, Nat.le_refl _, fun _ _ => rfl⟩⟩
              refine Zz.wpAnyZ_tk 0 (.pointer (some ⟨b, 0, none⟩)) 153 rfl rfl (Or.inl ⟨by rfl, fun w hw => by obtain ⟨hw0, hw1, hw2, hw3⟩ := hw; go_simp⟩) hT ?_
              simp only [Act.put, List.setIfInBounds_toArray, List.set_cons_zero, List.set_cons_succ]
              refine Zz.wpAnyZ_tk 1 (.pointer (some ⟨b, 0, none⟩)) 154 rfl rfl (Or.inl ⟨by rfl, fun w hw => by obtain ⟨hw0, hw1, hw2, hw3⟩ := hw; go_simp⟩) hT ?_
              simp only [Act.put, List.setIfInBounds_toArray, List.set_cons_zero, List.set_cons_succ]
              refine Zz.wpAnyZ_tk 2 (.pointer (some ⟨b, 0, none⟩)) 155 rfl rfl (Or.inl ⟨by rfl, fun w hw => by obtain ⟨hw0, hw1, hw2, hw3⟩ := hw; go_simp⟩) hT ?_
              simp only [Act.put, List.setIfInBounds_toArray, List.set_cons_zero, List.set_cons_succ]
              refine Zz.wpAnyZ_tk 3 (.pointer (some ⟨b, 1, none⟩)) 156 rfl rfl (Or.inl ⟨by rfl, fun w hw => by obtain ⟨hw0, hw1, hw2, hw3⟩ := hw; go_simp⟩) hT ?_
              simp only [Act.put, List.setIfInBounds_toArray, List.set_cons_zero, List.set_cons_succ]
              refine Zz.wpAnyZ_tk 4 (.slice aW M cW) 157 rfl rfl (Or.inl ⟨by rfl, fun w hw => by obtain ⟨hw0, hw1, hw2, hw3⟩ := hw; go_simp⟩) hT ?_
              simp only [Act.put, List.setIfInBounds_toArray, List.set_cons_zero, List.set_cons_succ]
              refine Zz.wpAnyZ_tk 5 (.slice aG1 LG1 cG1) 158 rfl rfl (Or.inl ⟨by rfl, fun w hw => by obtain ⟨hw0, hw1, hw2, hw3⟩ := hw; go_simp⟩) hT ?_
              simp only [Act.put, List.setIfInBounds_toArray, List.set_cons_zero, List.set_cons_succ]
              refine Zz.wpAnyZ_tk 6 (.string (ofN k1)) 159 rfl rfl (Or.inl ⟨by rfl, fun w hw => by obtain ⟨hw0, hw1, hw2, hw3⟩ := hw; go_simp⟩) hT ?_
              simp only [Act.put, List.setIfInBounds_toArray, List.set_cons_zero, List.set_cons_succ]
              refine Zz.wpAnyZ_tk 7 (.slice aG2 LG2 cG2) 160 rfl rfl (Or.inl ⟨by rfl, fun w hw => by obtain ⟨hw0, hw1, hw2, hw3⟩ := hw; go_simp⟩) hT ?_
              simp only [Act.put, List.setIfInBounds_toArray, List.set_cons_zero, List.set_cons_succ]
              refine Zz.wpAnyZ_tk 8 (.string (ofN k2)) 161 rfl rfl (Or.inl ⟨by rfl, fun w hw => by obtain ⟨hw0, hw1, hw2, hw3⟩ := hw; go_simp⟩) hT ?_
              simp only [Act.put, List.setIfInBounds_toArray, List.set_cons_zero, List.set_cons_succ]
              refine Zz.wpAnyZ_tk 9 (.slice aG3 LG3 cG3) 162 rfl rfl (Or.inl ⟨by rfl, fun w hw => by obtain ⟨hw0, hw1, hw2, hw3⟩ := hw; go_simp⟩) hT ?_
              simp only [Act.put, List.setIfInBounds_toArray, List.set_cons_zero, List.set_cons_succ]
              refine Zz.wpAnyZ_tk 10 (.string (ofN k3)) 163 rfl rfl (Or.inl ⟨by rfl, fun w hw => by obtain ⟨hw0, hw1, hw2, hw3⟩ := hw; go_simp⟩) hT ?_
              simp only [Act.put, List.setIfInBounds_toArray, List.set_cons_zero, List.set_cons_succ]
              refine Zz.wpAnyZ_one 11 (by kernel_rfl) rfl (fun KK hK => ?_)
              go_simp
              refine hK _ _ ⟨fun _ => ⟨(hbA.cell (p := ⟨b, 1, none⟩) hbl).trans z1, unhide HCv _ hbB⟩, ?_⟩
              clear hK KK
              refine Zz.wpAnyZ_one 12 (by kernel_rfl) rfl (fun KK hK => ?_)
              refine step_append_keeps 165 rfl rfl (.tmp 157) (.tmp 164) 25 rfl B 9 i2 (.string .empty) 1 16 Tryd.underlying25 ri rz0 rz1 rz2 rfl (by decide) (.slice aW M cW) M ((ls0 ++ cs ++ hs).map fun l => .string (ofN l)) (by first | rfl | simp [Act.eval]) (World.ownsRow.alloc (unhide HRW) _) ⟨wL.drew.heap.size, 0, none⟩ 3 3 [.string (ofN k1), .string (ofN k2), .string (ofN k3)] (by first | rfl | simp [Act.eval]) (by rfl) (three_cells _ _ _ _ _) (by simp [Value.oneCell']) (by decide) (by unfold maxLen; omega) (by omega) (Nat.le_trans hBw hbA.size) ?_
              intro g7 c7 w7 hown hold hgrow hat
              obtain ⟨HD7, z17, f17, cv7⟩ := unhide HN25 g7 c7 w7 hown hgrow hat
              clear hown hold hgrow hat
              refine hK _ _ ⟨fun _ => ⟨z17, cv7⟩, ?_⟩
              clear hK KK
              refine Zz.wpAnyZ_one 13 (by kernel_rfl) rfl (fun KK hK => ?_)
              go_simp
              refine hK _ _ ⟨fun _ => ⟨z17, cv7⟩, ?_⟩
              clear hK KK
              refine Zz.wpAnyZ_one 14 (by kernel_rfl) rfl (fun KK hK => ?_)
              go_simp
              refine hK _ _ ⟨fun _ => ⟨z17, cv7⟩, ?_⟩
              clear hK KK
              refine Zz.wpAnyZ_one 15 (by kernel_rfl) rfl (fun KK hK => ?_)
              go_simp
              refine hK _ _ ⟨fun h => absurd rfl h, ?_⟩
              clear hK KK
              refine Zz.wpAnyZ_done (by kernel_rfl) ?_
              clear hT z1 z17 f17 cv7 HCv HRW hbA hbB HN25 hbl hBw
              go_wp2
              go_roundg (us.length - (i + 1))
              case measure => have := unhide Hgk; have := unhide Hlt; omega
              case rel => exact ⟨i + 1, _, _, _, _, by go_num, rfl, unhide Hlt, HD7⟩
            · obtain rfl : i = us.length := by omega
              have HSt := hide (still_any (unhide HD).s.bk (by rw [lenL, lenW]) (by rw [lenL]; omega))
              have HE : Hid (∀ m, ∃ vW vL vs ls ms, TkS W B b (n0 + 4 * us.length) vW0 vL0 vs0 us ms (wr.drewN m) vW vL vs ls ∧ vs.length = n0 + 4 * us.length ∧ ls.length = vs.length) := fun m => by
                have hS := (unhide HD).s.up (below_drewN (Below.refl _ _) m)
                have e4 : n0 + us.length + 3 * us.length = n0 + 4 * us.length := by omega
                rw [e4] at hS
                exact ⟨_, _, _, _, _, hS, by rw [lenL]; omega, by rw [lenL, lenW]⟩
              clear HD lenL lenW hlt hi Hgk
              go_wp2_with fail
              refine (unhide HSt).mono ?_
              rintro e w5 ⟨rfl, m5, rfl⟩
              go_wp2
              go_ret
              exact ⟨rfl, unhide HE m5⟩
end Go.Proofs.YtlblllghgdfpoaaDoor
