import Derived.Test.YtcmjlpfofcaekaaDoorSA
import Derived.Test.YtcmjlpfofcaekaaDoorJX0
import Derived.Deep.RegionHeld3

namespace Go.Proofs.YtcmjlpfofcaekaaDoor
open Go.RowKit Go.Lib
attribute [local go_sem ↓] Go.wp_at_zero Go.wp_at_succ

/-- What stands for a byte. -/
def jesc (c : Nat) : List Nat := if c = 34 ∨ c = 92 then [92, c] else if c = 8 then [92, 98] else if c = 12 then [92, 102] else if c = 10 then [92, 110] else if c = 13 then [92, 114] else if c = 9 then [92, 116] else if c < 32 then [92, 117, 48, 48, hexd (c / 16), hexd (c % 16)] else [c]
def jAll (l : List Nat) : List Nat := l.flatMap jesc
theorem wrapU8 {n : Int} (h0 : 0 ≤ n) (h1 : n < 256) : IntKind.u8.wrap n = n := by
  first
    | exact Int.emod_eq_of_lt h0 h1
    | (unfold IntKind.wrap; simp; omega)
theorem jesc_len (c : Nat) : (jesc c).length ≤ 6 := by
  unfold jesc
  repeat' split
  all_goals simp
theorem jesc_byt {x : Nat} (h : x < 256) : Byt (jesc x) := by
  have key : ∀ k : Fin 256, (jesc k.val).all (· < 256) = true := by decide +kernel
  intro y hy
  have := List.all_eq_true.1 (key ⟨x, h⟩) y hy
  simpa using this
theorem jAll_app (a b : List Nat) : jAll (a ++ b) = jAll a ++ jAll b := by simp [jAll]
theorem jAll_len (l : List Nat) : (jAll l).length ≤ 6 * l.length := by
  induction l with
  | nil => simp [jAll]
  | cons a r ih =>
    have := jesc_len a
    unfold jAll at *
    rw [List.flatMap_cons, List.length_append, List.length_cons]
    omega
theorem jAll_byt {l : List Nat} (h : Byt l) : Byt (jAll l) := by
  intro y hy
  unfold jAll at hy
  obtain ⟨x, hx, hy⟩ := List.mem_flatMap.1 hy
  exact jesc_byt (h x hx) y hy
theorem jAll_step {l : List Nat} {k x : Nat} (h : l[k]? = some x) : jAll (l.take (k + 1)) = jAll (l.take k) ++ jesc x := by
  rw [List.take_add_one, h, jAll_app]
  simp [jAll]
theorem step_app_bytes {w : World} {ops : Array Oper} {o : Oper} {a : Act} {K : Act → World → Prop} {Q : Exit → Act → World → Prop} {E : Prop} (hgd : o.guard = none) (s x : Operand)
    (ho : o.op = .call { callee := .builtin .append, args := #[s, x], argTypes := #[31, 31] }) (base : Nat)
    (v : Value) (k : List Nat) (hs : a.eval s = v) (hown : Bytes base w v k) (u : Value) (l : List Nat) (hx : a.eval x = u) (hu : HasB w u l) (hn : k.length + l.length ≤ 140737488355328) (hbase : base ≤ w.heap.size)
    (h : ∀ v' w', Bytes base w' v' (k ++ l) → w.grownBy w' v.ownBlock → (v'.ownBlock = v.ownBlock ∨ v'.ownBlock = some w.heap.size) → K (a.put o.dst v') w') : if Region.wanted o (yielded ops a.tmps) = true then Oper.wp Tryd.prog o a w K Q else E := by
  have hw : Region.wanted o (yielded ops a.tmps) = true := by simp [Region.wanted, hgd]
  rw [if_pos hw]
  have key : ∃ v' w', (Builtin.append_ #[31, 31] o.type #[v, u]).run Tryd.prog w = .ok v' w' ∧ Bytes base w' v' (k ++ l) ∧ w.grownBy w' v.ownBlock ∧ (v'.ownBlock = v.ownBlock ∨ v'.ownBlock = some w.heap.size) := by
    obtain ⟨i0, hi, hz0, hz1, hz2⟩ := info_parts Tryd.infoByte
    obtain ⟨ua, uc, rfl, hm, h3⟩ := hu
    cases ua with
    | none =>
      have hc := hm.2.2 rfl
      have hl0 : l.length = 0 := by omega
      obtain rfl : l = [] := List.eq_nil_of_length_eq_zero hl0
      subst hc
      refine ⟨v, w, run_append_owned_none (P := Tryd.prog) (w := w) base 31 o.type 5 i0 1 Tryd.underlying31 hi v k.length (nb k) hown, ?_, ⟨rfl, rfl, rfl, Nat.le_refl _, fun _ _ _ => rfl⟩, .inl rfl⟩
      rw [List.append_nil]
      exact hown
    | some ad =>
      have hn2 : k.length + l.length ≤ maxLen := by unfold maxLen; omega
      obtain ⟨v', w', hr, h2, h3', _, h5⟩ := run_append_own_at (P := Tryd.prog) w base 31 o.type 5 i0 (.int .u8 0) 1 1 Tryd.underlying31 hi hz0 hz1 hz2 rfl (by decide) v k.length (nb k) hown ad l.length uc (nb l) (by rw [nb_len, Nat.mul_one]) (fun j y hj => by
        rw [nb_at] at hj
        obtain ⟨b, hb, rfl⟩ := Option.map_eq_some_iff.1 hj
        obtain ⟨g, off, e, hg, hc⟩ := h3 (by have := (List.getElem?_eq_some_iff.1 hb).1; omega)
        injection e with e
        subst e
        rw [Go.WideShapes.add_plain]
        exact hc j b hb) (nb_one l) hn2 (by omega) hbase
      refine ⟨v', w', hr, ?_, h3', h5⟩
      unfold Bytes
      rw [nb_append, List.length_append]
      exact h2
  obtain ⟨v', w', hr, h1, h2, h3⟩ := key
  unfold Oper.wp execOp
  simp only [ho, resolve, invoke, builtin, Sem.run_bind, Sem.run_pure, Result.andThen_ok, List.map_toArray, List.map_cons, List.map_nil, hs, hx, hr]
  exact h v' w' h1 h2 h3
theorem Bytes.up {base : Nat} {W w : World} {v : Value} {l : List Nat} (h : Bytes base W v l) (hb : Below W.heap.size W w) : Bytes base w v l := by
  unfold Bytes at h ⊢
  obtain ⟨h1, ⟨rfl, h0⟩ | ⟨g, c, cur, rfl, h2, h3, h4⟩⟩ := h
  · exact ⟨h1, .inl ⟨rfl, h0⟩⟩
  · exact ⟨h1, .inr ⟨g, c, cur, rfl, h2, (hb.block g (Array.getElem?_eq_some_iff.1 h3).1).trans h3, h4⟩⟩
theorem byt_34 : Byt [34] := fun x hx => by rw [List.mem_singleton.1 hx]; decide
theorem Bytes.base_le {base : Nat} {W : World} {v : Value} {l : List Nat} (h : Bytes base W v l) : ∀ b, v.ownBlock = some b → base ≤ b := fun b hb => by
  unfold Bytes at h
  exact (h.lt b hb).1
theorem Bytes.shape {base : Nat} {W : World} {v : Value} {l : List Nat} (h : Bytes base W v l) : ∃ a n c, v = .slice a n c := by
  obtain ⟨a, c, rfl, _⟩ := h.has
  exact ⟨_, _, _, rfl⟩
set_option maxRecDepth 100000 in
set_option maxHeartbeats 4000000 in
theorem kquoted_any (W : World) (s : ByteArray) (hs : s.size ≤ 67108864) :
    Calls Tryd.prog 10 #[.slice none 0 0, .string s] W fun e w => ∃ v, e = .returned v ∧ Bytes W.heap.size w v (34 :: jAll (strN s) ++ [34]) ∧ Below W.heap.size W w := by
  obtain ⟨i0, hi, hz0, hz1, hz2⟩ := info_parts Tryd.infoByte
  have HY : Hid (Bytes W.heap.size W (.slice none 0 0) []) := bytes_nil _ _
  have HB : Hid (Below W.heap.size W W) := Below.refl _ _
  have O1 : Hid (([] : List Nat).length + 1 ≤ maxLen) := by show _ ≤ _; unfold maxLen; simp
  have O2 : Hid ((([] : List Nat).length + 1) * 1 ≤ 140737488355328) := by show _ ≤ _; simp
  have hsz2 : W.heap.size ≤ W.heap.size := Nat.le_refl _
  have hslen := strN_len s
  have hsb := strN_byt s
  have Hsl := hide hslen
  have Hsb := hide hsb
  clear hslen hsb
  go_enter Tryd.func10, Tryd.ntmps10
  go_wp2_with (at_builtin; refine wpList_append_own_at _ rfl _ _ 31 rfl W.heap.size 5 i0 (.int .u8 0) 1 1 Tryd.underlying31 hi hz0 hz1 hz2 rfl (by decide) _ _ _ rfl ((unhide HY).alloc _) ⟨W.heap.size, 0, none⟩ 1 1 [.int .u8 34] rfl rfl (cells_lit _ _ _) (by simp [Value.oneCell']) (unhide O1) (unhide O2) (by rw [World.size_alloc]; omega) ?_; intro v4 w4 hown4 hgrow4 _ hat4; have HP : Hid (PutE W.heap.size W (.slice none 0 0) [] [34] (.returned v4) w4) := putE_lit (ys := [34]) hown4 rfl rfl hgrow4 hat4; clear hown4 hgrow4 hat4)
  obtain ⟨v5, hv5, hby, hext⟩ := unhide HP
  obtain rfl : v4 = v5 := by simpa using hv5
  obtain ⟨va', vn', vc', rfl⟩ := hby.shape
  have HB3 : Hid (Below W.heap.size W w4) := (unhide HB).trans (hext.below hsz2 (unhide HY).base_le)
  have HY3 := hide hby
  clear hby hext hv5 HP
  clear HY HB O1 O2 hsz2
  go_loopg [0, 5, 6] s.size (fun gk v0 v5 _ wr => ∃ (k : Nat) (pre : List Nat) (va : Option Addr) (vn vc : Nat), v0 = .slice va vn vc ∧ v5 = .int .i64 (k : Int) ∧ gk = s.size - k ∧ k ≤ s.size ∧ pre.length ≤ 6 * k + 1 ∧ Hid (Bytes W.heap.size wr (.slice va vn vc) pre) ∧ Hid (pre = 34 :: jAll ((strN s).take k)) ∧ Hid (Below W.heap.size W wr))
  case atStart => exact ⟨0, [34], _, _, _, rfl, rfl, rfl, by omega, by simp, HY3, rfl, HB3⟩
  case round =>
    obtain ⟨k, pre, va, vn, vc, rfl, rfl, hgk, hk, hpl, HY, Hq, HB⟩ := hrel
    have Hgk := hide hgk
    clear hgk HY3 HB3
    have hsz2 : W.heap.size ≤ wr.heap.size := (unhide HB).size
    by_cases hlt : k < s.size
    · obtain ⟨x, hx⟩ : ∃ x : Nat, s[k].toNat = x := ⟨_, rfl⟩
      have hbx : (strN s)[k]? = some x := by
        rw [List.getElem?_eq_getElem (by rw [unhide Hsl]; exact hlt), ← hx]
        unfold strN
        rw [List.getElem_map]
        rfl
      have hx2 : x < 256 := (unhide Hsb).at hbx
      have k0 : (0 : Int) ≤ (k : Int) := Int.natCast_nonneg _
      have k1 : (k : Int) < (s.size : Int) := by omega
      have Hst : Hid (34 :: jAll ((strN s).take (k + 1)) = pre ++ jesc x) := by show _ = _; rw [jAll_step hbx, unhide Hq]; rfl
      have hpn : pre.length + (jesc x).length ≤ 6 * (k + 1) + 1 := by have := jesc_len x; omega
      have Hpn := hide hpn
      clear hbx hpn Hq
      by_cases g34 : x = 34
      · have He : Hid (jesc x = [92, x]) := by show _ = _; unfold jesc; rw [if_pos (.inl g34)]
        have f34 := eqT (c := x) (k := 34) (by omega)
        have O1 : Hid (pre.length + 2 ≤ maxLen) := by show _ ≤ _; unfold maxLen; omega
        have O2 : Hid ((pre.length + 2) * 1 ≤ 140737488355328) := by show _ ≤ _; omega
        clear  g34
        go_wp2_with (at_builtin; refine wpList_append_own_at _ rfl _ _ 31 rfl W.heap.size 5 i0 (.int .u8 0) 1 1 Tryd.underlying31 hi hz0 hz1 hz2 rfl (by decide) _ _ _ rfl ((unhide HY).alloc _) ⟨wr.heap.size, 0, none⟩ 2 2 [.int .u8 92, .int .u8 (x : Int)] rfl rfl (cells_lit _ _ _) (by simp [Value.oneCell']) (unhide O1) (unhide O2) (by rw [World.size_alloc]; omega) ?_; intro v4 w4 hown4 hgrow4 _ hat4; have HP : Hid (PutE W.heap.size wr (.slice va vn vc) pre [92, x] (.returned v4) w4) := putE_lit (ys := [92, x]) hown4 rfl rfl hgrow4 hat4; clear hown4 hgrow4 hat4)
        obtain ⟨v5, hv5, hby, hext⟩ := unhide HP
        obtain rfl : v4 = v5 := by simpa using hv5
        obtain ⟨va', vn', vc', rfl⟩ := hby.shape
        have HB3 : Hid (Below W.heap.size W w4) := (unhide HB).trans (hext.below hsz2 (unhide HY).base_le)
        have HY3 := hide hby
        clear hby hext hv5 HP
        go_roundg (s.size - (k + 1))
        case measure => have := unhide Hgk; omega
        case rel => exact ⟨k + 1, pre ++ [92, x], _, _, _, rfl, by go_num, rfl, by omega, by have := unhide Hpn; rw [unhide He] at this; rw [List.length_append]; exact this, HY3, (by show _ = _; rw [unhide Hst, unhide He]), HB3⟩
      · have f34 := eqF (c := x) (k := 34) (by omega)
        by_cases g92 : x = 92
        · have He : Hid (jesc x = [92, x]) := by show _ = _; unfold jesc; rw [if_pos (.inr g92)]
          have f92 := eqT (c := x) (k := 92) (by omega)
          have O1 : Hid (pre.length + 2 ≤ maxLen) := by show _ ≤ _; unfold maxLen; omega
          have O2 : Hid ((pre.length + 2) * 1 ≤ 140737488355328) := by show _ ≤ _; omega
          clear g34 g92
          go_wp2_with (at_builtin; refine wpList_append_own_at _ rfl _ _ 31 rfl W.heap.size 5 i0 (.int .u8 0) 1 1 Tryd.underlying31 hi hz0 hz1 hz2 rfl (by decide) _ _ _ rfl ((unhide HY).alloc _) ⟨wr.heap.size, 0, none⟩ 2 2 [.int .u8 92, .int .u8 (x : Int)] rfl rfl (cells_lit _ _ _) (by simp [Value.oneCell']) (unhide O1) (unhide O2) (by rw [World.size_alloc]; omega) ?_; intro v4 w4 hown4 hgrow4 _ hat4; have HP : Hid (PutE W.heap.size wr (.slice va vn vc) pre [92, x] (.returned v4) w4) := putE_lit (ys := [92, x]) hown4 rfl rfl hgrow4 hat4; clear hown4 hgrow4 hat4)
          obtain ⟨v5, hv5, hby, hext⟩ := unhide HP
          obtain rfl : v4 = v5 := by simpa using hv5
          obtain ⟨va', vn', vc', rfl⟩ := hby.shape
          have HB3 : Hid (Below W.heap.size W w4) := (unhide HB).trans (hext.below hsz2 (unhide HY).base_le)
          have HY3 := hide hby
          clear hby hext hv5 HP
          go_roundg (s.size - (k + 1))
          case measure => have := unhide Hgk; omega
          case rel => exact ⟨k + 1, pre ++ [92, x], _, _, _, rfl, by go_num, rfl, by omega, by have := unhide Hpn; rw [unhide He] at this; rw [List.length_append]; exact this, HY3, (by show _ = _; rw [unhide Hst, unhide He]), HB3⟩
        · have f92 := eqF (c := x) (k := 92) (by omega)
          by_cases g8 : x = 8
          · have He : Hid (jesc x = [92, 98]) := by show _ = _; unfold jesc; rw [if_neg (fun q => q.elim g34 g92), if_pos g8]
            have f8 := eqT (c := x) (k := 8) (by omega)
            have O1 : Hid (pre.length + 2 ≤ maxLen) := by show _ ≤ _; unfold maxLen; omega
            have O2 : Hid ((pre.length + 2) * 1 ≤ 140737488355328) := by show _ ≤ _; omega
            clear g34 g92 g8
            go_wp2_with (at_builtin; refine wpList_append_own_at _ rfl _ _ 31 rfl W.heap.size 5 i0 (.int .u8 0) 1 1 Tryd.underlying31 hi hz0 hz1 hz2 rfl (by decide) _ _ _ rfl ((unhide HY).alloc _) ⟨wr.heap.size, 0, none⟩ 2 2 [.int .u8 92, .int .u8 98] rfl rfl (cells_lit _ _ _) (by simp [Value.oneCell']) (unhide O1) (unhide O2) (by rw [World.size_alloc]; omega) ?_; intro v4 w4 hown4 hgrow4 _ hat4; have HP : Hid (PutE W.heap.size wr (.slice va vn vc) pre [92, 98] (.returned v4) w4) := putE_lit (ys := [92, 98]) hown4 rfl rfl hgrow4 hat4; clear hown4 hgrow4 hat4)
            obtain ⟨v5, hv5, hby, hext⟩ := unhide HP
            obtain rfl : v4 = v5 := by simpa using hv5
            obtain ⟨va', vn', vc', rfl⟩ := hby.shape
            have HB3 : Hid (Below W.heap.size W w4) := (unhide HB).trans (hext.below hsz2 (unhide HY).base_le)
            have HY3 := hide hby
            clear hby hext hv5 HP
            go_roundg (s.size - (k + 1))
            case measure => have := unhide Hgk; omega
            case rel => exact ⟨k + 1, pre ++ [92, 98], _, _, _, rfl, by go_num, rfl, by omega, by have := unhide Hpn; rw [unhide He] at this; rw [List.length_append]; exact this, HY3, (by show _ = _; rw [unhide Hst, unhide He]), HB3⟩
          · have f8 := eqF (c := x) (k := 8) (by omega)
            by_cases g12 : x = 12
            · have He : Hid (jesc x = [92, 102]) := by show _ = _; unfold jesc; rw [if_neg (fun q => q.elim g34 g92), if_neg g8, if_pos g12]
              have f12 := eqT (c := x) (k := 12) (by omega)
              have O1 : Hid (pre.length + 2 ≤ maxLen) := by show _ ≤ _; unfold maxLen; omega
              have O2 : Hid ((pre.length + 2) * 1 ≤ 140737488355328) := by show _ ≤ _; omega
              clear g34 g92 g8 g12
              go_wp2_with (at_builtin; refine wpList_append_own_at _ rfl _ _ 31 rfl W.heap.size 5 i0 (.int .u8 0) 1 1 Tryd.underlying31 hi hz0 hz1 hz2 rfl (by decide) _ _ _ rfl ((unhide HY).alloc _) ⟨wr.heap.size, 0, none⟩ 2 2 [.int .u8 92, .int .u8 102] rfl rfl (cells_lit _ _ _) (by simp [Value.oneCell']) (unhide O1) (unhide O2) (by rw [World.size_alloc]; omega) ?_; intro v4 w4 hown4 hgrow4 _ hat4; have HP : Hid (PutE W.heap.size wr (.slice va vn vc) pre [92, 102] (.returned v4) w4) := putE_lit (ys := [92, 102]) hown4 rfl rfl hgrow4 hat4; clear hown4 hgrow4 hat4)
              obtain ⟨v5, hv5, hby, hext⟩ := unhide HP
              obtain rfl : v4 = v5 := by simpa using hv5
              obtain ⟨va', vn', vc', rfl⟩ := hby.shape
              have HB3 : Hid (Below W.heap.size W w4) := (unhide HB).trans (hext.below hsz2 (unhide HY).base_le)
              have HY3 := hide hby
              clear hby hext hv5 HP
              go_roundg (s.size - (k + 1))
              case measure => have := unhide Hgk; omega
              case rel => exact ⟨k + 1, pre ++ [92, 102], _, _, _, rfl, by go_num, rfl, by omega, by have := unhide Hpn; rw [unhide He] at this; rw [List.length_append]; exact this, HY3, (by show _ = _; rw [unhide Hst, unhide He]), HB3⟩
            · have f12 := eqF (c := x) (k := 12) (by omega)
              by_cases g10 : x = 10
              · have He : Hid (jesc x = [92, 110]) := by show _ = _; unfold jesc; rw [if_neg (fun q => q.elim g34 g92), if_neg g8, if_neg g12, if_pos g10]
                have f10 := eqT (c := x) (k := 10) (by omega)
                have O1 : Hid (pre.length + 2 ≤ maxLen) := by show _ ≤ _; unfold maxLen; omega
                have O2 : Hid ((pre.length + 2) * 1 ≤ 140737488355328) := by show _ ≤ _; omega
                clear g34 g92 g8 g12 g10
                go_wp2_with (at_builtin; refine wpList_append_own_at _ rfl _ _ 31 rfl W.heap.size 5 i0 (.int .u8 0) 1 1 Tryd.underlying31 hi hz0 hz1 hz2 rfl (by decide) _ _ _ rfl ((unhide HY).alloc _) ⟨wr.heap.size, 0, none⟩ 2 2 [.int .u8 92, .int .u8 110] rfl rfl (cells_lit _ _ _) (by simp [Value.oneCell']) (unhide O1) (unhide O2) (by rw [World.size_alloc]; omega) ?_; intro v4 w4 hown4 hgrow4 _ hat4; have HP : Hid (PutE W.heap.size wr (.slice va vn vc) pre [92, 110] (.returned v4) w4) := putE_lit (ys := [92, 110]) hown4 rfl rfl hgrow4 hat4; clear hown4 hgrow4 hat4)
                obtain ⟨v5, hv5, hby, hext⟩ := unhide HP
                obtain rfl : v4 = v5 := by simpa using hv5
                obtain ⟨va', vn', vc', rfl⟩ := hby.shape
                have HB3 : Hid (Below W.heap.size W w4) := (unhide HB).trans (hext.below hsz2 (unhide HY).base_le)
                have HY3 := hide hby
                clear hby hext hv5 HP
                go_roundg (s.size - (k + 1))
                case measure => have := unhide Hgk; omega
                case rel => exact ⟨k + 1, pre ++ [92, 110], _, _, _, rfl, by go_num, rfl, by omega, by have := unhide Hpn; rw [unhide He] at this; rw [List.length_append]; exact this, HY3, (by show _ = _; rw [unhide Hst, unhide He]), HB3⟩
              · have f10 := eqF (c := x) (k := 10) (by omega)
                by_cases g13 : x = 13
                · have He : Hid (jesc x = [92, 114]) := by show _ = _; unfold jesc; rw [if_neg (fun q => q.elim g34 g92), if_neg g8, if_neg g12, if_neg g10, if_pos g13]
                  have f13 := eqT (c := x) (k := 13) (by omega)
                  have O1 : Hid (pre.length + 2 ≤ maxLen) := by show _ ≤ _; unfold maxLen; omega
                  have O2 : Hid ((pre.length + 2) * 1 ≤ 140737488355328) := by show _ ≤ _; omega
                  clear g34 g92 g8 g12 g10 g13
                  go_wp2_with (at_builtin; refine wpList_append_own_at _ rfl _ _ 31 rfl W.heap.size 5 i0 (.int .u8 0) 1 1 Tryd.underlying31 hi hz0 hz1 hz2 rfl (by decide) _ _ _ rfl ((unhide HY).alloc _) ⟨wr.heap.size, 0, none⟩ 2 2 [.int .u8 92, .int .u8 114] rfl rfl (cells_lit _ _ _) (by simp [Value.oneCell']) (unhide O1) (unhide O2) (by rw [World.size_alloc]; omega) ?_; intro v4 w4 hown4 hgrow4 _ hat4; have HP : Hid (PutE W.heap.size wr (.slice va vn vc) pre [92, 114] (.returned v4) w4) := putE_lit (ys := [92, 114]) hown4 rfl rfl hgrow4 hat4; clear hown4 hgrow4 hat4)
                  obtain ⟨v5, hv5, hby, hext⟩ := unhide HP
                  obtain rfl : v4 = v5 := by simpa using hv5
                  obtain ⟨va', vn', vc', rfl⟩ := hby.shape
                  have HB3 : Hid (Below W.heap.size W w4) := (unhide HB).trans (hext.below hsz2 (unhide HY).base_le)
                  have HY3 := hide hby
                  clear hby hext hv5 HP
                  go_roundg (s.size - (k + 1))
                  case measure => have := unhide Hgk; omega
                  case rel => exact ⟨k + 1, pre ++ [92, 114], _, _, _, rfl, by go_num, rfl, by omega, by have := unhide Hpn; rw [unhide He] at this; rw [List.length_append]; exact this, HY3, (by show _ = _; rw [unhide Hst, unhide He]), HB3⟩
                · have f13 := eqF (c := x) (k := 13) (by omega)
                  by_cases g9 : x = 9
                  · have He : Hid (jesc x = [92, 116]) := by show _ = _; unfold jesc; rw [if_neg (fun q => q.elim g34 g92), if_neg g8, if_neg g12, if_neg g10, if_neg g13, if_pos g9]
                    have f9 := eqT (c := x) (k := 9) (by omega)
                    have O1 : Hid (pre.length + 2 ≤ maxLen) := by show _ ≤ _; unfold maxLen; omega
                    have O2 : Hid ((pre.length + 2) * 1 ≤ 140737488355328) := by show _ ≤ _; omega
                    clear g34 g92 g8 g12 g10 g13 g9
                    go_wp2_with (at_builtin; refine wpList_append_own_at _ rfl _ _ 31 rfl W.heap.size 5 i0 (.int .u8 0) 1 1 Tryd.underlying31 hi hz0 hz1 hz2 rfl (by decide) _ _ _ rfl ((unhide HY).alloc _) ⟨wr.heap.size, 0, none⟩ 2 2 [.int .u8 92, .int .u8 116] rfl rfl (cells_lit _ _ _) (by simp [Value.oneCell']) (unhide O1) (unhide O2) (by rw [World.size_alloc]; omega) ?_; intro v4 w4 hown4 hgrow4 _ hat4; have HP : Hid (PutE W.heap.size wr (.slice va vn vc) pre [92, 116] (.returned v4) w4) := putE_lit (ys := [92, 116]) hown4 rfl rfl hgrow4 hat4; clear hown4 hgrow4 hat4)
                    obtain ⟨v5, hv5, hby, hext⟩ := unhide HP
                    obtain rfl : v4 = v5 := by simpa using hv5
                    obtain ⟨va', vn', vc', rfl⟩ := hby.shape
                    have HB3 : Hid (Below W.heap.size W w4) := (unhide HB).trans (hext.below hsz2 (unhide HY).base_le)
                    have HY3 := hide hby
                    clear hby hext hv5 HP
                    go_roundg (s.size - (k + 1))
                    case measure => have := unhide Hgk; omega
                    case rel => exact ⟨k + 1, pre ++ [92, 116], _, _, _, rfl, by go_num, rfl, by omega, by have := unhide Hpn; rw [unhide He] at this; rw [List.length_append]; exact this, HY3, (by show _ = _; rw [unhide Hst, unhide He]), HB3⟩
                  · have f9 := eqF (c := x) (k := 9) (by omega)
                    by_cases g0 : x < 32
                    · have He : Hid (jesc x = [92, 117, 48, 48, hexd (x / 16), hexd (x % 16)]) := by show _ = _; unfold jesc; rw [if_neg (fun q => q.elim g34 g92), if_neg g8, if_neg g12, if_neg g10, if_neg g13, if_neg g9, if_pos g0]
                      have f0 := ltiT (c := x) (k := 32) (by omega)
                      have q1 : (x : Int).tdiv 16 = (x : Int) / 16 := Int.tdiv_eq_ediv_of_nonneg (by omega)
                      obtain ⟨y1, hy1⟩ : ∃ y, y = x / 16 := ⟨_, rfl⟩
                      obtain ⟨y2, hy2⟩ : ∃ y, y = x % 16 := ⟨_, rfl⟩
                      have qw1 : IntKind.u8.wrap ((x : Int) / 16) = (y1 : Int) := by rw [hy1]; exact (wrapU8 (by omega) (by omega)).trans (by omega)
                      have q2 : (x : Int).tmod 16 = (y2 : Int) := by rw [hy2, Int.tmod_eq_emod_of_nonneg (by omega)]; omega
                      have ix1 : ∀ w, (Instr.index 9 (.string ⟨#[48, 49, 50, 51, 52, 53, 54, 55, 56, 57, 97, 98, 99, 100, 101, 102]⟩) (.int .u8 (y1 : Int))).run Tryd.prog w = .ok (.int .u8 ((hexd y1 : Nat) : Int)) w := fun w => dg_at w y1 (by omega) _ rfl
                      have ix2 : ∀ w, (Instr.index 9 (.string ⟨#[48, 49, 50, 51, 52, 53, 54, 55, 56, 57, 97, 98, 99, 100, 101, 102]⟩) (.int .u8 (y2 : Int))).run Tryd.prog w = .ok (.int .u8 ((hexd y2 : Nat) : Int)) w := fun w => dg_at w y2 (by omega) _ rfl
                      rw [← hy1, ← hy2] at He
                      generalize hexd y1 = d1 at *
                      generalize hexd y2 = d2 at *
                      clear hy1 hy2
                      have O2 : pre.length + 6 ≤ 140737488355328 := by omega
                      clear g34 g92 g8 g12 g10 g13 g9 g0
                      go_wp2
                      go_region_law (refine step_app_bytes rfl (.tmp 67) (.tmp 74) rfl W.heap.size (.slice va vn vc) pre (by simp [Act.eval]) ((show Bytes W.heap.size (World.drewN wr _) (.slice va vn vc) pre from unhide HY).alloc _) (.slice (some ⟨wr.heap.size, 0, none⟩) 6 6) [92, 117, 48, 48, d1, d2] (by simp [Act.eval]) (hasB_lit (t := 5) (fr := (0, 0)) (by first | (rw [heap_new]; simp [nb]) | exact heap_new _ _) 6 6 rfl (by decide)) O2 (by first | (rw [World.size_alloc]; omega) | (show W.heap.size ≤ (World.alloc _ _).heap.size; rw [World.size_alloc]; omega)) ?_; intro v4 w4 hby hgrow hat)
                      all_goals (have HP : Hid (PutE W.heap.size wr (.slice va vn vc) pre [92, 117, 48, 48, d1, d2] (.returned v4) w4) := ⟨v4, rfl, hby, Ext.grown (ob := .cells #[.int .u8 92, .int .u8 117, .int .u8 48, .int .u8 48, .int .u8 (d1 : Int), .int .u8 (d2 : Int)] 5) ⟨hgrow.os, hgrow.tape, hgrow.output, hgrow.size, hgrow.block⟩ hat⟩)
                      all_goals clear hby hgrow hat
                      all_goals go_wp2
                      all_goals
                        obtain ⟨v5, hv5, hby, hext⟩ := unhide HP
                        obtain rfl : v4 = v5 := by simpa using hv5
                        obtain ⟨va', vn', vc', rfl⟩ := hby.shape
                        have HB3 : Hid (Below W.heap.size W w4) := (unhide HB).trans (hext.below hsz2 (unhide HY).base_le)
                        have HY3 := hide hby
                        clear hby hext hv5 HP
                        go_roundg (s.size - (k + 1))
                        case measure => have := unhide Hgk; omega
                        case rel => exact ⟨k + 1, pre ++ [92, 117, 48, 48, d1, d2], _, _, _, rfl, by go_num, rfl, by omega, by have := unhide Hpn; rw [unhide He] at this; rw [List.length_append]; exact this, HY3, (by show _ = _; rw [unhide Hst, unhide He]), HB3⟩
                    · have f0 := ltiF (c := x) (k := 32) (by omega)
                      have He : Hid (jesc x = [x]) := by show _ = _; unfold jesc; rw [if_neg (fun q => q.elim g34 g92), if_neg g8, if_neg g12, if_neg g10, if_neg g13, if_neg g9, if_neg g0]
                      have O1 : Hid (pre.length + 1 ≤ maxLen) := by show _ ≤ _; unfold maxLen; omega
                      have O2 : Hid ((pre.length + 1) * 1 ≤ 140737488355328) := by show _ ≤ _; omega
                      clear g34 g92 g8 g12 g10 g13 g9 g0
                      go_wp2_with (at_builtin; refine wpList_append_own_at _ rfl _ _ 31 rfl W.heap.size 5 i0 (.int .u8 0) 1 1 Tryd.underlying31 hi hz0 hz1 hz2 rfl (by decide) _ _ _ rfl ((unhide HY).alloc _) ⟨wr.heap.size, 0, none⟩ 1 1 [.int .u8 (x : Int)] rfl rfl (cells_lit _ _ _) (by simp [Value.oneCell']) (unhide O1) (unhide O2) (by rw [World.size_alloc]; omega) ?_; intro v4 w4 hown4 hgrow4 _ hat4; have HP : Hid (PutE W.heap.size wr (.slice va vn vc) pre [x] (.returned v4) w4) := putE_lit (ys := [x]) hown4 rfl rfl hgrow4 hat4; clear hown4 hgrow4 hat4)
                      obtain ⟨v5, hv5, hby, hext⟩ := unhide HP
                      obtain rfl : v4 = v5 := by simpa using hv5
                      obtain ⟨va', vn', vc', rfl⟩ := hby.shape
                      have HB3 : Hid (Below W.heap.size W w4) := (unhide HB).trans (hext.below hsz2 (unhide HY).base_le)
                      have HY3 := hide hby
                      clear hby hext hv5 HP
                      go_roundg (s.size - (k + 1))
                      case measure => have := unhide Hgk; omega
                      case rel => exact ⟨k + 1, pre ++ [x], _, _, _, rfl, by go_num, rfl, by omega, by have := unhide Hpn; rw [unhide He] at this; rw [List.length_append]; exact this, HY3, (by show _ = _; rw [unhide Hst, unhide He]), HB3⟩
    · obtain rfl : k = s.size := by omega
      have Hq2 : Hid (pre = 34 :: jAll (strN s)) := by show _ = _; rw [unhide Hq, ← unhide Hsl, List.take_length]
      have O1 : Hid (pre.length + 1 ≤ maxLen) := by show _ ≤ _; unfold maxLen; omega
      have O2 : Hid ((pre.length + 1) * 1 ≤ 140737488355328) := by show _ ≤ _; omega
      clear Hq
      go_wp2_with (at_builtin; refine wpList_append_own_at _ rfl _ _ 31 rfl W.heap.size 5 i0 (.int .u8 0) 1 1 Tryd.underlying31 hi hz0 hz1 hz2 rfl (by decide) _ _ _ rfl ((unhide HY).alloc _) ⟨wr.heap.size, 0, none⟩ 1 1 [.int .u8 34] rfl rfl (cells_lit _ _ _) (by simp [Value.oneCell']) (unhide O1) (unhide O2) (by rw [World.size_alloc]; omega) ?_; intro v4 w4 hown4 hgrow4 _ hat4; have HP : Hid (PutE W.heap.size wr (.slice va vn vc) pre [34] (.returned v4) w4) := putE_lit (ys := [34]) hown4 rfl rfl hgrow4 hat4; clear hown4 hgrow4 hat4)
      obtain ⟨v5, hv5, hby, hext⟩ := unhide HP
      obtain rfl : v4 = v5 := by simpa using hv5
      obtain ⟨va', vn', vc', rfl⟩ := hby.shape
      have HB3 : Hid (Below W.heap.size W w4) := (unhide HB).trans (hext.below hsz2 (unhide HY).base_le)
      have HY3 := hide hby
      clear hby hext hv5 HP
      go_ret
      refine ⟨_, rfl, ?_, unhide HB3⟩
      have hY3 := unhide HY3
      rw [unhide Hq2] at hY3
      exact hY3
end Go.Proofs.YtcmjlpfofcaekaaDoor
