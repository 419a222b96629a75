import Derived.Test.YtoclbmdnndaccaaDH
namespace Go.Proofs.Ytoclbmdnndaccaa
open Go.RowKit
attribute [local go_sem ↓] Go.wp_at_zero Go.wp_at_succ

def hexd (n : Nat) : Nat := if n < 10 then n + 48 else n + 87
def hexL (l : List Nat) : List Nat := l.flatMap fun b => [hexd (b / 16), hexd (b % 16)]
theorem hexL_len (l : List Nat) : (hexL l).length = 2 * l.length := by
  induction l with
  | nil => rfl
  | cons b l ih => simp only [hexL, List.flatMap_cons, List.length_append, List.length_cons, List.length_nil] at *; omega
theorem hexL_append (a b : List Nat) : hexL (a ++ b) = hexL a ++ hexL b := by simp [hexL]
theorem hexd_lt {n : Nat} (h : n < 16) : hexd n < 256 := by unfold hexd; split <;> omega
theorem hexL_byt {l : List Nat} (h : Byt l) : Byt (hexL l) := by
  intro x hx
  obtain ⟨b, hb, hx⟩ := List.mem_flatMap.1 hx
  have := h b hb
  simp at hx
  rcases hx with rfl | rfl
  · exact hexd_lt (by omega)
  · exact hexd_lt (by omega)
def dg : ByteArray := ⟨#[48, 49, 50, 51, 52, 53, 54, 55, 56, 57, 97, 98, 99, 100, 101, 102]⟩

theorem step_append_fits {P : Program} {ops : Array Oper} {o : Oper} {a : Act} {w : World} {K : Act → World → Prop} {Q : Exit → Act → World → Prop} {E : Prop}
    (hg : o.guard = none) (s x : Operand) (t : TypeId) (hop : o.op = Op.call { callee := Callee.builtin Builtin.append, args := #[s, x], argTypes := #[t, t] })
    (base : Nat) (e : TypeId) (i : TypeInfo) (size : Nat) (h1 : P.underlying t = some (.slice e)) (h2 : P.info? e = some i) (h4 : i.size = size)
    (g k cap : Nat) (xs : List Value) (hs : a.eval s = .slice (some ⟨g, 0, none⟩) k cap) (hown : w.ownsRow base e size (.slice (some ⟨g, 0, none⟩) k cap) k xs) (ad : Addr) (m c : Nat) (news : List Value) (hx : a.eval x = .slice (some ad) m c) (hn : news.length = m * size)
    (hc : ∀ j u, news[j]? = some u → w.cell? (ad.add j) = some u) (h1c : ∀ u ∈ news, u.oneCell' = true) (b1 : k + m ≤ cap)
    (hK : ∀ w', w'.ownsRow base e size (.slice (some ⟨g, 0, none⟩) (k + m) cap) (k + m) (xs ++ news) → w.grownBy w' (some g) → K (a.put o.dst (.slice (some ⟨g, 0, none⟩) (k + m) cap)) w') :
    if Region.wanted o (yielded ops a.tmps) = true then Oper.wp P o a w K Q else E := by
  have hw : Region.wanted o (yielded ops a.tmps) = true := by simp [Region.wanted, hg]
  rw [if_pos hw]
  obtain ⟨w', hrun, r1, r2⟩ := run_append_fits (P := P) w base t o.type e i size h1 h2 h4 g k cap xs hown ad m c news hn hc h1c b1
  unfold Oper.wp
  simp [execOp, hop, resolve, invoke, builtin, hs, hx, hrun, Result.andThen]
  exact hK _ r1 r2

/-- A text's bytes. -/
def strN (s : ByteArray) : List Nat := s.data.toList.map UInt8.toNat
theorem strN_len (s : ByteArray) : (strN s).length = s.size := by simp [strN]
theorem strN_byt (s : ByteArray) : Byt (strN s) := by
  intro x hx
  obtain ⟨b, _, rfl⟩ := List.mem_map.1 hx
  exact b.toNat_lt
theorem strN_ofN {l : List Nat} (h : Byt l) : strN (ofN l) = l := by
  unfold strN ofN
  rw [List.map_map]
  conv => rhs; rw [← List.map_id l]
  exact List.map_congr_left fun x hx => u8_back (h x hx)
theorem ofN_strN (s : ByteArray) : ofN (strN s) = s := by
  unfold strN ofN
  rw [List.map_map]
  have : s.data.toList.map (UInt8.ofNat ∘ UInt8.toNat) = s.data.toList := by
    conv => rhs; rw [← List.map_id s.data.toList]
    exact List.map_congr_left fun x _ => by simp
  rw [this]
theorem str_at (w : World) (s : ByteArray) (k : IntKind) (n x : Nat) (h : (strN s)[n]? = some x) : (Instr.index 9 (.string s) (.int k (n : Int))).run Try.prog w = .ok (.int .u8 (x : Int)) w := by
  have hn : n < s.size := by rw [← strN_len]; exact (List.getElem?_eq_some_iff.1 h).1
  rw [run_index_string (P := Try.prog) (h := Try.underlying9), dif_pos (by omega)]
  congr 3
  unfold strN at h
  rw [List.getElem?_map] at h
  obtain ⟨b, hb, rfl⟩ := Option.map_eq_some_iff.1 h
  have hd : n < s.data.toList.length := by simpa using hn
  rw [List.getElem?_eq_getElem hd] at hb
  rw [← Option.some.inj hb]
  simp
  rfl
theorem dg_at (w : World) (n : Nat) (h : n < 16) (i : Int) (hi : i = (n : Int)) : (Instr.index 9 (.string ⟨#[48, 49, 50, 51, 52, 53, 54, 55, 56, 57, 97, 98, 99, 100, 101, 102]⟩) (.int .u8 i)).run Try.prog w = .ok (.int .u8 ((hexd n : Nat) : Int)) w := by
  subst hi
  have key : ∀ k : Fin 16, (strN ⟨#[48, 49, 50, 51, 52, 53, 54, 55, 56, 57, 97, 98, 99, 100, 101, 102]⟩)[k.val]? = some (hexd k.val) := by decide
  exact str_at w _ _ n _ (key ⟨n, h⟩)
set_option maxRecDepth 100000 in
set_option maxHeartbeats 4000000 in
theorem hex_any {W : World} {v : Value} {l : List Nat} (h : HasB W v l) (hl : Byt l) (hn : l.length ≤ 140737488351232) :
    Calls Try.prog 6 #[v] W fun e W' => e = .returned (.string (ofN (hexL l))) ∧ Below W.heap.size W W' := by
  obtain ⟨i0, hi, hz0, hz1, hz2⟩ := info_parts Try.infoByte
  obtain ⟨a, c, rfl, hm, h3⟩ := h
  have H3 := hide h3
  clear h3 hm
  go_enter Try.func6, Try.ntmps6
  go_wp2_with (at_make; refine wpList_make_own _ rfl _ _ 22 rfl W.heap.size 5 i0 (.int .u8 0) 1 Try.underlying22 hi hz0 hz1 .i64 .i64 _ (2 * l.length) rfl rfl (by first | rfl | simp) (by rw [hz2]; omega) (by unfold maxLen; omega) (Nat.le_refl _) ?_; intro w5 hown5 hgrow5; have Hr := hide hown5; have Hb : Hid (Below W.heap.size W w5) := ⟨hgrow5.os, hgrow5.tape, hgrow5.output, hgrow5.size, fun b hb => hgrow5.block b hb (by simp)⟩; clear hown5 hgrow5)
  go_loopg [3, 12] l.length (fun gk v3 v12 wr => ∃ (i : Nat), v12 = .int .i64 (i : Int) ∧ v3 = .slice (some ⟨W.heap.size, 0, none⟩) (2 * i) (2 * l.length) ∧ gk = l.length - i ∧ i ≤ l.length ∧ wr.ownsRow W.heap.size 5 1 (.slice (some ⟨W.heap.size, 0, none⟩) (2 * i) (2 * l.length)) (2 * i) (nb (hexL (l.take i))) ∧ Below W.heap.size W wr)
  case atStart => exact ⟨0, rfl, rfl, rfl, by omega, unhide Hr, unhide Hb⟩
  case round =>
    clear Hr Hb
    obtain ⟨i, rfl, rfl, hgk, hk, hY, hB⟩ := hrel
    have Hgk := hide hgk
    clear hgk
    by_cases hlt : i < l.length
    · obtain ⟨g, off, rfl, hg, hc⟩ := unhide H3 (by omega)
      obtain ⟨x, hx⟩ : ∃ x, l[i]? = some x := ⟨_, List.getElem?_eq_getElem hlt⟩
      have hxb := hl.at hx
      have c0 := (hB.cell (p := ⟨g, off + i, none⟩) hg).trans (hc i x hx)
      have Hx := hide hx
      have HY := hide hY
      have hand : bits .and .u8 (x : Int) 15 = ((x % 16 : Nat) : Int) := by rw [show (15 : Int) = ((15 : Nat) : Int) from rfl, u8_and_nat x 15 hxb (by decide), nat_mask4]
      have hlt' : (i : Int) < (l.length : Int) := by omega
      have hi0' : (0 : Int) ≤ (i : Int) := Int.natCast_nonneg _
      have ix1 : ∀ w, (Instr.index 9 (.string ⟨#[48, 49, 50, 51, 52, 53, 54, 55, 56, 57, 97, 98, 99, 100, 101, 102]⟩) (.int .u8 ((x : Int) / 16))).run Try.prog w = .ok (.int .u8 ((hexd (x / 16) : Nat) : Int)) w := fun w => dg_at w (x / 16) (by omega) _ (by omega)
      have ix2 : ∀ w, (Instr.index 9 (.string ⟨#[48, 49, 50, 51, 52, 53, 54, 55, 56, 57, 97, 98, 99, 100, 101, 102]⟩) (.int .u8 ((x % 16 : Nat) : Int))).run Try.prog w = .ok (.int .u8 ((hexd (x % 16) : Nat) : Int)) w := fun w => dg_at w (x % 16) (by omega) _ rfl
      have Hd : Hid (hexL (l.take (i + 1)) = hexL (l.take i) ++ [hexd (x / 16), hexd (x % 16)]) := by
        show hexL (l.take (i + 1)) = _
        rw [List.take_add_one, hx, hexL_append]
        rfl
      generalize hexd (x / 16) = d1 at *
      generalize hexd (x % 16) = d2 at *
      generalize x % 16 = x2 at *
      clear hc hx hY
      go_wp2
      go_region_law (refine step_append_fits rfl (.tmp 16) (.tmp 23) 22 rfl W.heap.size 5 i0 1 Try.underlying22 hi hz1 W.heap.size (2 * i) (2 * l.length) (nb (hexL (l.take i))) (by simp [Act.eval]) ((show (World.drewN wr _).ownsRow _ _ _ _ _ _ from unhide HY).alloc _) ⟨wr.heap.size, 0, none⟩ 2 2 [.int .u8 (d1 : Int), .int .u8 (d2 : Int)] (by simp [Act.eval]) (by rfl) (World.news_of_block (cs := #[.int .u8 (d1 : Int), .int .u8 (d2 : Int)]) (heap_new _ _)) (by simp [Value.oneCell']) (by omega) ?_; intro w3 hown3 hgrow)
      all_goals go_wp2
      all_goals go_roundg (l.length - (i + 1))
      all_goals first
        | (have := unhide Hgk; omega)
        | (refine ⟨i + 1, by go_num, rfl, rfl, by omega, ?_, below_grow (u := .slice (some ⟨W.heap.size, 0, none⟩) 0 0) hB hB.size hgrow (fun b hb => by have e : W.heap.size = b := Option.some.inj hb; omega)⟩
           rw [unhide Hd, nb_append]
           exact hown3)
    · have hi' : l.length = i := by omega
      subst hi'
      rw [List.take_length] at hY
      have hlen : (hexL l).length = 2 * l.length := hexL_len l
      have hb : Bytes W.heap.size wr (.slice (some ⟨W.heap.size, 0, none⟩) (2 * l.length) (2 * l.length)) (hexL l) := by unfold Bytes; rw [hlen]; exact hY
      have cv := conv_any hb.has (hexL_byt hl)
      clear hb hY hlen
      go_wp2
      go_ret
      exact ⟨rfl, hB⟩

def dig (c : Nat) : Option Nat := if 48 ≤ c ∧ c ≤ 57 then some (c - 48) else if 97 ≤ c ∧ c ≤ 102 then some (c - 87) else none
theorem dig_lt {c d : Nat} (h : dig c = some d) : d < 16 := by
  unfold dig at h
  split at h
  · have := Option.some.inj h; omega
  · split at h
    · have := Option.some.inj h; omega
    · cases h
theorem retD {a b : Int} {x y : Bool} (h : a = b) (k : x = y) : Ending.returned (.tuple #[.int .u8 a, .bool x]) = .returned (.tuple #[.int .u8 b, .bool y]) := by rw [h, k]
set_option maxHeartbeats 1000000 in
theorem digitOf_any (W : World) (c : Nat) (hc : c < 256) : Calls Try.prog 18 #[.int .u8 (c : Int)] W fun e W' => e = .returned (.tuple #[.int .u8 (((dig c).getD 0 : Nat) : Int), .bool (dig c).isSome]) ∧ W' = W := by
  by_cases h1 : 48 ≤ c ∧ c ≤ 57
  · have e : dig c = some (c - 48) := by unfold dig; rw [if_pos h1]
    obtain ⟨a, b⟩ := h1
    rw [e]
    clear e hc
    go_enter Try.func18, Try.ntmps18
    go_wp2
    go_ret2
    exact ⟨retD (show (c : Int) - 48 = ((c - 48 : Nat) : Int) by omega) rfl, rfl⟩
  · by_cases h2 : 97 ≤ c ∧ c ≤ 102
    · have e : dig c = some (c - 87) := by unfold dig; rw [if_neg h1, if_pos h2]
      obtain ⟨a, b⟩ := h2
      have a' : 48 ≤ c := by omega
      have b' : decide ((c : Int) ≤ 57) = false := by simp; omega
      rw [e]
      clear e hc h1
      go_enter Try.func18, Try.ntmps18
      go_wp2
      go_ret2
      exact ⟨retD (show (c : Int) - 97 + 10 = ((c - 87 : Nat) : Int) by omega) rfl, rfl⟩
    · have e : dig c = none := by unfold dig; rw [if_neg h1, if_neg h2]
      rw [e]
      have c1 : c < 48 ∨ (57 < c ∧ c < 97) ∨ 102 < c := by omega
      clear h1 h2 e hc
      rcases c1 with k | ⟨k, k'⟩ | k
      · have a1 : decide ((48 : Int) ≤ (c : Int)) = false := by simp; omega
        have a2 : decide ((97 : Int) ≤ (c : Int)) = false := by simp; omega
        clear k
        go_enter Try.func18, Try.ntmps18
        go_wp2
        go_ret2
        exact ⟨rfl, rfl⟩
      · have a1 : decide ((48 : Int) ≤ (c : Int)) = true := by simp; omega
        have a2 : decide ((c : Int) ≤ 57) = false := by simp; omega
        have a3 : decide ((97 : Int) ≤ (c : Int)) = false := by simp; omega
        clear k k'
        go_enter Try.func18, Try.ntmps18
        go_wp2
        go_ret2
        exact ⟨rfl, rfl⟩
      · have a1 : decide ((48 : Int) ≤ (c : Int)) = true := by simp; omega
        have a2 : decide ((c : Int) ≤ 57) = false := by simp; omega
        have a3 : decide ((97 : Int) ≤ (c : Int)) = true := by simp; omega
        have a4 : decide ((c : Int) ≤ 102) = false := by simp; omega
        clear k
        go_enter Try.func18, Try.ntmps18
        go_wp2
        go_ret2
        exact ⟨rfl, rfl⟩
end Go.Proofs.Ytoclbmdnndaccaa
