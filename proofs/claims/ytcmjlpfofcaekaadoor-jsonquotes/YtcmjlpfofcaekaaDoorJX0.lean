import Derived.Test.YtcmjlpfofcaekaaDoorUXa

namespace Go.Proofs.YtcmjlpfofcaekaaDoor
open Go.RowKit
attribute [local go_sem ↓] Go.wp_at_zero Go.wp_at_succ

def hexd (n : Nat) : Nat := if n < 10 then n + 48 else n + 87
def hexL (l : List Nat) : List Nat := l.flatMap fun b => [hexd (b / 16), hexd (b % 16)]
theorem hexL_len (l : List Nat) : (hexL l).length = 2 * l.length := by
  induction l with
  | nil => rfl
  | cons b l ih => simp only [hexL, List.flatMap_cons, List.length_append, List.length_cons, List.length_nil] at *; omega
theorem hexL_append (a b : List Nat) : hexL (a ++ b) = hexL a ++ hexL b := by simp [hexL]
theorem hexd_lt {n : Nat} (h : n < 16) : hexd n < 256 := by unfold hexd; split <;> omega
theorem hexL_byt {l : List Nat} (h : Byt l) : Byt (hexL l) := by
  intro x hx
  obtain ⟨b, hb, hx⟩ := List.mem_flatMap.1 hx
  have := h b hb
  simp at hx
  rcases hx with rfl | rfl
  · exact hexd_lt (by omega)
  · exact hexd_lt (by omega)
def dg : ByteArray := ⟨#[48, 49, 50, 51, 52, 53, 54, 55, 56, 57, 97, 98, 99, 100, 101, 102]⟩

theorem step_append_fits {P : Program} {ops : Array Oper} {o : Oper} {a : Act} {w : World} {K : Act → World → Prop} {Q : Exit → Act → World → Prop} {E : Prop}
    (hg : o.guard = none) (s x : Operand) (t : TypeId) (hop : o.op = Op.call { callee := Callee.builtin Builtin.append, args := #[s, x], argTypes := #[t, t] })
    (base : Nat) (e : TypeId) (i : TypeInfo) (size : Nat) (h1 : P.underlying t = some (.slice e)) (h2 : P.info? e = some i) (h4 : i.size = size)
    (g k cap : Nat) (xs : List Value) (hs : a.eval s = .slice (some ⟨g, 0, none⟩) k cap) (hown : w.ownsRow base e size (.slice (some ⟨g, 0, none⟩) k cap) k xs) (ad : Addr) (m c : Nat) (news : List Value) (hx : a.eval x = .slice (some ad) m c) (hn : news.length = m * size)
    (hc : ∀ j u, news[j]? = some u → w.cell? (ad.add j) = some u) (h1c : ∀ u ∈ news, u.oneCell' = true) (b1 : k + m ≤ cap)
    (hK : ∀ w', w'.ownsRow base e size (.slice (some ⟨g, 0, none⟩) (k + m) cap) (k + m) (xs ++ news) → w.grownBy w' (some g) → K (a.put o.dst (.slice (some ⟨g, 0, none⟩) (k + m) cap)) w') :
    if Region.wanted o (yielded ops a.tmps) = true then Oper.wp P o a w K Q else E := by
  have hw : Region.wanted o (yielded ops a.tmps) = true := by simp [Region.wanted, hg]
  rw [if_pos hw]
  obtain ⟨w', hrun, r1, r2⟩ := run_append_fits (P := P) w base t o.type e i size h1 h2 h4 g k cap xs hown ad m c news hn hc h1c b1
  unfold Oper.wp
  simp [execOp, hop, resolve, invoke, builtin, hs, hx, hrun, Result.andThen]
  exact hK _ r1 r2

theorem str_at (w : World) (s : ByteArray) (k : IntKind) (n x : Nat) (h : (strN s)[n]? = some x) : (Instr.index 9 (.string s) (.int k (n : Int))).run Tryd.prog w = .ok (.int .u8 (x : Int)) w := by
  have hn : n < s.size := by rw [← strN_len]; exact (List.getElem?_eq_some_iff.1 h).1
  rw [run_index_string (P := Tryd.prog) (h := Tryd.underlying9), dif_pos (by omega)]
  congr 3
  unfold strN at h
  rw [List.getElem?_map] at h
  obtain ⟨b, hb, rfl⟩ := Option.map_eq_some_iff.1 h
  have hd : n < s.data.toList.length := by simpa using hn
  rw [List.getElem?_eq_getElem hd] at hb
  rw [← Option.some.inj hb]
  simp
  rfl
theorem dg_at (w : World) (n : Nat) (h : n < 16) (i : Int) (hi : i = (n : Int)) : (Instr.index 9 (.string ⟨#[48, 49, 50, 51, 52, 53, 54, 55, 56, 57, 97, 98, 99, 100, 101, 102]⟩) (.int .u8 i)).run Tryd.prog w = .ok (.int .u8 ((hexd n : Nat) : Int)) w := by
  subst hi
  have key : ∀ k : Fin 16, (strN ⟨#[48, 49, 50, 51, 52, 53, 54, 55, 56, 57, 97, 98, 99, 100, 101, 102]⟩)[k.val]? = some (hexd k.val) := by decide
  exact str_at w _ _ n _ (key ⟨n, h⟩)
end Go.Proofs.YtcmjlpfofcaekaaDoor
