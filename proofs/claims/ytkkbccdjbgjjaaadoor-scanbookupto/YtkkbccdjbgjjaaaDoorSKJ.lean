import Derived.Test.YtkkbccdjbgjjaaaDoorSZk
import Derived.ArgAppend
import Derived.Maps.AppendAt
import Derived.Deep.DeepAppendRoom
import Derived.Orders

namespace Go.Proofs.YtkkbccdjbgjjaaaDoor
open Go.RowKit

/-- A token of whatever numbers. -/
structure Tk where
  kind : Int
  spot : Int
  text : ByteArray
def Tk.cells (t : Tk) : List Value := [.int .i64 t.kind, .int .i64 t.spot, .string t.text]
def kcells : List Tk → List Value
  | [] => []
  | t :: r => .int .i64 t.kind :: .int .i64 t.spot :: .string t.text :: kcells r
theorem kcells_len : ∀ l : List Tk, (kcells l).length = l.length * 3
  | [] => rfl
  | t :: r => by
    have := kcells_len r
    simp only [kcells, List.length_cons, this]
    omega
theorem kcells_app : ∀ a b : List Tk, kcells (a ++ b) = kcells a ++ kcells b
  | [], b => rfl
  | t :: r, b => by simp only [List.cons_append, kcells, kcells_app r b]
theorem kcells_at : ∀ (l : List Tk) (i : Nat) (t : Tk), l[i]? = some t → (kcells l)[i * 3]? = some (.int .i64 t.kind) ∧ (kcells l)[i * 3 + 1]? = some (.int .i64 t.spot) ∧ (kcells l)[i * 3 + 2]? = some (.string t.text)
  | [], i, t, h => by simp at h
  | x :: r, 0, t, h => by
    obtain rfl : x = t := by simpa using h
    exact ⟨rfl, rfl, rfl⟩
  | x :: r, i + 1, t, h => by
    have := kcells_at r i t (by simpa using h)
    rw [show (i + 1) * 3 = i * 3 + 3 by omega]
    exact this
theorem kcells_one : ∀ (l : List Tk), ∀ u ∈ kcells l, u.oneCell' = true
  | [], u, h => by simp [kcells] at h
  | x :: r, u, h => by
    simp only [kcells, List.mem_cons] at h
    rcases h with rfl | rfl | rfl | h
    · rfl
    · rfl
    · rfl
    · exact kcells_one r u h
theorem kcells_set : ∀ (l : List Tk) (i : Nat) (t : Tk), kcells (l.set i t) = (((kcells l).set (i * 3) (.int .i64 t.kind)).set (i * 3 + 1) (.int .i64 t.spot)).set (i * 3 + 2) (.string t.text)
  | [], i, t => by simp [kcells]
  | x :: r, 0, t => rfl
  | x :: r, i + 1, t => by
    rw [List.set_cons_succ, show (i + 1) * 3 = i * 3 + 3 by omega]
    simp only [kcells, kcells_set r i t]
    rfl
theorem mod3_cells (t : Tk) (n j : Nat) (h : j < n * 3) : (kcells (List.replicate n t))[j]? = t.cells[j % 3]? := by
  have hi : j / 3 < n := by omega
  obtain ⟨a, b, c⟩ := kcells_at (List.replicate n t) (j / 3) t (by rw [List.getElem?_replicate, if_pos hi])
  have hj : j = j / 3 * 3 + j % 3 := by omega
  have hm : j % 3 < 3 := Nat.mod_lt _ (by omega)
  generalize j / 3 = q at *
  generalize j % 3 = m at *
  subst hj
  match m, hm with
  | 0, _ => rw [Nat.add_zero, a]; rfl
  | 1, _ => rw [b]; rfl
  | 2, _ => rw [c]; rfl
def Tok.tk (t : Tok) : Tk := ⟨(t.kind : Int), (t.place : Int), t.text⟩
theorem tcells_tk : ∀ ts : List Tok, tcells ts = kcells (ts.map Tok.tk)
  | [] => rfl
  | t :: r => by
    have := tcells_tk r
    simp only [List.map_cons, kcells, ← this]
    rfl
/-- An own row of tokens. -/
def RowT (bs : Nat) (W : World) (v : Value) (l : List Tk) : Prop := W.ownsRow bs 31 3 v l.length (kcells l)
theorem RowT.form {bs : Nat} {W : World} {v : Value} {l : List Tk} (h : RowT bs W v l) : ∃ a c, v = .slice a l.length c := by
  rcases h.2 with ⟨rfl, h0⟩ | ⟨g, cap, _, rfl, _⟩
  · exact ⟨_, _, by rw [h0]⟩
  · exact ⟨_, _, rfl⟩
theorem RowT.pos {bs : Nat} {W : World} {v : Value} {l : List Tk} (h : RowT bs W v l) (hp : 0 < l.length) : ∃ g c, v = .slice (some ⟨g, 0, none⟩) l.length c := by
  rcases h.2 with ⟨_, h0⟩ | ⟨g, cap, _, rfl, _⟩
  · omega
  · exact ⟨_, _, rfl⟩
theorem RowT.cap {bs : Nat} {W : World} {a : Option Addr} {n c : Nat} {l : List Tk} (h : RowT bs W (.slice a n c) l) : n = l.length ∧ l.length ≤ c := by
  rcases h.2 with ⟨e, h0⟩ | ⟨g, cap, _, e, _, _, h4, _⟩
  · cases e
    exact ⟨h0.symm, by omega⟩
  · cases e
    exact ⟨rfl, h4⟩
theorem RowT.at' {bs : Nat} {W : World} {g n c : Nat} {l : List Tk} (h : RowT bs W (.slice (some ⟨g, 0, none⟩) n c) l) {j : Nat} {u : Value} (hj : (kcells l)[j]? = some u) : W.cell? ⟨g, j, none⟩ = some u := by
  obtain ⟨rfl, _⟩ := h.cap
  rw [World.ownsRow.cellAt h j (by rw [← kcells_len]; exact (List.getElem?_eq_some_iff.1 hj).1), hj]
theorem RowT.cell {bs : Nat} {W : World} {g n c : Nat} {l : List Tk} (h : RowT bs W (.slice (some ⟨g, 0, none⟩) n c) l) {i : Nat} {t : Tk} (hi : l[i]? = some t) :
    W.cell? ⟨g, i * 3, none⟩ = some (.int .i64 t.kind) ∧ W.cell? ⟨g, i * 3 + 1, none⟩ = some (.int .i64 t.spot) ∧ W.cell? ⟨g, i * 3 + 2, none⟩ = some (.string t.text) := by
  obtain ⟨a, b, c'⟩ := kcells_at l i t hi
  exact ⟨h.at' a, h.at' b, h.at' c'⟩
theorem RowT.frozenAt {bs : Nat} {W : World} {g n c : Nat} {l : List Tk} (h : RowT bs W (.slice (some ⟨g, 0, none⟩) n c) l) (j : Nat) : W.frozen? ⟨g, j, none⟩ = false := by
  obtain ⟨rfl, _⟩ := h.cap
  exact World.ownsRow.frozenAt h j
theorem RowT.lt {bs : Nat} {W : World} {g n c : Nat} {l : List Tk} (h : RowT bs W (.slice (some ⟨g, 0, none⟩) n c) l) : bs ≤ g ∧ g < W.heap.size := World.ownsRow.lt h g rfl
theorem RowT.set {bs : Nat} {W : World} {g n c : Nat} {l : List Tk} (h : RowT bs W (.slice (some ⟨g, 0, none⟩) n c) l) (i : Nat) (t : Tk) :
    RowT bs (((W.setCell ⟨g, i * 3, none⟩ (.int .i64 t.kind)).setCell ⟨g, i * 3 + 1, none⟩ (.int .i64 t.spot)).setCell ⟨g, i * 3 + 2, none⟩ (.string t.text)) (.slice (some ⟨g, 0, none⟩) n c) (l.set i t) ∧
      W.grownBy (((W.setCell ⟨g, i * 3, none⟩ (.int .i64 t.kind)).setCell ⟨g, i * 3 + 1, none⟩ (.int .i64 t.spot)).setCell ⟨g, i * 3 + 2, none⟩ (.string t.text)) (some g) := by
  obtain ⟨rfl, _⟩ := h.cap
  obtain ⟨h1, g1⟩ := World.ownsRow.stored h (i * 3) (.int .i64 t.kind)
  obtain ⟨h2, g2⟩ := World.ownsRow.stored h1 (i * 3 + 1) (.int .i64 t.spot)
  obtain ⟨h3, g3⟩ := World.ownsRow.stored h2 (i * 3 + 2) (.string t.text)
  refine ⟨?_, (g1.trans g2).trans g3⟩
  unfold RowT
  rw [kcells_set, List.length_set]
  exact h3
theorem RowT.kept {bs : Nat} {W W' : World} {v : Value} {l : List Tk} (h : RowT bs W v l) {row : Option Nat} (hg : W.grownBy W' row) (hne : v.ownBlock = none ∨ v.ownBlock ≠ row) : RowT bs W' v l := World.ownsRow.kept h hg hne
theorem ownsRow_up {bs : Nat} {W w : World} {e size n : Nat} {v : Value} {xs : List Value} (h : W.ownsRow bs e size v n xs) (hb : Below W.heap.size W w) : w.ownsRow bs e size v n xs := by
  refine ⟨h.1, ?_⟩
  rcases h.2 with h1 | ⟨g', cap, cur, e, hb1, hc, rest⟩
  · exact .inl h1
  · refine .inr ⟨g', cap, cur, e, hb1, ?_, rest⟩
    rw [hb.block g' (Array.getElem?_eq_some_iff.1 hc).1]
    exact hc
theorem ownsRow_mono {W : World} {bs bs' e size n : Nat} {v : Value} {xs : List Value} (h : W.ownsRow bs e size v n xs) (hb : bs' ≤ bs) : W.ownsRow bs' e size v n xs := by
  refine ⟨h.1, ?_⟩
  rcases h.2 with h1 | ⟨g', cap, cur, e, hb1, rest⟩
  · exact .inl h1
  · exact .inr ⟨g', cap, cur, e, Nat.le_trans hb hb1, rest⟩
theorem RowT.up {bs : Nat} {W w : World} {v : Value} {l : List Tk} (h : RowT bs W v l) (hb : Below W.heap.size W w) : RowT bs w v l := ownsRow_up h hb
theorem RowT.mono {bs bs' : Nat} {W : World} {v : Value} {l : List Tk} (h : RowT bs W v l) (hb : bs' ≤ bs) : RowT bs' W v l := ownsRow_mono h hb
theorem ownsRow_take {W : World} {bs e size g n m c : Nat} {xs news : List Value} (h : W.ownsRow bs e size (.slice (some ⟨g, 0, none⟩) (n + m) c) (n + m) (xs ++ news)) (hx : xs.length = n * size) : W.ownsRow bs e size (.slice (some ⟨g, 0, none⟩) n c) n xs := by
  refine ⟨hx, ?_⟩
  rcases h.2 with ⟨e, _⟩ | ⟨g', cap, cur, e, hb1, h2, h3, h4, h5, h6⟩
  · cases e
  · cases e
    refine .inr ⟨g, c, cur, rfl, hb1, h2, by omega, h4, h5, ?_⟩
    have := congrArg (List.take (n * size)) h6
    rw [List.take_take, Nat.min_eq_left (Nat.mul_le_mul_right _ (Nat.le_add_right n m)), ← hx, List.take_left] at this
    rw [← hx]
    exact this
section
variable {P : Program}
/-- append onto an own row that is kept beside: what came out; the old row as it was; its block written on with the new cells at most. -/
theorem run_append_keeps (w : World) (t ty : TypeId) (base : Nat) (e : TypeId) (i : TypeInfo) (z : Value) (size bytes : Nat) (ht : P.underlying t = some (.slice e)) (hi : P.info? e = some i) (hz : i.zero = some z)
    (hsize : i.size = size) (hby : i.bytes = bytes) (hzs : z.cells.size = size) (hsz : 0 < size)
    (v : Value) (n : Nat) (xs : List Value) (hown : w.ownsRow base e size v n xs)
    (ad : Addr) (m c : Nat) (news : List Value) (hl : news.length = m * size) (hnews : ∀ j u, news[j]? = some u → w.cell? (ad.add j) = some u) (h1 : ∀ u ∈ news, u.oneCell' = true)
    (hm : 0 < m) (h63 : n + m ≤ maxLen) (hbytes : (n + m) * bytes ≤ 140737488355328) (hbase : base ≤ w.heap.size) :
    ∃ g' c' w', (Builtin.append_ #[t, t] ty #[v, .slice (some ad) m c]).run P w = .ok (.slice (some ⟨g', 0, none⟩) (n + m) c') w' ∧ w'.ownsRow base e size (.slice (some ⟨g', 0, none⟩) (n + m) c') (n + m) (xs ++ news) ∧ w'.ownsRow base e size v n xs ∧ w.grownBy w' v.ownBlock ∧
      (v.ownBlock = some g' ∨ w.heap.size ≤ g') ∧ ∀ g j, v.ownBlock = some g → w'.cell? ⟨g, j, none⟩ = w.cell? ⟨g, j, none⟩ ∨ ∃ u, (xs ++ news)[j]? = some u ∧ w'.cell? ⟨g, j, none⟩ = some u := by
  have hlen : xs.length = n * size := hown.1
  rcases id hown.2 with ⟨rfl, rfl⟩ | ⟨g, cap, cur, rfl, hbg, hg, hnc, hcm, hcs, htake⟩
  · obtain ⟨v', w', hr, ho, hgr, _⟩ := run_append_own (P := P) w base t ty e i z size bytes ht hi hz hsize hby hzs hsz (.slice none 0 0) 0 xs hown ad m c news hl hnews h1 h63 hbytes hbase
    have hgr' : w.grownBy w' none := hgr
    rcases id ho.2 with ⟨_, h0⟩ | ⟨g', c', _, rfl, hb', _⟩
    · omega
    · obtain rfl : xs = [] := List.eq_nil_of_length_eq_zero (by simpa using hlen)
      refine ⟨g', c', w', hr, ho, World.ownsRow_nil _ _ _ _, hgr, ?_, fun g j e => by cases e⟩
      by_cases h : w.heap.size ≤ g'
      · exact .inr h
      · exfalso
        obtain ⟨v2, w2, hr2, ho2, hgr2, _⟩ := run_append_own (P := P) w w.heap.size t ty e i z size bytes ht hi hz hsize hby hzs hsz (.slice none 0 0) 0 [] (World.ownsRow_nil w _ e size) ad m c news hl hnews h1 h63 hbytes (Nat.le_refl _)
        rw [hr] at hr2
        simp only [Result.ok.injEq] at hr2
        obtain ⟨rfl, rfl⟩ := hr2
        exact h (ho2.lt g' rfl).1
  · by_cases hroom : n + m ≤ cap
    · obtain ⟨w', hr, ho, hgr⟩ := run_append_own_spare (P := P) w base t ty e i size ht hi hsize g n cap xs hown ad m c news hl hnews h1 hroom
      have hin : ∀ j, j < news.length → (w.cell? ⟨g, 0 + n * i.size + j, none⟩).isSome = true := fun j hj => by
        rw [cell_of_row _ _ _ _ _ _ hg]
        have : n * size + news.length ≤ cur.size := by rw [hl, hcs, ← Nat.add_mul]; exact Nat.mul_le_mul_right _ hroom
        rw [hsize, Array.getElem?_eq_getElem (by omega)]
        rfl
      have hr2 := run_append_room_cells (P := P) w t ty e i ht hi g 0 n cap ad m c news (by rw [hsize]; exact hl) hnews h1 hroom hin (fun j _ => World.ownsRow.frozenAt hown _)
      rw [hr] at hr2
      simp only [Result.ok.injEq, true_and] at hr2
      refine ⟨g, cap, w', hr, ho, ownsRow_take ho hlen, hgr, .inl rfl, fun g1 j e => ?_⟩
      obtain rfl : g = g1 := by simpa [Value.ownBlock] using e
      by_cases hj : j < (n + m) * size
      · refine .inr ?_
        have hlx : (xs ++ news).length = (n + m) * size := ho.1
        refine ⟨(xs ++ news)[j]'(by omega), List.getElem?_eq_getElem _, ?_⟩
        rw [World.ownsRow.cellAt ho j hj, List.getElem?_eq_getElem]
      · refine .inl ?_
        rw [hr2]
        refine World.cell?_setCells_out _ _ _ _ _ fun _ _ => .inr ?_
        rw [hsize, hl, Nat.zero_add, ← Nat.add_mul]
        show (n + m) * size ≤ j
        omega
    · obtain ⟨v', w', hr, ho, hgr⟩ := run_append_arg_grows (P := P) w t ty e i z size bytes ht hi hz hsize hby hzs hsz ⟨g, 0, none⟩ n cap xs hlen (hown.cells (g := g) rfl) ad m c news hl hnews (by omega) h63 hbytes
      rcases id ho.2 with ⟨_, h0⟩ | ⟨g', c', _, rfl, hb', _⟩
      · omega
      · refine ⟨g', c', w', hr, ownsRow_mono ho hbase, World.ownsRow.kept hown hgr (.inr (by simp [Value.ownBlock])), ⟨hgr.os, hgr.tape, hgr.output, hgr.size, fun k hk _ => hgr.block k hk (by simp)⟩, .inr hb', fun g1 j e => .inl ?_⟩
        obtain rfl : g = g1 := by simpa [Value.ownBlock] using e
        exact World.cell?_of_block (hgr.block g (hown.lt g rfl).2 (by simp))
end
end Go.Proofs.YtkkbccdjbgjjaaaDoor

namespace Go.Proofs.YtkkbccdjbgjjaaaDoor
open Go.RowKit
attribute [local go_sem ↓] Go.wp_at_zero Go.wp_at_succ

/-- The mark of the i-th list. -/
def mkT (i : Nat) : Tk := ⟨-1 - (i : Int), (i : Int), ofN [i % 256, i / 256 % 256]⟩
def Tk.val (t : Tk) : Value := .agg #[.int .i64 t.kind, .int .i64 t.spot, .string t.text]
theorem sizeTok : (Tryd.prog.info? 31).map (·.size) = some 3 := by kernel_rfl
theorem mark_conv (W : World) (i : Nat) : (convert 40 9 (.slice (some ⟨W.heap.size, 0, none⟩) 2 2)).run Tryd.prog (W.alloc (.cells #[.int .u8 ((i : Int) % 256), .int .u8 ((i : Int) / 256 % 256)] 5)) = .ok (.string (mkT i).text) (W.alloc (.cells #[.int .u8 ((i : Int) % 256), .int .u8 ((i : Int) / 256 % 256)] 5)) := by
  refine conv_any (l := [i % 256, i / 256 % 256]) ⟨some ⟨W.heap.size, 0, none⟩, 2, rfl, ⟨Nat.le_refl _, by unfold maxLen; omega, by simp⟩, fun _ => ⟨W.heap.size, 0, rfl, by rw [World.size_alloc]; omega, fun j b hj => ?_⟩⟩ ?_
  · match j, hj with
    | 0, hj => obtain rfl := Option.some.inj hj; rw [cell_of_row _ _ _ _ _ _ (heap_new W _)]; simp
    | 1, hj => obtain rfl := Option.some.inj hj; rw [cell_of_row _ _ _ _ _ _ (heap_new W _)]; simp
  · intro x hx
    simp at hx
    rcases hx with rfl | rfl <;> omega
set_option maxRecDepth 100000 in
set_option maxHeartbeats 2000000 in
theorem mark_any (W : World) (i : Nat) (hi : i ≤ 1099511627776) : Calls Tryd.prog 7 #[.int .i64 (i : Int)] W fun e w => e = .returned (mkT i).val ∧ Below W.heap.size W w := by
  have hcv := mark_conv (W.alloc (.cells #[.int .i64 0, .int .i64 0, .string ⟨#[]⟩] 31)) i
  rw [World.size_alloc] at hcv
  have Hb : Hid (Below W.heap.size W ((W.alloc (.cells #[.int .i64 0, .int .i64 0, .string ⟨#[]⟩] 31)).alloc (.cells #[.int .u8 ((i : Int) % 256), .int .u8 ((i : Int) / 256 % 256)] 5))) := ((Below.refl _ W).alloc (Nat.le_refl _) _).alloc (by rw [World.size_alloc]; omega) _
  have Hm : Hid (mkT i = ⟨-1 - (i : Int), (i : Int), (mkT i).text⟩) := rfl
  go_enter Tryd.func7, Tryd.ntmps7
  generalize (mkT i).text = t at *
  go_wp2
  refine bodyPost_ret (results_cell_row rfl _ _ W.heap.size 31 #[.int .i64 (-1 - (i : Int)), .int .i64 (i : Int), .string t] (0, 0) _ rfl ((Below.heap_alloc _ _ _ (by rw [World.size_alloc]; omega)).trans (heap_new _ _)) Tryd.underlying31 rfl sizeTok) rfl ?_
  refine ⟨?_, ?_⟩
  · have := unhide Hm
    unfold Tk.val
    rw [this]
  · exact ((Below.refl _ W).alloc (Nat.le_refl _) _).alloc (by rw [World.size_alloc]; omega) _
/-- Between two worlds: block g may have been written on with the mark; else there are new blocks alone. -/
structure Stp (g : Option Nat) (t : Tk) (w w' : World) : Prop where
  os : w'.os = w.os
  tape : w'.tape = w.tape
  output : w'.output = w.output
  size : w.heap.size ≤ w'.heap.size
  block : ∀ k, k < w.heap.size → some k ≠ g → w'.heap[k]? = w.heap[k]?
  cells : ∀ k j, g = some k → w'.cell? ⟨k, j, none⟩ = w.cell? ⟨k, j, none⟩ ∨ w'.cell? ⟨k, j, none⟩ = t.cells[j % 3]?
theorem Stp.refl (g : Option Nat) (t : Tk) (w : World) : Stp g t w w := ⟨rfl, rfl, rfl, Nat.le_refl _, fun _ _ _ => rfl, fun _ _ _ => .inl rfl⟩
theorem Stp.trans {g : Option Nat} {t : Tk} {a b c : World} (h : Stp g t a b) (k : Stp g t b c) : Stp g t a c :=
  ⟨k.os.trans h.os, k.tape.trans h.tape, k.output.trans h.output, Nat.le_trans h.size k.size, fun i hi hne => (k.block i (Nat.lt_of_lt_of_le hi h.size) hne).trans (h.block i hi hne), fun i j e => (k.cells i j e).elim (fun q => (h.cells i j e).imp q.trans q.trans) .inr⟩
theorem Stp.below {g : Option Nat} {t : Tk} {w w' : World} {lo : Nat} (h : Stp g t w w') (hl : lo ≤ w.heap.size) (hg : ∀ k, g = some k → lo ≤ k) : Below lo w w' :=
  ⟨h.os, h.tape, h.output, h.size, fun i hi => h.block i (by omega) (fun e => by have := hg i e.symm; omega)⟩
theorem stp_below {g : Option Nat} {t : Tk} {w w' : World} (h : Below w.heap.size w w') (hg : ∀ k, g = some k → k < w.heap.size) : Stp g t w w' :=
  ⟨h.os, h.tape, h.output, h.size, fun i hi _ => h.block i hi, fun k j e => .inl (h.cell (p := ⟨k, j, none⟩) (hg k e))⟩
theorem Stp.row {g : Option Nat} {t : Tk} {w w' : World} (h : Stp g t w w') {bs e size n : Nat} {v : Value} {xs : List Value} (hr : w.ownsRow bs e size v n xs) (hne : v.ownBlock = none ∨ v.ownBlock ≠ g) : w'.ownsRow bs e size v n xs :=
  World.ownsRow.kept hr ⟨h.os, h.tape, h.output, h.size, h.block⟩ hne
/-- A list of the mark alone. -/
def MkL (w : World) (t : Tk) (v : Value) (n : Nat) : Prop := ∃ a c, v = .slice a n c ∧ (∀ b, v.ownBlock = some b → b < w.heap.size) ∧ (0 < n → ∃ b, a = some ⟨b, 0, none⟩ ∧ ∀ j, j < n * 3 → w.cell? ⟨b, j, none⟩ = t.cells[j % 3]?)
theorem MkL.stp {g : Option Nat} {t : Tk} {w w' : World} {v : Value} {n : Nat} (h : MkL w t v n) (hs : Stp g t w w') : MkL w' t v n := by
  obtain ⟨a, c, rfl, h1, h2⟩ := h
  refine ⟨a, c, rfl, fun b e => Nat.lt_of_lt_of_le (h1 b e) hs.size, fun hp => ?_⟩
  obtain ⟨b, rfl, h3⟩ := h2 hp
  refine ⟨b, rfl, fun j hj => ?_⟩
  by_cases e : g = some b
  · exact (hs.cells b j e).elim (fun q => q.trans (h3 j hj)) id
  · exact (World.cell?_of_block (a := ⟨b, j, none⟩) (hs.block b (h1 b rfl) (fun q => e q.symm))).trans (h3 j hj)
theorem MkL.up {t : Tk} {w w' : World} {v : Value} {n : Nat} (h : MkL w t v n) (hb : Below w.heap.size w w') : MkL w' t v n := h.stp (stp_below (g := none) hb (fun k e => by cases e))
theorem MkL.kept {t : Tk} {w w' : World} {v : Value} {n : Nat} (h : MkL w t v n) {row : Option Nat} (hg : w.grownBy w' row) (hne : ∀ b, v.ownBlock = some b → some b ≠ row) : MkL w' t v n := by
  obtain ⟨a, c, rfl, h1, h2⟩ := h
  refine ⟨a, c, rfl, fun b e => Nat.lt_of_lt_of_le (h1 b e) hg.size, fun hp => ?_⟩
  obtain ⟨b, rfl, h3⟩ := h2 hp
  exact ⟨b, rfl, fun j hj => (World.cell?_of_block (a := ⟨b, j, none⟩) (hg.block b (h1 b rfl) (hne b rfl))).trans (h3 j hj)⟩
theorem MkL.of {bs : Nat} {t : Tk} {w : World} {v : Value} {n : Nat} (h : RowT bs w v (List.replicate n t)) : MkL w t v n := by
  obtain ⟨a, c, e⟩ := h.form
  rw [List.length_replicate] at e
  subst e
  refine ⟨a, c, rfl, fun b e => (World.ownsRow.lt h b e).2, fun hp => ?_⟩
  obtain ⟨g, c', e⟩ := h.pos (by rw [List.length_replicate]; exact hp)
  simp only [Value.slice.injEq] at e
  obtain ⟨rfl, _, rfl⟩ := e
  refine ⟨g, rfl, fun j hj => ?_⟩
  rw [← mod3_cells t n j hj]
  obtain ⟨u, hu⟩ : ∃ u, (kcells (List.replicate n t))[j]? = some u := ⟨_, List.getElem?_eq_getElem (by rw [kcells_len, List.length_replicate]; exact hj)⟩
  rw [hu]
  exact h.at' hu
theorem MkL.cell {t : Tk} {w : World} {v : Value} {n : Nat} (h : MkL w t v n) {j : Nat} (hj : j < n) : ∃ b c, v = .slice (some ⟨b, 0, none⟩) n c ∧ w.cell? ⟨b, j * 3, none⟩ = some (.int .i64 t.kind) ∧ w.cell? ⟨b, j * 3 + 1, none⟩ = some (.int .i64 t.spot) ∧ w.cell? ⟨b, j * 3 + 2, none⟩ = some (.string t.text) := by
  obtain ⟨a, c, rfl, h1, h2⟩ := h
  obtain ⟨b, rfl, h3⟩ := h2 (by omega)
  refine ⟨b, c, rfl, ?_, ?_, ?_⟩
  · rw [h3 _ (by omega), show j * 3 % 3 = 0 by omega]; rfl
  · rw [h3 _ (by omega), show (j * 3 + 1) % 3 = 1 by omega]; rfl
  · rw [h3 _ (by omega), show (j * 3 + 2) % 3 = 2 by omega]; rfl
/-- What the rounds keep. -/
structure St (B : Nat) (w : World) (v3 : Value) (us : List Value) : Prop where
  o3 : w.ownsRow B 25 1 v3 us.length us
  k : ∀ k v, us[k]? = some v → ∃ n, n ≤ 16480 ∧ MkL w (mkT (k / 5)) v n
  n3 : ∀ v ∈ us, ∀ b, v.ownBlock = some b → some b ≠ v3.ownBlock
theorem St.up {B : Nat} {w w' : World} {v3 : Value} {us : List Value} (h : St B w v3 us) (hb : Below w.heap.size w w') : St B w' v3 us :=
  ⟨ownsRow_up h.o3 hb, fun k v hv => by obtain ⟨n, h1, h2⟩ := h.k k v hv; exact ⟨n, h1, h2.up hb⟩, h.n3⟩
theorem St.push {B r : Nat} {w w' : World} {v3 v3' : Value} {us new : List Value} {ob : Obj} (h : St B w v3 us) (hl : us.length = 5 * r) (hn5 : new.length = 5) (hnew : ∀ v ∈ new, ∃ n, n ≤ 16480 ∧ MkL w (mkT r) v n) (hne : ∀ v ∈ new, ∀ b, v.ownBlock = some b → some b ≠ v3.ownBlock)
    (hg : (w.alloc ob).grownBy w' v3.ownBlock) (ho : w'.ownsRow B 25 1 v3' (us.length + 5) (us ++ new)) (hat : v3'.ownBlock = v3.ownBlock ∨ v3'.ownBlock = some (w.alloc ob).heap.size) : St B w' v3' (us ++ new) := by
  have hgg : w.grownBy w' v3.ownBlock := (World.grownBy_alloc w ob _).trans hg
  have hall : ∀ k v, (us ++ new)[k]? = some v → ∃ n, n ≤ 16480 ∧ MkL w (mkT (k / 5)) v n := by
    intro k v hv
    by_cases hk : k < us.length
    · rw [List.getElem?_append_left hk] at hv
      exact h.k k v hv
    · rw [List.getElem?_append_right (by omega)] at hv
      have hj : k - us.length < 5 := by rw [← hn5]; exact (List.getElem?_eq_some_iff.1 hv).1
      rw [show k / 5 = r by omega]
      exact hnew v (List.mem_of_getElem? hv)
  have hn : ∀ v ∈ us ++ new, ∀ b, v.ownBlock = some b → some b ≠ v3.ownBlock := fun v hv => (List.mem_append.1 hv).elim (h.n3 v) (hne v)
  refine ⟨by rw [List.length_append, hn5]; exact ho, fun k v hv => ?_, fun v hv b e q => ?_⟩
  · obtain ⟨n, h1, h2⟩ := hall k v hv
    exact ⟨n, h1, h2.kept hgg (hn v (List.mem_of_getElem? hv))⟩
  · rcases hat with he | he
    · rw [he] at q
      exact hn v hv b e q
    · rw [he] at q
      obtain ⟨k, hk⟩ := List.mem_iff_getElem?.1 hv
      obtain ⟨n, _, _, _, rfl, h2, _⟩ := hall k v hk
      have := h2 b e
      rw [World.size_alloc] at q
      simp at q
      omega
end Go.Proofs.YtkkbccdjbgjjaaaDoor

namespace Go.Proofs.YtkkbccdjbgjjaaaDoor
open Go.RowKit
theorem lt_of_cell {w : World} {b i : Nat} {v : Value} (h : w.cell? ⟨b, i, none⟩ = some v) : b < w.heap.size := World.block_lt_of_cell? w _ h
/-- What stands in some slots. -/
def chk (tm : Array Value) : List (Nat × Value) → Prop
  | [] => True
  | p :: r => tm[p.1]? = some p.2 ∧ chk tm r
set_option maxRecDepth 100000 in
theorem frame160 {tm : Array Value} (h : tm.size = 160) : ∃ u : Nat → Value, tm = #[u 0, u 1, u 2, u 3, u 4, u 5, u 6, u 7, u 8, u 9, u 10, u 11, u 12, u 13, u 14, u 15, u 16, u 17, u 18, u 19, u 20, u 21, u 22, u 23, u 24, u 25, u 26, u 27, u 28, u 29, u 30, u 31, u 32, u 33, u 34, u 35, u 36, u 37, u 38, u 39, u 40, u 41, u 42, u 43, u 44, u 45, u 46, u 47, u 48, u 49, u 50, u 51, u 52, u 53, u 54, u 55, u 56, u 57, u 58, u 59, u 60, u 61, u 62, u 63, u 64, u 65, u 66, u 67, u 68, u 69, u 70, u 71, u 72, u 73, u 74, u 75, u 76, u 77, u 78, u 79, u 80, u 81, u 82, u 83, u 84, u 85, u 86, u 87, u 88, u 89, u 90, u 91, u 92, u 93, u 94, u 95, u 96, u 97, u 98, u 99, u 100, u 101, u 102, u 103, u 104, u 105, u 106, u 107, u 108, u 109, u 110, u 111, u 112, u 113, u 114, u 115, u 116, u 117, u 118, u 119, u 120, u 121, u 122, u 123, u 124, u 125, u 126, u 127, u 128, u 129, u 130, u 131, u 132, u 133, u 134, u 135, u 136, u 137, u 138, u 139, u 140, u 141, u 142, u 143, u 144, u 145, u 146, u 147, u 148, u 149, u 150, u 151, u 152, u 153, u 154, u 155, u 156, u 157, u 158, u 159] := by
  refine ⟨fun i => tm.getD i undef, ?_⟩
  have e : tm = ((List.range 160).map fun i => tm.getD i undef).toArray := by
    apply Array.ext
    · simp [h]
    · intro i h1 h2
      simp [Array.getD, h1]
  exact e.trans rfl
/-- A loop of so many rounds, over whatever the frame is. -/
theorem wp_loop_count {P : Program} {c : Code} {Q : Exit → Act → World → Prop} (J : Nat → Act → World → Prop) (round : ∀ n a w, J n a w → c.wp P (Exit.then (fun a' w' => ∃ m, n = m + 1 ∧ J m a' w') Q) a w) (n : Nat) (a : Act) (w : World) (h : J n a w) : (Code.loop c).wp P Q a w := by
  refine wp_loop_rounds (n + 1) ?_
  induction n generalizing a w with
  | zero =>
    refine Code.wp_mono (fun e a' w' q => ?_) (round 0 a w h)
    cases e <;> first | exact q | (obtain ⟨m, hm, _⟩ := q; omega)
  | succ n ih =>
    refine Code.wp_mono (fun e a' w' q => ?_) (round (n + 1) a w h)
    cases e <;> first | exact q | (obtain ⟨m, hm, hj⟩ := q; obtain rfl : n = m := by omega
                                   exact ih a' w' hj)
/-- Between two rounds of a loop that counts. -/
def CntJ (W : World) (n : Nat) (L : Nat → List (Nat × Value)) (m : Nat) (a : Act) (w : World) : Prop := ∃ (tm : Array Value) (i : Nat), a = ⟨tm, []⟩ ∧ tm.size = 160 ∧ chk tm (L i) ∧ m = n - i ∧ i ≤ n ∧ Below W.heap.size W w
/-- The round of ScanBook, and its parts. -/
noncomputable def skLoop : Code := match Tryd.f3.body with
  | some (.seq _ (.seq _ (.seq _ (.seq (.seq _ x) _)))) => x
  | _ => .skip
noncomputable def skRound : Code := match skLoop with
  | .block _ (.loop (.seq _ (.seq (.block _ b) _))) => b
  | _ => .skip
noncomputable def skCheck1 : Code := match skRound with
  | .seq _ (.seq _ (.seq _ (.seq x _))) => x
  | _ => .skip
noncomputable def skFill : Code := match skRound with
  | .seq _ (.seq _ (.seq _ (.seq _ (.seq _ (.seq x _))))) => x
  | _ => .skip
noncomputable def skMore : Code := match skRound with
  | .seq _ (.seq _ (.seq _ (.seq _ (.seq _ (.seq _ (.seq _ (.seq x _))))))) => x
  | _ => .skip
noncomputable def skEnd : Code := match skRound with
  | .seq _ (.seq _ (.seq _ (.seq _ (.seq _ (.seq _ (.seq _ (.seq _ x))))))) => x
  | _ => .skip
noncomputable def skRoundWith (c f m e : Code) : Code := match skRound with
  | .seq a0 (.seq a1 (.seq a2 (.seq _ (.seq a4 (.seq _ (.seq a6 (.seq _ _))))))) => .seq a0 (.seq a1 (.seq a2 (.seq c (.seq a4 (.seq f (.seq a6 (.seq m e)))))))
  | _ => .skip
theorem skRound_split : skRound = skRoundWith skCheck1 skFill skMore skEnd := rfl
noncomputable def skLoopWith (b : Code) : Code := match skLoop with
  | .block i (.loop (.seq a (.seq (.block j _) c))) => .block i (.loop (.seq a (.seq (.block j b) c)))
  | _ => .skip
theorem skLoop_split : skLoop = skLoopWith skRound := rfl
noncomputable def skCheck2 : Code := match Tryd.f3.body with
  | some (.seq _ (.seq _ (.seq _ (.seq _ (.seq x _))))) => x
  | _ => .skip
noncomputable def skWith (l c : Code) : Code := match Tryd.f3.body with
  | some (.seq a0 (.seq a1 (.seq a2 (.seq (.seq a3 _) (.seq _ z))))) => .seq a0 (.seq a1 (.seq a2 (.seq (.seq a3 l) (.seq c z))))
  | _ => .skip
theorem sk_split : Tryd.f3.body = some (skWith skLoop skCheck2) := rfl
noncomputable def ckOne (c : Code) : Code := match c with
  | .seq _ (.block _ (.loop (.seq _ (.seq (.block _ b) _)))) => b
  | _ => .skip
noncomputable def ckWith (c b : Code) : Code := match c with
  | .seq a (.block i (.loop (.seq x (.seq (.block j _) y)))) => .seq a (.block i (.loop (.seq x (.seq (.block j b) y))))
  | _ => .skip
theorem skCheck1_split : skCheck1 = ckWith skCheck1 (ckOne skCheck1) := rfl
theorem skCheck2_split : skCheck2 = ckWith skCheck2 (ckOne skCheck2) := rfl
end Go.Proofs.YtkkbccdjbgjjaaaDoor

namespace Go.Proofs.YtkkbccdjbgjjaaaDoor
open Go.RowKit

section
variable {P : Program} {ops : Array Oper} {Q : Exit → Act → World → Prop} {md : Region.Mode}
theorem ready_lt {d : Array Bool} {i : Nat} (h : i ∈ Region.ready md ops d) : ∃ hi : i < d.size, d[i] = false := by
  have h1 := (mem_ready.1 h).1
  rcases Nat.lt_or_ge i d.size with hi | hi
  · refine ⟨hi, ?_⟩
    simpa [hi] using h1
  · simp [Array.getElem?_eq_none hi] at h1
/-- Every order, by what holds of the done ones. -/
theorem wpAny_inv (I : Array Bool → Act → World → Prop) (step : ∀ d a w i, I d a w → i ∈ Region.ready md ops d → wpOp P ops Q i (fun a' w' => I (d.setIfInBounds i true) a' w') a w) (fin : ∀ d a w, I d a w → Region.ready md ops d = [] → Q .normal a w) :
    ∀ (n : Nat) (d : Array Bool) (a : Act) (w : World), I d a w → d.count false ≤ n → wpAny P md ops Q n d a w
  | 0, d, a, w, hI, hn => by
    have hr : Region.ready md ops d = [] := by
      apply List.eq_nil_iff_forall_not_mem.2
      intro i hi
      obtain ⟨h1, h2⟩ := ready_lt hi
      have h3 : 0 < d.count false := Array.count_pos_iff.2 (by rw [← h2]; exact Array.getElem_mem h1)
      omega
    exact ⟨hr, fin d a w hI hr⟩
  | n + 1, d, a, w, hI, hn => by
    refine ⟨fun hr => fin d a w hI hr, fun i hi => ?_⟩
    refine wpOp_mono (fun a' w' h' => wpAny_inv I step fin n _ a' w' h' ?_) (step d a w i hI hi)
    obtain ⟨h1, h2⟩ := ready_lt hi
    have h3 : 0 < d.count false := Array.count_pos_iff.2 (by rw [← h2]; exact Array.getElem_mem h1)
    rw [Array.setIfInBounds_def, dif_pos h1, Array.count_set h1, h2]
    simp
    omega
theorem getD_keep {α : Type} {d : Array α} {i j : Nat} {x z : α} (h : i ≠ j) : (d.setIfInBounds i x).getD j z = d.getD j z := by
  simp [Array.getD_eq_getD_getElem?, h]
theorem getD_new {α : Type} {d : Array α} {i : Nat} {x z : α} (h : i < d.size) : (d.setIfInBounds i x).getD i z = x := by
  simp [h]
theorem done_of {d : Array Bool} {i : Nat} {o : Oper} (hsz : i < d.size) (hr : Region.ready md ops d = []) (ho : ops[i]? = some o) (hdeps : ∀ e ∈ o.after, Region.binds md e = true → d.getD e.on false = true) : d.getD i false = true := by
  by_cases h : d.getD i true = false
  · have : i ∈ Region.ready md ops d := mem_ready.2 ⟨h, o, ho, hdeps⟩
    rw [hr] at this
    cases this
  · simp [hsz] at h ⊢
    exact h
/-- What the i-th operation waits for. -/
def Waits (ops : Array Oper) (i k : Nat) : Prop := ∃ o, ops[i]? = some o ∧ ∃ e ∈ o.after, Region.binds .any e = true ∧ e.on = k
/-- A region that draws its order: each operation writes a slot of its own, what is said of it lasts whatever comes behind. -/
theorem region_inv {id n N : Nat} (hmx : P.follows .mixedOrders = true) (s : Nat → Nat) (Ft : Nat → Value → World → Prop) (Rl : World → World → Prop) (tm0 : Array Value) (w0 : World)
    (hn : ops.size = n) (hN : tm0.size = N) (hinj : ∀ i j, i < n → j < n → s i = s j → i = j) (hs : ∀ i, i < n → s i < N) (hback : ∀ (i : Nat) (o : Oper), ops[i]? = some o → ∀ e ∈ o.after, e.on < i)
    (refl : Rl w0.drew w0.drew) (trans : ∀ a b c, Rl a b → Rl b c → Rl a c) (mono : ∀ i x w w', Rl w0.drew w → Ft i x w → Rl w w' → Ft i x w')
    (step : ∀ i tm w, i < n → tm.size = N → (∀ j, (∀ i, i < n → s i ≠ j) → tm.getD j undef = tm0.getD j undef) → (∀ k, Waits ops i k → Ft k (tm.getD (s k) undef) w) → Rl w0.drew w →
      wpOp P ops Q i (fun a' w' => ∃ x, a' = ⟨tm.setIfInBounds (s i) x, []⟩ ∧ Rl w w' ∧ Ft i x w') ⟨tm, []⟩ w)
    (fin : ∀ tm w, tm.size = N → (∀ j, (∀ i, i < n → s i ≠ j) → tm.getD j undef = tm0.getD j undef) → (∀ k, k < n → Ft k (tm.getD (s k) undef) w) → Rl w0.drew w → Q .normal ⟨tm, []⟩ w) :
    (Code.region id ops true).wp P Q ⟨tm0, []⟩ w0 := by
  refine wp_region_any hmx (wpAny_inv (md := .any) (fun d a w => ∃ tm, a = ⟨tm, []⟩ ∧ tm.size = N ∧ d.size = n ∧ (∀ j, (∀ i, i < n → s i ≠ j) → tm.getD j undef = tm0.getD j undef) ∧ Rl w0.drew w ∧ ∀ i, d.getD i false = true → Ft i (tm.getD (s i) undef) w) ?_ ?_ _ _ _ _ ?_ ?_)
  · rintro d a w i ⟨tm, rfl, h1, h2, h3, h4, h5⟩ hr
    obtain ⟨hi, _⟩ := ready_lt hr
    obtain ⟨_, o, ho, hall⟩ := mem_ready.1 hr
    have hin : i < n := by omega
    refine wpOp_mono ?_ (step i tm w hin h1 h3 ?_ h4)
    · rintro a' w' ⟨x, rfl, h6, h7⟩
      refine ⟨_, rfl, by rw [Array.size_setIfInBounds]; exact h1, by rw [Array.size_setIfInBounds]; exact h2, fun j hj => ?_, trans _ _ _ h4 h6, fun j hj => ?_⟩
      · rw [getD_keep (hj i hin)]
        exact h3 j hj
      · by_cases e : j = i
        · subst e
          rw [getD_new (by rw [h1]; exact hs j hin)]
          exact h7
        · rw [getD_keep (Ne.symm e)] at hj
          have hjn : j < n := by
            rcases Nat.lt_or_ge j n with q | q
            · exact q
            · simp [Array.getElem?_eq_none (show d.size ≤ j by omega)] at hj
          rw [getD_keep (fun q => e (hinj i j hin hjn q).symm)]
          exact mono j _ w w' h4 (h5 j hj) h6
    · rintro k ⟨o', ho', e, he, hb, rfl⟩
      rw [ho] at ho'
      obtain rfl := Option.some.inj ho'
      exact h5 _ (hall e he hb)
  · rintro d a w ⟨tm, rfl, h1, h2, h3, h4, h5⟩ hr
    have hall : ∀ m i, i < m → i < n → d.getD i false = true := by
      intro m
      induction m with
      | zero => intro i hi; omega
      | succ m ih =>
        intro i hi hin
        obtain ⟨o, ho⟩ : ∃ o, ops[i]? = some o := ⟨_, Array.getElem?_eq_getElem (by omega)⟩
        exact done_of (by omega) hr ho fun e he _ => ih e.on (by have := hback i o ho e he; omega) (by have := hback i o ho e he; omega)
    exact fin tm w h1 h3 (fun k hk => h5 k (hall (k + 1) k (by omega) hk)) h4
  · refine ⟨tm0, rfl, hN, by simp [hn], fun _ _ => rfl, refl, fun i hi => ?_⟩
    simp [Array.getD_eq_getD_getElem?, Array.getElem?_replicate] at hi
    split at hi <;> simp at hi
  · simp
theorem op_run {i : Nat} {o : Oper} {a : Act} {w w' : World} {K : Act → World → Prop} {v : Value} (ho : ops[i]? = some o) (hg : o.guard = none) (hr : (execOp a.eval o).run P w = .ok (.value v) w') (hK : K (a.put o.dst v) w') : wpOp P ops Q i K a w := by
  refine wpOp_step ho (fun K' hK' => ?_)
  have hw : Region.wanted o (yielded ops a.tmps) = true := by simp [Region.wanted, hg]
  rw [if_pos hw]
  unfold Oper.wp
  rw [hr]
  exact hK' _ _ hK
theorem op_call {i : Nat} {o : Oper} {a : Act} {w : World} {K : Act → World → Prop} (ho : ops[i]? = some o) (hg : o.guard = none) (f : FuncId) (hfn : ∀ vs, (callFunc f vs).run P w = .ok (.enter f vs) w) (args : Array Operand) (tys : Array TypeId)
    (hop : o.op = .call { callee := .value (.func f), args := args, argTypes := tys }) (vs : Array Value) (hv : args.map a.eval = vs) {R : Ending → World → Prop} (hc : Calls P f vs w R) (hK : ∀ e w', R e w' → ∃ v, e = .returned v ∧ K (a.put o.dst v) w') : wpOp P ops Q i K a w := by
  refine wpOp_step ho (fun K' hK' => ?_)
  have hw : Region.wanted o (yielded ops a.tmps) = true := by simp [Region.wanted, hg]
  rw [if_pos hw]
  have h2 : Oper.wp P o a w K' Q = o.upon P a K' Q (.ok (.enter f vs) w) := by
    unfold Oper.wp
    simp [execOp, hop, resolve, invoke, ← hv, Act.eval, Deferred.ofValue, hfn]
  rw [h2, Oper.upon_enter]
  refine hc.mono ?_
  intro e w' hr
  obtain ⟨v, rfl, hk⟩ := hK e w' hr
  exact hK' _ _ hk
theorem run_v {S : Sem Value} {w w' : World} {v : Value} (h : S.run P w = .ok v w') : ((do pure (Next.value (← S))) : Sem Next).run P w = .ok (.value v) w' := by
  simp [h]
theorem op_move {i : Nat} {o : Oper} {a : Act} {w : World} {K : Act → World → Prop} {v : Value} (ho : ops[i]? = some o) (hg : o.guard = none) (x : Operand) (hop : o.op = .move x) (e : a.eval x = v) (hK : K (a.put o.dst v) w) : wpOp P ops Q i K a w :=
  op_run ho hg (by simp only [execOp, hop, e, Sem.run_pure]) hK
theorem op_assign {i : Nat} {o : Oper} {a : Act} {w : World} {K : Act → World → Prop} {v : Value} (ho : ops[i]? = some o) (hg : o.guard = none) (x : Operand) (hop : o.op = .assign x) (e : a.eval x = v) (hK : K (a.put o.dst v) w) : wpOp P ops Q i K a w :=
  op_run ho hg (by simp only [execOp, hop, e, Sem.run_pure]) hK
theorem op_index {i : Nat} {o : Oper} {a : Act} {w w' : World} {K : Act → World → Prop} {v vx vy : Value} (ho : ops[i]? = some o) (hg : o.guard = none) (t : TypeId) (x y : Operand) (hop : o.op = .indexAddr t x y) (ex : a.eval x = vx) (ey : a.eval y = vy) (hr : (Instr.indexAt t vx vy).run P w = .ok v w') (hK : K (a.put o.dst v) w') : wpOp P ops Q i K a w :=
  op_run ho hg (by simp only [execOp, hop, ex, ey, Sem.run_pure, Sem.run_bind, hr, Result.andThen_ok]) hK
theorem op_load {i : Nat} {o : Oper} {a : Act} {w w' : World} {K : Act → World → Prop} {v vx : Value} (ho : ops[i]? = some o) (hg : o.guard = none) (t : TypeId) (x : Operand) (hop : o.op = .load t x) (ex : a.eval x = vx) (hr : (Instr.loadAt t vx).run P w = .ok v w') (hK : K (a.put o.dst v) w') : wpOp P ops Q i K a w :=
  op_run ho hg (by simp only [execOp, hop, ex, Sem.run_pure, Sem.run_bind, hr, Result.andThen_ok]) hK
theorem op_bin {i : Nat} {o : Oper} {a : Act} {w w' : World} {K : Act → World → Prop} {v vx vy : Value} (ho : ops[i]? = some o) (hg : o.guard = none) (b : BinOp) (t t' : TypeId) (x y : Operand) (hop : o.op = .binOp b t x y t') (ex : a.eval x = vx) (ey : a.eval y = vy) (hr : (do eqGuard b t x y vx vy; binOp b t vx vy : Sem Value).run P w = .ok v w') (hK : K (a.put o.dst v) w') : wpOp P ops Q i K a w := by
  refine op_run ho hg (v := v) (w' := w') ?_ hK
  simp only [execOp, hop, ex, ey]
  exact run_v hr
end
theorem callMark (w : World) (vs : Array Value) : (callFunc 7 vs).run Tryd.prog w = .ok (.enter 7 vs) w := by
  have hn : ¬ Tryd.f7.name = "runtime.NumGoroutine" := by decide +kernel
  have hb : Tryd.f7.body.isSome = true := by kernel_rfl
  obtain ⟨c, hc⟩ := Option.isSome_iff_exists.1 hb
  simp [callFunc, Tryd.func7, hn, hc]
/-- Tokens and lists of lists in memory, by the model's own steps. -/
theorem run_index2 (w : World) {g n c k : Nat} (hk : k < n) : (Instr.indexAt 24 (.slice (some ⟨g, 0, none⟩) n c) (.int .i64 (k : Int))).run Tryd.prog w = .ok (.pointer (some ⟨g, k, none⟩)) w := by
  have h0 : (0 : Int) ≤ (k : Int) := Int.natCast_nonneg _
  have h1 : (k : Int) < (n : Int) := by omega
  go_simp
theorem run_index1 (w : World) {g n c k : Nat} (hk : k < n) : (Instr.indexAt 25 (.slice (some ⟨g, 0, none⟩) n c) (.int .i64 (k : Int))).run Tryd.prog w = .ok (.pointer (some ⟨g, k * 3, none⟩)) w := by
  have h0 : (0 : Int) ≤ (k : Int) := Int.natCast_nonneg _
  have h1 : (k : Int) < (n : Int) := by omega
  go_simp
theorem run_load2 (w : World) {g k n c : Nat} {a : Option Addr} (h : w.cell? ⟨g, k, none⟩ = some (.slice a n c)) : (Instr.loadAt 25 (.pointer (some ⟨g, k, none⟩))).run Tryd.prog w = .ok (.slice a n c) w := by
  go_simp
theorem run_load1 (w : World) {g k : Nat} {t : Tk} (h1 : w.cell? ⟨g, k, none⟩ = some (.int .i64 t.kind)) (h2 : w.cell? ⟨g, k + 1, none⟩ = some (.int .i64 t.spot)) (h3 : w.cell? ⟨g, k + 2, none⟩ = some (.string t.text)) : (Instr.loadAt 31 (.pointer (some ⟨g, k, none⟩))).run Tryd.prog w = .ok t.val w := by
  unfold Tk.val
  go_simp
end Go.Proofs.YtkkbccdjbgjjaaaDoor
