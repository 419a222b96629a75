import Derived.Test.YtpmdfgoajffmeaaIStill
import Derived.Test.YtpmdfgoajffmeaaIKeysF
import Derived.ArgAppend
import Derived.Maps.Range

namespace Go.Proofs.Ytpmdfgoajffmeaa
open Go.RowKit Go.Shelf

/-- An own row of numbers. -/
def RowI (bs : Nat) (W : World) (g n c : Nat) (xs : List Int) : Prop := W.ownsRow bs 3 1 (.slice (some ⟨g, 0, none⟩) n c) n (xs.map fun x => .int .i64 x)
theorem RowI.len {bs : Nat} {W : World} {g n c : Nat} {xs : List Int} (h : RowI bs W g n c xs) : xs.length = n := by have := h.1; simpa using this
theorem RowI.cellAt {bs : Nat} {W : World} {g n c : Nat} {xs : List Int} (h : RowI bs W g n c xs) {j : Nat} {x : Int} (hj : xs[j]? = some x) : W.cell? ⟨g, j, none⟩ = some (.int .i64 x) := by
  have hl := h.len
  have hlt : j < xs.length := (List.getElem?_eq_some_iff.1 hj).1
  rw [World.ownsRow.cellAt h j (by omega)]
  simp [hj]
theorem RowI.cellSome {bs : Nat} {W : World} {g n c : Nat} {xs : List Int} (h : RowI bs W g n c xs) {j : Nat} (hj : j < n) : ∃ x : Int, W.cell? ⟨g, j, none⟩ = some (.int .i64 x) := by
  have hl := h.len
  exact ⟨_, h.cellAt (List.getElem?_eq_getElem (by omega))⟩
theorem RowI.frozenAt {bs : Nat} {W : World} {g n c : Nat} {xs : List Int} (h : RowI bs W g n c xs) (j : Nat) : W.frozen? ⟨g, j, none⟩ = false := World.ownsRow.frozenAt h j
theorem RowI.set {bs : Nat} {W : World} {g n c : Nat} {xs : List Int} (h : RowI bs W g n c xs) (j : Nat) (x : Int) : RowI bs (W.setCell ⟨g, j, none⟩ (.int .i64 x)) g n c (xs.set j x) ∧ W.grownBy (W.setCell ⟨g, j, none⟩ (.int .i64 x)) (some g) := by
  obtain ⟨h1, h2⟩ := World.ownsRow.stored h j (.int .i64 x)
  refine ⟨?_, h2⟩
  unfold RowI
  rw [List.map_set]
  exact h1
theorem RowI.kept {bs : Nat} {W W' : World} {g n c : Nat} {xs : List Int} (h : RowI bs W g n c xs) {row : Option Nat} (hg : W.grownBy W' row) (hne : some g ≠ row) : RowI bs W' g n c xs := World.ownsRow.kept h hg (.inr hne)
theorem RowI.lt {bs : Nat} {W : World} {g n c : Nat} {xs : List Int} (h : RowI bs W g n c xs) : bs ≤ g ∧ g < W.heap.size := World.ownsRow.lt h g rfl
theorem RowI.up' {bs : Nat} {W w : World} {g n c : Nat} {xs : List Int} (h : RowI bs W g n c xs) (hb : Below W.heap.size W w) : RowI bs w g n c xs := ownsRow_up h hb
theorem fill_step {j : Nat} {mk : Int} {xs : List Int} (hj : j < xs.length) : (List.replicate j mk ++ xs.drop j).set j mk = List.replicate (j + 1) mk ++ xs.drop (j + 1) := by
  rw [List.set_append_right _ _ (by simp), List.length_replicate, Nat.sub_self, List.drop_eq_getElem_cons hj, List.set_cons_zero, List.replicate_succ']
  simp
theorem row_form {W : World} {bs : Nat} {e : TypeId} {size : Nat} {v : Value} {n : Nat} {xs : List Value} (h : W.ownsRow bs e size v n xs) : ∃ a c, v = .slice a n c := by
  rcases h.2 with ⟨rfl, rfl⟩ | ⟨g, cap, _, rfl, _⟩
  · exact ⟨_, _, rfl⟩
  · exact ⟨_, _, rfl⟩
theorem Try.infoInt : (Try.prog.info? 3).map (fun i => (i.zero, i.size, i.bytes)) = some (some (.int .i64 0), 1, 8) := by kernel_rfl
theorem Try.infoInts : (Try.prog.info? 22).map (fun i => (i.zero, i.size, i.bytes)) = some (some (.slice none 0 0), 1, 24) := by kernel_rfl
theorem RowI.news {bs : Nat} {W : World} {g n c : Nat} {xs : List Int} (h : RowI bs W g n c xs) : ∀ j u, (xs.map fun x => Value.int .i64 x)[j]? = some u → W.cell? ((⟨g, 0, none⟩ : Addr).add j) = some u := World.ownsRow.cells h rfl
theorem RowI.news' {bs : Nat} {W : World} {g n c : Nat} {xs : List Int} (h : RowI bs W g n c xs) : ∀ b, some (⟨g, 0, none⟩ : Addr) = some b → ∀ j u, (xs.map fun x => Value.int .i64 x)[j]? = some u → W.cell? (b.add j) = some u := fun b e => by
  cases e
  exact h.news
theorem one_ints (xs : List Int) : ∀ u ∈ xs.map fun x => Value.int .i64 x, u.oneCell' = true := fun u hu => by
  obtain ⟨x, _, rfl⟩ := List.mem_map.1 hu
  rfl
theorem one_more (m : Nat) (mk : Int) : ∀ u ∈ (List.replicate m mk).map (fun x => Value.int .i64 x) ++ [.int .i64 mk], u.oneCell' = true := fun u hu => by
  rcases List.mem_append.1 hu with hu | hu
  · exact one_ints _ u hu
  · obtain rfl : u = _ := by simpa using hu
    rfl
theorem rep_succ (m : Nat) (mk : Int) : (List.replicate m mk).map (fun x => Value.int .i64 x) ++ [.int .i64 mk] = (List.replicate (m + 1) mk).map fun x => Value.int .i64 x := by
  rw [List.replicate_succ', List.map_append]; rfl
theorem below_of_grown {lo : Nat} {W w : World} (h : W.grownBy w none) (hl : lo ≤ W.heap.size) : Below lo W w := (Below.refl _ W).grown h hl (fun k e => by cases e)

/-- A loop of so many rounds, over whatever the frame is. -/
theorem wp_loop_count {P : Program} {c : Code} {Q : Exit → Act → World → Prop} (J : Nat → Act → World → Prop) (round : ∀ n a w, J n a w → c.wp P (Exit.then (fun a' w' => ∃ m, n = m + 1 ∧ J m a' w') Q) a w) (n : Nat) (a : Act) (w : World) (h : J n a w) : (Code.loop c).wp P Q a w := by
  refine wp_loop_rounds (n + 1) ?_
  induction n generalizing a w with
  | zero =>
    refine Code.wp_mono (fun e a' w' q => ?_) (round 0 a w h)
    cases e <;> first | exact q | (obtain ⟨m, hm, _⟩ := q; omega)
  | succ n ih =>
    refine Code.wp_mono (fun e a' w' q => ?_) (round (n + 1) a w h)
    cases e <;> first | exact q | (obtain ⟨m, hm, hj⟩ := q; obtain rfl : n = m := by omega
                                   exact ih a' w' hj)

/-- A list that is kept. -/
structure Kp where
  b : Nat
  len : Nat
  cap : Nat
  mark : Int
def Kp.val (x : Kp) : Value := .slice (some ⟨x.b, 0, none⟩) x.len x.cap
def ex : Nat → Nat
  | 0 => 0
  | 1 => 1
  | 2 => 2
  | 3 => 3
  | _ => 96
def KeptOk (W : World) (L : Nat) (us : List Kp) (ms : List Int) : Prop := ∀ k x, us[k]? = some x → x.len = L + ex (k % 5) ∧ ms[k / 5]? = some x.mark ∧ x.b < W.heap.size ∧ ∀ i, i < x.len → W.cell? ⟨x.b, i, none⟩ = some (.int .i64 x.mark)
theorem KeptOk.up {W w : World} {L : Nat} {us : List Kp} {ms : List Int} (h : KeptOk W L us ms) (hb : Below W.heap.size W w) : KeptOk w L us ms := fun k x hx => by
  obtain ⟨h1, h2, h3, h4⟩ := h k x hx
  exact ⟨h1, h2, Nat.lt_of_lt_of_le h3 hb.size, fun i hi => (hb.cell (p := ⟨x.b, i, none⟩) h3).trans (h4 i hi)⟩
end Go.Proofs.Ytpmdfgoajffmeaa
