import Derived.Test.YtobomdokdajbaaaDoorJ26
import Derived.Test.YtobomdokdajbaaaDoorWOg

namespace Go.Proofs.YtobomdokdajbaaaDoor
open Go.RowKit

/-- The lists of nested records, one behind the other, each ahead of those that lie in it. -/
inductive FlV (W : World) (B : Nat) : Value → List Value → Prop
  | row {v : Value} {ts : List Rt} {us : List Value} {Ls : List (List Value)} (hl : ts.length = us.length) (hb : us.length = Ls.length) (h : W.ownsRow B 35 5 v ts.length (rowC ts us)) (hi : ∀ (i : Nat) (u : Value) (L : List Value), us[i]? = some u → Ls[i]? = some L → FlV W B u L) : FlV W B v (v :: Ls.flatten)
/-- A list of records of one's own. -/
def OwnT (W : World) (B : Nat) (v : Value) : Prop := ∃ (ts : List Rt) (us : List Value), ts.length = us.length ∧ W.ownsRow B 35 5 v ts.length (rowC ts us)
theorem FlV.own {W : World} {B : Nat} {v : Value} {L : List Value} (h : FlV W B v L) : ∀ u ∈ L, OwnT W B u := by
  induction h with
  | @row v ts us Ls hl hb h hi ih =>
    intro u hu
    rcases List.mem_cons.1 hu with rfl | hu
    · exact ⟨ts, us, hl, h⟩
    · obtain ⟨i, l, h1, h2⟩ := flat_mem hu
      exact ih i _ l (List.getElem?_eq_getElem (by have := (List.getElem?_eq_some_iff.1 h1).1; omega)) h1 u h2
theorem flat_len_eq {α β : Type} (f : α → List β) : ∀ (L : List (List α)) (M : List (List β)), L.length = M.length → (∀ (i : Nat) (l : List α) (m : List β), L[i]? = some l → M[i]? = some m → l.flatMap f = m) → L.flatten.flatMap f = M.flatten
  | [], [], _, _ => rfl
  | [], _ :: _, h, _ => by simp at h
  | _ :: _, [], h, _ => by simp at h
  | l :: L, m :: M, h, k => by
    rw [List.flatten_cons, List.flatten_cons, List.flatMap_append, k 0 l m rfl rfl, flat_len_eq f L M (by simpa using h) (fun i x y hx hy => k (i + 1) x y hx hy)]
theorem list_choose {α : Type} {P : Nat → α → Prop} : ∀ (n : Nat), (∀ i, i < n → ∃ a, P i a) → ∃ L : List α, L.length = n ∧ ∀ (i : Nat) (a : α), L[i]? = some a → P i a
  | 0, _ => ⟨[], rfl, fun i a h => by simp at h⟩
  | n + 1, h => by
    obtain ⟨L, h1, h2⟩ := list_choose n (fun i hi => h i (by omega))
    obtain ⟨a, ha⟩ := h n (by omega)
    refine ⟨L ++ [a], by simp [h1], fun i x hx => ?_⟩
    by_cases hi : i < L.length
    · rw [List.getElem?_append_left hi] at hx
      exact h2 i x hx
    · have := (List.getElem?_eq_some_iff.1 hx).1
      rw [List.length_append, List.length_singleton] at this
      obtain rfl : i = L.length := by omega
      rw [List.getElem?_append_right (Nat.le_refl _)] at hx
      simp at hx
      subst hx
      rw [h1]; exact ha
theorem HasRo.fl {W : World} {B : Nat} {v : Value} {ts : List Rt} {bl : List Nat} (h : HasRo W B v ts bl) : ∃ L, FlV W B v L ∧ L.flatMap (fun u => u.ownBlock.toList) = bl := by
  induction h with
  | @row v ts us bls hl hb h hi ih =>
    obtain ⟨Ls, h1, h2⟩ := list_choose (P := fun i (L : List Value) => ∀ (t : Rt) (u : Value) (bl : List Nat), ts[i]? = some t → us[i]? = some u → bls[i]? = some bl → FlV W B u L ∧ L.flatMap (fun u => u.ownBlock.toList) = bl) us.length (fun i hi2 => by
      obtain ⟨L, q1, q2⟩ := ih i _ _ _ (List.getElem?_eq_getElem (by omega)) (List.getElem?_eq_getElem hi2) (List.getElem?_eq_getElem (by omega))
      refine ⟨L, fun t u bl ht hu hbl => ?_⟩
      obtain rfl := Option.some.inj ((List.getElem?_eq_getElem hi2).symm.trans hu)
      obtain rfl := Option.some.inj ((List.getElem?_eq_getElem (by omega)).symm.trans hbl)
      exact ⟨q1, q2⟩)
    have key : ∀ (i : Nat) (L : List Value), Ls[i]? = some L → ∀ (u : Value) (bl : List Nat), us[i]? = some u → bls[i]? = some bl → FlV W B u L ∧ L.flatMap (fun u => u.ownBlock.toList) = bl := fun i L hL u bl hu hbl => h2 i L hL _ u bl (List.getElem?_eq_getElem (by have := (List.getElem?_eq_some_iff.1 hu).1; omega)) hu hbl
    refine ⟨v :: Ls.flatten, FlV.row hl h1.symm h (fun i u L hu hL => (key i L hL u _ hu (List.getElem?_eq_getElem (by have := (List.getElem?_eq_some_iff.1 hu).1; omega))).1), ?_⟩
    rw [List.flatMap_cons, flat_len_eq _ Ls bls (by omega) (fun i L bl hL hbl => (key i L hL _ bl (List.getElem?_eq_getElem (by have := (List.getElem?_eq_some_iff.1 hL).1; omega)) hbl).2)]
/-- Where no block is twice among them, they lie apart. -/
theorem apart_of : ∀ {L : List Value}, (L.flatMap fun u => u.ownBlock.toList).Nodup → ∀ (i j : Nat) (v u : Value) (b : Nat), L[i]? = some v → L[j]? = some u → v.ownBlock = some b → u.ownBlock = some b → i = j
  | [], _, i, _, _, _, _, h, _, _, _ => by simp at h
  | x :: L, hn, i, j, v, u, b, hi, hj, ev, eu => by
    rw [List.flatMap_cons] at hn
    obtain ⟨n1, n2, n3⟩ := List.nodup_append.1 hn
    have mem : ∀ (k : Nat) (y : Value), L[k]? = some y → y.ownBlock = some b → b ∈ L.flatMap fun u => u.ownBlock.toList := fun k y hk ey => List.mem_flatMap.2 ⟨y, List.mem_of_getElem? hk, by rw [ey]; simp⟩
    cases i with
    | zero =>
      cases j with
      | zero => rfl
      | succ j =>
        obtain rfl : x = v := by simpa using hi
        exact absurd rfl (n3 b (by rw [ev]; simp) b (mem j u (by simpa using hj) eu))
    | succ i =>
      cases j with
      | zero =>
        obtain rfl : x = u := by simpa using hj
        exact absurd rfl (n3 b (by rw [eu]; simp) b (mem i v (by simpa using hi) ev))
      | succ j => rw [apart_of n2 i j v u b (by simpa using hi) (by simpa using hj) ev eu]
theorem FlV.mono {W w : World} {B : Nat} {v : Value} {L : List Value} (h : FlV W B v L) (hb : Below W.heap.size W w) : FlV w B v L := by
  induction h with
  | @row v ts us Ls hl hb2 h hi ih => exact FlV.row hl hb2 (row_keep h (fun q hq _ => hb.block q hq)) ih
end Go.Proofs.YtobomdokdajbaaaDoor

namespace Go.Proofs.YtobomdokdajbaaaDoor
open Go.RowKit
attribute [local go_sem ↓] Go.wp_at_zero Go.wp_at_succ

theorem Tryd.infoRecsO : (Tryd.prog.info? 33).map (fun i => (i.zero, i.size, i.bytes)) = some (some (.slice none 0 0), 1, 24) := by kernel_rfl
/-- What a call of lists of one list comes to. -/
def LisC (W : World) (v : Value) (L : List Value) : Prop := L.length ≤ 1099511627776 → 0 < L.length ∧ (∀ u ∈ L, u.oneCell' = true) ∧ (∃ a n c, v = .slice a n c) ∧ ∀ (w0 : World) (g : Nat), Below W.heap.size W w0 → g < w0.heap.size → w0.cell? ⟨g, 0, none⟩ = some v → Calls Tryd.prog 49 #[.slice (some ⟨g, 0, none⟩) 1 1] w0 fun e w => ∃ u, e = .returned u ∧ w.ownsRow w0.heap.size 33 1 u L.length L ∧ Below w0.heap.size w0 w
/-- A list whose inner lists are such. -/
def InC (W : World) (B : Nat) (v : Value) (L : List Value) : Prop := ∃ (ts : List Rt) (us : List Value) (Ls : List (List Value)), L = v :: Ls.flatten ∧ ts.length = us.length ∧ us.length = Ls.length ∧ W.ownsRow B 35 5 v ts.length (rowC ts us) ∧ ∀ (i : Nat) (u : Value) (M : List Value), us[i]? = some u → Ls[i]? = some M → LisC W u M
theorem flat_one {α : Type} {L : List (List α)} {i : Nat} {l : List α} (h : L[i]? = some l) : (L.take (i + 1)).flatten = (L.take i).flatten ++ l := by rw [take_one h, List.flatten_append]; simp
theorem flat_le {α : Type} (L : List (List α)) (i : Nat) : (L.take i).flatten.length ≤ L.flatten.length := by
  have := congrArg (fun l => l.flatten.length) (List.take_append_drop i L)
  simp only [List.flatten_append, List.length_append] at this
  omega
theorem own_at5 {W : World} {bs e size n c : Nat} {a : Option Addr} {xs : List Value} (h : W.ownsRow bs e size (.slice a n c) n xs) : 0 < n → ∃ g, a = some ⟨g, 0, none⟩ := fun hp => by
  obtain ⟨h1, ⟨e1, rfl⟩ | ⟨g, cap, cur, e1, h2, h3⟩⟩ := h
  · omega
  · injection e1 with e2
    exact ⟨g, e2⟩
theorem own_max {W : World} {bs e size n c : Nat} {a : Option Addr} {xs : List Value} (h : W.ownsRow bs e size (.slice a n c) n xs) : n ≤ maxLen := by
  obtain ⟨h1, ⟨e1, rfl⟩ | ⟨g, cap, cur, e1, h2, h3, h4, h5, h6⟩⟩ := h
  · exact Nat.zero_le _
  · exact Nat.le_trans h4 h5
theorem own_one {W : World} {bs e size n : Nat} {v : Value} {xs : List Value} (h : W.ownsRow bs e size v n xs) : v.oneCell' = true := by
  obtain ⟨a, c, rfl⟩ := own_shape h
  rfl
set_option maxRecDepth 100000 in
set_option maxHeartbeats 4000000 in
theorem lists_any {W w0 : World} {B g o n c : Nat} {vs : List Value} {Ls : List (List Value)} (hw : Below W.heap.size W w0) (hg : g < w0.heap.size) (hn : vs.length = n) (hn2 : Ls.length = n) (hn3 : n ≤ 1099511627776) (hc : ∀ (j : Nat) (v : Value), vs[j]? = some v → w0.cell? ⟨g, o + j, none⟩ = some v) (hi : ∀ (j : Nat) (v : Value) (L : List Value), vs[j]? = some v → Ls[j]? = some L → InC W B v L) (hL : Ls.flatten.length ≤ 1099511627776) :
    Calls Tryd.prog 49 #[.slice (some ⟨g, o, none⟩) n c] w0 fun e w => ∃ u, e = .returned u ∧ w.ownsRow w0.heap.size 33 1 u Ls.flatten.length Ls.flatten ∧ Below w0.heap.size w0 w := by
  obtain ⟨i1, qi, qz0, qz1, qz2⟩ := info_parts Tryd.infoRecsO
  have HW := hide hw
  have Hc := hide hc
  have Hi := hide hi
  have Hg := hide hg
  have Hn := hide (And.intro hn (And.intro hn2 hL))
  clear hw hc hi hg hn hn2 hL
  go_enter Tryd.func49, Tryd.ntmps49
  go_wp2
  go_loopg [3, 4, 5] n (fun gk v3 v4 _ wr => ∃ (i : Nat), v4 = .int .i64 (i : Int) ∧ gk = n - i ∧ i ≤ n ∧ Hid (wr.ownsRow w0.heap.size 33 1 v3 (Ls.take i).flatten.length (Ls.take i).flatten) ∧ Hid (Below w0.heap.size w0 wr))
  case atStart => exact ⟨0, rfl, rfl, by omega, World.ownsRow_nil _ _ _ _, Below.refl _ _⟩
  case round =>
    obtain ⟨i, rfl, hgk, hil, HO, HB⟩ := hrel
    have HgkO := hide hgk
    clear hgk
    obtain ⟨a3, c3, rfl⟩ := own_shape (unhide HO)
    by_cases hlt : i < n
    · obtain ⟨v, hv⟩ : ∃ v, vs[i]? = some v := ⟨_, List.getElem?_eq_getElem (by rw [(unhide Hn).1]; exact hlt)⟩
      obtain ⟨L, hL⟩ : ∃ L, Ls[i]? = some L := ⟨_, List.getElem?_eq_getElem (by rw [(unhide Hn).2.1]; exact hlt)⟩
      obtain ⟨ts, us, Ms, rfl, l1, l2, hrow, hin⟩ := unhide Hi i v L hv hL
      obtain ⟨av, cv, rfl⟩ := own_shape hrow
      have Hx : Hid (∀ w', Below w0.heap.size w0 w' → w'.cell? ⟨g, o + i, none⟩ = some (.slice av ts.length cv)) := fun w' hb => (hb.cell (p := ⟨g, o + i, none⟩) (unhide Hg)).trans (unhide Hc i _ hv)
      have HF := hide (flat_one hL)
      have hle := flat_le Ls (i + 1)
      rw [unhide HF] at hle
      have hb1 := (unhide Hn).2.2
      rw [List.length_append, List.length_cons] at hle
      obtain ⟨N, hN⟩ : ∃ N, (Ls.take i).flatten.length = N := ⟨_, rfl⟩
      have hO := unhide HO
      rw [hN] at hO hle ⊢
      have HO1 := hide hO
      have Hle := hide hle
      have x0 := unhide Hx wr (unhide HB)
      have hs := (unhide HB).size
      have hNb : N + 1 ≤ 1099511627776 := by omega
      have j0 : (0 : Int) ≤ (i : Int) := Int.natCast_nonneg _
      have j1 : (i : Int) < (n : Int) := by omega
      have HltO := hide hlt
      have Hrow := hide hrow
      have Hin := hide hin
      have Hl := hide (And.intro l1 l2)
      have Hb1 := hide hb1
      clear hv hL hrow hin hle hO HO hN hlt l1 l2 hb1
      go_wp2_with (at_builtin; refine wpList_append_own_at _ rfl _ _ 44 rfl w0.heap.size 33 i1 (.slice none 0 0) 1 24 Tryd.underlying44 qi qz0 qz1 qz2 rfl (by decide) _ _ _ rfl ((unhide HO1).alloc _) ⟨wr.heap.size, 0, none⟩ 1 1 [.slice av ts.length cv] rfl rfl (cell_one_new _ _ _) (by simp [Value.oneCell']) (by unfold maxLen; omega) (by omega) (by simp; omega) ?_; intro v5 w2 hown hgrow _ hat; have HO5 := hide hown; have HB5 := hide (((unhide HB).alloc hs _).grown hgrow (by rw [World.size_alloc]; omega) (fun k e => ((unhide HO1).lt k e).1)); clear hown hgrow hat)
      obtain ⟨PR, hPR⟩ : ∃ P, (Ls.take i).flatten ++ [.slice av ts.length cv] = P := ⟨_, rfl⟩
      have hO := unhide HO5
      rw [hPR] at hO
      have hPl : PR.length = N + 1 := by have := hO.1; omega
      have HO6 : Hid (w2.ownsRow w0.heap.size 33 1 v5 (PR.length + (Ms.take 0).flatten.length) (PR ++ (Ms.take 0).flatten)) := by show World.ownsRow _ _ _ _ _ _ _; rw [List.take_zero]; simpa [hPl] using hO
      have HP := hide hPl
      have HPR := hide hPR
      have H3 := hide (own_at5 (unhide Hrow))
      have htm := own_max (unhide Hrow)
      unfold maxLen at htm
      clear hO HO5 HO1 hPl hPR HB x0 hs
      go_loopg [3, 5] ts.length (fun gk v3 v5 wr => ∃ (k : Nat), v5 = .int .i64 (k : Int) ∧ gk = ts.length - k ∧ k ≤ ts.length ∧ Hid (wr.ownsRow w0.heap.size 33 1 v3 (PR.length + (Ms.take k).flatten.length) (PR ++ (Ms.take k).flatten)) ∧ Hid (Below w0.heap.size w0 wr))
      case atStart => exact ⟨0, rfl, rfl, by omega, HO6, HB5⟩
      case round =>
        obtain ⟨k, rfl, hgk, hkl, HO, HB⟩ := hrel
        have Hgk := hide hgk
        clear hgk HO6 HB5
        obtain ⟨a3, c3, rfl⟩ := own_shape (unhide HO)
        have x0 := unhide Hx wr (unhide HB)
        by_cases hlt : k < ts.length
        · obtain ⟨gv, rfl⟩ := unhide H3 (by omega)
          have l1 := (unhide Hl).1
          have l2 := (unhide Hl).2
          obtain ⟨u, hu⟩ : ∃ u, us[k]? = some u := ⟨_, List.getElem?_eq_getElem (by omega)⟩
          obtain ⟨M, hM⟩ : ∃ M, Ms[k]? = some M := ⟨_, List.getElem?_eq_getElem (by omega)⟩
          have hf1 := flat_one hM
          have hle := flat_le Ms (k + 1)
          rw [hf1, List.length_append] at hle
          have hle2 := unhide Hle
          have hb1 := unhide Hb1
          have hpl := unhide HP
          obtain ⟨hM0, hM1, ⟨au, nu, cu, rfl⟩, hcall⟩ := unhide Hin k u M hu hM (by omega)
          have hcell : W.cell? ⟨gv, k * 5 + 4, none⟩ = some (.slice au nu cu) := by
            have ht : ts[k]? = some ts[k] := List.getElem?_eq_getElem hlt
            have := (unhide Hrow).cells (g := gv) rfl (k * 5 + 4) _ (rowC_at ts us k 4 _ _ _ ht hu (by cases ts[k]; rfl))
            rwa [Go.WideShapes.add_plain, Nat.zero_add] at this
          have hbW : Below W.heap.size W wr := (unhide HW).trans ((unhide HB).mono (unhide HW).size)
          have x4 : wr.cell? ⟨gv, k * 5 + 4, none⟩ = some (.slice au nu cu) := (hbW.cell (p := ⟨gv, k * 5 + 4, none⟩) ((unhide Hrow).lt gv rfl).2).trans hcell
          have hs := (unhide HB).size
          have bA : Below wr.heap.size wr (wr.alloc (.cells #[.slice au nu cu] 33)) := (Below.refl _ _).alloc (Nat.le_refl _) _
          have hC := hcall (wr.alloc (.cells #[.slice au nu cu] 33)) wr.heap.size (hbW.trans (bA.mono hbW.size)) (by rw [World.size_alloc]; omega) (by have := cell_one_new wr (.slice au nu cu) 33 0 _ rfl; exact this)
          have HC := hide hC
          have HF2 := hide hf1
          have HM := hide (And.intro hM0 hM1)
          obtain ⟨Q, hQ⟩ : ∃ q, PR.length + (Ms.take k).flatten.length = q := ⟨_, rfl⟩
          have hO := unhide HO
          rw [hQ] at hO ⊢
          have HOk := hide hO
          have hQm : Q + M.length ≤ 1099511627776 := by omega
          have HQ := hide hQ
          have k0 : (0 : Int) ≤ (k : Int) := Int.natCast_nonneg _
          have k1 : (k : Int) < (ts.length : Int) := by omega
          have Hlt := hide hlt
          clear hu hM hf1 hle hle2 hb1 hpl hM0 hM1 hcall hcell hbW bA hC hO HO hQ l1 l2 hlt
          go_wp2_with fail
          refine (unhide HC).mono ?_
          rintro e w3 ⟨sub, rfl, hsub, hb3⟩
          have hm := (unhide HM).1
          obtain ⟨gs, cs2, rfl⟩ : ∃ gs cs2, sub = .slice (some ⟨gs, 0, none⟩) M.length cs2 := by
            obtain ⟨h1, ⟨-, h2⟩ | ⟨g', cap, cur, rfl, -⟩⟩ := hsub
            · omega
            · exact ⟨_, _, rfl⟩
          have hs3 := hb3.size
          rw [World.size_alloc] at hs3
          have HB3 := hide ((unhide HB).trans ((((Below.refl wr.heap.size wr).alloc (Nat.le_refl _) (.cells #[.slice au nu cu] 33)).trans (hb3.mono (by rw [World.size_alloc]; omega))).mono hs))
          have HO3 := hide (own_same (unhide HOk) (w := w3) (fun b e => (hb3.block b (by rw [World.size_alloc]; have := ((unhide HOk).lt b e).2; omega)).trans (Below.heap_alloc wr _ b ((unhide HOk).lt b e).2)))
          have Hsub := hide hsub
          clear hsub hb3 HC HB HOk
          go_wp2_with (at_builtin; refine wpList_append_own_at _ rfl _ _ 44 rfl w0.heap.size 33 i1 (.slice none 0 0) 1 24 Tryd.underlying44 qi qz0 qz1 qz2 rfl (by decide) _ _ _ rfl (unhide HO3) ⟨gs, 0, none⟩ M.length cs2 M rfl (by omega) (fun j y hy => (unhide Hsub).cells (g := gs) rfl j y hy) (unhide HM).2 (by unfold maxLen; omega) (by omega) (by omega) ?_; intro v6 w4 hown hgrow _ hat; have HO7 := hide hown; have HB7 := hide ((unhide HB3).grown hgrow (by omega) (fun q e => ((unhide HO3).lt q e).1)); clear hown hgrow hat)
          have HO8 : Hid (w4.ownsRow w0.heap.size 33 1 v6 (PR.length + (Ms.take (k + 1)).flatten.length) (PR ++ (Ms.take (k + 1)).flatten)) := by
            show World.ownsRow _ _ _ _ _ _ _
            rw [unhide HF2, List.length_append, ← Nat.add_assoc, unhide HQ, ← List.append_assoc]
            exact unhide HO7
          clear HO7 HO3 HB3 Hsub
          go_roundg (ts.length - (k + 1))
          case measure => have := unhide Hgk; have := unhide Hlt; omega
          case rel => exact ⟨k + 1, by go_num, rfl, unhide Hlt, HO8, HB7⟩
        · obtain rfl : k = ts.length := by omega
          have HO9 : Hid (wr.ownsRow w0.heap.size 33 1 (.slice a3 (PR.length + (Ms.take ts.length).flatten.length) c3) (Ls.take (i + 1)).flatten.length (Ls.take (i + 1)).flatten) := by
            have hO := unhide HO
            have e : PR ++ (Ms.take ts.length).flatten = (Ls.take (i + 1)).flatten := by
              have e2 : Ms.take ts.length = Ms := List.take_of_length_le (by have := (unhide Hl).1; have := (unhide Hl).2; omega)
              rw [unhide HF, ← unhide HPR, e2]
              simp
            show World.ownsRow _ _ _ _ _ _ _
            rw [← e, List.length_append]
            exact hO
          clear HO hlt hkl Hgk
          go_wp2
          go_roundg (n - (i + 1))
          case measure => have := unhide HgkO; have := unhide HltO; omega
          case rel => exact ⟨i + 1, by go_num, rfl, unhide HltO, HO9, HB⟩
    · obtain rfl : i = n := by omega
      have hO := unhide HO
      rw [List.take_of_length_le (by rw [(unhide Hn).2.1]; exact Nat.le_refl _)] at hO
      rw [List.take_of_length_le (by rw [(unhide Hn).2.1]; exact Nat.le_refl _)]
      have HO9 := hide hO
      clear hO HO
      go_wp2
      go_ret
      exact ⟨_, rfl, unhide HO9, unhide HB⟩
theorem lists_one {W : World} {B : Nat} {v : Value} {L : List Value} (h : FlV W B v L) : LisC W v L := by
  induction h with
  | @row v ts us Ls hl hb h hi ih =>
    intro hL
    have hown := (FlV.row hl hb h hi).own
    refine ⟨by simp, fun u hu => ?_, ?_, fun w0 g hw hg hc => ?_⟩
    · obtain ⟨ts', us', -, h2⟩ := hown u hu
      exact own_one h2
    · obtain ⟨a, c, e⟩ := own_shape h
      exact ⟨a, _, c, e⟩
    · have := lists_any (B := B) (o := 0) (c := 1) (vs := [v]) (Ls := [v :: Ls.flatten]) hw hg rfl rfl (by simp) (fun j x hx => by
        cases j with
        | zero => have e : v = x := by simpa using hx
                  rw [← e]; exact hc
        | succ j => simp at hx) (fun j x M hx hM => by
        cases j with
        | zero =>
          obtain rfl : v = x := by simpa using hx
          obtain rfl : v :: Ls.flatten = M := by simpa using hM
          exact ⟨ts, us, Ls, rfl, hl, hb, h, fun i u M hu hM2 => ih i u M hu hM2⟩
        | succ j => simp at hx) (by simpa using hL)
      simpa using this
end Go.Proofs.YtobomdokdajbaaaDoor
