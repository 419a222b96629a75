import Derived.Test.YtpmdfgoajffmeaaILawR
import Derived.Deep.AppendLies
import Derived.Deep.RegionLaw
import Derived.Deep.QuietTactic
import Derived.BigQuiet
import Derived.Laws.ResultCell

namespace Go.Proofs.Ytpmdfgoajffmeaa
open Go.RowKit Go.Shelf
attribute [local go_sem ↓] Go.wp_at_zero Go.wp_at_succ

theorem cells3_of {W : World} {b : Nat} {x y z : Value} {t : TypeId} (h : W.heap[b]? = some (.cells #[x, y, z] t (0, 0))) : W.cell? ⟨b, 0, none⟩ = some x ∧ W.cell? ⟨b, 1, none⟩ = some y ∧ W.cell? ⟨b, 2, none⟩ = some z ∧ W.frozen? ⟨b, 0, none⟩ = false ∧ W.frozen? ⟨b, 1, none⟩ = false ∧ W.frozen? ⟨b, 2, none⟩ = false := by
  unfold World.cell? World.frozen?
  rw [h]
  exact ⟨rfl, rfl, rfl, rfl, rfl, rfl⟩

theorem ownsRow_up {W w : World} {base e size n : Nat} {v : Value} {xs : List Value} (h : W.ownsRow base e size v n xs) (hb : Below W.heap.size W w) : w.ownsRow base e size v n xs :=
  ownsRow_same h fun b e => hb.block b (h.lt b e).2

theorem set3 {W : World} {b : Nat} {x y z x' y' z' : Value} {t : TypeId} (h : W.heap[b]? = some (.cells #[x, y, z] t (0, 0))) :
    (((W.setCell ⟨b, 0, none⟩ x').setCell ⟨b, 1, none⟩ y').setCell ⟨b, 2, none⟩ z').heap[b]? = some (.cells #[x', y', z'] t (0, 0)) ∧ (∀ k, k ≠ b → (((W.setCell ⟨b, 0, none⟩ x').setCell ⟨b, 1, none⟩ y').setCell ⟨b, 2, none⟩ z').heap[k]? = W.heap[k]?) := by
  have one : ∀ (X : World) (cs : Array Value) (o : Nat) (v : Value), X.heap[b]? = some (.cells cs t (0, 0)) → (X.setCell ⟨b, o, none⟩ v).heap[b]? = some (.cells (cs.setIfInBounds o v) t (0, 0)) := by
    intro X cs o v hX
    obtain ⟨hl, hk⟩ := Array.getElem?_eq_some_iff.1 hX
    show (X.heap.modify b _)[b]? = _
    rw [Array.getElem?_eq_getElem (by rw [Array.size_modify]; exact hl), Array.getElem_modify_self, hk]
    rfl
  refine ⟨one _ _ 2 z' (one _ _ 1 y' (one _ _ 0 x' h)), fun k hk => ?_⟩
  exact (Below.heap_setCell _ _ _ k hk).trans ((Below.heap_setCell _ _ _ k hk).trans (Below.heap_setCell _ _ _ k hk))

theorem row_succ {W : World} {base e size n : Nat} {v : Value} {xs : List Value} (h : W.ownsRow base e size v (n + 1) xs) : ∃ g c, v = .slice (some ⟨g, 0, none⟩) (n + 1) c ∧ g < W.heap.size ∧ base ≤ g := by
  have h' := h
  obtain ⟨_, ⟨_, h0⟩ | ⟨g, c, cur, rfl, h0, _⟩⟩ := h
  · omega
  · exact ⟨g, c, rfl, (h'.lt g rfl).2, (h'.lt g rfl).1⟩
theorem addRow2 {base lo bw : Nat} {W w1 : World} {cs : Array Value} {tw e : TypeId} {v v' : Value} {n o : Nat} {xs : List Value} {p : Value} {ob : Obj}
    (hbw : W.heap[bw]? = some (.cells cs tw (0, 0))) (hb0 : lo ≤ bw) (hlb : lo ≤ base) (hte : tw ≠ e) (hrow : W.ownsRow base e 1 v n xs) (hgrow : (W.alloc ob).grownBy w1 v.ownBlock) (hown : w1.ownsRow base e 1 v' (n + 1) (xs ++ [p])) :
    (w1.setCell ⟨bw, o, none⟩ v').heap[bw]? = some (.cells (cs.setIfInBounds o v') tw (0, 0)) ∧ (w1.setCell ⟨bw, o, none⟩ v').ownsRow base e 1 v' (n + 1) (xs ++ [p]) ∧
    (∀ b, b < W.heap.size → b ≠ bw → some b ≠ v.ownBlock → (w1.setCell ⟨bw, o, none⟩ v').heap[b]? = W.heap[b]?) ∧ W.heap.size ≤ (w1.setCell ⟨bw, o, none⟩ v').heap.size ∧ w1.heap[bw]? = W.heap[bw]? ∧ Below lo W (w1.setCell ⟨bw, o, none⟩ v') := by
  have hlt : bw < W.heap.size := (Array.getElem?_eq_some_iff.1 hbw).1
  have hne : some bw ≠ v.ownBlock := fun e' => by
    obtain ⟨cur, hc⟩ := ownsRow_type hrow e'.symm
    exact hte (type_ne hbw hc)
  have e1 : ∀ b, b < W.heap.size → some b ≠ v.ownBlock → w1.heap[b]? = W.heap[b]? := fun b hb hn => (hgrow.block b (by rw [World.size_alloc]; omega) hn).trans (Below.heap_alloc W ob b hb)
  have ebw : w1.heap[bw]? = some (.cells cs tw (0, 0)) := (e1 bw hlt hne).trans hbw
  have hsz : W.heap.size ≤ w1.heap.size := by have := hgrow.size; rw [World.size_alloc] at this; omega
  refine ⟨?_, ownsRow_same hown fun b hb => ?_, fun b hb hnb hn => ?_, by rw [World.size_setCell]; exact hsz, e1 bw hlt hne, ?_⟩
  · obtain ⟨hl, hk⟩ := Array.getElem?_eq_some_iff.1 ebw
    show (w1.heap.modify bw _)[bw]? = _
    rw [Array.getElem?_eq_getElem (by rw [Array.size_modify]; exact hl), Array.getElem_modify_self, hk]
    rfl
  · refine Below.heap_setCell _ _ _ b fun e' => ?_
    obtain ⟨cur, hc⟩ := ownsRow_type hown hb
    exact hte (type_ne ebw (e' ▸ hc))
  · exact (Below.heap_setCell _ _ _ b hnb).trans (e1 b hb hn)
  · have hbs : lo ≤ W.heap.size := by omega
    exact ((((Below.refl lo W).alloc hbs ob).grown hgrow (by rw [World.size_alloc]; omega) (fun k e' => Nat.le_trans hlb (hrow.lt k e').1))).setCell (p := ⟨bw, o, none⟩) hb0 v'
theorem below_drewN {lo : Nat} {W w : World} (h : Below lo W w) (n : Nat) : Below lo W (w.drewN n) := ⟨h.os, h.tape, h.output, h.size, h.block⟩

/-- Between two rounds of 'snap'. -/
def SnapI (W w1 : World) (bs : Nat) (m : Option Addr) (L : List Ent) (j : Nat) (wr : World) : Prop := ∃ vK vV, wr.heap[bs]? = some (.cells #[.pointer m, vK, vV] 29 (0, 0)) ∧
  wr.ownsRow w1.heap.size 3 1 vK j ((L.take j).map fun x => .int .i64 x.1) ∧ wr.ownsRow w1.heap.size 3 1 vV j ((L.take j).map fun x => .int .i64 x.2) ∧ (∀ b, vK.ownBlock = some b → vV.ownBlock ≠ some b) ∧
  (∀ b, b < w1.heap.size → b ≠ bs → wr.heap[b]? = w1.heap[b]?) ∧ Below W.heap.size W wr ∧ w1.heap.size ≤ wr.heap.size
theorem SnapI.up {W w1 : World} {bs : Nat} {m : Option Addr} {L : List Ent} {j : Nat} {wr w : World} (h : SnapI W w1 bs m L j wr) (hb : Below wr.heap.size wr w) : SnapI W w1 bs m L j w := by
  obtain ⟨vK, vV, h1, h2, h3, h4, h5, h6, h7⟩ := h
  exact ⟨vK, vV, (hb.block bs (Array.getElem?_eq_some_iff.1 h1).1).trans h1, ownsRow_up h2 hb, ownsRow_up h3 hb, h4, fun b hb' hn => (hb.block b (by omega)).trans (h5 b hb' hn), h6.trans (hb.mono h6.size), Nat.le_trans h7 hb.size⟩

set_option maxRecDepth 100000 in
set_option maxHeartbeats 4000000 in
theorem snap_any {W : World} {m : Option Addr} {T : BT} (h : IsM W m T) (hsz : T.io.length * 8 ≤ 140737488355328) :
    Calls Try.prog 9 #[.pointer m] W fun e W' => ∃ vK vV, e = .returned (.tuple #[.agg #[.pointer m, vK, vV], .bool true]) ∧ IsKs W' vK (T.io.map (·.1)) ∧ IsKs W' vV (T.io.map (·.2)) ∧ Below W.heap.size W W' := by
  obtain ⟨i0, hi, hz0, hz1, hz2⟩ := info_parts Try.infoKey
  have hB0 : Below W.heap.size W ((W.alloc (.cells #[.pointer none, .slice none 0 0, .slice none 0 0] 29)).alloc (.cells #[.pointer m, .slice none 0 0, .slice none 0 0] 29)) := ((Below.refl _ W).alloc (Nat.le_refl _) _).alloc (by rw [World.size_alloc]; omega) _
  have hs0 : ((W.alloc (.cells #[.pointer none, .slice none 0 0, .slice none 0 0] 29)).alloc (.cells #[.pointer m, .slice none 0 0, .slice none 0 0] 29)).heap.size = W.heap.size + 1 + 1 := by rw [World.size_alloc, World.size_alloc]
  have hbr := (Below.heap_alloc (W.alloc (.cells #[.pointer none, .slice none 0 0, .slice none 0 0] 29)) (.cells #[.pointer m, .slice none 0 0, .slice none 0 0] 29) W.heap.size (by rw [World.size_alloc]; omega)).trans (World.alloc_heap_new W (.cells #[.pointer none, .slice none 0 0, .slice none 0 0] 29))
  have hbs := World.alloc_heap_new (W.alloc (.cells #[.pointer none, .slice none 0 0, .slice none 0 0] 29)) (.cells #[.pointer m, .slice none 0 0, .slice none 0 0] 29)
  rw [World.size_alloc] at hbs
  go_enter Try.func9, Try.ntmps9
  go_wp2_with fail
  generalize (W.alloc (.cells #[.pointer none, .slice none 0 0, .slice none 0 0] 29)).alloc (.cells #[.pointer m, .slice none 0 0, .slice none 0 0] 29) = V at *
  refine (keys_any (h.up hB0) (by omega)).mono ?_
  rintro e w1 ⟨vl, rfl, hrow, hb1⟩
  have hB1 : Below W.heap.size W w1 := hB0.trans (hb1.mono hB0.size)
  have hbr1 := (hb1.block W.heap.size (by omega)).trans hbr
  have hbs1 := (hb1.block (W.heap.size + 1) (by omega)).trans hbs
  have z1 := hb1.size
  have hvl : ∃ al cl, vl = .slice al T.io.length cl ∧ (0 < T.io.length → ∃ g, al = some ⟨g, 0, none⟩ ∧ W.heap.size + 1 < g ∧ g < w1.heap.size ∧ ∀ i x, T.io[i]? = some x → w1.cell? ⟨g, i, none⟩ = some (.int .i64 x.1)) := by
    have hrow' := hrow
    obtain ⟨_, ⟨rfl, h0⟩ | ⟨g, c, _, rfl, h0, _⟩⟩ := hrow'
    · exact ⟨none, 0, by rw [h0], fun hp => by omega⟩
    · refine ⟨some ⟨g, 0, none⟩, c, rfl, fun _ => ⟨g, rfl, by omega, (hrow.lt g rfl).2, fun i x hx => ?_⟩⟩
      have := hrow.cells (g := g) rfl i (.int .i64 x.1) (by simp [hx])
      rwa [Go.WideShapes.add_plain, Nat.zero_add] at this
  obtain ⟨al, cl, rfl, hvl⟩ := hvl
  have Hvl := hide hvl
  have hm1 := h.up hB1
  have hSI : Hid (SnapI W w1 (W.heap.size + 1) m T.io 0 w1) := ⟨_, _, hbs1, World.ownsRow_nil _ _ _ _, World.ownsRow_nil _ _ _ _, fun b hb => (by cases hb), fun _ _ _ => rfl, hB1, Nat.le_refl _⟩
  clear hvl hrow hb1 hbs hbr hbs1
  go_wp2_with fail
  refine (len_any hm1).mono ?_
  rintro e w' ⟨rfl, he⟩
  obtain rfl : w1 = w' := he.symm
  have d0 : ((T.io.length : Int) != (T.io.length : Int)) = false := by simp
  go_wp2
  go_loopg [6] T.io.length (fun gk v6 wr => ∃ (j : Nat), v6 = .int .i64 (j : Int) ∧ gk = T.io.length - j ∧ j ≤ T.io.length ∧ SnapI W w1 (W.heap.size + 1) m T.io j wr)
  case atStart => exact ⟨0, rfl, rfl, Nat.zero_le _, unhide hSI⟩
  case round =>
    obtain ⟨j, rfl, hgk, hj, hI⟩ := hrel
    have Hgk := hide hgk
    clear hgk
    obtain ⟨vK, vV, p1, p2, p3, p4, p5, p6, p7⟩ := hI
    have HI : Hid (SnapI W w1 (W.heap.size + 1) m T.io j wr) := ⟨vK, vV, p1, p2, p3, p4, p5, p6, p7⟩
    have hmr := h.up p6
    have hsr : Srt T.io := by obtain ⟨_, _, _, _, _, _, q⟩ := hmr; exact q
    by_cases hlt : j < T.io.length
    · obtain ⟨g, rfl, hg0, hg1, hgc⟩ := unhide Hvl (by omega)
      obtain ⟨x, hx⟩ : ∃ x, T.io[j]? = some x := ⟨_, List.getElem?_eq_getElem hlt⟩
      have hgs := p5 g hg1 (by omega)
      have cg : ∀ i, wr.cell? ⟨g, i, none⟩ = w1.cell? ⟨g, i, none⟩ := fun i => World.cell?_of_block (a := ⟨g, i, none⟩) hgs
      have c0 := (cg j).trans (hgc j x hx)
      have hj0 : (0 : Int) ≤ (j : Int) := Int.natCast_nonneg _
      have hj1 : (j : Int) < (T.io.length : Int) := by omega
      have Hx := hide hx
      have Hsr := hide hsr
      have Hgc := hide hgc
      have Hcg := hide cg
      clear hx hsr hgc p1 p2 p3 p4 p5 cg
      go_wp2_with fail
      refine (get_any x.1 hmr).mono ?_
      rintro e w' ⟨v, f, rfl, hget, he⟩
      obtain rfl : wr = w' := he.symm
      obtain ⟨rfl, rfl⟩ : v = x.2 ∧ f = true := by
        rcases hget with ⟨rfl, hm⟩ | ⟨_, _, hno⟩
        · have := (unhide Hsr).inj hm (List.mem_of_getElem? (unhide Hx)) rfl
          exact ⟨by rw [← this], rfl⟩
        · exact (hno ⟨x, List.mem_of_getElem? (unhide Hx), rfl⟩).elim
      clear hget
      go_wp2_with fail
      refine (mat_any (j : Int) hmr (by omega) (by omega) (by omega)).mono ?_
      rintro e w2 ⟨y, f, rfl, hat, hb2⟩
      obtain ⟨rfl, rfl⟩ : f = true ∧ y = x := by
        rcases hat with ⟨hf, _, hy⟩ | ⟨_, _, hno⟩
        · rw [Int.toNat_natCast, unhide Hx] at hy
          exact ⟨hf, (by simpa using hy : x = y).symm⟩
        · exact (hno ⟨hj0, hj1⟩).elim
      clear hat
      have hm2 := hmr.up hb2
      have hg2 : g < wr.heap.size := by omega
      have c1 := (hb2.cell (p := ⟨g, j, none⟩) hg2).trans c0
      have HI2 := hide ((unhide HI).up hb2)
      have hc2 : ∀ k z, T.io[k]? = some z → w2.cell? ⟨g, k, none⟩ = some (.int .i64 z.1) := fun k z hz => (hb2.cell (p := ⟨g, k, none⟩) hg2).trans ((unhide Hcg k).trans (unhide Hgc k z hz))
      have Hc2 := hide hc2
      clear hc2
      go_wp2_with fail
      refine (mrank_any y.1 hm2 (by omega)).mono ?_
      rintro e w' ⟨f, rfl, hrk, he⟩
      obtain rfl : w2 = w' := he.symm
      obtain rfl : f = true := hrk.2 ⟨y, List.mem_of_getElem? (unhide Hx), rfl⟩
      rw [rk_at (unhide Hsr) (unhide Hx)]
      clear hrk hmr hm2 c0
      go_wp2
      have e1 : (y.1 != y.1) = false := by simp
      have e2 : (y.2 != y.2) = false := by simp
      have e3 : ((j : Int) != (j : Int)) = false := by simp
      obtain ⟨vK, vV, p1, p2, p3, p4, p5, p6, p7⟩ := unhide HI2
      have hgK : vK.ownBlock ≠ some g := fun e => by have := (p2.lt g e).1; omega
      have hgV : vV.ownBlock ≠ some g := fun e => by have := (p3.lt g e).1; omega
      have hbK : vK.ownBlock ≠ some (W.heap.size + 1) := fun e => by obtain ⟨cur, hc⟩ := ownsRow_type p2 e; exact absurd (type_ne p1 hc) (by decide)
      have hbV : vV.ownBlock ≠ some (W.heap.size + 1) := fun e => by obtain ⟨cur, hc⟩ := ownsRow_type p3 e; exact absurd (type_ne p1 hc) (by decide)
      obtain ⟨a0, a1, a2, f0, f1, f2⟩ := cells3_of p1
      have hvK : ∃ a n c, vK = .slice a n c := by
        obtain ⟨_, ⟨e, _⟩ | ⟨_, _, _, e, _⟩⟩ := p2
        · exact ⟨_, _, _, e⟩
        · exact ⟨_, _, _, e⟩
      have hvV : ∃ a n c, vV = .slice a n c := by
        obtain ⟨_, ⟨e, _⟩ | ⟨_, _, _, e, _⟩⟩ := p3
        · exact ⟨_, _, _, e⟩
        · exact ⟨_, _, _, e⟩
      obtain ⟨ka, kn, kc, rfl⟩ := hvK
      obtain ⟨va, vn, vc, rfl⟩ := hvV
      have hw2 := hb2.size
      have Hd : Hid ((g : Nat) ≠ W.heap.size + 1 ∧ g < w2.heap.size ∧ W.heap.size + 1 < w2.heap.size ∧ w1.heap.size ≤ w2.heap.size) := ⟨by omega, by omega, by omega, by omega⟩
      have P1 := hide p1
      have P2 := hide p2
      have P3 := hide p3
      have P4 := hide p4
      have P5 := hide p5
      have P6 := hide p6
      have P7 := hide p7
      clear p1 p2 p3 p4 p5 p6 p7 HI HI2 hb2 hw2 hg0 hg1 hg2
      rcases Nat.eq_zero_or_pos j with hjz | hjp
      case' inl =>
        have e4 : decide (0 < j) = false := by subst hjz; rfl
        have Hjz := hide hjz
        clear hjz
        go_quiet (fail)
      case' inr =>
        obtain ⟨k, hk⟩ : ∃ k, j = k + 1 := ⟨j - 1, by omega⟩
        obtain ⟨z, hz⟩ : ∃ z, T.io[k]? = some z := ⟨_, List.getElem?_eq_getElem (by omega)⟩
        have hx' : T.io[k + 1]? = some y := by rw [← hk]; exact unhide Hx
        have c2 := (unhide Hc2 k z hz)
        have e5 : decide (y.1 ≤ z.1) = false := by have := srt_at (unhide Hsr) hz hx'; simp; omega
        have k0 : (0 : Int) ≤ (k : Int) := Int.natCast_nonneg _
        have k1 : (k : Int) < (T.io.length : Int) := by omega
        have k2 : (j : Int) - 1 = (k : Int) := by omega
        have k3 : IntKind.i64.wrap ((j : Int) - 1) = (k : Int) := by rw [k2, IntKind.wrap_i64]; omega
        have Hk := hide hk
        clear hk hz hx'
        go_quiet (fail)
        clear c2 e5 k0 k1 k2 k3
      all_goals
        go_wp2_with fail
        obtain ⟨_, lg, lb, _⟩ := unhide Hd
        have hA : ∀ o n, ((w2.drewN n).alloc o).cell? ⟨W.heap.size + 1, 1, none⟩ = some (.slice ka kn kc) := fun o n => (World.cell?_alloc_lt _ _ _ (by simp; omega)).trans a1
        go_region_law (refine step_append_lies _ rfl (.tmp 101) (.tmp 106) 22 rfl w1.heap.size 3 i0 (.int .i64 0) 1 8 Try.underlying22 hi hz0 hz1 hz2 rfl (by decide) (.slice ka kn kc) j ((T.io.take j).map fun x => .int .i64 x.1) (by simp [Act.eval]) ((show (World.drewN w2 _).ownsRow _ _ _ _ _ _ from unhide P2).alloc _) ⟨w2.heap.size, 0, none⟩ 1 1 [.int .i64 y.1] (by simp [Act.eval]) (by rfl) (cell_one_new _ _ _) (by simp [Value.oneCell']) (by decide) (by unfold maxLen; omega) (by omega) (by simp; have := unhide Hd; omega) (w2.heap.size + 1) (by simp) ?_; intro g3 cap w3 hown3 hgrow hat3 hlt3; have f3 : w3.frozen? ⟨W.heap.size + 1, 1, none⟩ = false := (hgrow.frozen_far ⟨W.heap.size + 1, 1, none⟩ (by simp; omega) (Ne.symm hbK)).trans ((World.frozen?_alloc_past _ _ _ (by simp; omega)).trans f1); have a3 : w3.cell? ⟨W.heap.size + 1, 1, none⟩ = some (.slice ka kn kc) := (hgrow.cell_far ⟨W.heap.size + 1, 1, none⟩ (by simp; omega) (Ne.symm hbK)).trans ((World.cell?_alloc_lt _ _ _ (by simp; omega)).trans a1))
      all_goals
        obtain ⟨k1, k2, k3, k4, _, k6⟩ := addRow2 (W := w2.drewN (nq + 1)) (lo := W.heap.size) (o := 1) (unhide P1) (by omega) (by omega) (by decide) (unhide P2) hgrow hown3
        have r3 : (w3.setCell ⟨W.heap.size + 1, 1, none⟩ (.slice (some ⟨g3, 0, none⟩) (j + 1) cap)).ownsRow w1.heap.size 3 1 (.slice va vn vc) j ((T.io.take j).map fun x => .int .i64 x.2) :=
          ownsRow_same (unhide P3) fun b hb => k3 b ((unhide P3).lt b hb).2 (fun e => hbV (e ▸ hb)) (fun e => unhide P4 b e.symm hb)
        have hZ : Below W.heap.size W (w3.setCell ⟨W.heap.size + 1, 1, none⟩ (.slice (some ⟨g3, 0, none⟩) (j + 1) cap)) := (below_drewN (unhide P6) (nq + 1)).trans k6
        have hat3' : ∀ b, (Value.slice va vn vc).ownBlock = some b → b ≠ g3 := by
          intro b hb e
          subst e
          rcases hat3 with h | h
          · exact unhide P4 _ h hb
          · have := ((unhide P3).lt _ hb).2; omega
        have k3' : ∀ b, b < w1.heap.size → b ≠ W.heap.size + 1 → (w3.setCell ⟨W.heap.size + 1, 1, none⟩ (.slice (some ⟨g3, 0, none⟩) (j + 1) cap)).heap[b]? = w1.heap[b]? := fun b hb hn => (k3 b (by simp; omega) hn (fun e => by have := ((unhide P2).lt b e.symm).1; omega)).trans (unhide P5 b hb hn)
        have kz : w2.heap.size ≤ (w3.setCell ⟨W.heap.size + 1, 1, none⟩ (.slice (some ⟨g3, 0, none⟩) (j + 1) cap)).heap.size := by simpa using k4
        have k1' : (w3.setCell ⟨W.heap.size + 1, 1, none⟩ (.slice (some ⟨g3, 0, none⟩) (j + 1) cap)).heap[W.heap.size + 1]? = some (.cells #[.pointer m, .slice (some ⟨g3, 0, none⟩) (j + 1) cap, .slice va vn vc] 29 (0, 0)) := k1
        have hg3 : g3 < (w3.setCell ⟨W.heap.size + 1, 1, none⟩ (.slice (some ⟨g3, 0, none⟩) (j + 1) cap)).heap.size := by rw [World.size_setCell]; exact hlt3
        clear k1 k3 k4 k6 hat3 hgrow hown3 f3 a3 hlt3 P1 P2 P3 P4 P5 P6 P7 a0 a1 a2 f0 f1 f2 hA
        generalize w3.setCell ⟨W.heap.size + 1, 1, none⟩ (.slice (some ⟨g3, 0, none⟩) (j + 1) cap) = X at *
        obtain ⟨a0, a1, a2, f0, f1, f2⟩ := cells3_of k1'
        have K1 := hide k1'
        have K2 := hide k2
        have K3 := hide k3'
        have KZ := hide hZ
        have Kat := hide hat3'
        clear k1' k2 k3' hZ hat3'
        go_wp2_with (at_builtin; refine wpList_append_own_at _ rfl _ _ 22 rfl w1.heap.size 3 i0 (.int .i64 0) 1 8 Try.underlying22 hi hz0 hz1 hz2 rfl (by decide) _ _ _ rfl (r3.alloc _) ⟨X.heap.size, 0, none⟩ 1 1 [.int .i64 y.2] rfl rfl (cell_one_new _ _ _) (by simp [Value.oneCell']) (by unfold maxLen; omega) (by omega) (by simp; omega) ?_; intro v4 w4 hown4 hgrow4 _ hat4; obtain ⟨g4, q4, rfl, _, _⟩ := row_succ hown4; obtain ⟨m1, m2, m3, m4, m5, m6⟩ := addRow2 (lo := W.heap.size) (o := 2) (unhide K1) (by omega) (by omega) (by decide) r3 hgrow4 hown4; obtain ⟨d0, d1, d2, e0, e1, e2⟩ := cells3_of (m5.trans (unhide K1)); have M1 := hide m1; have M2 := hide m2; have M3 := hide m3; have M4 := hide m4; have M6 := hide m6; have Mat := hide hat4; have R3 := hide r3; clear m1 m2 m3 m4 m5 m6 hat4 hgrow4 hown4 r3)
        go_roundg (T.io.length - (j + 1))
        case measure => have := unhide Hgk; omega
        case rel =>
          have t1 : ∀ (f : Ent → Value), (T.io.take (j + 1)).map f = (T.io.take j).map f ++ [f y] := fun f => by rw [List.take_add_one, unhide Hx]; simp
          refine ⟨j + 1, by go_num, rfl, by omega, .slice (some ⟨g3, 0, none⟩) (j + 1) cap, .slice (some ⟨g4, 0, none⟩) (j + 1) q4, unhide M1, ?_, ?_, ?_, ?_, (unhide KZ).trans (unhide M6), ?_⟩
          · rw [t1]
            exact ownsRow_same (unhide K2) fun b hb => unhide M3 b ((unhide K2).lt b hb).2 (fun e => by have := ((unhide K2).lt b hb).1; omega) (fun e => unhide Kat b e.symm (by simpa [Value.ownBlock] using hb.symm))
          · rw [t1]
            exact unhide M2
          · intro b hb hb'
            obtain rfl : g3 = b := by simpa [Value.ownBlock] using hb
            obtain rfl : g4 = g3 := by simpa [Value.ownBlock] using hb'
            rcases unhide Mat with h | h
            · exact unhide Kat g4 h.symm rfl
            · simp [Value.ownBlock] at h
              omega
          · intro b hb hn
            exact (unhide M3 b (by omega) hn (fun e => by have := ((unhide R3).lt b e.symm).1; omega)).trans (unhide K3 b hb hn)
          · have := unhide M4; omega
    · obtain rfl : j = T.io.length := by omega
      have hbrw := (p5 W.heap.size (by omega) (by omega)).trans hbr1
      obtain ⟨a0, a1, a2, _⟩ := cells3_of p1
      obtain ⟨_, _, _, f0, f1, f2⟩ := cells3_of hbrw
      obtain ⟨r0, r1, r2, _⟩ := cells3_of hbrw
      have hvK : ∃ a n c, vK = .slice a n c := by
        obtain ⟨_, ⟨rfl, _⟩ | ⟨_, _, _, rfl, _⟩⟩ := p2
        · exact ⟨_, _, _, rfl⟩
        · exact ⟨_, _, _, rfl⟩
      have hvV : ∃ a n c, vV = .slice a n c := by
        obtain ⟨_, ⟨rfl, _⟩ | ⟨_, _, _, rfl, _⟩⟩ := p3
        · exact ⟨_, _, _, rfl⟩
        · exact ⟨_, _, _, rfl⟩
      obtain ⟨ka, kn, kc, rfl⟩ := hvK
      obtain ⟨va, vn, vc, rfl⟩ := hvV
      have P2 := hide p2
      have P3 := hide p3
      have P6 := hide p6
      clear p2 p3 p4 p5 p6 HI hmr hsr
      go_wp2
      obtain ⟨hZ1, hZ2⟩ := set3 (x' := .pointer m) (y' := .slice ka kn kc) (z' := .slice va vn vc) hbrw
      have hZB : Below W.heap.size W (((wr.setCell ⟨W.heap.size, 0, none⟩ (.pointer m)).setCell ⟨W.heap.size, 1, none⟩ (.slice ka kn kc)).setCell ⟨W.heap.size, 2, none⟩ (.slice va vn vc)) := (((unhide P6).setCell (p := ⟨W.heap.size, 0, none⟩) (Nat.le_refl _) _).setCell (p := ⟨W.heap.size, 1, none⟩) (Nat.le_refl _) _).setCell (p := ⟨W.heap.size, 2, none⟩) (Nat.le_refl _) _
      generalize ((wr.setCell ⟨W.heap.size, 0, none⟩ (.pointer m)).setCell ⟨W.heap.size, 1, none⟩ (.slice ka kn kc)).setCell ⟨W.heap.size, 2, none⟩ (.slice va vn vc) = Z at *
      obtain ⟨y0, y1, y2, _⟩ := cells3_of hZ1
      refine bodyPost_ret (v := .tuple #[.agg #[.pointer m, .slice ka kn kc, .slice va vn vc], .bool true]) ?_ rfl ?_
      · rw [results_cell_tmp (p := 2) (u := 3) (ty := 29) rfl]
        go_simp
      · refine ⟨_, _, rfl, ?_, ?_, hZB⟩
        · exact isKs_own (base := w1.heap.size) (by have := ownsRow_same (unhide P2) fun b hb => hZ2 b (fun e => by have := ((unhide P2).lt b hb).1; omega); simpa [Function.comp_def] using this)
        · exact isKs_own (base := w1.heap.size) (by have := ownsRow_same (unhide P3) fun b hb => hZ2 b (fun e => by have := ((unhide P3).lt b hb).1; omega); simpa [Function.comp_def] using this)
end Go.Proofs.Ytpmdfgoajffmeaa
