import Derived.Test.YtobomdokdajbaaaDoorJ41
import Derived.Test.YtobomdokdajbaaaDoorWGf
import Derived.Test.YtobomdokdajbaaaDoorJ00
import Derived.Test.YtobomdokdajbaaaDoorJ18
import Derived.Test.YtobomdokdajbaaaDoorJ20

namespace Go.Proofs.YtobomdokdajbaaaDoor
open Go.RowKit

theorem TopK.rk {W : World} {P : Nat → Prop} {g : Nat} {rs : List Ri} (h : TopK W g rs) (hg : P g) (hP : ∀ q, g < q → P q) : HasRk W P (.slice (some ⟨g, 0, none⟩) rs.length (rs.length + 1)) rs := by
  obtain ⟨us, cur, hb, hs, hm, hk, hw, hc, hi⟩ := h
  exact .row g rs.length rs us hg rfl hm (Array.getElem?_eq_some_iff.1 hb).1 ((cell_of_row _ _ _ _ _ _ hb).trans hk) hw (fun i r hr j x hx => (cell_of_row _ _ _ _ _ _ hb).trans (hc i r hr j x hx)) (fun i r hr => (hi i r hr).mono (fun q _ hp => ⟨hP q hp, rfl⟩) (Nat.le_refl _))
theorem TopK.lt {W : World} {g : Nat} {rs : List Ri} (h : TopK W g rs) : g < W.heap.size := by
  obtain ⟨us, cur, hb, -⟩ := h
  exact (Array.getElem?_eq_some_iff.1 hb).1
theorem TopK.up {W w : World} {g : Nat} {rs : List Ri} (h : TopK W g rs) (hB : Below W.heap.size W w) : TopK w g rs := by
  have hl := h.lt
  obtain ⟨us, cur, hb, hs, hm, hk, hw, hc, hi⟩ := h
  exact ⟨us, cur, (hB.block g hl).trans hb, hs, hm, hk, hw, hc, fun i r hr => (hi i r hr).mono (fun q hq hp => ⟨hp, hB.block q hq⟩) hB.size⟩
/-- Its cells. -/
theorem TopK.at {W : World} {g i : Nat} {rs : List Ri} {nb kd x : Int} {t : ByteArray} {li : List Ri} (h : TopK W g rs) (hr : rs[i]? = some (.mk nb kd x t li)) : W.cell? ⟨g, i * 5, none⟩ = some (.int .i64 nb) ∧ W.cell? ⟨g, i * 5 + 2, none⟩ = some (.int .i64 x) ∧ (∀ j, W.frozen? ⟨g, j, none⟩ = false) ∧ RngI nb ∧ RngI kd ∧ RngI x := by
  obtain ⟨us, cur, hb, hs, hm, hk, hw, hc, hi⟩ := h
  exact ⟨(cell_of_row _ _ _ _ _ _ hb).trans (hc i _ hr 0 _ rfl), (cell_of_row _ _ _ _ _ _ hb).trans (hc i _ hr 2 _ rfl), fun j => frozen_of_row _ _ _ _ _ hb, hw i _ _ _ _ _ hr⟩
/-- One of its cells is written over. -/
theorem TopK.put {W : World} {g i j : Nat} {rs : List Ri} {r r' : Ri} {y : Value} (h : TopK W g rs) (hr : rs[i]? = some r) (hj : j < 5) (hin : r'.inner = r.inner) (hcl : ∀ u, icells r' u = (icells r u).set j y) (hrg : ∀ (nb kd x : Int) (t : ByteArray) (li : List Ri), r' = .mk nb kd x t li → RngI nb ∧ RngI kd ∧ RngI x) : TopK (W.setCell ⟨g, i * 5 + j, none⟩ y) g (rs.set i r') := by
  obtain ⟨us, cur, hb, hs, hm, hk, hw, hc, hi⟩ := h
  have hil := (List.getElem?_eq_some_iff.1 hr).1
  refine ⟨us, _, heap_setCell_same W g (i * 5 + j) _ _ y hb, by rw [Array.size_setIfInBounds, List.length_set]; exact hs, by rw [List.length_set]; exact hm, ?_, fun i' nb kd x t li hr' => ?_, fun i' r2 hr' j' x hx => ?_, fun i' r2 hr' => ?_⟩
  · rw [List.length_set, Array.getElem?_setIfInBounds_ne (by omega)]
    exact hk
  · by_cases e : i = i'
    · subst e
      rw [List.getElem?_set_self hil] at hr'
      exact hrg nb kd x t li (Option.some.inj hr')
    · rw [List.getElem?_set_ne e] at hr'
      exact hw i' nb kd x t li hr'
  · have hj' : j' < 5 := by have := (List.getElem?_eq_some_iff.1 hx).1; rw [icells_len] at this; exact this
    by_cases e : i = i'
    · subst e
      rw [List.getElem?_set_self hil] at hr'
      obtain rfl := Option.some.inj hr'
      rw [hcl] at hx
      by_cases e2 : j = j'
      · subst e2
        rw [List.getElem?_set_self (by rw [icells_len]; exact hj)] at hx
        obtain rfl := Option.some.inj hx
        rw [Array.getElem?_setIfInBounds_self_of_lt (by omega)]
      · rw [List.getElem?_set_ne e2] at hx
        rw [Array.getElem?_setIfInBounds_ne (by omega)]
        exact hc i r hr j' x hx
    · rw [List.getElem?_set_ne e] at hr'
      rw [Array.getElem?_setIfInBounds_ne (by omega)]
      exact hc i' r2 hr' j' x hx
  · have key : ∀ v rs', HasRk W (fun q => g < q) v rs' → HasRk (W.setCell ⟨g, i * 5 + j, none⟩ y) (fun q => g < q) v rs' := fun v rs' hk' => hk'.mono (fun q _ hp => ⟨hp, heap_setCell_other W ⟨g, i * 5 + j, none⟩ q y (by have hp' : g < q := hp; show q ≠ g; omega)⟩) (by rw [World.size_setCell]; exact Nat.le_refl _)
    by_cases e : i = i'
    · subst e
      rw [List.getElem?_set_self hil] at hr'
      obtain rfl := Option.some.inj hr'
      rw [hin]
      exact key _ _ (hi i r hr)
    · rw [List.getElem?_set_ne e] at hr'
      exact key _ _ (hi i' r2 hr')
theorem HasRk.ri {W : World} {P : Nat → Prop} {v : Value} {rs : List Ri} (h : HasRk W P v rs) : HasRi W v rs := by
  induction h with
  | row g n rs us hP hn hm hg hk hw hc hi ih =>
    exact .row g 0 n _ rs us hn (by unfold maxLen; omega) hg hw (fun i r hr j x hx => by rw [Nat.zero_add]; exact hc i r hr j x hx) ih
theorem blL_set {r r' : Ri} (h : blR r' = blR r) : ∀ {rs : List Ri} {i : Nat}, rs[i]? = some r → blL (rs.set i r') = blL rs
  | [], _, e => by simp at e
  | a :: rs, 0, e => by
    obtain rfl : a = r := by simpa using e
    rw [List.set_cons_zero, blL, blL, h]
  | a :: rs, i + 1, e => by
    rw [List.set_cons_succ, blL, blL, blL_set h (rs := rs) (i := i) (by simpa using e)]
end Go.Proofs.YtobomdokdajbaaaDoor

namespace Go.Proofs.YtobomdokdajbaaaDoor
open Go.RowKit

mutual
/-- No fewer than the bytes. -/
def lgR : Rt → Nat
  | .mk _ _ _ t li => 20 + t.size + lgL li
def lgL : List Rt → Nat
  | [] => 0
  | t :: ts => lgR t + lgL ts
end
theorem lgL_append : ∀ a b : List Rt, lgL (a ++ b) = lgL a + lgL b
  | [], b => by simp [lgL]
  | t :: a, b => by
    show lgR t + lgL (a ++ b) = (lgR t + lgL a) + lgL b
    rw [lgL_append a b]
    omega
theorem tag_five {u : Nat} (h : u < 34359738368) : (vN u).length ≤ 5 := by
  have := (vint_len 4 u (by omega)).2
  rw [vint_vN] at this
  exact this
theorem enc_lg : ∀ (N : Nat) (ts : List Rt), SizeOf.sizeOf ts ≤ N → WfL ts → lgL ts < 18446744073709551616 → (encL ts).length ≤ lgL ts := by
  intro N
  induction N with
  | zero =>
    intro ts hN
    cases ts with
    | nil => simp at hN
    | cons a b => simp at hN
  | succ N ih =>
    intro ts hN hw hl
    cases ts with
    | nil => exact Nat.le_refl _
    | cons r ts =>
      obtain ⟨nb, kd, x, t, li⟩ := r
      have hN1 : SizeOf.sizeOf li ≤ N := by simp at hN; omega
      have hN2 : SizeOf.sizeOf ts ≤ N := by simp at hN; omega
      obtain ⟨hT, hLi⟩ := hw.at' (i := 0) rfl
      rw [lgL, lgR] at hl ⊢
      have h2 := ih ts hN2 hw.tail (by omega)
      have h1 := ih li hN1 hLi (by omega)
      have hnum := hT.rg.num
      have hkk := hT.rg.kind
      have hv : (vN (8 * nb + kd)).length ≤ 5 := tag_five (by omega)
      rw [encL, encR, List.length_append, List.length_append]
      have hb : (bodyN nb kd x t (encL li)).length ≤ 15 + t.size + lgL li := by
        unfold bodyN
        split
        · have := (vN_len (un_lt x)).2; omega
        · split
          · rw [fN_len]; omega
          · split
            · rw [List.length_append, tN_len]
              have := (vN_len (u := t.size) (by omega)).2
              omega
            · split
              · rw [List.length_append]
                have : (vN (8 * nb + 4)).length ≤ 5 := tag_five (by omega)
                omega
              · rw [fN_len]; omega
      omega
end Go.Proofs.YtobomdokdajbaaaDoor

namespace Go.Proofs.YtobomdokdajbaaaDoor
open Go.RowKit
attribute [local go_sem ↓] Go.wp_at_zero Go.wp_at_succ

/-- The mark of a list, at a place. -/
def mkB (i k : Nat) : Int := if k % 4 = 0 then ((i % 256 : Nat) : Int) else if k % 4 = 1 then ((i / 256 % 256 : Nat) : Int) else if k % 4 = 2 then ((i / 65536 % 256 : Nat) : Int) else ((i / 16777216 % 256 : Nat) : Int)
theorem mkB_in (i k : Nat) : 0 ≤ mkB i k ∧ mkB i k ≤ 255 := by
  unfold mkB
  split
  · omega
  · split
    · omega
    · split <;> omega
set_option maxRecDepth 100000 in
set_option maxHeartbeats 1000000 in
theorem mark_any (W : World) (i k : Nat) : Calls Tryd.prog 43 #[.int .i64 (i : Int), .int .i64 (k : Int)] W fun e w => e = .returned (.int .u8 (mkB i k)) ∧ w = W := by
  have h4 : (k : Int).tmod 4 = ((k % 4 : Nat) : Int) := by rw [Int.tmod_eq_emod_of_nonneg (Int.natCast_nonneg _)]; omega
  obtain ⟨r, hr⟩ : ∃ r, k % 4 = r := ⟨_, rfl⟩
  have hr4 : r < 4 := by omega
  unfold mkB
  rw [hr] at h4 ⊢
  clear hr
  go_enter Tryd.func43, Tryd.ntmps43
  match r, hr4 with
  | 0, _ =>
    go_wp2
    go_ret
    exact ⟨by simp, rfl⟩
  | 1, _ =>
    go_wp2
    go_ret
    exact ⟨by simp, rfl⟩
  | 2, _ =>
    go_wp2
    go_ret
    exact ⟨by simp, rfl⟩
  | 3, _ =>
    go_wp2
    go_ret
    exact ⟨by simp, rfl⟩
/-- What is put behind a list, before it is cut off. -/
def tlF (i : Nat) (n : Nat) : List Int := (List.range n).flatMap fun k => [255 - mkB i (k / 4 + k), ((k % 256 : Nat) : Int), 195]
theorem tlF_len (i n : Nat) : (tlF i n).length = n * 3 := by
  unfold tlF
  induction n with
  | zero => rfl
  | succ n ih => rw [List.range_succ, List.flatMap_append, List.length_append, ih]; simp; omega
theorem tlF_succ (i n : Nat) : tlF i (n + 1) = tlF i n ++ [255 - mkB i (n / 4 + n), ((n % 256 : Nat) : Int), 195] := by
  unfold tlF
  rw [List.range_succ, List.flatMap_append]
  simp
/-- What is put behind a list. -/
def tlB (i : Nat) : List Int := (tlF i 700).take 700
theorem tlB_len (i : Nat) : (tlB i).length = 700 := by unfold tlB; rw [List.length_take, tlF_len]; rfl
theorem bytes_take {B : Nat} {w : World} {g n m c : Nat} {bs : List Int} (h : Bytes B w (.slice (some ⟨g, 0, none⟩) n c) bs) (hm : m ≤ bs.length) : Bytes B w (.slice (some ⟨g, 0, none⟩) m c) (bs.take m) := by
  unfold Bytes at h ⊢
  obtain ⟨h1, ⟨h2, -⟩ | ⟨g', c', cur, e, h2, h3, h4, h5, h6, h7⟩⟩ := h
  · cases h2
  · injection e with e1 e2 e3
    obtain rfl := congrArg Addr.block (Option.some.inj e1)
    subst e3
    have hl : (bs.take m).length = m := by rw [List.length_take]; omega
    refine ⟨by rw [List.length_map, Nat.mul_one], .inr ⟨g, c, cur, by rw [hl], h2, h3, by omega, h5, h6, ?_⟩⟩
    rw [Nat.mul_one] at h7 ⊢
    rw [hl, List.map_take, ← h7, List.take_take, Nat.min_eq_left hm]
theorem cell_new3 (w : World) (x y z : Value) (t : TypeId) : ∀ j u, [x, y, z][j]? = some u → (w.alloc (.cells #[x, y, z] t)).cell? ((⟨w.heap.size, 0, none⟩ : Addr).add j) = some u := by
  intro j u h
  have e : (w.alloc (.cells #[x, y, z] t)).heap[w.heap.size]? = some (.cells #[x, y, z] t (0, 0)) := by unfold World.alloc; simp
  match j with
  | 0 => rw [show (⟨w.heap.size, 0, none⟩ : Addr).add 0 = ⟨w.heap.size, 0, none⟩ from rfl]; rw [cell_of_row _ _ _ _ _ _ e]; exact h
  | 1 => rw [show (⟨w.heap.size, 0, none⟩ : Addr).add 1 = ⟨w.heap.size, 1, none⟩ from rfl]; rw [cell_of_row _ _ _ _ _ _ e]; exact h
  | 2 => rw [show (⟨w.heap.size, 0, none⟩ : Addr).add 2 = ⟨w.heap.size, 2, none⟩ from rfl]; rw [cell_of_row _ _ _ _ _ _ e]; exact h
  | j + 3 => simp at h
set_option maxRecDepth 100000 in
set_option maxHeartbeats 2000000 in
theorem tail_any (W : World) (i : Nat) : Calls Tryd.prog 44 #[.int .i64 (i : Int)] W fun e w => ∃ v, e = .returned v ∧ Bytes W.heap.size w v (tlB i) ∧ Below W.heap.size W w := by
  obtain ⟨i0, hi, hz0, hz1, hz2⟩ := info_parts Tryd.infoByte
  go_enter Tryd.func44, Tryd.ntmps44
  go_wp2
  go_loopg [3, 4] 700 (fun gk v3 v4 wr => ∃ (k : Nat), v4 = .int .i64 (k : Int) ∧ gk = 700 - k ∧ k ≤ 700 ∧ Hid (Bytes W.heap.size wr v3 (tlF i k)) ∧ Hid (Below W.heap.size W wr))
  case atStart => exact ⟨0, rfl, rfl, by omega, World.ownsRow_nil _ _ _ _, Below.refl _ _⟩
  case round =>
    obtain ⟨k, rfl, hgk, hk, HO, HB⟩ := hrel
    have Hgk := hide hgk
    clear hgk
    by_cases hlt : k < 700
    · have hd : decide ((k : Int) < 700) = true := by simp; omega
      obtain ⟨q, hq⟩ : ∃ q, k / 4 = q := ⟨_, rfl⟩
      have h4 : (k : Int).tdiv 4 = (q : Int) := by rw [Int.tdiv_eq_ediv_of_nonneg (Int.natCast_nonneg _)]; omega
      have hqk : q ≤ 175 := by omega
      obtain ⟨m, hm⟩ : ∃ m, mkB i (q + k) = m := ⟨_, rfl⟩
      have hm2 := mkB_in i (q + k)
      have HM : Hid (∀ w, Calls Tryd.prog 43 #[.int .i64 (i : Int), .int .i64 ((q : Int) + (k : Int))] w fun e w' => e = .returned (.int .u8 m) ∧ w' = w) := fun w => by have := mark_any w i (q + k); rw [hm] at this; push_cast at this; exact this
      rw [hm] at hm2
      obtain ⟨hm0, hm1⟩ := hm2
      have HT : Hid (tlF i (k + 1) = tlF i k ++ [255 - m, ((k % 256 : Nat) : Int), 195]) := by show _ = _; rw [tlF_succ, hq, hm]
      have hO := unhide HO
      unfold Bytes at hO
      rw [tlF_len] at hO
      have HO2 := hide hO
      have HS := hide (unhide HB).size
      have Hk := hide hlt
      clear hO HO hq hm hlt
      go_wp2_with (first
        | (go_at_call 43; refine (unhide HM _).mono ?_; rintro e w2 ⟨rfl, hw⟩; rw [hw]; clear hw w2)
        | (at_builtin; refine wpList_append_own_at _ rfl _ _ 24 rfl W.heap.size 5 i0 (.int .u8 0) 1 1 Tryd.underlying24 hi hz0 hz1 hz2 rfl (by decide) _ _ _ rfl ((unhide HO2).alloc _) ⟨wr.heap.size, 0, none⟩ 3 3 [.int .u8 (255 - m), .int .u8 ((k : Int) % 256), .int .u8 195] rfl rfl (cell_new3 _ _ _ _ _) (by simp [Value.oneCell']) (by unfold maxLen; omega) (by omega) (by have := unhide HS; simp; omega) ?_; intro v4 w4 hown4 hgrow4 _ hat4; have Hown := hide hown4; have Hgrow := hide hgrow4; clear hown4 hgrow4 hat4))
      go_roundg (700 - (k + 1))
      case measure => have := unhide Hgk; have := unhide Hk; omega
      case rel =>
        refine ⟨k + 1, by go_num, rfl, unhide Hk, ?_, ?_⟩
        · show Bytes _ _ _ _
          rw [unhide HT]
          have := unhide Hown
          unfold Bytes
          rw [List.length_append, tlF_len]
          simpa [Nat.add_assoc] using this
        · exact ((unhide HB).alloc (unhide HB).size _).grown (unhide Hgrow) (by rw [World.size_alloc]; have := unhide HS; omega) (fun q e => ((unhide HO2).lt q e).1)
    · obtain rfl : k = 700 := by omega
      have hd : decide ((700 : Int) < 700) = false := by simp
      have hO := unhide HO
      obtain ⟨h1, ⟨h2, h3⟩ | ⟨g, c, cur, e, h2, h3, h4, h5, h6⟩⟩ := id hO
      · rw [tlF_len] at h3; omega
      · subst e
        rw [tlF_len] at h4 ⊢
        have HB2 := hide (bytes_take hO (m := 700) (by rw [tlF_len]; omega))
        clear h1 h2 h3 h6 hO HO
        go_wp2
        go_ret
        exact ⟨_, rfl, unhide HB2, unhide HB⟩
end Go.Proofs.YtobomdokdajbaaaDoor

namespace Go.Proofs.YtobomdokdajbaaaDoor
open Go.RowKit
attribute [local go_sem ↓] Go.wp_at_zero Go.wp_at_succ

/-- Lists of bytes that lie in blocks of their own, each in another. -/
structure Lb (B : Nat) (w : World) (vs : List Value) (bss : List (List Int)) : Prop where
  len : bss.length = vs.length
  own : ∀ (i : Nat) (v : Value) (bs : List Int), vs[i]? = some v → bss[i]? = some bs → Bytes B w v bs
  ap : ∀ (i j : Nat) (v u : Value) (b : Nat), vs[i]? = some v → vs[j]? = some u → v.ownBlock = some b → u.ownBlock = some b → i = j
def InB (vs : List Value) (g : Nat) : Prop := ∃ (i : Nat) (v : Value), vs[i]? = some v ∧ v.ownBlock = some g
theorem Lb.nil (B : Nat) (w : World) : Lb B w [] [] := ⟨rfl, fun i v bs h => by simp at h, fun i j v u b h => by simp at h⟩
theorem Lb.at {B : Nat} {w : World} {vs : List Value} {bss : List (List Int)} (h : Lb B w vs bss) {i : Nat} (hi : i < vs.length) : ∃ v bs, vs[i]? = some v ∧ bss[i]? = some bs ∧ Bytes B w v bs := by
  have h1 : bss[i]? = some (bss[i]'(by rw [h.len]; exact hi)) := List.getElem?_eq_getElem _
  exact ⟨_, _, List.getElem?_eq_getElem hi, h1, h.own i _ _ (List.getElem?_eq_getElem hi) h1⟩
theorem Lb.lt {B : Nat} {w : World} {vs : List Value} {bss : List (List Int)} (h : Lb B w vs bss) {g : Nat} (hg : InB vs g) : B ≤ g ∧ g < w.heap.size := by
  obtain ⟨i, v, h1, h2⟩ := hg
  obtain ⟨v', bs, h3, h4, h5⟩ := h.at (List.getElem?_eq_some_iff.1 h1).1
  obtain rfl := Option.some.inj (h1.symm.trans h3)
  exact h5.lt g h2
theorem Lb.keep {B : Nat} {w w' : World} {vs : List Value} {bss : List (List Int)} (h : Lb B w vs bss) (hf : ∀ g, g < w.heap.size → InB vs g → w'.heap[g]? = w.heap[g]?) : Lb B w' vs bss :=
  ⟨h.len, fun i v bs hv hb => (h.own i v bs hv hb).same (fun b e => hf b ((h.own i v bs hv hb).lt b e).2 ⟨i, v, hv, e⟩), h.ap⟩
/-- One of them is another. -/
theorem Lb.set {B : Nat} {w w' : World} {vs : List Value} {bss : List (List Int)} (h : Lb B w vs bss) {i : Nat} {v v' : Value} {bs' : List Int} (hi : vs[i]? = some v) (hn : Bytes B w' v' bs') (hblk : v'.ownBlock = v.ownBlock ∨ ∃ g', v'.ownBlock = some g' ∧ w.heap.size ≤ g') (hf : ∀ q, q < w.heap.size → some q ≠ v.ownBlock → w'.heap[q]? = w.heap[q]?) : Lb B w' (vs.set i v') (bss.set i bs') := by
  have hlt := (List.getElem?_eq_some_iff.1 hi).1
  refine ⟨by rw [List.length_set, List.length_set]; exact h.len, fun j x bs hx hb => ?_, fun j k x y b hx hy ex ey => ?_⟩
  · by_cases hij : i = j
    · subst hij
      rw [List.getElem?_set_self hlt] at hx
      rw [List.getElem?_set_self (by rw [h.len]; exact hlt)] at hb
      obtain rfl := Option.some.inj hx
      obtain rfl := Option.some.inj hb
      exact hn
    · rw [List.getElem?_set_ne hij] at hx hb
      refine (h.own j x bs hx hb).same (fun b e => hf b ((h.own j x bs hx hb).lt b e).2 (fun e2 => hij (h.ap i j v x b hi hx e2.symm e)))
  · have old : ∀ (m : Nat) (z : Value), vs[m]? = some z → z.ownBlock = some b → b < w.heap.size := fun m z hz ez => (h.lt ⟨m, z, hz, ez⟩).2
    by_cases hij : i = j
    · by_cases hik : i = k
      · omega
      · subst hij
        rw [List.getElem?_set_self hlt] at hx
        rw [List.getElem?_set_ne hik] at hy
        obtain rfl := Option.some.inj hx
        rcases hblk with e | ⟨g', e, hg'⟩
        · exact h.ap i k v y b hi hy (e.symm.trans ex) ey
        · have := old k y hy ey
          have := Option.some.inj (e.symm.trans ex)
          omega
    · rw [List.getElem?_set_ne hij] at hx
      by_cases hik : i = k
      · subst hik
        rw [List.getElem?_set_self hlt] at hy
        obtain rfl := Option.some.inj hy
        rcases hblk with e | ⟨g', e, hg'⟩
        · exact h.ap j i x v b hx hi ex (e.symm.trans ey)
        · have := old j x hx ex
          have := Option.some.inj (e.symm.trans ey)
          omega
      · rw [List.getElem?_set_ne hik] at hy
        exact h.ap j k x y b hx hy ex ey
/-- One more. -/
theorem Lb.push {B : Nat} {w w' : World} {vs : List Value} {bss : List (List Int)} (h : Lb B w vs bss) {v : Value} {bs : List Int} (hn : Bytes B w' v bs) (hblk : ∀ b, v.ownBlock = some b → ¬ InB vs b) (hf : ∀ q, q < w.heap.size → InB vs q → w'.heap[q]? = w.heap[q]?) : Lb B w' (vs ++ [v]) (bss ++ [bs]) := by
  have hk := h.keep hf
  have cas : ∀ (j : Nat) (x : Value), (vs ++ [v])[j]? = some x → (j < vs.length ∧ vs[j]? = some x) ∨ (j = vs.length ∧ x = v) := fun j x hx => by
    by_cases hj : j < vs.length
    · rw [List.getElem?_append_left hj] at hx; exact .inl ⟨hj, hx⟩
    · have := (List.getElem?_eq_some_iff.1 hx).1
      rw [List.length_append, List.length_singleton] at this
      obtain rfl : j = vs.length := by omega
      rw [List.getElem?_append_right (Nat.le_refl _)] at hx
      simp at hx
      exact .inr ⟨rfl, hx.symm⟩
  refine ⟨by rw [List.length_append, List.length_append, h.len]; rfl, fun j x c hx hc => ?_, fun j k x y b hx hy ex ey => ?_⟩
  · rcases cas j x hx with ⟨hj, hx'⟩ | ⟨rfl, rfl⟩
    · rw [List.getElem?_append_left (by rw [h.len]; exact hj)] at hc
      exact hk.own j x c hx' hc
    · rw [← h.len, List.getElem?_append_right (Nat.le_refl _)] at hc
      simp at hc
      subst hc
      exact hn
  · rcases cas j x hx with ⟨hj, hx'⟩ | ⟨rfl, rfl⟩
    · rcases cas k y hy with ⟨hk', hy'⟩ | ⟨rfl, rfl⟩
      · exact h.ap j k x y b hx' hy' ex ey
      · exact (hblk b ey ⟨j, x, hx', ex⟩).elim
    · rcases cas k y hy with ⟨hk', hy'⟩ | ⟨rfl, rfl⟩
      · exact (hblk b ex ⟨k, y, hy', ey⟩).elim
      · rfl
/-- A row of headers that can be read. -/
def HdL (w : World) (va : Value) (vs : List Value) : Prop := ∃ a c, va = .slice a vs.length c ∧ vs.length ≤ 1099511627776 ∧ (0 < vs.length → ∃ g o, a = some ⟨g, o, none⟩ ∧ g < w.heap.size ∧ ¬ InB vs g ∧ ∀ i v, vs[i]? = some v → w.cell? ⟨g, o + i, none⟩ = some v)
def mkL (i n : Nat) : List Int := (List.range n).map (mkB i)
theorem mkL_len (i n : Nat) : (mkL i n).length = n := by simp [mkL]
theorem mkL_at {i n k : Nat} (h : k < n) : (mkL i n)[k]? = some (mkB i k) := by simp [mkL, h]
/-- The first lists are marked, all are as long as they were. -/
structure G1 (W : World) (B : Nat) (vs : List Value) (bss : List (List Int)) (i : Nat) (w : World) (cs : List (List Int)) : Prop where
  lb : Lb B w vs cs
  fr : Fr W w (InB vs)
  ln : ∀ j : Nat, (cs[j]?).map List.length = (bss[j]?).map List.length
  md : ∀ (j : Nat) (c : List Int), j < i → cs[j]? = some c → c = mkL j c.length
/-- A byte is marked. -/
theorem G1.put {W : World} {B : Nat} {vs : List Value} {bss cs : List (List Int)} {i k : Nat} {w : World} (h : G1 W B vs bss i w cs) {g n c : Nat} {bs : List Int} (hv : vs[i]? = some (.slice (some ⟨g, 0, none⟩) n c)) (hb : cs[i]? = some bs) (x : Int) :
    G1 W B vs bss i (w.setCell ⟨g, k, none⟩ (.int .u8 x)) (cs.set i (bs.set k x)) := by
  have hlt := (List.getElem?_eq_some_iff.1 hv).1
  have e : vs.set i (.slice (some ⟨g, 0, none⟩) n c) = vs := by
    apply List.ext_getElem?
    intro j
    by_cases hij : i = j
    · subst hij; rw [List.getElem?_set_self hlt, hv]
    · rw [List.getElem?_set_ne hij]
  have h1 := h.lb.set hv (bytes_set (h.lb.own i _ bs hv hb) k x) (.inl rfl) (fun q _ hn => heap_setCell_other w ⟨g, k, none⟩ q _ (fun e => hn (by rw [show q = g from e]; rfl)))
  rw [e] at h1
  refine ⟨h1, h.fr.set ⟨i, _, hv, rfl⟩ k _, fun j => ?_, fun j d hj hd => ?_⟩
  · by_cases hij : i = j
    · subst hij
      rw [List.getElem?_set_self (by rw [h.lb.len]; exact hlt), ← h.ln, hb]
      simp
    · rw [List.getElem?_set_ne hij]; exact h.ln j
  · rw [List.getElem?_set_ne (by omega)] at hd
    exact h.md j d hj hd
end Go.Proofs.YtobomdokdajbaaaDoor

namespace Go.Proofs.YtobomdokdajbaaaDoor
open Go.RowKit
attribute [local go_sem ↓] Go.wp_at_zero Go.wp_at_succ

theorem bytes_shape {B : Nat} {w : World} {v : Value} {bs : List Int} (h : Bytes B w v bs) : ∃ a c, v = .slice a bs.length c ∧ bs.length ≤ maxLen ∧ (0 < bs.length → ∃ g, a = some ⟨g, 0, none⟩) := by
  obtain ⟨h1, ⟨rfl, h2⟩ | ⟨g, c, cur, rfl, h2, h3, h4, h5, h6⟩⟩ := id h
  · exact ⟨none, 0, by rw [h2], by rw [h2]; exact Nat.zero_le _, fun hp => by omega⟩
  · exact ⟨_, c, rfl, Nat.le_trans h4 h5, fun _ => ⟨g, rfl⟩⟩
theorem G1.drew {W : World} {B : Nat} {vs : List Value} {bss cs : List (List Int)} {i : Nat} {w : World} (h : G1 W B vs bss i w cs) : G1 W B vs bss i w.drew cs :=
  ⟨h.lb.keep (fun _ _ _ => rfl), ⟨h.fr.os, h.fr.tape, h.fr.output, h.fr.size, h.fr.far⟩, h.ln, h.md⟩
theorem G1.next {W : World} {B : Nat} {vs : List Value} {bss cs : List (List Int)} {i : Nat} {w : World} (h : G1 W B vs bss i w cs) {bs : List Int} {n : Nat} (hb : cs[i]? = some bs) (hl : bs.length = n) (ht : bs.take n = (mkL i n).take n) : G1 W B vs bss (i + 1) w cs := by
  refine ⟨h.lb, h.fr, h.ln, fun j c hj hc => ?_⟩
  by_cases hij : j = i
  · subst hij
    obtain rfl := Option.some.inj (hb.symm.trans hc)
    rw [List.take_of_length_le (by omega), List.take_of_length_le (by rw [mkL_len]; omega)] at ht
    rw [hl]; exact ht
  · exact h.md j c (by omega) hc
end Go.Proofs.YtobomdokdajbaaaDoor

namespace Go.Proofs.YtobomdokdajbaaaDoor
open Go.RowKit

theorem take_one {α : Type} {l : List α} {i : Nat} {x : α} (h : l[i]? = some x) : l.take (i + 1) = l.take i ++ [x] := by rw [List.take_add_one, h]; rfl
theorem own_lower {W : World} {bs bs' e size n : Nat} {v : Value} {xs : List Value} (h : W.ownsRow bs e size v n xs) (hb : bs' ≤ bs) : W.ownsRow bs' e size v n xs := by
  refine ⟨h.1, ?_⟩
  rcases h.2 with h1 | ⟨g', cap, cur, e, hb1, rest⟩
  · exact .inl h1
  · exact .inr ⟨g', cap, cur, e, Nat.le_trans hb hb1, rest⟩
theorem own_same {W w : World} {bs e size n : Nat} {v : Value} {xs : List Value} (h : W.ownsRow bs e size v n xs) (hb : ∀ b, v.ownBlock = some b → w.heap[b]? = W.heap[b]?) : w.ownsRow bs e size v n xs := by
  refine ⟨h.1, ?_⟩
  rcases h.2 with h1 | ⟨g', cap, cur, e, hb1, hc, rest⟩
  · exact .inl h1
  · subst e
    exact .inr ⟨g', cap, cur, rfl, hb1, (hb g' rfl).trans hc, rest⟩
theorem inB_app {vs : List Value} {v : Value} {g : Nat} (h : InB (vs ++ [v]) g) : InB vs g ∨ v.ownBlock = some g := by
  obtain ⟨i, x, hx, e⟩ := h
  by_cases hi : i < vs.length
  · rw [List.getElem?_append_left hi] at hx
    exact .inl ⟨i, x, hx, e⟩
  · rw [List.getElem?_append_right (by omega)] at hx
    have : x = v := by
      cases hq : i - vs.length with
      | zero => rw [hq] at hx; simpa using hx.symm
      | succ m => rw [hq] at hx; simp at hx
    subst this
    exact .inr e
/-- The lists, and behind each what is to be put behind it. -/
structure G2 (W : World) (B : Nat) (vs : List Value) (cs : List (List Int)) (i : Nat) (w : World) (v5 v6 : Value) (ts : List Value) : Prop where
  lb : Lb B w vs cs
  fr : Fr W w (InB vs)
  m5 : w.ownsRow W.heap.size 24 1 v5 i (vs.take i)
  m6 : w.ownsRow W.heap.size 24 1 v6 i ts
  tl : Lb W.heap.size w ts ((List.range i).map tlB)
  a56 : ∀ b, v5.ownBlock = some b → v6.ownBlock ≠ some b
  a5 : ∀ b, v5.ownBlock = some b → ¬ InB ts b
  a6 : ∀ b, v6.ownBlock = some b → ¬ InB ts b
theorem G2.step {W : World} {B : Nat} {vs : List Value} {cs : List (List Int)} {i : Nat} {w w2 w3 w4 : World} {v5 v6 v5' v6' t v : Value} {ts : List Value} {o1 o2 : Obj} (h : G2 W B vs cs i w v5 v6 ts) (hI : ∀ g, InB vs g → g < W.heap.size) (hv : vs[i]? = some v)
    (g1 : (w.alloc o1).grownBy w2 v5.ownBlock) (r5 : w2.ownsRow W.heap.size 24 1 v5' (i + 1) (vs.take i ++ [v])) (b5 : v5'.ownBlock = v5.ownBlock ∨ v5'.ownBlock = some (w.alloc o1).heap.size)
    (hb3 : Below w2.heap.size w2 w3) (ht : Bytes w2.heap.size w3 t (tlB i))
    (g4 : (w3.alloc o2).grownBy w4 v6.ownBlock) (r6 : w4.ownsRow W.heap.size 24 1 v6' (i + 1) (ts ++ [t])) (b6 : v6'.ownBlock = v6.ownBlock ∨ v6'.ownBlock = some (w3.alloc o2).heap.size) :
    G2 W B vs cs (i + 1) w4 v5' v6' (ts ++ [t]) := by
  rw [World.size_alloc] at b5 b6
  have s0 := h.fr.size
  have s1 := g1.size
  rw [World.size_alloc] at s1
  have s3 := hb3.size
  have s4 := g4.size
  rw [World.size_alloc] at s4
  have k12 : ∀ g, g < w.heap.size → v5.ownBlock ≠ some g → w2.heap[g]? = w.heap[g]? := fun g hg hn => (g1.block g (by rw [World.size_alloc]; omega) (fun e => hn e.symm)).trans (Below.heap_alloc w o1 g hg)
  have k34 : ∀ g, g < w3.heap.size → v6.ownBlock ≠ some g → w4.heap[g]? = w3.heap[g]? := fun g hg hn => (g4.block g (by rw [World.size_alloc]; omega) (fun e => hn e.symm)).trans (Below.heap_alloc w3 o2 g hg)
  have key : ∀ g, g < w.heap.size → v5.ownBlock ≠ some g → v6.ownBlock ≠ some g → w4.heap[g]? = w.heap[g]? := fun g hg h5 h6 => ((k34 g (by omega) h6).trans (hb3.block g (by omega))).trans (k12 g hg h5)
  have l5 : ∀ b, v5.ownBlock = some b → W.heap.size ≤ b ∧ b < w.heap.size := fun b e => h.m5.lt b e
  have l6 : ∀ b, v6.ownBlock = some b → W.heap.size ≤ b ∧ b < w.heap.size := fun b e => h.m6.lt b e
  have lt : ∀ b, t.ownBlock = some b → w2.heap.size ≤ b ∧ b < w3.heap.size := fun b e => ht.lt b e
  have l5' : ∀ b, v5'.ownBlock = some b → v5.ownBlock = some b ∨ b = w.heap.size + 1 := fun b e => by
    rcases b5 with q | q
    · exact .inl (q.symm.trans e)
    · exact .inr (Option.some.inj (e.symm.trans q))
  have l6' : ∀ b, v6'.ownBlock = some b → v6.ownBlock = some b ∨ b = w3.heap.size + 1 := fun b e => by
    rcases b6 with q | q
    · exact .inl (q.symm.trans e)
    · exact .inr (Option.some.inj (e.symm.trans q))
  have l5b : ∀ b, v5'.ownBlock = some b → b < w2.heap.size := fun b e => (r5.lt b e).2
  have old : ∀ g, InB vs g → v5.ownBlock ≠ some g ∧ v6.ownBlock ≠ some g := fun g hg => ⟨fun e => by have := (l5 g e).1; have := hI g hg; omega, fun e => by have := (l6 g e).1; have := hI g hg; omega⟩
  have n5 : ∀ b, v5'.ownBlock = some b → v6.ownBlock ≠ some b := fun b e e2 => by
    rcases l5' b e with q | q
    · exact h.a56 b q e2
    · have := (l6 b e2).2; omega
  refine ⟨h.lb.keep (fun g hg hi => key g hg (old g hi).1 (old g hi).2), ?_, ?_, r6, ?_, ?_, ?_, ?_⟩
  · refine ⟨g4.os.trans (hb3.os.trans (g1.os.trans h.fr.os)), g4.tape.trans (hb3.tape.trans (g1.tape.trans h.fr.tape)), g4.output.trans (hb3.output.trans (g1.output.trans h.fr.output)), by omega, fun q hq hn => ?_⟩
    refine (key q (by omega) (fun e => by have := (l5 q e).1; omega) (fun e => by have := (l6 q e).1; omega)).trans (h.fr.far q hq hn)
  · rw [take_one hv]
    refine own_same r5 (fun b e => ?_)
    have := l5b b e
    exact (k34 b (by omega) (n5 b e)).trans (hb3.block b this)
  · rw [List.range_succ, List.map_append]
    refine h.tl.push (w' := w4) ?_ (fun b e hi => by have := (lt b e).1; have := (h.tl.lt hi).2; omega) (fun q hq hi => key q hq (fun e => h.a5 q e hi) (fun e => h.a6 q e hi))
    refine own_lower (bs := w2.heap.size) (own_same ht (fun b e => ?_)) (by omega)
    have := lt b e
    exact k34 b this.2 (fun e2 => by have := (l6 b e2).2; omega)
  · intro b e e2
    rcases l6' b e2 with q | q
    · exact n5 b e q
    · have := l5b b e; omega
  · intro b e hi
    rcases inB_app hi with hi | hi
    · rcases l5' b e with q | q
      · exact h.a5 b q hi
      · have := (h.tl.lt hi).2; omega
    · have := lt b hi; have := l5b b e; omega
  · intro b e hi
    rcases inB_app hi with hi | hi
    · rcases l6' b e with q | q
      · exact h.a6 b q hi
      · have := (h.tl.lt hi).2; omega
    · rcases l6' b e with q | q
      · have := lt b hi; have := (l6 b q).2; omega
      · have := lt b hi; omega
end Go.Proofs.YtobomdokdajbaaaDoor
