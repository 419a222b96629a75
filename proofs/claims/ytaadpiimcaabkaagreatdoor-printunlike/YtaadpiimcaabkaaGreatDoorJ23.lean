import Derived.Test.YtaadpiimcaabkaaGreatDoorYAd
import Derived.Shelf.Strings.OnBuilder
import Derived.Test.YtaadpiimcaabkaaGreatDoorChecked
import Derived.Test.YtaadpiimcaabkaaGreatDoorJ16

namespace Go.Proofs.YtaadpiimcaabkaaGreatDoor
open Go.RowKit
attribute [local go_sem ↓] Go.wp_at_zero Go.wp_at_succ

/-- Does the next field belong to the last group? -/
def grpC (gs : List (List Fd)) (d : Fd) : Bool := match gs[gs.length - 1]? with
  | some (a :: _) => joins a d
  | _ => false
def grpS (gs : List (List Fd)) (d : Fd) : List (List Fd) := if grpC gs d then gs.set (gs.length - 1) (gs.getD (gs.length - 1) [] ++ [d]) else gs ++ [([d])]
/-- The fields of each oneof together. -/
def grps (l : List Fd) : List (List Fd) := l.foldl grpS []
theorem grps_take {l : List Fd} {i : Nat} {d : Fd} (h : l[i]? = some d) : grps (l.take (i + 1)) = grpS (grps (l.take i)) d := by
  rw [take_app h]
  unfold grps
  rw [List.foldl_append]
  rfl
theorem grpS_le (gs : List (List Fd)) (d : Fd) : (grpS gs d).length ≤ gs.length + 1 := by
  unfold grpS
  split
  · rw [List.length_set]; omega
  · rw [List.length_append]; simp
theorem grps_bd (l : List Fd) : ∀ (i : Nat), i ≤ l.length → (grps (l.take i)).length ≤ i ∧ ∀ G ∈ grps (l.take i), G.length ≤ i := by
  intro i
  induction i with
  | zero => intro _; simp [grps]
  | succ i ih =>
    intro h
    obtain ⟨h1, h2⟩ := ih (by omega)
    rw [grps_take (List.getElem?_eq_getElem (show i < l.length by omega))]
    refine ⟨Nat.le_trans (grpS_le _ _) (Nat.succ_le_succ h1), fun G hG => ?_⟩
    unfold grpS at hG
    split at hG
    · rcases List.mem_or_eq_of_mem_set hG with z | rfl
      · exact Nat.le_succ_of_le (h2 G z)
      · rw [List.length_append, List.getD_eq_getElem?_getD]
        cases e : (grps (l.take i))[(grps (l.take i)).length - 1]? with
        | none => simp
        | some K => have := h2 K (List.mem_of_getElem? e); simpa using this
    · rcases List.mem_append.1 hG with z | z
      · exact Nat.le_succ_of_le (h2 G z)
      · simp at z; subst z; simp
theorem row_cell {B n t : Nat} {w : World} {q c : Nat} {xs : List Value} (h : w.ownsRow B t 1 (.slice (some ⟨q, 0, none⟩) n c) n xs) {k : Nat} {x : Value} (hk : xs[k]? = some x) : w.cell? ⟨q, k, none⟩ = some x ∧ w.frozen? ⟨q, k, none⟩ = false := by
  rcases h.2 with ⟨e, _⟩ | ⟨q', c', cur, e, hB, hh, h3, h4, h5, h6⟩
  · cases e
  · obtain ⟨rfl, rfl⟩ : q = q' ∧ c = c' := by simpa using e
    refine ⟨?_, by simp [World.frozen?, hh]⟩
    rw [cell_of_row _ _ _ _ _ _ hh, ← Array.getElem?_toList]
    rw [← h6, List.getElem?_take] at hk
    split at hk
    · exact hk
    · cases hk
set_option maxRecDepth 100000 in
set_option maxHeartbeats 4000000 in
theorem joined_any {w0 : World} {va : Value} {l : List Fd} {gA : List Nat} {lo : Nat} (ha : Al lo w0 va l gA) (hlo : lo ≤ w0.heap.size) (hl : l.length ≤ 4096) : Calls Tryz.prog 176 #[va, .func (.func 177) #[] #[]] w0 fun e w => ∃ v us, e = .returned v ∧ Jn lo w0.heap.size w0 w va v l gA l.length (grps l) us := by
  obtain ⟨i0, hi, hz0, hz1, hz2⟩ := info_parts infoFlds
  have HJ0 : Hid (Jn lo w0.heap.size w0 w0 va (.slice none 0 0) l gA 0 [] []) := ⟨Below.refl _ _, Nat.le_refl _, hlo, ha.row, fun k e => (ha.row.lt k e).2, ha.len, fun g hg => ⟨ha.low g hg, ha.lt hg⟩, ha.nd, fun j d g _ h1 h2 => ha.blk j d g h1 h2, ⟨rfl, .inl ⟨rfl, rfl⟩⟩, rfl, fun k G u h => by simp at h, fun G h => by simp at h, fun k k' u u' b _ h => by simp at h, fun k j u b g _ h => by simp at h⟩
  have Hal := hide ha.len
  have hva : ∃ a c, va = .slice a l.length c := by
    rcases ha.row.2 with ⟨rfl, h2⟩ | ⟨q, c, cur, rfl, _⟩
    · exact ⟨none, 0, by rw [h2]⟩
    · exact ⟨_, _, rfl⟩
  obtain ⟨aa, ac, rfl⟩ := hva
  have HL := hide hl
  clear ha hlo
  go_enter Tryz.func176, Tryz.ntmps176
  go_wp2
  go_loopg [5, 7, 8, 9, 10, 13] l.length (fun gk v5 _ _ _ _ v13 wr => ∃ (i : Nat) (us : List Value), v13 = .int .i64 (i : Int) ∧ gk = l.length - i ∧ i ≤ l.length ∧ Hid (Jn lo w0.heap.size w0 wr (.slice aa l.length ac) v5 l gA i (grps (l.take i)) us))
  case atStart => exact ⟨0, [], rfl, rfl, by omega, HJ0⟩
  case round =>
    obtain ⟨i, us, rfl, hgk, hi2, HJ⟩ := hrel
    have HN := hide (grps_bd l i hi2).1
    have HNg := hide (grps_bd l i hi2).2
    have Hgk := hide hgk
    clear hgk HJ0
    by_cases hlt : i < l.length
    · obtain ⟨d, hd⟩ : ∃ d, l[i]? = some d := ⟨_, List.getElem?_eq_getElem hlt⟩
      obtain ⟨g, hg⟩ : ∃ g, gA[i]? = some g := ⟨_, List.getElem?_eq_getElem (by rw [unhide Hal]; exact hlt)⟩
      obtain ⟨ah, rfl⟩ : ∃ ah, aa = some ⟨ah, 0, none⟩ := by
        rcases (unhide HJ).alo.2 with ⟨e, h2⟩ | ⟨q, c, cur, e, _⟩
        · omega
        · cases e; exact ⟨_, rfl⟩
      have x0 := (row_cell (unhide HJ).alo (k := i) (x := oneS g) (by rw [List.getElem?_map, hg]; rfl)).1
      unfold oneS at x0
      have HT := hide (grps_take hd)
      have Hd := hide hd
      have Hg := hide hg
      have i0' : (0 : Int) ≤ (i : Int) := Int.natCast_nonneg _
      have i1 : (i : Int) < (l.length : Int) := by omega
      have Hlt := hide hlt
      obtain ⟨gs, hgs⟩ : ∃ gs, grps (l.take i) = gs := ⟨_, rfl⟩
      rw [hgs] at HJ HT HN HNg
      clear hd hg hgs hlt
      rcases (unhide HJ).row.2 with ⟨hnil, hz⟩ | ⟨q, c, cur, hsl, -⟩
      · obtain rfl := hnil
        have HgF := hide (show grpC gs d = false by unfold grpC; rw [List.getElem?_eq_none (by omega)])
        clear hz
        have HRow := hide (unhide HJ).row
        go_wp2_with (at_builtin; refine wpList_append_own_at _ rfl _ _ 164 rfl w0.heap.size 43 i0 (.slice none 0 0) 1 24 Tryz.underlying164 hi hz0 hz1 hz2 rfl (by decide) _ _ _ rfl ((unhide HRow).alloc _) ⟨wr.heap.size, 0, none⟩ 1 1 [.slice (some ⟨g, 0, none⟩) 1 1] rfl rfl (cell_one_new _ _ _) (by simp [Value.oneCell']) (by have := unhide HN; have := unhide Hlt; have := unhide HL; unfold maxLen; omega) (by have := unhide HN; have := unhide Hlt; have := unhide HL; omega) (by rw [World.size_alloc]; have := (unhide HJ).siz; omega) ?_; intro v' w9 ho hg9 _ _; have HA9 := hide ((unhide HJ).app (unhide Hd) (unhide Hg) ho ((World.grownBy_alloc _ _ _).trans hg9)); clear ho hg9)
        have HJ9 := hide (show Jn lo w0.heap.size w0 w9 _ v' l gA (i + 1) (grps (l.take (i + 1))) _ by rw [unhide HT]; unfold grpS; rw [unhide HgF]; exact unhide HA9)
        clear HA9
        go_roundg (l.length - (i + 1))
        case measure => have := unhide Hgk; have := unhide Hlt; omega
        case rel => exact ⟨i + 1, _, by go_num, rfl, unhide Hlt, HJ9⟩
      · obtain rfl := hsl
        have hnb : gs.length ≤ 4096 := by have := unhide HN; have := unhide Hlt; omega
        by_cases hpos : 0 < gs.length
        · obtain ⟨m, hm⟩ : ∃ m, gs.length = m + 1 := ⟨gs.length - 1, by omega⟩
          obtain ⟨G, hG⟩ : ∃ G, gs[m]? = some G := ⟨_, List.getElem?_eq_getElem (by omega)⟩
          obtain ⟨u, hu⟩ : ∃ u, us[m]? = some u := ⟨_, List.getElem?_eq_getElem (by rw [(unhide HJ).len]; omega)⟩
          have hGp := (unhide HJ).ne G (List.mem_of_getElem? hG)
          obtain ⟨a, r, rfl⟩ : ∃ a r, G = a :: r := by
            cases G with
            | nil => simp at hGp
            | cons a r => exact ⟨a, r, rfl⟩
          have hgc : grpC gs d = joins a d := by unfold grpC; rw [show gs.length - 1 = m by omega, hG]
          have y0 := (row_cell (unhide HJ).row hu).1
          have HGl := hide (show (a :: r).length ≤ 4096 by have := unhide HNg _ (List.mem_of_getElem? hG); have := unhide Hlt; omega)
          have HC := hide (blocks_2 (d1 := a) (d := d) ((unhide HJ).grp m _ u hG hu) rfl (unhide HGl) ((unhide HJ).blk i d g (Nat.le_refl _) (unhide Hd) (unhide Hg)) (Nat.le_trans (unhide HJ).low (unhide HJ).siz))
          have e1 : (gs.length : Int) - 1 = (m : Int) := by omega
          have m0 : (0 : Int) ≤ (m : Int) := Int.natCast_nonneg _
          have m1 : (m : Int) < (gs.length : Int) := by omega
          have Hm := hide hm
          have HG := hide hG
          have Hu := hide hu
          have Hgc := hide hgc
          obtain ⟨ua, ul, uc, rfl⟩ : ∃ a l c, u = .slice a l c := by
            rcases ((unhide HJ).grp m _ u hG hu).2 with ⟨rfl, _⟩ | ⟨_, _, _, rfl, _⟩ <;> exact ⟨_, _, _, rfl⟩
          clear hm hG hu hGp hgc hpos
          go_wp2_with fail
          refine (unhide HC).mono ?_
          intro e w1 hq
          unfold JoQ at hq
          cases hj : joins a d with
          | true =>
            rw [hj, if_pos rfl] at hq
            obtain ⟨u', rfl, ho1, hg1, hat1⟩ := hq
            have hr1 := (unhide HJ).keepRow (unhide HG) (unhide Hu) hg1
            obtain ⟨z0, z1⟩ := row_cell hr1 (unhide Hu)
            have HJ2 := hide ((unhide HJ).join (m := m) (d := d) (unhide Hm).symm (unhide HG) (unhide Hu) ho1 hg1 hat1)
            have HgS := hide (show grpS gs d = gs.set m ((a :: r) ++ [d]) by
              unfold grpS
              rw [unhide Hgc, hj, if_pos rfl, show gs.length - 1 = m by have := unhide Hm; omega, List.getD_eq_getElem?_getD, unhide HG]
              rfl)
            obtain ⟨va', vl', vc', rfl⟩ : ∃ a l c, u' = .slice a l c := by
              rcases ho1.2 with ⟨rfl, _⟩ | ⟨_, _, _, rfl, _⟩ <;> exact ⟨_, _, _, rfl⟩
            clear ho1 hg1 hat1 hr1 HC hj
            go_wp2
            go_roundg (l.length - (i + 1))
            case measure => have := unhide Hgk; have := unhide Hlt; omega
            case rel => exact ⟨i + 1, _, by go_num, rfl, unhide Hlt, by rw [unhide HT, unhide HgS]; exact HJ2⟩
          | false =>
            rw [hj] at hq
            obtain ⟨rfl, hb1⟩ := hq
            have HJ1 := hide ((unhide HJ).up hb1)
            have HgF := hide (show grpC gs d = false from (unhide Hgc).trans hj)
            clear hb1 hj HC
            have HRow := hide (unhide HJ1).row
            go_wp2_with (at_builtin; refine wpList_append_own_at _ rfl _ _ 164 rfl w0.heap.size 43 i0 (.slice none 0 0) 1 24 Tryz.underlying164 hi hz0 hz1 hz2 rfl (by decide) _ _ _ rfl ((unhide HRow).alloc _) ⟨w1.heap.size, 0, none⟩ 1 1 [.slice (some ⟨g, 0, none⟩) 1 1] rfl rfl (cell_one_new _ _ _) (by simp [Value.oneCell']) (by have := unhide HN; have := unhide Hlt; have := unhide HL; unfold maxLen; omega) (by have := unhide HN; have := unhide Hlt; have := unhide HL; omega) (by rw [World.size_alloc]; have := (unhide HJ1).siz; omega) ?_; intro v' w9 ho hg9 _ _; have HA9 := hide ((unhide HJ1).app (unhide Hd) (unhide Hg) ho ((World.grownBy_alloc _ _ _).trans hg9)); clear ho hg9)
            have HJ9 := hide (show Jn lo w0.heap.size w0 w9 _ v' l gA (i + 1) (grps (l.take (i + 1))) _ by rw [unhide HT]; unfold grpS; rw [unhide HgF]; exact unhide HA9)
            clear HA9
            go_roundg (l.length - (i + 1))
            case measure => have := unhide Hgk; have := unhide Hlt; omega
            case rel => exact ⟨i + 1, _, by go_num, rfl, unhide Hlt, HJ9⟩
        · have HgF := hide (show grpC gs d = false by unfold grpC; rw [List.getElem?_eq_none (by omega)])
          have e1 : gs.length = 0 := by omega
          clear hpos
          have HRow := hide (unhide HJ).row
          go_wp2_with (at_builtin; refine wpList_append_own_at _ rfl _ _ 164 rfl w0.heap.size 43 i0 (.slice none 0 0) 1 24 Tryz.underlying164 hi hz0 hz1 hz2 rfl (by decide) _ _ _ rfl ((unhide HRow).alloc _) ⟨wr.heap.size, 0, none⟩ 1 1 [.slice (some ⟨g, 0, none⟩) 1 1] rfl rfl (cell_one_new _ _ _) (by simp [Value.oneCell']) (by have := unhide HN; have := unhide Hlt; have := unhide HL; unfold maxLen; omega) (by have := unhide HN; have := unhide Hlt; have := unhide HL; omega) (by rw [World.size_alloc]; have := (unhide HJ).siz; omega) ?_; intro v' w9 ho hg9 _ _; have HA9 := hide ((unhide HJ).app (unhide Hd) (unhide Hg) ho ((World.grownBy_alloc _ _ _).trans hg9)); clear ho hg9)
          have HJ9 := hide (show Jn lo w0.heap.size w0 w9 _ v' l gA (i + 1) (grps (l.take (i + 1))) _ by rw [unhide HT]; unfold grpS; rw [unhide HgF]; exact unhide HA9)
          clear HA9
          go_roundg (l.length - (i + 1))
          case measure => have := unhide Hgk; have := unhide Hlt; omega
          case rel => exact ⟨i + 1, _, by go_num, rfl, unhide Hlt, HJ9⟩
    · obtain rfl : i = l.length := by omega
      have hO := unhide HJ
      rw [List.take_length] at hO
      have HO2 := hide hO
      clear hO
      go_wp2
      go_ret
      exact ⟨_, us, rfl, unhide HO2⟩
end Go.Proofs.YtaadpiimcaabkaaGreatDoor

namespace Go.Proofs.YtaadpiimcaabkaaGreatDoor
open Go.RowKit
attribute [local go_sem ↓] Go.wp_at_zero Go.wp_at_succ

/-- Groups of fields in memory. -/
structure Gr (lo : Nat) (w : World) (v : Value) (gs : List (List Fd)) (us : List Value) : Prop where
  row : ∃ B, lo ≤ B ∧ w.ownsRow B 43 1 v gs.length us
  len : us.length = gs.length
  grp : ∀ (k : Nat) (G : List Fd) (u : Value), gs[k]? = some G → us[k]? = some u → w.ownsRow lo 42 6 u G.length (fldC G)
set_option maxRecDepth 100000 in
set_option maxHeartbeats 1000000 in
theorem blocks_any {W : World} {v : Value} {l : List Fd} (hv : Rl W v l.length (fldC l)) (hl : l.length ≤ 4096) (w0 : World) (hw : Below W.heap.size W w0) : Calls Tryz.prog 131 #[v] w0 fun e w => ∃ u us, e = .returned u ∧ Gr w0.heap.size w u (grps l) us ∧ Below w0.heap.size w0 w := by
  have HE := hide (eachF_any hv hl w0 hw)
  obtain ⟨a, c, rfl, -, -⟩ := hv
  have Hl := hide hl
  clear hw hl
  go_enter Tryz.func131, Tryz.ntmps131
  go_wp2_with fail
  refine (unhide HE).mono ?_
  rintro e w1 ⟨u1, gA, rfl, ha, hb1⟩
  have HJ := hide (joined_any ha hb1.size (unhide Hl))
  have HB := hide hb1
  obtain ⟨a1, l1, c1, rfl⟩ : ∃ a l c, u1 = .slice a l c := by
    rcases ha.row.2 with ⟨rfl, _⟩ | ⟨_, _, _, rfl, _⟩ <;> exact ⟨_, _, _, rfl⟩
  clear ha hb1 HE
  go_wp2_with fail
  refine (unhide HJ).mono ?_
  rintro e w2 ⟨u2, us, rfl, hj⟩
  have HG := hide (show Gr w0.heap.size w2 u2 (grps l) us from ⟨⟨_, (unhide HB).size, hj.row⟩, hj.len, hj.grp⟩)
  have HB2 := hide ((unhide HB).trans hj.bel)
  obtain ⟨a2, l2, c2, rfl⟩ : ∃ a l c, u2 = .slice a l c := by
    rcases hj.row.2 with ⟨rfl, _⟩ | ⟨_, _, _, rfl, _⟩ <;> exact ⟨_, _, _, rfl⟩
  clear hj HJ HB
  go_wp2
  go_ret
  exact ⟨_, us, rfl, unhide HG, unhide HB2⟩
end Go.Proofs.YtaadpiimcaabkaaGreatDoor
namespace Go.Proofs
open Go.Shelf
def Tryz.laysNJ156_ren : Go.Shelf.Ren := ⟨fun | 156 => 169 | 165 => 127 | 166 => 81 | 169 => 85 | 240 => 124 | 241 => 167 | 276 => 163 | 277 => 189 | n => n, fun | 31 => 22 | 9 => 9 | 3 => 3 | 4 => 4 | 0 => 0 | 20 => 20 | 72 => 125 | 76 => 128 | 70 => 123 | 37 => 58 | 75 => 127 | 127 => 162 | 164 => 184 | 5 => 5 | 80 => 87 | n => n, fun | n => n⟩
theorem Tryz.laysNJ156 : Go.Proofs.Lays.n156 Tryz.prog Tryz.laysNJ156_ren := {
  mixed := by kernel_rfl
  f156 := Tryz.func169.trans (congrArg some (by kernel_rfl))
  f165 := Tryz.func127.trans (congrArg some (by kernel_rfl))
  f166 := Tryz.func81.trans (congrArg some (by kernel_rfl))
  f169 := Tryz.func85.trans (congrArg some (by kernel_rfl))
  f240 := Tryz.func124.trans (congrArg some (by kernel_rfl))
  f241 := Tryz.func167.trans (congrArg some (by kernel_rfl))
  f276 := Tryz.func163.trans (congrArg some (by kernel_rfl))
  f277 := Tryz.func189.trans (congrArg some (by kernel_rfl))
  t0 := Tryz.underlying0
  a0 := Tryz.isAgg0
  z0 := Tryz.sizeOf0
  v0 := Tryz.zeroValue0
  t3 := Tryz.underlying3
  a3 := Tryz.isAgg3
  z3 := Tryz.sizeOf3
  v3 := Tryz.zeroValue3
  t4 := Tryz.underlying4
  a4 := Tryz.isAgg4
  z4 := Tryz.sizeOf4
  v4 := Tryz.zeroValue4
  t9 := Tryz.underlying9
  a9 := Tryz.isAgg9
  z9 := Tryz.sizeOf9
  v9 := Tryz.zeroValue9
  t20 := Tryz.underlying20
  a20 := Tryz.isAgg20
  z20 := Tryz.sizeOf20
  v20 := Tryz.zeroValue20
  t31 := Tryz.underlying22
  a31 := Tryz.isAgg22
  z31 := Tryz.sizeOf22
  v31 := Tryz.zeroValue22
  t37 := Tryz.underlying58
  a37 := Tryz.isAgg58
  z37 := Tryz.sizeOf58
  v37 := Tryz.zeroValue58
  t70 := Tryz.underlying123
  a70 := Tryz.isAgg123
  z70 := Tryz.sizeOf123
  v70 := Tryz.zeroValue123
  t72 := Tryz.underlying125
  a72 := Tryz.isAgg125
  z72 := Tryz.sizeOf125
  v72 := Tryz.zeroValue125
  t75 := Tryz.underlying127
  a75 := Tryz.isAgg127
  z75 := Tryz.sizeOf127
  v75 := Tryz.zeroValue127
  t76 := Tryz.underlying128
  a76 := Tryz.isAgg128
  z76 := Tryz.sizeOf128
  v76 := Tryz.zeroValue128
  t127 := Tryz.underlying162
  a127 := Tryz.isAgg162
  z127 := Tryz.sizeOf162
  v127 := Tryz.zeroValue162
  t164 := Tryz.underlying184
  a164 := Tryz.isAgg184
  z164 := Tryz.sizeOf184
  v164 := Tryz.zeroValue184 }
end Go.Proofs

namespace Go.Proofs.YtaadpiimcaabkaaGreatDoor
open Go.RowKit Go.Lib
attribute [local go_sem ↓] Go.wp_at_zero Go.wp_at_succ

set_option maxRecDepth 100000 in
set_option maxHeartbeats 2000000 in
theorem quote_any {W : World} (h : HasF W) (s : ByteArray) (hs : s.size ≤ 1048576) :
    Calls Tryz.prog 44 #[.string s] W fun e w => e = .returned (.string (ofN (34 :: qAll s 0 ++ [34]))) ∧ Below W.heap.size W w := by
  obtain ⟨i0, hi, hz0, hz1, hz2⟩ := info_parts Tryz.infoByte
  have hy0 : Bytes W.heap.size (W.alloc (.cells #[.int .u8 34] 5)) (.slice (some ⟨W.heap.size, 0, none⟩) 1 1) ([34] ++ []) := bytes_one W 34
  have Hy0 := hide hy0
  have HB0 : Hid (Below W.heap.size W (W.alloc (.cells #[.int .u8 34] 5))) := (Below.refl _ _).alloc (Nat.le_refl _) _
  clear hy0
  go_enter Tryz.func44, Tryz.ntmps44
  go_wp2
  go_loopg [3, 4, 5] s.size (fun gk v3 v4 _ wr => ∃ (k : Nat) (pre : List Nat) (va : Option Addr) (vn vc : Nat), v3 = .slice va vn vc ∧ v4 = .int .i64 (k : Int) ∧ gk = s.size - k ∧ k ≤ s.size ∧ pre.length ≤ 4 * k ∧ Hid (Bytes W.heap.size wr (.slice va vn vc) ([34] ++ pre)) ∧ Hid (Byt pre) ∧ Hid (qAll s 0 = pre ++ qAll s k) ∧ Hid (Below W.heap.size W wr))
  case atStart => exact ⟨0, [], _, _, _, rfl, rfl, rfl, by omega, by simp, Hy0, fun x hx => by simp at hx, rfl, HB0⟩
  case round =>
    obtain ⟨k, pre, va, vn, vc, rfl, rfl, hgk, hk, hpl, HY, Hbyt, Hq, HB⟩ := hrel
    have Hgk := hide hgk
    clear hgk Hy0 HB0
    by_cases hlt : k < s.size
    · have hz := extract_size s k s.size (Nat.le_refl _)
      have hst := qAll_step hlt
      have hql := @qs_len s k
      have hqb := qs_byt s k
      have hqn := qn_le hlt
      have hqp := qn_pos s k
      have hdr := plainK_drop hlt
      have hpn : pre.length + (qs s k).length ≤ 4 * (k + qn s k) := by omega
      have Hnext : Hid (qAll s 0 = (pre ++ qs s k) ++ qAll s (k + qn s k)) := by
        show qAll s 0 = (pre ++ qs s k) ++ qAll s (k + qn s k)
        rw [unhide Hq, hst, List.append_assoc]
      have Hbyt2 : Hid (Byt (pre ++ qs s k)) := (unhide Hbyt).append hqb
      have Hpn := hide hpn
      have Hqn := hide hqn
      have Hqp := hide hqp
      clear hst hql hqb hpn hqn hqp Hq
      go_wp2_with fail
      refine (plain_any (h.up (unhide HB)) (s.extract k s.size) (by omega) (by omega)).mono ?_
      rintro e w2 ⟨rfl, hb2⟩
      rw [hdr]
      have HB2 : Hid (Below W.heap.size W w2) := (unhide HB).trans (hb2.mono (unhide HB).size)
      have HY2 : Hid (Bytes W.heap.size w2 (.slice va vn vc) ([34] ++ pre)) := (unhide HY).up hb2
      have hsz2 : W.heap.size ≤ w2.heap.size := (unhide HB2).size
      have Hdr := hide hdr
      clear hdr hz HY HB hb2
      by_cases h0 : plainK s k = 0
      · obtain ⟨x, hx⟩ : ∃ x : Nat, s[k].toNat = x := ⟨_, rfl⟩
        have hbx : byteAt s k = x := (byteAt_eq s k hlt).trans hx
        have hx2 : x < 256 := by rw [← hbx]; exact byteAt_lt s k
        have hqs : qs s k = esc x := by unfold qs; rw [if_pos h0, hbx]
        have hqn1 : qn s k = 1 := by unfold qn; rw [if_pos h0]
        rw [h0]
        rw [hqs, hqn1] at Hnext Hpn
        rw [hqs] at Hbyt2
        have k0 : (0 : Int) ≤ (k : Int) := Int.natCast_nonneg _
        have k1 : (k : Int) < (s.size : Int) := by omega
        clear hbx hqs hqn1 h0 Hqn Hqp
        go_wp2_with fail
        refine (putEscape_any (unhide HY2) hsz2 (by simp; omega) x hx2).mono ?_
        rintro e w3 ⟨v', rfl, hby, hext⟩
        obtain ⟨va', vn', vc', rfl⟩ := hby.shape
        have HB3 : Hid (Below W.heap.size W w3) := (unhide HB2).trans (hext.below hsz2 (unhide HY2).base_le)
        have HY3 : Hid (Bytes W.heap.size w3 (.slice va' vn' vc') ([34] ++ (pre ++ esc x))) := by rw [← List.append_assoc]; exact hby
        clear hby hext
        go_wp2
        go_roundg (s.size - (k + 1))
        case measure => have := unhide Hgk; omega
        case rel => exact ⟨k + 1, pre ++ esc x, _, _, _, rfl, by go_num, rfl, by omega, by have := unhide Hpn; simp only [List.length_append]; omega, HY3, Hbyt2, Hnext, HB3⟩
      · obtain ⟨n, hn⟩ : ∃ n, n = plainK s k := ⟨_, rfl⟩
        have hqs : qs s k = sub s k n := by unfold qs; rw [if_neg h0, hn]
        have hqn1 : qn s k = n := by unfold qn; rw [if_neg h0, hn]
        have hle := plainK_le hlt
        rw [hqs, hqn1] at Hnext Hpn
        rw [hqs] at Hbyt2
        rw [← hn] at hle h0 ⊢
        obtain ⟨hle1, hle2⟩ := hle
        have e0 : ((n : Int) == 0) = false := by simp; omega
        have hsub := sub_extract s k n
        have hsl := sub_len hle1
        have hxz := extract_size s k (k + n) hle1
        have o1 : ([34] ++ pre).length + (s.extract k (k + n)).size ≤ maxLen := by rw [hxz]; unfold maxLen; simp; omega
        have o2 : ([34] ++ pre).length + (s.extract k (k + n)).size ≤ 140737488355328 := by rw [hxz]; simp; omega
        have k0 : (0 : Int) ≤ (k : Int) := Int.natCast_nonneg _
        have Hsub := hide hsub
        have Hsl := hide hsl
        have O1 := hide o1
        have O2 := hide o2
        clear hqs hqn1 Hqn Hqp hn hsub hsl o1 o2
        go_wp2_with (at_builtin; refine wpList_append_str_at rfl _ _ 58 9 rfl W.heap.size 5 i0 Tryz.underlying58 Tryz.underlying9 hi hz0 hz1 hz2 _ _ _ rfl (unhide HY2) (s.extract k (k + n)) rfl (unhide O1) (unhide O2) hsz2 ?_; intro v4 w4 hown4 hgrow4 hat4; have Hown := hide hown4; have Hgrow := hide hgrow4; have Hat := hide hat4; clear hown4 hgrow4 hat4)
        obtain ⟨v5, hv5, hby, hext⟩ := putE_str (ys := sub s k n) (unhide Hown) (by have := unhide Hsl; omega) ((strCells_nb _).trans (by rw [unhide Hsub])) (unhide Hgrow) (unhide Hat)
        obtain rfl : v4 = v5 := by simpa using hv5
        obtain ⟨va', vn', vc', rfl⟩ := hby.shape
        have HB3 : Hid (Below W.heap.size W w4) := (unhide HB2).trans (hext.below hsz2 (unhide HY2).base_le)
        have HY3 : Hid (Bytes W.heap.size w4 (.slice va' vn' vc') ([34] ++ (pre ++ sub s k n))) := by rw [← List.append_assoc]; exact hby
        clear hby hext Hown Hgrow Hat hv5
        go_roundg (s.size - (k + n))
        case measure => have := unhide Hgk; omega
        case rel => exact ⟨k + n, pre ++ sub s k n, _, _, _, rfl, by go_num, rfl, by omega, by have := unhide Hpn; simp only [List.length_append]; omega, HY3, Hbyt2, Hnext, HB3⟩
    · have hq := unhide Hq
      rw [qAll_end hlt, List.append_nil] at hq
      have Hq2 := hide hq
      obtain rfl : k = s.size := by omega
      have hsz2 : W.heap.size ≤ wr.heap.size := (unhide HB).size
      have o1 : ([34] ++ pre).length + 1 ≤ maxLen := by unfold maxLen; simp; omega
      have o2 : (([34] ++ pre).length + 1) * 1 ≤ 140737488355328 := by simp; omega
      have O1 := hide o1
      have O2 := hide o2
      have hcv : ∀ (w : World) (v : Value) (l : List Nat), HasB w v l → Byt l → (convert 58 9 v).run Tryz.prog w = .ok (.string (ofN l)) w := fun w v l q1 q2 => conv_any q1 q2
      have Hcv := hide hcv
      clear hq Hq o1 o2 hcv
      go_wp2_with (at_builtin; refine wpList_append_own_at _ rfl _ _ 58 rfl W.heap.size 5 i0 (.int .u8 0) 1 1 Tryz.underlying58 hi hz0 hz1 hz2 rfl (by decide) _ _ _ rfl ((unhide HY).alloc _) ⟨wr.heap.size, 0, none⟩ 1 1 [.int .u8 34] rfl rfl (cells_lit _ _ _) (by simp [Value.oneCell']) (unhide O1) (unhide O2) (by rw [World.size_alloc]; omega) ?_; intro v4 w4 hown4 hgrow4 _ hat4; obtain ⟨v5, hv5, hby, hext⟩ := putE_lit (ys := [34]) hown4 rfl rfl hgrow4 hat4; obtain rfl : v4 = v5 := (by simpa using hv5); have HB4 : Hid (Below W.heap.size W w4) := (unhide HB).trans (hext.below hsz2 (unhide HY).base_le); have hcv4 := unhide Hcv w4 v4 _ hby.has ((byt_34.append (unhide Hbyt)).append byt_34); clear hown4 hgrow4 hat4 hby hext hv5 Hcv)
      go_ret
      refine ⟨?_, unhide HB4⟩
      rw [unhide Hq2]
      rfl
end Go.Proofs.YtaadpiimcaabkaaGreatDoor
