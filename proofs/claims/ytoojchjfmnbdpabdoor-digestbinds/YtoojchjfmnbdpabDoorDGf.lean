import Derived.Test.YtoojchjfmnbdpabDoorDGJ
namespace Go.Proofs.YtoojchjfmnbdpabDoor
open Go.RowKit
attribute [local go_sem ↓] Go.wp_at_zero Go.wp_at_succ

def flipP (p : Nat × List Nat) : Nat × List Nat := (p.1, flip p.2)
theorem slP_flip (p : Nat × List Nat) : slP (flipP p) = slP p := by unfold slP flipP; simp only [flip_len]
/-- The first i and the last i have changed their places. -/
def Swapped (i : Nat) (ps qs : List (Nat × List Nat)) : Prop := qs.length = ps.length ∧ ∀ j < ps.length, qs[j]? = if j < i ∨ ps.length - i ≤ j then ps[ps.length - 1 - j]? else ps[j]?
theorem swapped_zero (ps : List (Nat × List Nat)) : Swapped 0 ps ps := ⟨rfl, fun j hj => by rw [if_neg (by omega)]⟩
theorem Swapped.step {i : Nat} {ps qs : List (Nat × List Nat)} {a b : Nat × List Nat} (h : Swapped i ps qs) (hi : i < ps.length / 2) (ha : qs[i]? = some a) (hb : qs[ps.length - 1 - i]? = some b) : Swapped (i + 1) ps ((qs.set i b).set (ps.length - 1 - i) a) := by
  obtain ⟨h1, h2⟩ := h
  refine ⟨by simp [h1], fun j hj => ?_⟩
  rw [List.getElem?_set, List.getElem?_set]
  have e1 := h2 i (by omega)
  have e2 := h2 (ps.length - 1 - i) (by omega)
  rw [if_neg (by omega)] at e1 e2
  simp only [List.length_set, h1]
  by_cases c1 : ps.length - 1 - i = j
  · rw [if_pos c1, if_pos (by omega), if_pos (by omega), ← ha, e1]
    congr 1
    omega
  · rw [if_neg c1]
    by_cases c2 : i = j
    · rw [if_pos c2, if_pos (by omega), if_pos (by omega), ← hb, e2, c2]
    · rw [if_neg c2, h2 j hj]
      by_cases c3 : j < i ∨ ps.length - i ≤ j
      · rw [if_pos c3, if_pos (by omega)]
      · rw [if_neg c3, if_neg (by omega)]
theorem Swapped.done {i : Nat} {ps qs : List (Nat × List Nat)} (h : Swapped i ps qs) (hi : i = ps.length / 2) : qs = ps.reverse := by
  obtain ⟨h1, h2⟩ := h
  apply List.ext_getElem?
  intro j
  by_cases hj : j < ps.length
  · rw [h2 j hj, List.getElem?_reverse hj]
    split
    · rfl
    · congr 1
      omega
  · rw [List.getElem?_eq_none (by omega), List.getElem?_eq_none (by rw [List.length_reverse]; omega)]
theorem RoomA.reverse {W w : World} {g : Nat} {ps : List (Nat × List Nat)} {t : List Value} (h : RoomA W g ps t) (hb : But g W w) (hr : w.heap[g]? = some (.cells (ps.reverse.map slP ++ t).toArray 28 (0, 0))) : RoomA w g ps.reverse t :=
  ⟨hr, fun p hp => (h.each p (List.mem_reverse.1 hp)).but hb (by have := h.off p (List.mem_reverse.1 hp); omega), by rw [List.map_reverse]; exact (List.reverse_perm _).symm.nodup h.nodup, fun p hp => h.off p (List.mem_reverse.1 hp)⟩
theorem RoomA.flip {W w : World} {g : Nat} {xs ys : List (Nat × List Nat)} {p : Nat × List Nat} {t : List Value} (h : RoomA W g (xs ++ p :: ys) t) (hb : But p.1 W w) (hr : Room w p.1 (flip p.2)) : RoomA w g (xs ++ flipP p :: ys) t := by
  have hpm : p ∈ xs ++ p :: ys := by simp
  have hnd := h.nodup
  rw [List.map_append, List.map_cons, List.nodup_append] at hnd
  obtain ⟨n1, n2, n3⟩ := hnd
  obtain ⟨n4, n5⟩ := List.nodup_cons.1 n2
  have hmap : (xs ++ flipP p :: ys).map Prod.fst = (xs ++ p :: ys).map Prod.fst := by simp [flipP]
  have hsl : (xs ++ flipP p :: ys).map slP = (xs ++ p :: ys).map slP := by simp [slP_flip]
  refine ⟨?_, fun q hq => ?_, by rw [hmap]; exact h.nodup, fun q hq => ?_⟩
  · rw [hsl]
    exact (hb.far g h.lt (by have := h.off p hpm; omega)).trans h.row
  · rcases List.mem_append.1 hq with hq | hq
    · refine (h.each q (List.mem_append_left _ hq)).but hb fun e => ?_
      exact n3 q.1 (List.mem_map_of_mem hq) p.1 (by simp) e
    · rcases List.mem_cons.1 hq with rfl | hq
      · exact hr
      · refine (h.each q (List.mem_append_right _ (List.mem_cons_of_mem _ hq))).but hb fun e => ?_
        exact n4 (by rw [← e]; exact List.mem_map_of_mem hq)
  · rcases List.mem_append.1 hq with hq | hq
    · exact h.off q (List.mem_append_left _ hq)
    · rcases List.mem_cons.1 hq with rfl | hq
      · exact h.off p hpm
      · exact h.off q (List.mem_append_right _ (List.mem_cons_of_mem _ hq))
theorem RoomA.but {W w : World} {g x : Nat} {ps : List (Nat × List Nat)} {t : List Value} (h : RoomA W g ps t) (hb : But x W w) (hg : g < x) (hp : ∀ p ∈ ps, p.1 < x) : RoomA w g ps t :=
  ⟨(hb.far g h.lt (by omega)).trans h.row, fun p hq => (h.each p hq).but hb (by have := hp p hq; omega), h.nodup, h.off⟩
theorem Bytes.slc {base : Nat} {W : World} {v : Value} {l : List Nat} (h : Bytes base W v l) : ∃ a c, v = .slice a l.length c := by
  obtain ⟨a, c, e, _⟩ := h.has
  exact ⟨a, c, e⟩
theorem row_cellV {W : World} {g i : Nat} {l : List Value} {t : TypeId} {fr : Nat × Nat} (h : W.heap[g]? = some (.cells l.toArray t fr)) {b : Value} (hb : l[i]? = some b) : W.cell? ⟨g, i, none⟩ = some b := by
  rw [cell_of_row _ _ _ _ _ _ h, List.getElem?_toArray, hb]
set_option maxRecDepth 100000 in
set_option maxHeartbeats 4000000 in
theorem flippedAll_far (F : Nat → Prop) {W : World} {base g : Nat} {ps : List (Nat × List Nat)} {t : List Value} (h : RoomA W g ps t) (hFg : ¬ F g) (hFp : ∀ p ∈ ps, ¬ F p.1) (hb : base ≤ g) (hl : ∀ p ∈ ps, Byt p.2 ∧ p.2.length ≤ 140737488351232) (hn : ps.length ≤ 5864062014634) :
    Calls Tryd.prog 30 #[.slice (some ⟨g, 0, none⟩) ps.length (ps.length + 2)] W fun e W' => ∃ v', e = .returned v' ∧ HasBB W' v' ((ps.reverse.map flipP).map Prod.snd) ∧ RoomA W' g (ps.reverse.map flipP) t ∧ Below base W W' ∧ ∀ b, b < W.heap.size → F b → W'.heap[b]? = W.heap[b]? := by
  obtain ⟨i0, hi, hz0, hz1, hz2⟩ := info_parts Tryd.infoBytes
  have H := hide h
  have Hl := hide hl
  have HFp := hide hFp
  have HFg := hide hFg
  clear hFp hFg
  have HR0 := hide h.row
  have hgW := h.lt
  clear h hl
  obtain ⟨H2, hH2⟩ : ∃ H2, H2 = ps.length / 2 := ⟨_, rfl⟩
  have eq1 : (ps.length : Int).tdiv 2 = (H2 : Int) := by rw [Int.tdiv_eq_ediv_of_nonneg (by omega)]; omega
  have eq2 : (ps.length : Int) / 2 = (H2 : Int) := by omega
  have hHn : H2 ≤ 2932031007317 := by omega
  have HH := hide hH2
  clear hH2
  go_enter Tryd.func30, Tryd.ntmps30
  go_wp2
  go_loopg [4] H2 (fun gk v4 wr => ∃ (i : Nat) (qs : List (Nat × List Nat)), v4 = .int .i64 (i : Int) ∧ gk = H2 - i ∧ i ≤ H2 ∧ Hid (Swapped i ps qs) ∧ Hid (wr.heap[g]? = some (.cells (qs.map slP ++ t).toArray 28 (0, 0))) ∧ Hid (But g W wr))
  case atStart => exact ⟨0, ps, rfl, rfl, by omega, swapped_zero ps, HR0, But.refl _ _⟩
  case round =>
    obtain ⟨i, qs, rfl, hgk, hk, HS, HR, HB⟩ := hrel
    have Hgk := hide hgk
    clear hgk HR0
    by_cases hlt : i < H2
    · have h2 := unhide HH
      have hql := (unhide HS).1
      obtain ⟨J, hJ⟩ : ∃ J, J = ps.length - 1 - i := ⟨_, rfl⟩
      obtain ⟨a, ha⟩ : ∃ x, qs[i]? = some x := ⟨_, List.getElem?_eq_getElem (by omega)⟩
      obtain ⟨b, hbb⟩ : ∃ x, qs[J]? = some x := ⟨_, List.getElem?_eq_getElem (by omega)⟩
      have hst := (unhide HS).step (by omega) ha (by rw [← hJ]; exact hbb)
      rw [← hJ] at hst
      have Hst := hide hst
      have ca : wr.cell? ⟨g, i, none⟩ = some (slP a) := row_cellV (unhide HR) (by rw [List.getElem?_append_left (by rw [List.length_map]; omega), List.getElem?_map, ha]; rfl)
      have cb : wr.cell? ⟨g, J, none⟩ = some (slP b) := row_cellV (unhide HR) (by rw [List.getElem?_append_left (by rw [List.length_map]; omega), List.getElem?_map, hbb]; rfl)
      have fa := row_frozen i (unhide HR)
      have r1 := set_rowV (i := i) (unhide HR) (slP b)
      have fb := row_frozen J r1
      have cb1 : (wr.setCell ⟨g, i, none⟩ (slP b)).cell? ⟨g, J, none⟩ = some (slP b) := row_cellV r1 (by rw [List.getElem?_set, if_neg (by omega), List.getElem?_append_left (by rw [List.length_map]; omega), List.getElem?_map, hbb]; rfl)
      have r2 := set_rowV (i := J) r1 (slP a)
      have hrow2 : ((qs.map slP ++ t).set i (slP b)).set J (slP a) = ((qs.set i b).set J a).map slP ++ t := by
        rw [List.set_append, if_pos (by rw [List.length_map]; omega), List.set_append, if_pos (by rw [List.length_set, List.length_map]; omega), List.map_set, List.map_set]
      rw [hrow2] at r2
      have Hr2 := hide r2
      have HB2 : Hid (But g W ((wr.setCell ⟨g, i, none⟩ (slP b)).setCell ⟨g, J, none⟩ (slP a))) := ((unhide HB).set _ _).set _ _
      have eJ : (ps.length : Int) - 1 - (i : Int) = (J : Int) := by omega
      have i0' : (0 : Int) ≤ (i : Int) := Int.natCast_nonneg _
      have i1' : (i : Int) < (ps.length : Int) := by omega
      have j0' : (0 : Int) ≤ (J : Int) := Int.natCast_nonneg _
      have j1' : (J : Int) < (ps.length : Int) := by omega
      have ii : (i : Int) < (H2 : Int) := by omega
      have hp1 : 1 ≤ ps.length := by omega
      clear hst ha hbb r1 r2 hrow2 hJ h2 hql
      obtain ⟨A, hA⟩ : ∃ A, slP a = A := ⟨_, rfl⟩
      obtain ⟨B, hBv⟩ : ∃ B, slP b = B := ⟨_, rfl⟩
      rw [hA] at ca Hr2 HB2
      rw [hBv] at cb fb cb1 HB2 Hr2
      have As : ∃ x y z, A = .slice x y z := ⟨_, _, _, hA.symm⟩
      have Bs : ∃ x y z, B = .slice x y z := ⟨_, _, _, hBv.symm⟩
      obtain ⟨ax, ay, az, rfl⟩ := As
      obtain ⟨bx, bY, bz, rfl⟩ := Bs
      clear hA hBv
      go_wp2
      go_roundg (H2 - (i + 1))
      case measure => have := unhide Hgk; omega
      case rel => exact ⟨i + 1, _, by go_num, rfl, by omega, Hst, Hr2, HB2⟩
    · obtain rfl : i = H2 := by omega
      have hrev := (unhide HS).done (unhide HH)
      have hR1 := unhide HR
      rw [hrev] at hR1
      have HA := hide ((unhide H).reverse (unhide HB) hR1)
      have HB1 : Hid (Below base W wr) := (unhide HB).below hb (by omega)
      have HBl : Hid (∀ p ∈ ps.reverse, Byt p.2 ∧ p.2.length ≤ 140737488351232 ∧ p.1 < wr.heap.size ∧ base ≤ p.1 ∧ ¬ F p.1) := fun p hp => by
        have hp' := List.mem_reverse.1 hp
        have := (unhide Hl p hp').2
        exact ⟨(unhide Hl p hp').1, this, ((unhide HA).each p hp).lt, by have := (unhide H).off p hp'; omega, unhide HFp p hp'⟩
      have HFF : Hid (∀ b, b < W.heap.size → F b → wr.heap[b]? = W.heap[b]?) := fun b h1 h2 => (unhide HB).far b h1 (fun e => unhide HFg (e ▸ h2))
      have hWS0 := (unhide HB).size
      have hrl : ps.reverse.length = ps.length := List.length_reverse
      obtain ⟨R, hR⟩ : ∃ R, ps.reverse = R := ⟨_, rfl⟩
      rw [hR] at HA HBl hrl
      have HRR := hide hR
      have HA0 : Hid (RoomA wr g ((R.take 0).map flipP ++ R.drop 0) t) := HA
      have HO0 : Hid (OwnBB wr.heap.size wr.heap.size wr (.slice none 0 0) [] ((R.take 0).map fun p => flip p.2)) := ownBB_nil _ _ _
      clear HS HR HB hrev hR1 H Hl HH Hgk hR HA
      obtain ⟨S, hS⟩ : ∃ S, S = wr.heap.size := ⟨_, rfl⟩
      rw [← hS] at HO0 HBl
      have hS1 : S ≤ wr.heap.size := by omega
      have hWS : W.heap.size ≤ S := by omega
      clear hWS0
      have hgS : g < S := by have := (unhide HA0).lt; omega
      clear hS
      go_wp2
      clear hk hlt eq1 eq2 hHn
      go_loopg [3, 6] ps.length (fun gk v3 v6 w => ∃ (i : Nat) (us : List Value), v6 = .int .i64 (i : Int) ∧ gk = ps.length - i ∧ i ≤ ps.length ∧ S ≤ w.heap.size ∧ Hid (RoomA w g ((R.take i).map flipP ++ R.drop i) t) ∧ Hid (OwnBB S S w v3 us ((R.take i).map fun p => flip p.2)) ∧ Hid (Below base W w) ∧ Hid (∀ b, b < W.heap.size → F b → w.heap[b]? = W.heap[b]?))
      case atStart => exact ⟨0, [], rfl, rfl, by omega, hS1, HA0, HO0, HB1, HFF⟩
      case round =>
        clear HA0 HO0 HB1 hS1 HFF
        obtain ⟨i, us, rfl, hgk, hk, hS1, HA, HO, HB, HFF⟩ := hrel
        have Hgk := hide hgk
        clear hgk
        by_cases hlt : i < ps.length
        · obtain ⟨p, hp⟩ : ∃ x, R[i]? = some x := ⟨_, List.getElem?_eq_getElem (by omega)⟩
          have hpm := List.mem_of_getElem? hp
          obtain ⟨g1, g2, g3, g4, g5⟩ := unhide HBl p hpm
          have G5 := hide g5
          clear g5
          have hdr : R.drop i = p :: R.drop (i + 1) := by
            have hlt' : i < R.length := by omega
            rw [List.drop_eq_getElem_cons hlt']
            rw [List.getElem?_eq_getElem hlt'] at hp
            rw [Option.some.inj hp]
          have hA := unhide HA
          rw [hdr] at hA
          have hmap : (R.take (i + 1)).map flipP ++ R.drop (i + 1) = (R.take i).map flipP ++ flipP p :: R.drop (i + 1) := by
            rw [List.take_add_one, hp]
            simp
          have hmap2 : ((R.take (i + 1)).map fun p => flip p.2) = ((R.take i).map fun p => flip p.2) ++ [flip p.2] := by
            rw [List.take_add_one, hp]
            simp
          have hcell := hA.cell (i := i) (p := p) (by rw [List.getElem?_append_right (by rw [List.length_map, List.length_take]; omega), List.length_map, List.length_take, show i - min i R.length = 0 by omega]; rfl)
          have hfl := flipped_but (hA.each p (by simp)) g1 (by omega)
          have Hfl := hide hfl
          have Hm1 := hide hmap
          have Hm2 := hide hmap2
          have HA1 := hide hA
          have hul := (unhide HO).len
          rw [List.length_map, List.length_take] at hul
          unfold slP at hcell
          have i0' : (0 : Int) ≤ (i : Int) := Int.natCast_nonneg _
          have i1' : (i : Int) < (ps.length : Int) := by omega
          have HF := hide (flip_len p.2)
          clear hp hpm hdr hA hmap hmap2 hfl HA
          go_wp2_with fail
          refine (unhide Hfl).mono ?_
          rintro o w7 ⟨v7, rfl, hB7, hR7, hb7⟩
          have HA7 := hide ((unhide HA1).flip hb7 hR7)
          have hO7 := (unhide HO).keep hb7.size (fun b h1 h2 => hb7.far b h2 (by omega)) (fun b hb => hb7.far b ((unhide HO).row.lt b hb).2 (by have := ((unhide HO).row.lt b hb).1; omega))
          have hli : Lies S w7 u3.ownBlock v7 := fun b hb => by
            obtain ⟨q1, q2⟩ := hB7.lt b hb
            refine ⟨by omega, q2, fun e => ?_⟩
            have := ((unhide HO).row.lt b e.symm).2
            omega
          have hH7 := hB7.has
          have HB7 : Hid (Below base W w7) := (unhide HB).trans (hb7.below (by omega) (by have := (unhide HB).size; omega))
          have hS7 : S ≤ w7.heap.size := by have := hb7.size; omega
          have HF7 : Hid (∀ b, b < W.heap.size → F b → w7.heap[b]? = W.heap[b]?) := fun b h1 h2 => (hb7.far b (by omega) (fun e => unhide G5 (e ▸ h2))).trans (unhide HFF b h1 h2)
          obtain ⟨va, vc, rfl⟩ := hB7.slc
          have HO7 := hide hO7
          have Hli := hide hli
          have HH7 := hide hH7
          have hll : ((R.take i).map fun p => flip p.2).length = i := by rw [List.length_map, List.length_take]; omega
          have O1 : Hid (((R.take i).map fun p => flip p.2).length + 1 ≤ maxLen) := by show _ ≤ _; rw [hll]; unfold maxLen; omega
          have O2 : Hid ((((R.take i).map fun p => flip p.2).length + 1) * 24 ≤ 140737488355328) := by show _ ≤ _; rw [hll]; omega
          clear hO7 hli hH7 hB7 hR7 hb7 Hfl hcell HO HB HA1 hll
          go_wp2_with (at_builtin; refine wpList_append_own_at _ rfl _ _ 27 rfl S 28 i0 (.slice none 0 0) 1 24 Tryd.underlying27 hi hz0 hz1 hz2 rfl (by decide) _ _ _ rfl ((unhide HO7).row.alloc _) ⟨w7.heap.size, 0, none⟩ 1 1 [.slice va (flip p.2).length vc] rfl rfl (cell_one_new _ _ _) (by simp [Value.oneCell']) (unhide O1) (unhide O2) (by rw [World.size_alloc]; omega) ?_; intro v8 w8 hown8 hgrow8 hdrop8 hat8; clear hdrop8; have HP := hide ((unhide HO7).push (unhide HH7) (unhide Hli) hown8 hgrow8 hat8); have Hg8 : Hid ((w7.alloc (.cells #[.slice va (flip p.2).length vc] 28)).grownBy w8 u3.ownBlock) := hgrow8; clear hown8 hgrow8 hat8)
          have HX8 : Hid (But (u3.ownBlock.getD S) w7 w8) := ⟨(unhide Hg8).os, (unhide Hg8).tape, (unhide Hg8).output, by have := (unhide Hg8).size; rw [World.size_alloc] at this; omega, fun b hb hn => ((unhide Hg8).block b (by rw [World.size_alloc]; omega) (fun e => by rw [← e] at hn; simp at hn)).trans (Below.heap_alloc w7 _ b hb)⟩
          have hSu : S ≤ u3.ownBlock.getD S := by
            cases e : u3.ownBlock with
            | none => simp
            | some b => have := ((unhide HO7).row.lt b e).1; simpa using this
          have HA8 : Hid (RoomA w8 g ((R.take (i + 1)).map flipP ++ R.drop (i + 1)) t) := by
            show RoomA _ _ _ _
            rw [unhide Hm1]
            refine (unhide HA7).but (unhide HX8) (by omega) fun q hq => ?_
            have hqS : q.1 < S := by
              rcases List.mem_append.1 hq with hq | hq
              · obtain ⟨r, hr, rfl⟩ := List.mem_map.1 hq
                exact (unhide HBl r (List.mem_of_mem_take hr)).2.2.1
              · rcases List.mem_cons.1 hq with rfl | hq
                · exact g3
                · exact (unhide HBl q (List.mem_of_mem_drop hq)).2.2.1
            omega
          go_roundg (ps.length - (i + 1))
          case measure => have := unhide Hgk; omega
          case rel =>
            refine ⟨i + 1, us ++ [.slice va (flip p.2).length vc], by go_num, rfl, by omega, ?_, HA8, ?_, ?_, ?_⟩
            · have := (unhide HX8).size; omega
            · show OwnBB _ _ _ _ _ _
              rw [unhide Hm2]
              exact unhide HP
            · exact (unhide HB7).trans ((unhide HX8).below (by omega) (by omega))
            · exact fun b h1 h2 => ((unhide HX8).far b (by omega) (by omega)).trans (unhide HF7 b h1 h2)
        · obtain rfl : i = ps.length := by omega
          have hA9 := unhide HA
          have hO9 := unhide HO
          rw [List.take_of_length_le (by omega)] at hA9 hO9
          rw [List.drop_eq_nil_of_le (by omega), List.append_nil] at hA9
          have HA9 := hide hA9
          have HO9 := hide hO9
          clear hA9 hO9 HA HO
          go_wp2
          go_ret
          rw [unhide HRR]
          refine ⟨_, rfl, ?_, unhide HA9, unhide HB, unhide HFF⟩
          rw [List.map_map]
          exact (unhide HO9).has
theorem flippedAll_any {W : World} {base g : Nat} {ps : List (Nat × List Nat)} {t : List Value} (h : RoomA W g ps t) (hb : base ≤ g) (hl : ∀ p ∈ ps, Byt p.2 ∧ p.2.length ≤ 140737488351232) (hn : ps.length ≤ 5864062014634) :
    Calls Tryd.prog 30 #[.slice (some ⟨g, 0, none⟩) ps.length (ps.length + 2)] W fun e W' => ∃ v', e = .returned v' ∧ HasBB W' v' ((ps.reverse.map flipP).map Prod.snd) ∧ RoomA W' g (ps.reverse.map flipP) t ∧ Below base W W' :=
  (flippedAll_far (fun _ => False) h (fun q => q) (fun _ _ q => q) hb hl hn).mono fun _ _ ⟨v', e, h1, h2, h3, _⟩ => ⟨v', e, h1, h2, h3⟩
end Go.Proofs.YtoojchjfmnbdpabDoor
