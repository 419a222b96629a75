import Derived.Test.YtlblllghgdfpoaaDoorJ15
import Derived.Test.YtlblllghgdfpoaaDoorDSi
import Derived.Test.YtlblllghgdfpoaaDoorJ01

namespace Go.Proofs.YtlblllghgdfpoaaDoor
open Go.RowKit
attribute [local go_sem ↓] Go.wp_at_zero Go.wp_at_succ

/-- The first state, as it is laid. -/
def HasS (W : World) : Prop := 0 < W.heap.size ∧ ∀ (i k : Nat), st0.list[i]? = some k → W.cell? ⟨0, i, none⟩ = some (.int .u32 (k : Int))
theorem HasS.up {W w : World} (h : HasS W) (hb : Below W.heap.size W w) : HasS w := ⟨Nat.lt_of_lt_of_le h.1 hb.size, fun i t hi => (hb.cell (p := ⟨0, i, none⟩) h.1).trans (h.2 i t hi)⟩

def Z59 : Array Value := (nw (List.replicate 8 0) ++ (nb (List.replicate 64 0) ++ [Value.int .i64 0])).toArray
theorem Z59_size : Z59.size = 73 := by rfl
theorem zero59 (w : World) : (zeroValue 86).run Tryd.prog w = .ok (.agg Z59) w := by
  have h : (Tryd.prog.info? 86).map (·.zero) = some (some (.agg Z59)) := by kernel_rfl
  obtain ⟨i, hi, hz⟩ := Option.map_eq_some_iff.1 h
  simp [zeroValue, typeInfo, hi, hz]
theorem Z59_st0 : ((((((((Z59.setIfInBounds 0 (.int .u32 1779033703)).setIfInBounds 1 (.int .u32 3144134277)).setIfInBounds 2 (.int .u32 1013904242)).setIfInBounds 3 (.int .u32 2773480762)).setIfInBounds 4 (.int .u32 1359893119)).setIfInBounds 5 (.int .u32 2600822924)).setIfInBounds 6 (.int .u32 528734635)).setIfInBounds 7 (.int .u32 1541459225)) = (hashCells (stOf []) (List.replicate 64 0) 0).toArray := by rfl
set_option maxRecDepth 100000 in
set_option maxHeartbeats 1000000 in
theorem new_any {W : World} (hS : HasS W) : Calls Tryd.prog 49 #[] W fun e W' => e = .returned (.pointer (some ⟨W.heap.size, 0, none⟩)) ∧ HashAt W' W.heap.size [] ∧ Below W.heap.size W W' := by
  have c0 := hS.2 0 _ rfl
  have c1 := hS.2 1 _ rfl
  have c2 := hS.2 2 _ rfl
  have c3 := hS.2 3 _ rfl
  have c4 := hS.2 4 _ rfl
  have c5 := hS.2 5 _ rfl
  have c6 := hS.2 6 _ rfl
  have c7 := hS.2 7 _ rfl
  simp only [st0] at c0 c1 c2 c3 c4 c5 c6 c7
  have zv := zero59
  have hzs := Z59_size
  obtain ⟨Z, hZ⟩ : ∃ Z, Z = Z59 := ⟨_, rfl⟩
  have hst := Z59_st0
  rw [← hZ] at zv hzs hst
  have Hst := hide hst
  clear hZ hst
  go_enter Tryd.func49, Tryd.ntmps49
  go_wp2
  go_ret
  refine ⟨rfl, ⟨List.replicate 64 0, rfl, ?_, rfl, ?_⟩, (Below.refl _ _).alloc (Nat.le_refl _) _⟩
  · intro x hx
    rw [List.mem_replicate] at hx
    omega
  · rw [heap_new]
    exact congrArg (fun c => some (Obj.cells c 86 (0, 0))) (unhide Hst)
set_option maxRecDepth 100000 in
set_option maxHeartbeats 1000000 in
theorem fork_any {W : World} {h : Nat} {L : List Nat} (hH : HashAt W h L) : Calls Tryd.prog 61 #[.pointer (some ⟨h, 0, none⟩)] W fun e W' => e = .returned (.pointer (some ⟨W.heap.size, 0, none⟩)) ∧ HashAt W' W.heap.size L ∧ Below W.heap.size W W' := by
  obtain ⟨r, hr, hrb, hrt, hb⟩ := hH
  have hif : (Tryd.prog.info? 86).map (·.size) = some 73 := by kernel_rfl
  obtain ⟨C, hC⟩ : ∃ C, (hashCells (stOf L) r L.length).toArray = C := ⟨_, rfl⟩
  have hCs : C.size = 73 := by rw [← hC]; simp [hash_len _ _ _ hr]
  rw [hC] at hb
  have hifC : (Tryd.prog.info? 86).map (·.size) = some C.size := by rw [hCs]; exact hif
  have hC1 : C.all (·.oneCell') = true := by
    rw [← hC]
    refine all_oneCell_toArray fun v hv => ?_
    unfold hashCells at hv
    rcases List.mem_append.1 hv with q | q
    · obtain ⟨b, _, rfl⟩ := List.mem_map.1 q; rfl
    · rcases List.mem_append.1 q with q | q
      · exact nb_one r v q
      · rw [List.mem_singleton] at q; rw [q]; rfl
  have zv := zero59
  have hzs := Z59_size
  obtain ⟨Z, hZ⟩ : ∃ Z, Z = Z59 := ⟨_, rfl⟩
  rw [← hZ] at zv hzs
  obtain ⟨X, hX⟩ : ∃ X : World, X = W.alloc (.cells Z 86) := ⟨_, rfl⟩
  have hXn : X.heap[W.heap.size]? = some (.cells Z 86 (0, 0)) := by rw [hX]; exact heap_new _ _
  have hXb : Below W.heap.size W X := by rw [hX]; exact (Below.refl _ _).alloc (Nat.le_refl _) _
  have HX := hide hX
  have HC := hide hC
  clear hX hZ hC
  go_enter Tryd.func61, Tryd.ntmps61
  go_wp2_with (first
    | (refine wpList_load_row rfl 86 (.tmp 5) rfl h rfl 86 C (0, 0) _ hb Tryd.underlying86 rfl hifC ?_)
    | (rw [← unhide HX]; refine wpList_store_row rfl 86 (.tmp 3) (.tmp 6) rfl W.heap.size C rfl rfl 86 Z hXn hifC (by rw [hzs, hCs]) hC1 ?_))
  go_ret
  refine ⟨rfl, ⟨r, hr, hrb, hrt, ?_⟩, below_setRow hXb (Nat.le_refl _) _⟩
  rw [unhide HC]
  exact setRow_heap X _ _ _ _ _ hXn
end Go.Proofs.YtlblllghgdfpoaaDoor

namespace Go.Proofs.YtlblllghgdfpoaaDoor
open Go.RowKit
attribute [local go_sem ↓] Go.wp_at_zero Go.wp_at_succ

theorem HashAt.lt {W : World} {h : Nat} {L : List Nat} (hH : HashAt W h L) : h < W.heap.size := by
  obtain ⟨r, _, _, _, hb⟩ := hH
  exact (Array.getElem?_eq_some_iff.1 hb).1
theorem HashAt.same {A B : World} {h : Nat} {L : List Nat} (hH : HashAt A h L) (e : B.heap[h]? = A.heap[h]?) : HashAt B h L := by
  obtain ⟨r, h1, h2, h3, hb⟩ := hH
  exact ⟨r, h1, h2, h3, e.trans hb⟩
theorem HashAt.up {A B : World} {h : Nat} {L : List Nat} (hH : HashAt A h L) (hb : Below A.heap.size A B) : HashAt B h L := hH.same (hb.block h hH.lt)
theorem HashAt.count {W : World} {h : Nat} {L : List Nat} (hH : HashAt W h L) : W.cell? ⟨h, 72, none⟩ = some (.int .i64 ((L.length : Nat) : Int)) := by
  obtain ⟨r, hr, _, _, hblk⟩ := hH
  rw [cell_of_row _ _ _ _ _ _ hblk, List.getElem?_toArray]
  unfold hashCells
  rw [List.getElem?_append_right (by simp [St.list]), List.getElem?_append_right (by simp [St.list, hr])]
  simp [St.list, hr]
theorem HashAt.now {W : World} {h : Nat} {L : List Nat} (hH : HashAt W h L) : Arr W h (stOf L).list := by
  have hlt := hH.lt
  obtain ⟨r, hr, _, _, hblk⟩ := hH
  obtain ⟨g1, _, g3⟩ := hash_range W h _ _ _ hr hblk
  exact ⟨g1, g3, hlt⟩

theorem Bytes.base {b b' : Nat} {W : World} {v : Value} {l : List Nat} (h : Bytes b W v l) (hb : b' ≤ b) : Bytes b' W v l := by
  obtain ⟨h1, h2 | ⟨g, c, cur, e1, e2, e3⟩⟩ := h
  · exact ⟨h1, .inl h2⟩
  · exact ⟨h1, .inr ⟨g, c, cur, e1, Nat.le_trans hb e2, e3⟩⟩
set_option maxRecDepth 100000 in
set_option maxHeartbeats 2000000 in
theorem hsum_any {W : World} (hK : HasK W) {h : Nat} {L : List Nat} (hH : HashAt W h L) (hn : L.length ≤ 562949953421312) :
    Calls Tryd.prog 51 #[.pointer (some ⟨h, 0, none⟩)] W fun e W' => ∃ v', e = .returned v' ∧ Bytes W.heap.size W' v' (sha L) ∧ Below W.heap.size W W' := by
  go_enter Tryd.func51, Tryd.ntmps51
  go_wp2_with fail
  refine (fork_any hH).mono ?_
  rintro e w1 ⟨rfl, hF, hb1⟩
  have hF1 := hF.lt
  have hc := (hH.up hb1).count
  go_wp2_with fail
  refine (padding_any w1 L.length (by omega)).mono ?_
  rintro e w2 ⟨v2, rfl, hP, hb2⟩
  have hb02 : Below W.heap.size W w2 := hb1.trans (hb2.mono hb1.size)
  have hF2 := hF.up hb2
  have hpl : (padding L.length).length ≤ 72 := by rw [padding_len]; have := zeros_lt L.length; omega
  clear hc
  go_wp2_with fail
  refine (add_any (hK.up hb02) hF2 (by have := hK.1; omega) hP.has ?_ (padding_byt _) (by omega)).mono ?_
  · intro g off n c hv _
    have := (World.ownsRow.lt hP g (by rw [hv]; rfl)).1
    omega
  rintro e w3 ⟨rfl, hF3, hO3⟩
  have hb03 : Below W.heap.size W w3 := hb02.trans (hO3.below (by have := hb02.size; omega) (Nat.le_refl _))
  obtain ⟨sm, hsm⟩ : ∃ sm, stOf (L ++ padding L.length) = sm := ⟨_, rfl⟩
  have hok : sm.Ok := by rw [← hsm]; exact stOf_ok _
  have hsh : sha L = sm.bytes := by unfold sha; rw [hsm]
  have hnow := hF3.now
  rw [hsm] at hnow
  have Hsh := hide hsh
  have hs3 := hb03.size
  clear hsm hsh hF3 hF2 hF hO3 hP
  obtain ⟨sa, sb, sc, sd, se, sf, sg, sh⟩ := sm
  obtain ⟨⟨c0, c1, c2, c3, c4, c5, c6, c7⟩, _⟩ := eight hnow
  go_wp2_with fail
  refine (bytesOf_any w3 ⟨sa, sb, sc, sd, se, sf, sg, sh⟩ hok).mono ?_
  rintro e w4 ⟨v4, rfl, hB4, hb4⟩
  go_wp2
  go_ret
  refine ⟨_, rfl, ?_, hb03.trans (hb4.mono hs3)⟩
  rw [unhide Hsh]
  exact hB4.base hs3
end Go.Proofs.YtlblllghgdfpoaaDoor

namespace Go.Proofs.YtlblllghgdfpoaaDoor
open Go.RowKit
attribute [local go_sem ↓] Go.wp_at_zero Go.wp_at_succ

theorem HasB.apart {W : World} {v : Value} {l : List Nat} (h : HasB W v l) {k : Nat} (hk : W.heap.size ≤ k) : ∀ g off n c, v = .slice (some ⟨g, off, none⟩) n c → 0 < l.length → g ≠ k := by
  intro g off n c hv hp
  obtain ⟨a, c', rfl, _, h3⟩ := h
  obtain ⟨g', off', rfl, h4, _⟩ := h3 hp
  injection hv with e1 _ _
  injection e1 with e1
  injection e1 with e1 _ _
  omega
set_option maxRecDepth 100000 in
set_option maxHeartbeats 1000000 in
theorem sumOf_any {W : World} (hK : HasK W) (hS : HasS W) {v : Value} {ls : List (List Nat)} (h : HasBB W v ls) (hb : ∀ l ∈ ls, Byt l) (hn : ls.flatten.length ≤ 140737488355328) :
    Calls Tryd.prog 30 #[v] W fun e W' => ∃ v', e = .returned v' ∧ Bytes W.heap.size W' v' (sha ls.flatten) ∧ Below W.heap.size W W' := by
  obtain ⟨a, c, rfl, hm, h3⟩ := id h
  have H3 := hide h3
  have Hb := hide hb
  have hm1 := hm.1
  have hm2 := hm.2.1
  unfold maxLen at hm2
  have hlen : ls.length ≤ 9223372036854775807 := by omega
  clear hm h3 h hb
  go_enter Tryd.func30, Tryd.ntmps30
  go_wp2_with fail
  refine (new_any hS).mono ?_
  rintro e w1 ⟨rfl, hH, hb1⟩
  have HH := hide hH
  have Hb1 := hide hb1
  clear hH hb1
  go_wp2
  go_loopg [5, 9] ls.length (fun gk _ v9 wr => ∃ (k : Nat), v9 = .int .i64 (k : Int) ∧ gk = ls.length - k ∧ k ≤ ls.length ∧ Hid (HashAt wr W.heap.size (ls.take k).flatten) ∧ Hid (Below W.heap.size W wr))
  case atStart => exact ⟨0, rfl, rfl, by omega, by simpa using HH, Hb1⟩
  case round =>
    obtain ⟨k, rfl, hgk, hk, HHk, HB⟩ := hrel
    have Hgk := hide hgk
    clear hgk HH Hb1
    by_cases hlt : k < ls.length
    · obtain ⟨g, off, rfl, hg, hc⟩ := unhide H3 (by omega)
      obtain ⟨l, hl⟩ : ∃ l, ls[k]? = some l := ⟨_, List.getElem?_eq_getElem hlt⟩
      obtain ⟨u, hu, hB⟩ := hc k l hl
      have hcell : wr.cell? ⟨g, off + k, none⟩ = some u := ((unhide HB).cell (p := ⟨g, off + k, none⟩) hg).trans hu
      have hus : ∃ ua un uc, u = .slice ua un uc := by obtain ⟨ua, uc, rfl, _⟩ := hB; exact ⟨_, _, _, rfl⟩
      obtain ⟨ua, un, uc, rfl⟩ := hus
      have hnext : (ls.take (k + 1)).flatten = (ls.take k).flatten ++ l := by rw [List.take_add_one, hl]; simp
      have htot : ls.flatten.length = (ls.take k).flatten.length + (l.length + (ls.drop (k + 1)).flatten.length) := by
        conv => lhs; rw [← List.take_append_drop (k + 1) ls, List.flatten_append, hnext]
        simp only [List.length_append]
        omega
      have hadd := add_any (W := wr) (hK.up (unhide HB)) (unhide HHk) (by have := hK.1; omega) (hB.up (unhide HB)) (hB.apart (Nat.le_refl _)) (unhide Hb l (List.mem_of_getElem? hl)) (by omega)
      have Hadd := hide hadd
      have Hnext := hide hnext
      clear hc hl hB hu hnext htot hadd
      have k0 : (0 : Int) ≤ (k : Int) := Int.natCast_nonneg _
      have k1 : (k : Int) < (ls.length : Int) := by omega
      go_wp2_with fail
      refine (unhide Hadd).mono ?_
      rintro e w2 ⟨rfl, hH2, hO2⟩
      have HH2 : Hid (HashAt w2 W.heap.size (ls.take (k + 1)).flatten) := by
        show HashAt _ _ _
        rw [unhide Hnext]
        exact hH2
      have HB2 : Hid (Below W.heap.size W w2) := (unhide HB).trans (hO2.below (unhide HB).size (Nat.le_refl _))
      clear hH2 hO2 Hadd Hnext hcell
      go_wp2
      go_roundg (ls.length - (k + 1))
      case measure => have := unhide Hgk; omega
      case rel => exact ⟨k + 1, by go_num, rfl, by omega, HH2, HB2⟩
    · obtain rfl : k = ls.length := by omega
      have hH9 := unhide HHk
      rw [List.take_length] at hH9
      have hsum := hsum_any (hK.up (unhide HB)) hH9 (by omega)
      have Hsum := hide hsum
      have hsz := (unhide HB).size
      clear hsum hH9
      go_wp2_with fail
      refine (unhide Hsum).mono ?_
      rintro e w2 ⟨v', rfl, hB2, hb2⟩
      have HB2 := hide hB2
      have HB3 : Hid (Below W.heap.size W w2) := (unhide HB).trans (hb2.mono hsz)
      clear hB2 hb2 Hsum
      go_wp2
      go_ret
      exact ⟨v', rfl, (unhide HB2).base hsz, unhide HB3⟩
set_option maxRecDepth 100000 in
set_option maxHeartbeats 1000000 in
theorem sum_any {W : World} (hK : HasK W) (hS : HasS W) {v : Value} {l : List Nat} (h : HasB W v l) (hb : Byt l) (hn : l.length ≤ 140737488355328) :
    Calls Tryd.prog 11 #[v] W fun e W' => ∃ v', e = .returned v' ∧ Bytes W.heap.size W' v' (sha l) ∧ Below W.heap.size W W' := by
  have hB0 : Below W.heap.size W (W.alloc (.cells #[v] 29)) := (Below.refl _ _).alloc (Nat.le_refl _) _
  have hs := sumOf_any (hK.up hB0) (hS.up hB0) (hasBB_one h 29) (fun x hx => by rw [List.mem_singleton.1 hx]; exact hb) (by simpa using hn)
  have Hs := hide hs
  have HB0 := hide hB0
  have hus : ∃ ua un uc, v = .slice ua un uc := by obtain ⟨ua, uc, rfl, _⟩ := h; exact ⟨_, _, _, rfl⟩
  obtain ⟨ua, un, uc, rfl⟩ := hus
  clear hs h hB0
  go_enter Tryd.func11, Tryd.ntmps11
  go_wp2_with fail
  refine (unhide Hs).mono ?_
  rintro e w2 ⟨v', rfl, hB2, hb2⟩
  rw [show [l].flatten = l by simp] at hB2
  have HB2 := hide (hB2.base (b' := W.heap.size) (by rw [World.size_alloc]; omega))
  have HB3 : Hid (Below W.heap.size W w2) := (unhide HB0).trans (hb2.mono (by rw [World.size_alloc]; omega))
  clear hB2 hb2 Hs
  go_wp2
  go_ret
  exact ⟨v', rfl, unhide HB2, unhide HB3⟩
end Go.Proofs.YtlblllghgdfpoaaDoor

namespace Go.Proofs.YtlblllghgdfpoaaDoor
open Go.RowKit
attribute [local go_sem ↓] Go.wp_at_zero Go.wp_at_succ

def hexd (n : Nat) : Nat := if n < 10 then n + 48 else n + 87
def hexL (l : List Nat) : List Nat := l.flatMap fun b => [hexd (b / 16), hexd (b % 16)]
theorem hexL_len (l : List Nat) : (hexL l).length = 2 * l.length := by
  induction l with
  | nil => rfl
  | cons b l ih => simp only [hexL, List.flatMap_cons, List.length_append, List.length_cons, List.length_nil] at *; omega
theorem hexL_append (a b : List Nat) : hexL (a ++ b) = hexL a ++ hexL b := by simp [hexL]
theorem hexd_lt {n : Nat} (h : n < 16) : hexd n < 256 := by unfold hexd; split <;> omega
theorem hexL_byt {l : List Nat} (h : Byt l) : Byt (hexL l) := by
  intro x hx
  obtain ⟨b, hb, hx⟩ := List.mem_flatMap.1 hx
  have := h b hb
  simp at hx
  rcases hx with rfl | rfl
  · exact hexd_lt (by omega)
  · exact hexd_lt (by omega)
def dg : ByteArray := ⟨#[48, 49, 50, 51, 52, 53, 54, 55, 56, 57, 97, 98, 99, 100, 101, 102]⟩

theorem step_append_fits {P : Program} {ops : Array Oper} {o : Oper} {a : Act} {w : World} {K : Act → World → Prop} {Q : Exit → Act → World → Prop} {E : Prop}
    (hg : o.guard = none) (s x : Operand) (t : TypeId) (hop : o.op = Op.call { callee := Callee.builtin Builtin.append, args := #[s, x], argTypes := #[t, t] })
    (base : Nat) (e : TypeId) (i : TypeInfo) (size : Nat) (h1 : P.underlying t = some (.slice e)) (h2 : P.info? e = some i) (h4 : i.size = size)
    (g k cap : Nat) (xs : List Value) (hs : a.eval s = .slice (some ⟨g, 0, none⟩) k cap) (hown : w.ownsRow base e size (.slice (some ⟨g, 0, none⟩) k cap) k xs) (ad : Addr) (m c : Nat) (news : List Value) (hx : a.eval x = .slice (some ad) m c) (hn : news.length = m * size)
    (hc : ∀ j u, news[j]? = some u → w.cell? (ad.add j) = some u) (h1c : ∀ u ∈ news, u.oneCell' = true) (b1 : k + m ≤ cap)
    (hK : ∀ w', w'.ownsRow base e size (.slice (some ⟨g, 0, none⟩) (k + m) cap) (k + m) (xs ++ news) → w.grownBy w' (some g) → K (a.put o.dst (.slice (some ⟨g, 0, none⟩) (k + m) cap)) w') :
    if Region.wanted o (yielded ops a.tmps) = true then Oper.wp P o a w K Q else E := by
  have hw : Region.wanted o (yielded ops a.tmps) = true := by simp [Region.wanted, hg]
  rw [if_pos hw]
  obtain ⟨w', hrun, r1, r2⟩ := run_append_fits (P := P) w base t o.type e i size h1 h2 h4 g k cap xs hown ad m c news hn hc h1c b1
  unfold Oper.wp
  simp [execOp, hop, resolve, invoke, builtin, hs, hx, hrun, Result.andThen]
  exact hK _ r1 r2

/-- A text's bytes. -/
def strN (s : ByteArray) : List Nat := s.data.toList.map UInt8.toNat
theorem strN_len (s : ByteArray) : (strN s).length = s.size := by simp [strN]
theorem strN_byt (s : ByteArray) : Byt (strN s) := by
  intro x hx
  obtain ⟨b, _, rfl⟩ := List.mem_map.1 hx
  exact b.toNat_lt
theorem strN_ofN {l : List Nat} (h : Byt l) : strN (ofN l) = l := by
  unfold strN ofN
  rw [List.map_map]
  conv => rhs; rw [← List.map_id l]
  exact List.map_congr_left fun x hx => u8_back (h x hx)
theorem ofN_strN (s : ByteArray) : ofN (strN s) = s := by
  unfold strN ofN
  rw [List.map_map]
  have : s.data.toList.map (UInt8.ofNat ∘ UInt8.toNat) = s.data.toList := by
    conv => rhs; rw [← List.map_id s.data.toList]
    exact List.map_congr_left fun x _ => by simp
  rw [this]
theorem str_at (w : World) (s : ByteArray) (k : IntKind) (n x : Nat) (h : (strN s)[n]? = some x) : (Instr.index 9 (.string s) (.int k (n : Int))).run Tryd.prog w = .ok (.int .u8 (x : Int)) w := by
  have hn : n < s.size := by rw [← strN_len]; exact (List.getElem?_eq_some_iff.1 h).1
  rw [run_index_string (P := Tryd.prog) (h := Tryd.underlying9), dif_pos (by omega)]
  congr 3
  unfold strN at h
  rw [List.getElem?_map] at h
  obtain ⟨b, hb, rfl⟩ := Option.map_eq_some_iff.1 h
  have hd : n < s.data.toList.length := by simpa using hn
  rw [List.getElem?_eq_getElem hd] at hb
  rw [← Option.some.inj hb]
  simp
  rfl
theorem dg_at (w : World) (n : Nat) (h : n < 16) (i : Int) (hi : i = (n : Int)) : (Instr.index 9 (.string ⟨#[48, 49, 50, 51, 52, 53, 54, 55, 56, 57, 97, 98, 99, 100, 101, 102]⟩) (.int .u8 i)).run Tryd.prog w = .ok (.int .u8 ((hexd n : Nat) : Int)) w := by
  subst hi
  have key : ∀ k : Fin 16, (strN ⟨#[48, 49, 50, 51, 52, 53, 54, 55, 56, 57, 97, 98, 99, 100, 101, 102]⟩)[k.val]? = some (hexd k.val) := by decide
  exact str_at w _ _ n _ (key ⟨n, h⟩)
end Go.Proofs.YtlblllghgdfpoaaDoor

namespace Go.Proofs.YtlblllghgdfpoaaDoor
open Go.RowKit
attribute [local go_sem ↓] Go.wp_at_zero Go.wp_at_succ

set_option maxRecDepth 100000 in
set_option maxHeartbeats 2000000 in
theorem xhex_any {W : World} {v : Value} {l : List Nat} (h : HasB W v l) (hl : Byt l) (hn : l.length ≤ 17592186044416) :
    Calls Tryd.prog 22 #[v] W fun e W' => e = .returned (.string (ofN (hexL l))) ∧ Below W.heap.size W W' := by
  obtain ⟨i0, hi, hz0, hz1, hz2⟩ := info_parts Tryd.infoByte
  obtain ⟨a, c, rfl, hm, h3⟩ := h
  have H3 := hide h3
  clear h3 hm
  go_enter Tryd.func22, Tryd.ntmps22
  go_wp2
  go_loopg [3, 4] l.length (fun gk v3 v4 wr => ∃ (i : Nat), v4 = .int .i64 (i : Int) ∧ gk = l.length - i ∧ i ≤ l.length ∧ wr.ownsRow W.heap.size 5 1 v3 (2 * i) (nb (hexL (l.take i))) ∧ Below W.heap.size W wr)
  case atStart => exact ⟨0, rfl, rfl, by omega, ⟨rfl, .inl ⟨rfl, rfl⟩⟩, Below.refl _ _⟩
  case round =>
    obtain ⟨i, rfl, hgk, hk, hY, hB⟩ := hrel
    have Hgk := hide hgk
    clear hgk
    by_cases hlt : i < l.length
    · obtain ⟨g, off, rfl, hg, hc⟩ := unhide H3 (by omega)
      obtain ⟨x, hx⟩ : ∃ x, l[i]? = some x := ⟨_, List.getElem?_eq_getElem hlt⟩
      have hxb := hl.at hx
      have c0 := (hB.cell (p := ⟨g, off + i, none⟩) hg).trans (hc i x hx)
      have Hx := hide hx
      have HY := hide hY
      have hlt' : (i : Int) < (l.length : Int) := by omega
      have hi0' : (0 : Int) ≤ (i : Int) := Int.natCast_nonneg _
      have q1 : (x : Int).tdiv 16 = ((x / 16 : Nat) : Int) := by rw [Int.tdiv_eq_ediv_of_nonneg (by omega)]; omega
      have q2 : (x : Int).tmod 16 = ((x % 16 : Nat) : Int) := by rw [Int.tmod_eq_emod_of_nonneg (by omega)]; omega
      have ix1 : ∀ w, (Instr.index 9 (.string ⟨#[48, 49, 50, 51, 52, 53, 54, 55, 56, 57, 97, 98, 99, 100, 101, 102]⟩) (.int .u8 ((x / 16 : Nat) : Int))).run Tryd.prog w = .ok (.int .u8 ((hexd (x / 16) : Nat) : Int)) w := fun w => dg_at w (x / 16) (by omega) _ rfl
      have ix2 : ∀ w, (Instr.index 9 (.string ⟨#[48, 49, 50, 51, 52, 53, 54, 55, 56, 57, 97, 98, 99, 100, 101, 102]⟩) (.int .u8 ((x % 16 : Nat) : Int))).run Tryd.prog w = .ok (.int .u8 ((hexd (x % 16) : Nat) : Int)) w := fun w => dg_at w (x % 16) (by omega) _ rfl
      have Hd : Hid (hexL (l.take (i + 1)) = hexL (l.take i) ++ [hexd (x / 16), hexd (x % 16)]) := by
        show hexL (l.take (i + 1)) = _
        rw [List.take_add_one, hx, hexL_append]
        rfl
      have hsz := hB.size
      generalize hexd (x / 16) = d1 at *
      generalize hexd (x % 16) = d2 at *
      obtain ⟨x1, hx1⟩ : ∃ y, y = x / 16 := ⟨_, rfl⟩
      obtain ⟨x2, hx2⟩ : ∃ y, y = x % 16 := ⟨_, rfl⟩
      rw [← hx1] at ix1 q1
      rw [← hx2] at ix2 q2
      have w1 : IntKind.u8.wrap (x1 : Int) = (x1 : Int) := by rw [IntKind.wrap_u8]; omega
      have w2 : IntKind.u8.wrap (x2 : Int) = (x2 : Int) := by rw [IntKind.wrap_u8]; omega
      have b1 : x1 < 16 := by omega
      have b2 : x2 < 16 := by omega
      clear hc hx hY hx1 hx2
      go_wp2
      go_region_law (refine step_append_lies _ rfl (.tmp 11) (.tmp 24) 29 rfl W.heap.size 5 i0 (.int .u8 0) 1 1 Tryd.underlying29 hi hz0 hz1 hz2 rfl (by decide) u3 (2 * i) (nb (hexL (l.take i))) (by simp [Act.eval]) ((show (World.drewN wr _).ownsRow _ _ _ _ _ _ from unhide HY).alloc _) ⟨wr.heap.size, 0, none⟩ 2 2 [.int .u8 (d1 : Int), .int .u8 (d2 : Int)] (by simp [Act.eval]) (by rfl) (World.news_of_block (cs := #[.int .u8 (d1 : Int), .int .u8 (d2 : Int)]) (heap_new _ _)) (by simp [Value.oneCell']) (by decide) (by unfold maxLen; omega) (by omega) (by simp; omega) (wr.heap.size + 1) (by simp) ?_; intro g3 cap w3 hown3 hgrow hat3 hlt3)
      all_goals go_wp2
      all_goals go_roundg (l.length - (i + 1))
      all_goals first
        | (have := unhide Hgk; omega)
        | (refine ⟨i + 1, by go_num, rfl, by omega, ?_, below_grow hB hsz hgrow (fun b hb => ((unhide HY).lt b hb).1)⟩
           rw [unhide Hd, nb_append]
           exact hown3)
    · have hi' : l.length = i := by omega
      subst hi'
      rw [List.take_length] at hY
      have hlen : (hexL l).length = 2 * l.length := hexL_len l
      have hb : Bytes W.heap.size wr u3 (hexL l) := by unfold Bytes; rw [hlen]; exact hY
      have cv := conv_any hb.has (hexL_byt hl)
      clear hb hY hlen
      go_wp2
      go_ret
      exact ⟨rfl, hB⟩
end Go.Proofs.YtlblllghgdfpoaaDoor

namespace Go.Proofs.YtlblllghgdfpoaaDoor
open Go.RowKit
attribute [local go_sem ↓] Go.wp_at_zero Go.wp_at_succ

def abcL : List Nat := [97, 98, 99]
theorem abc_byt : Byt abcL := by unfold Byt abcL; decide
def abcw (w : World) : World := w.alloc (.cells #[.int .u8 97, .int .u8 98, .int .u8 99] 5 (3, 4))
theorem abc_conv (w : World) : (convert 29 29 (.slice (some ⟨w.heap.size, 0, none⟩) 3 3)).run Tryd.prog (w.alloc (.cells #[.int .u8 97, .int .u8 98, .int .u8 99] 5)) = .ok (.slice (some ⟨w.heap.size, 0, none⟩) 3 3) (abcw w) :=
  Lib.run_convert_bytes_const w _ _ _ 3 3 Tryd.underlying29 Tryd.underlying5
theorem abc_has (w : World) : HasB (abcw w) (.slice (some ⟨w.heap.size, 0, none⟩) 3 3) abcL := hasB_lit (l := abcL) (heap_new _ _) 3 3 rfl (by decide)
theorem abc_below (w : World) : Below w.heap.size w (abcw w) := (Below.refl _ _).alloc (Nat.le_refl _) _
def abcH : List Nat := [98, 97, 55, 56, 49, 54, 98, 102, 56, 102, 48, 49, 99, 102, 101, 97, 52, 49, 52, 49, 52, 48, 100, 101, 53, 100, 97, 101, 50, 50, 50, 51, 98, 48, 48, 51, 54, 49, 97, 51, 57, 54, 49, 55, 55, 97, 57, 99, 98, 52, 49, 48, 102, 102, 54, 49, 102, 50, 48, 48, 49, 53, 97, 100]
theorem abc_sha : hexL (sha abcL) = abcH := by
  rw [shaF_eq]
  decide +kernel
theorem sha_byt (l : List Nat) : Byt (sha l) := bytes_byt _
theorem sha_len (l : List Nat) : (sha l).length = 32 := bytes_len _
set_option maxRecDepth 100000 in
set_option maxHeartbeats 1000000 in
theorem head_any {W : World} (hK : HasK W) (hS : HasS W) : Calls Tryd.prog 4 #[] W fun e W' => e = .returned (.bool true) ∧ Below W.heap.size W W' := by
  have cv := abc_conv W
  have hb0 := abc_below W
  have hsum := sum_any (hK.up hb0) (hS.up hb0) (abc_has W) abc_byt (by decide)
  have Hsum := hide hsum
  have Hb0 := hide hb0
  obtain ⟨W1, hW1⟩ : ∃ W1, W1 = abcw W := ⟨_, rfl⟩
  rw [← hW1] at cv Hsum Hb0
  clear hW1 hsum hb0
  go_enter Tryd.func4, Tryd.ntmps4
  go_wp2_with fail
  refine (unhide Hsum).mono ?_
  rintro e w2 ⟨v2, rfl, hB2, hb2⟩
  have HB2 := hide hB2
  have Hb2 : Hid (Below W.heap.size W w2) := (unhide Hb0).trans (hb2.mono (unhide Hb0).size)
  obtain ⟨va, vn, vc, rfl⟩ : ∃ a n c, v2 = .slice a n c := by obtain ⟨a, c, rfl, _⟩ := hB2.has; exact ⟨_, _, _, rfl⟩
  clear hB2 hb2 cv Hsum
  go_wp2_with fail
  refine (xhex_any (unhide HB2).has (sha_byt _) (by rw [sha_len]; decide)).mono ?_
  rintro e w3 ⟨rfl, hb3⟩
  rw [abc_sha]
  have Hb3 : Hid (Below W.heap.size W w3) := (unhide Hb2).trans (hb3.mono (unhide Hb2).size)
  have hof : ofN abcH = ⟨#[98, 97, 55, 56, 49, 54, 98, 102, 56, 102, 48, 49, 99, 102, 101, 97, 52, 49, 52, 49, 52, 48, 100, 101, 53, 100, 97, 101, 50, 50, 50, 51, 98, 48, 48, 51, 54, 49, 97, 51, 57, 54, 49, 55, 55, 97, 57, 99, 98, 52, 49, 48, 102, 102, 54, 49, 102, 50, 48, 48, 49, 53, 97, 100]⟩ := rfl
  rw [hof]
  clear hb3 hof
  go_wp2
  go_ret
  exact ⟨by simp, unhide Hb3⟩
end Go.Proofs.YtlblllghgdfpoaaDoor
