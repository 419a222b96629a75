import Derived.Test.YtkkbccdjbgjjaaaDoorSKK
import Derived.Test.YtkkbccdjbgjjaaaDoorSkN

namespace Go.Proofs.YtkkbccdjbgjjaaaDoor
open Go.RowKit
attribute [local go_sem ↓] Go.wp_at_zero Go.wp_at_succ

set_option maxRecDepth 100000 in
set_option maxHeartbeats 4000000 in
theorem in1_any {W : World} {p0 p4 p5 : Value} {us : List Value} {g3 c3 k n : Nat} {v : Value} (hk : k < us.length) (hul : us.length ≤ 10485760) (h3 : W.cell? ⟨g3, k, none⟩ = some v) (hn : n ≤ 16480) (hM : MkL W (mkT (k / 5)) v n) {tm : Array Value} (hsz : tm.size = 160) (hchk : chk tm [(0, p0), (3, .slice (some ⟨g3, 0, none⟩) us.length c3), (4, p4), (5, p5), (11, .int .i64 (k : Int))]) {Q : Exit → Act → World → Prop}
    (hQ : ∀ W', Below W.heap.size W W' → ∀ tm : Array Value, tm.size = 160 → chk tm [(0, p0), (3, .slice (some ⟨g3, 0, none⟩) us.length c3), (4, p4), (5, p5), (11, .int .i64 (k : Int))] → Q .normal { tmps := tm, defers := [] } W') :
    (ckOne skCheck1).wp Tryd.prog Q { tmps := tm, defers := [] } W := by
  have HQ := hide hQ
  obtain ⟨x, rfl⟩ := frame160 hsz
  obtain ⟨e0, e3, e4, e5, e11, _⟩ := hchk
  replace e0 : x 0 = p0 := Option.some.inj e0
  replace e3 : x 3 = .slice (some ⟨g3, 0, none⟩) us.length c3 := Option.some.inj e3
  replace e4 : x 4 = p4 := Option.some.inj e4
  replace e5 : x 5 = p5 := Option.some.inj e5
  replace e11 : x 11 = .int .i64 (k : Int) := Option.some.inj e11
  rw [e0, e3, e4, e5, e11]
  clear e0 e3 e4 e5 e11
  obtain ⟨q, hq⟩ : ∃ q, k / 5 = q := ⟨_, rfl⟩
  have hqk : (k : Int) / 5 = (q : Int) := by omega
  have hq1 : q ≤ 1099511627776 := by omega
  rw [hq] at hM
  have HM := hide hM
  obtain ⟨a, c, rfl, _⟩ := id hM
  have H3 := hide h3
  have hlt3 : g3 < W.heap.size := lt_of_cell h3
  have hk0 : (0 : Int) ≤ (k : Int) := Int.natCast_nonneg _
  have hk1 : (k : Int) < (us.length : Int) := by omega
  have Hqk := hide hqk
  clear hQ hM h3 hq hqk
  rw [skIn1_split]
  obtain ⟨t, ht⟩ : ∃ t, ckReg skCheck1 = t := ⟨_, rfl⟩
  rw [ht]
  unfold ckInWith ckOne skCheck1 skRound skLoop
  dsimp only [Tryd.f3]
  go_wp2
  refine wp_loop_count (CntJ W n (fun i => [(0, p0), (3, .slice (some ⟨g3, 0, none⟩) us.length c3), (4, p4), (5, p5), (11, .int .i64 (k : Int)), (12, .int .i64 (i : Int))])) ?_ n _ _ ⟨_, 0, rfl, rfl, ⟨rfl, rfl, rfl, rfl, rfl, rfl, trivial⟩, rfl, Nat.zero_le _, Below.refl _ _⟩
  rintro m _ wr ⟨tm, i, rfl, hsz, hchk, hm, hi, hB⟩
  obtain ⟨u, rfl⟩ := frame160 hsz
  obtain ⟨e0, e3, e4, e5, e11, e12, _⟩ := hchk
  replace e0 : u 0 = p0 := Option.some.inj e0
  replace e3 : u 3 = .slice (some ⟨g3, 0, none⟩) us.length c3 := Option.some.inj e3
  replace e4 : u 4 = p4 := Option.some.inj e4
  replace e5 : u 5 = p5 := Option.some.inj e5
  replace e11 : u 11 = .int .i64 (k : Int) := Option.some.inj e11
  replace e12 : u 12 = .int .i64 (i : Int) := Option.some.inj e12
  rw [e0, e3, e4, e5, e11, e12]
  have Hm := hide hm
  have HB := hide hB
  have b3 := (hB.cell (p := ⟨g3, k, none⟩) hlt3).trans (unhide H3)
  clear hm hB e0 e3 e4 e5 e11 e12
  by_cases hlt : i < n
  · obtain ⟨b, c', e, x1, x2, x3⟩ := (unhide HM).cell hlt
    simp only [Value.slice.injEq] at e
    obtain ⟨rfl, _, rfl⟩ := e
    have HS : Hid (∀ w' : World, Below W.heap.size W w' → (w'.cell? ⟨g3, k, none⟩ = some (.slice (some ⟨b, 0, none⟩) n c) ∧ w'.cell? ⟨b, i * 3, none⟩ = some (.int .i64 (mkT q).kind) ∧ w'.cell? ⟨b, i * 3 + 1, none⟩ = some (.int .i64 (mkT q).spot) ∧ w'.cell? ⟨b, i * 3 + 2, none⟩ = some (.string (mkT q).text))) := fun w' hb =>
      ⟨(hb.cell (p := ⟨g3, k, none⟩) hlt3).trans (unhide H3), (hb.cell (p := ⟨b, i * 3, none⟩) (lt_of_cell x1)).trans x1, (hb.cell (p := ⟨b, i * 3 + 1, none⟩) (lt_of_cell x2)).trans x2, (hb.cell (p := ⟨b, i * 3 + 2, none⟩) (lt_of_cell x3)).trans x3⟩
    have hd : decide ((i : Int) < (n : Int)) = true := by simp; omega
    clear x1 x2 x3
    go_wp2
    rw [← ht]
    refine reg1_any hk hlt (unhide Hqk) hq1 (unhide HB) (unhide HS) rfl ⟨rfl, rfl, rfl, rfl, rfl, rfl, trivial⟩ ?_
    intro w2 hb2 tm hsz hchk
    obtain ⟨z, rfl⟩ := frame160 hsz
    obtain ⟨e0, e3, e4, e5, e11, e12, e78, _⟩ := hchk
    replace e0 : z 0 = p0 := Option.some.inj e0
    replace e3 : z 3 = .slice (some ⟨g3, 0, none⟩) us.length c3 := Option.some.inj e3
    replace e4 : z 4 = p4 := Option.some.inj e4
    replace e5 : z 5 = p5 := Option.some.inj e5
    replace e11 : z 11 = .int .i64 (k : Int) := Option.some.inj e11
    replace e12 : z 12 = .int .i64 (i : Int) := Option.some.inj e12
    replace e78 : z 78 = .bool false := Option.some.inj e78
    rw [e0, e3, e4, e5, e11, e12, e78]
    have Hb2 := hide hb2
    clear hb2 e0 e3 e4 e5 e11 e12 e78
    go_wp2
    exact ⟨n - (i + 1), by have := unhide Hm; omega, _, i + 1, rfl, rfl, ⟨rfl, rfl, rfl, rfl, rfl, rfl, trivial⟩, rfl, by omega, unhide Hb2⟩
  · obtain rfl : i = n := by omega
    have hd : decide ((i : Int) < (i : Int)) = false := by simp
    go_wp2
    exact unhide HQ _ (unhide HB) _ rfl ⟨rfl, rfl, rfl, rfl, rfl, trivial⟩
set_option maxRecDepth 100000 in
set_option maxHeartbeats 4000000 in
theorem check1_any {W : World} {p0 p4 p5 : Value} {B : Nat} {us : List Value} {g3 c3 : Nat} (hS : St B W (.slice (some ⟨g3, 0, none⟩) us.length c3) us) (hul : us.length ≤ 10485760) {tm : Array Value} (hsz : tm.size = 160) (hchk : chk tm [(0, p0), (3, .slice (some ⟨g3, 0, none⟩) us.length c3), (4, p4), (5, p5)]) {Q : Exit → Act → World → Prop}
    (hQ : ∀ W', Below W.heap.size W W' → ∀ tm : Array Value, tm.size = 160 → chk tm [(0, p0), (3, .slice (some ⟨g3, 0, none⟩) us.length c3), (4, p4), (5, p5)] → Q .normal { tmps := tm, defers := [] } W') :
    skCheck1.wp Tryd.prog Q { tmps := tm, defers := [] } W := by
  have HQ := hide hQ
  obtain ⟨x, rfl⟩ := frame160 hsz
  obtain ⟨e0, e3, e4, e5, _⟩ := hchk
  replace e0 : x 0 = p0 := Option.some.inj e0
  replace e3 : x 3 = .slice (some ⟨g3, 0, none⟩) us.length c3 := Option.some.inj e3
  replace e4 : x 4 = p4 := Option.some.inj e4
  replace e5 : x 5 = p5 := Option.some.inj e5
  rw [e0, e3, e4, e5]
  clear e0 e3 e4 e5
  have HS := hide hS
  clear hQ hS
  rw [skCheck1_split]
  obtain ⟨t, ht⟩ : ∃ t, ckOne skCheck1 = t := ⟨_, rfl⟩
  rw [ht]
  unfold ckWith skCheck1 skRound skLoop
  dsimp only [Tryd.f3]
  go_wp2
  refine wp_loop_count (CntJ W us.length (fun k => [(0, p0), (3, .slice (some ⟨g3, 0, none⟩) us.length c3), (4, p4), (5, p5), (11, .int .i64 (k : Int))])) ?_ us.length _ _ ⟨_, 0, rfl, rfl, ⟨rfl, rfl, rfl, rfl, rfl, trivial⟩, rfl, Nat.zero_le _, Below.refl _ _⟩
  rintro m _ wr ⟨tm, k, rfl, hsz, hchk, hm, hk, hB⟩
  obtain ⟨u, rfl⟩ := frame160 hsz
  obtain ⟨e0, e3, e4, e5, e11, _⟩ := hchk
  replace e0 : u 0 = p0 := Option.some.inj e0
  replace e3 : u 3 = .slice (some ⟨g3, 0, none⟩) us.length c3 := Option.some.inj e3
  replace e4 : u 4 = p4 := Option.some.inj e4
  replace e5 : u 5 = p5 := Option.some.inj e5
  replace e11 : u 11 = .int .i64 (k : Int) := Option.some.inj e11
  rw [e0, e3, e4, e5, e11]
  have Hm := hide hm
  have HB := hide hB
  clear hm hB e0 e3 e4 e5 e11
  by_cases hlt : k < us.length
  · obtain ⟨v, hv⟩ : ∃ v, us[k]? = some v := ⟨_, List.getElem?_eq_getElem hlt⟩
    obtain ⟨n, hn, hM⟩ := ((unhide HS).up (unhide HB)).k k v hv
    have h3 := row1_cell ((unhide HS).up (unhide HB)).o3 hv
    have H3 := hide h3
    have HM := hide hM
    have hd : decide ((k : Int) < (us.length : Int)) = true := by simp; omega
    clear hv hM h3
    go_wp2
    rw [← ht]
    refine in1_any hlt hul (unhide H3) hn (unhide HM) rfl ⟨rfl, rfl, rfl, rfl, rfl, trivial⟩ ?_
    intro w2 hb2 tm hsz hchk
    obtain ⟨z, rfl⟩ := frame160 hsz
    obtain ⟨e0, e3, e4, e5, e11, _⟩ := hchk
    replace e0 : z 0 = p0 := Option.some.inj e0
    replace e3 : z 3 = .slice (some ⟨g3, 0, none⟩) us.length c3 := Option.some.inj e3
    replace e4 : z 4 = p4 := Option.some.inj e4
    replace e5 : z 5 = p5 := Option.some.inj e5
    replace e11 : z 11 = .int .i64 (k : Int) := Option.some.inj e11
    rw [e0, e3, e4, e5, e11]
    have Hb2 : Hid (Below W.heap.size W w2) := (unhide HB).trans (hb2.mono (unhide HB).size)
    clear hb2 e0 e3 e4 e5 e11
    go_wp2
    exact ⟨us.length - (k + 1), by have := unhide Hm; omega, _, k + 1, rfl, rfl, ⟨rfl, rfl, rfl, rfl, rfl, trivial⟩, rfl, by omega, unhide Hb2⟩
  · obtain rfl : k = us.length := by omega
    have hd : decide ((us.length : Int) < (us.length : Int)) = false := by simp
    go_wp2
    exact unhide HQ _ (unhide HB) _ rfl ⟨rfl, rfl, rfl, rfl, trivial⟩

set_option maxRecDepth 100000 in
set_option maxHeartbeats 4000000 in
theorem in2_any {W : World} {p0 p4 p5 : Value} {us : List Value} {g3 c3 k n : Nat} {v : Value} (hk : k < us.length) (hul : us.length ≤ 10485760) (h3 : W.cell? ⟨g3, k, none⟩ = some v) (hn : n ≤ 16480) (hM : MkL W (mkT (k / 5)) v n) {tm : Array Value} (hsz : tm.size = 160) (hchk : chk tm [(0, p0), (3, .slice (some ⟨g3, 0, none⟩) us.length c3), (4, p4), (5, p5), (16, .int .i64 (k : Int))]) {Q : Exit → Act → World → Prop}
    (hQ : ∀ W', Below W.heap.size W W' → ∀ tm : Array Value, tm.size = 160 → chk tm [(0, p0), (3, .slice (some ⟨g3, 0, none⟩) us.length c3), (4, p4), (5, p5), (16, .int .i64 (k : Int))] → Q .normal { tmps := tm, defers := [] } W') :
    (ckOne skCheck2).wp Tryd.prog Q { tmps := tm, defers := [] } W := by
  have HQ := hide hQ
  obtain ⟨x, rfl⟩ := frame160 hsz
  obtain ⟨e0, e3, e4, e5, e16, _⟩ := hchk
  replace e0 : x 0 = p0 := Option.some.inj e0
  replace e3 : x 3 = .slice (some ⟨g3, 0, none⟩) us.length c3 := Option.some.inj e3
  replace e4 : x 4 = p4 := Option.some.inj e4
  replace e5 : x 5 = p5 := Option.some.inj e5
  replace e16 : x 16 = .int .i64 (k : Int) := Option.some.inj e16
  rw [e0, e3, e4, e5, e16]
  clear e0 e3 e4 e5 e16
  obtain ⟨q, hq⟩ : ∃ q, k / 5 = q := ⟨_, rfl⟩
  have hqk : (k : Int) / 5 = (q : Int) := by omega
  have hq1 : q ≤ 1099511627776 := by omega
  rw [hq] at hM
  have HM := hide hM
  obtain ⟨a, c, rfl, _⟩ := id hM
  have H3 := hide h3
  have hlt3 : g3 < W.heap.size := lt_of_cell h3
  have hk0 : (0 : Int) ≤ (k : Int) := Int.natCast_nonneg _
  have hk1 : (k : Int) < (us.length : Int) := by omega
  have Hqk := hide hqk
  clear hQ hM h3 hq hqk
  rw [skIn2_split]
  obtain ⟨t, ht⟩ : ∃ t, ckReg skCheck2 = t := ⟨_, rfl⟩
  rw [ht]
  unfold ckInWith ckOne skCheck2 
  dsimp only [Tryd.f3]
  go_wp2
  refine wp_loop_count (CntJ W n (fun i => [(0, p0), (3, .slice (some ⟨g3, 0, none⟩) us.length c3), (4, p4), (5, p5), (16, .int .i64 (k : Int)), (17, .int .i64 (i : Int))])) ?_ n _ _ ⟨_, 0, rfl, rfl, ⟨rfl, rfl, rfl, rfl, rfl, rfl, trivial⟩, rfl, Nat.zero_le _, Below.refl _ _⟩
  rintro m _ wr ⟨tm, i, rfl, hsz, hchk, hm, hi, hB⟩
  obtain ⟨u, rfl⟩ := frame160 hsz
  obtain ⟨e0, e3, e4, e5, e16, e17, _⟩ := hchk
  replace e0 : u 0 = p0 := Option.some.inj e0
  replace e3 : u 3 = .slice (some ⟨g3, 0, none⟩) us.length c3 := Option.some.inj e3
  replace e4 : u 4 = p4 := Option.some.inj e4
  replace e5 : u 5 = p5 := Option.some.inj e5
  replace e16 : u 16 = .int .i64 (k : Int) := Option.some.inj e16
  replace e17 : u 17 = .int .i64 (i : Int) := Option.some.inj e17
  rw [e0, e3, e4, e5, e16, e17]
  have Hm := hide hm
  have HB := hide hB
  have b3 := (hB.cell (p := ⟨g3, k, none⟩) hlt3).trans (unhide H3)
  clear hm hB e0 e3 e4 e5 e16 e17
  by_cases hlt : i < n
  · obtain ⟨b, c', e, x1, x2, x3⟩ := (unhide HM).cell hlt
    simp only [Value.slice.injEq] at e
    obtain ⟨rfl, _, rfl⟩ := e
    have HS : Hid (∀ w' : World, Below W.heap.size W w' → (w'.cell? ⟨g3, k, none⟩ = some (.slice (some ⟨b, 0, none⟩) n c) ∧ w'.cell? ⟨b, i * 3, none⟩ = some (.int .i64 (mkT q).kind) ∧ w'.cell? ⟨b, i * 3 + 1, none⟩ = some (.int .i64 (mkT q).spot) ∧ w'.cell? ⟨b, i * 3 + 2, none⟩ = some (.string (mkT q).text))) := fun w' hb =>
      ⟨(hb.cell (p := ⟨g3, k, none⟩) hlt3).trans (unhide H3), (hb.cell (p := ⟨b, i * 3, none⟩) (lt_of_cell x1)).trans x1, (hb.cell (p := ⟨b, i * 3 + 1, none⟩) (lt_of_cell x2)).trans x2, (hb.cell (p := ⟨b, i * 3 + 2, none⟩) (lt_of_cell x3)).trans x3⟩
    have hd : decide ((i : Int) < (n : Int)) = true := by simp; omega
    clear x1 x2 x3
    go_wp2
    rw [← ht]
    refine reg2_any hk hlt (unhide Hqk) hq1 (unhide HB) (unhide HS) rfl ⟨rfl, rfl, rfl, rfl, rfl, rfl, trivial⟩ ?_
    intro w2 hb2 tm hsz hchk
    obtain ⟨z, rfl⟩ := frame160 hsz
    obtain ⟨e0, e3, e4, e5, e16, e17, e157, _⟩ := hchk
    replace e0 : z 0 = p0 := Option.some.inj e0
    replace e3 : z 3 = .slice (some ⟨g3, 0, none⟩) us.length c3 := Option.some.inj e3
    replace e4 : z 4 = p4 := Option.some.inj e4
    replace e5 : z 5 = p5 := Option.some.inj e5
    replace e16 : z 16 = .int .i64 (k : Int) := Option.some.inj e16
    replace e17 : z 17 = .int .i64 (i : Int) := Option.some.inj e17
    replace e157 : z 157 = .bool false := Option.some.inj e157
    rw [e0, e3, e4, e5, e16, e17, e157]
    have Hb2 := hide hb2
    clear hb2 e0 e3 e4 e5 e16 e17 e157
    go_wp2
    exact ⟨n - (i + 1), by have := unhide Hm; omega, _, i + 1, rfl, rfl, ⟨rfl, rfl, rfl, rfl, rfl, rfl, trivial⟩, rfl, by omega, unhide Hb2⟩
  · obtain rfl : i = n := by omega
    have hd : decide ((i : Int) < (i : Int)) = false := by simp
    go_wp2
    exact unhide HQ _ (unhide HB) _ rfl ⟨rfl, rfl, rfl, rfl, rfl, trivial⟩
set_option maxRecDepth 100000 in
set_option maxHeartbeats 4000000 in
theorem check2_any {W : World} {p0 p4 p5 : Value} {B : Nat} {us : List Value} {g3 c3 : Nat} (hS : St B W (.slice (some ⟨g3, 0, none⟩) us.length c3) us) (hul : us.length ≤ 10485760) {tm : Array Value} (hsz : tm.size = 160) (hchk : chk tm [(0, p0), (3, .slice (some ⟨g3, 0, none⟩) us.length c3), (4, p4), (5, p5)]) {Q : Exit → Act → World → Prop}
    (hQ : ∀ W', Below W.heap.size W W' → ∀ tm : Array Value, tm.size = 160 → chk tm [(0, p0), (3, .slice (some ⟨g3, 0, none⟩) us.length c3), (4, p4), (5, p5)] → Q .normal { tmps := tm, defers := [] } W') :
    skCheck2.wp Tryd.prog Q { tmps := tm, defers := [] } W := by
  have HQ := hide hQ
  obtain ⟨x, rfl⟩ := frame160 hsz
  obtain ⟨e0, e3, e4, e5, _⟩ := hchk
  replace e0 : x 0 = p0 := Option.some.inj e0
  replace e3 : x 3 = .slice (some ⟨g3, 0, none⟩) us.length c3 := Option.some.inj e3
  replace e4 : x 4 = p4 := Option.some.inj e4
  replace e5 : x 5 = p5 := Option.some.inj e5
  rw [e0, e3, e4, e5]
  clear e0 e3 e4 e5
  have HS := hide hS
  clear hQ hS
  rw [skCheck2_split]
  obtain ⟨t, ht⟩ : ∃ t, ckOne skCheck2 = t := ⟨_, rfl⟩
  rw [ht]
  unfold ckWith skCheck2 
  dsimp only [Tryd.f3]
  go_wp2
  refine wp_loop_count (CntJ W us.length (fun k => [(0, p0), (3, .slice (some ⟨g3, 0, none⟩) us.length c3), (4, p4), (5, p5), (16, .int .i64 (k : Int))])) ?_ us.length _ _ ⟨_, 0, rfl, rfl, ⟨rfl, rfl, rfl, rfl, rfl, trivial⟩, rfl, Nat.zero_le _, Below.refl _ _⟩
  rintro m _ wr ⟨tm, k, rfl, hsz, hchk, hm, hk, hB⟩
  obtain ⟨u, rfl⟩ := frame160 hsz
  obtain ⟨e0, e3, e4, e5, e16, _⟩ := hchk
  replace e0 : u 0 = p0 := Option.some.inj e0
  replace e3 : u 3 = .slice (some ⟨g3, 0, none⟩) us.length c3 := Option.some.inj e3
  replace e4 : u 4 = p4 := Option.some.inj e4
  replace e5 : u 5 = p5 := Option.some.inj e5
  replace e16 : u 16 = .int .i64 (k : Int) := Option.some.inj e16
  rw [e0, e3, e4, e5, e16]
  have Hm := hide hm
  have HB := hide hB
  clear hm hB e0 e3 e4 e5 e16
  by_cases hlt : k < us.length
  · obtain ⟨v, hv⟩ : ∃ v, us[k]? = some v := ⟨_, List.getElem?_eq_getElem hlt⟩
    obtain ⟨n, hn, hM⟩ := ((unhide HS).up (unhide HB)).k k v hv
    have h3 := row1_cell ((unhide HS).up (unhide HB)).o3 hv
    have H3 := hide h3
    have HM := hide hM
    have hd : decide ((k : Int) < (us.length : Int)) = true := by simp; omega
    clear hv hM h3
    go_wp2
    rw [← ht]
    refine in2_any hlt hul (unhide H3) hn (unhide HM) rfl ⟨rfl, rfl, rfl, rfl, rfl, trivial⟩ ?_
    intro w2 hb2 tm hsz hchk
    obtain ⟨z, rfl⟩ := frame160 hsz
    obtain ⟨e0, e3, e4, e5, e16, _⟩ := hchk
    replace e0 : z 0 = p0 := Option.some.inj e0
    replace e3 : z 3 = .slice (some ⟨g3, 0, none⟩) us.length c3 := Option.some.inj e3
    replace e4 : z 4 = p4 := Option.some.inj e4
    replace e5 : z 5 = p5 := Option.some.inj e5
    replace e16 : z 16 = .int .i64 (k : Int) := Option.some.inj e16
    rw [e0, e3, e4, e5, e16]
    have Hb2 : Hid (Below W.heap.size W w2) := (unhide HB).trans (hb2.mono (unhide HB).size)
    clear hb2 e0 e3 e4 e5 e16
    go_wp2
    exact ⟨us.length - (k + 1), by have := unhide Hm; omega, _, k + 1, rfl, rfl, ⟨rfl, rfl, rfl, rfl, rfl, trivial⟩, rfl, by omega, unhide Hb2⟩
  · obtain rfl : k = us.length := by omega
    have hd : decide ((us.length : Int) < (us.length : Int)) = false := by simp
    go_wp2
    exact unhide HQ _ (unhide HB) _ rfl ⟨rfl, rfl, rfl, rfl, trivial⟩
end Go.Proofs.YtkkbccdjbgjjaaaDoor

namespace Go.Proofs.YtkkbccdjbgjjaaaDoor
open Go.RowKit
attribute [local go_sem ↓] Go.wp_at_zero Go.wp_at_succ

noncomputable def tkO (s : ByteArray) : List Tok × Nat × Nat := match tokR s with
  | .inl ts => (ts, 0, 0)
  | .inr (k, c) => ([], k, c)
theorem tkO_len (s : ByteArray) : (tkO s).1.length ≤ 16384 := by
  unfold tkO
  cases h : tokR s with
  | inl ts => exact tokR_len h
  | inr p => simp
/-- What Tokens answers, in one form. -/
def TkA (s : ByteArray) (W : World) (e : Ending) (w : World) : Prop := ∃ v, e = .returned (.tuple #[v, .int .i64 ((tkO s).2.1 : Int), .int .i64 ((tkO s).2.2 : Int)]) ∧ RowT W.heap.size w v ((tkO s).1.map Tok.tk) ∧ HasTok w v (tkO s).1 ∧ Below W.heap.size W w
theorem tokens_own {W : World} (hF : HasF W) (hE : HasE W) (hM : HasM W) (s : ByteArray) : Calls Tryd.prog 5 #[.string s] W (TkA s W) := by
  refine (tokens_any hF hE hM s).mono ?_
  rintro e w ⟨hb, h2⟩
  unfold TkA tkO
  cases ht : tokR s with
  | inl ts =>
    rw [ht] at h2
    obtain ⟨v, rfl, h3⟩ := h2
    refine ⟨v, rfl, ?_, hasTok_of h3, hb⟩
    unfold RowT
    rw [← tcells_tk, List.length_map]
    exact h3
  | inr p =>
    obtain ⟨k, c⟩ := p
    rw [ht] at h2
    obtain ⟨_, rfl⟩ := h2
    exact ⟨_, rfl, World.ownsRow_nil _ _ _ _, hasTok_nil w, hb⟩

set_option maxRecDepth 100000 in
set_option maxHeartbeats 4000000 in
theorem check10_any {W : World} {p0 p4 p5 : Value} {tm : Array Value} (hsz : tm.size = 160) (hchk : chk tm [(0, p0), (3, .slice none 0 0), (4, p4), (5, p5)]) {Q : Exit → Act → World → Prop}
    (hQ : ∀ tm : Array Value, tm.size = 160 → chk tm [(0, p0), (3, .slice none 0 0), (4, p4), (5, p5)] → Q .normal { tmps := tm, defers := [] } W) :
    skCheck1.wp Tryd.prog Q { tmps := tm, defers := [] } W := by
  have HQ := hide hQ
  obtain ⟨x, rfl⟩ := frame160 hsz
  obtain ⟨e0, e3, e4, e5, _⟩ := hchk
  replace e0 : x 0 = p0 := Option.some.inj e0
  replace e3 : x 3 = .slice none 0 0 := Option.some.inj e3
  replace e4 : x 4 = p4 := Option.some.inj e4
  replace e5 : x 5 = p5 := Option.some.inj e5
  rw [e0, e3, e4, e5]
  clear hQ e0 e3 e4 e5
  unfold skCheck1 skRound skLoop
  dsimp only [Tryd.f3]
  go_wp2
  refine wp_loop_count (CntR (fun _ w => w = W) 0 (fun k => [(0, p0), (3, .slice none 0 0), (4, p4), (5, p5), (11, .int .i64 (k : Int))])) ?_ 0 _ _ ⟨_, 0, rfl, rfl, ⟨rfl, rfl, rfl, rfl, rfl, trivial⟩, rfl, Nat.zero_le _, rfl⟩
  rintro m _ wr ⟨tm, i, rfl, hsz, hchk, hm, hi, rfl⟩
  obtain rfl : i = 0 := by omega
  obtain ⟨u, rfl⟩ := frame160 hsz
  obtain ⟨e0, e3, e4, e5, e11, _⟩ := hchk
  replace e0 : u 0 = p0 := Option.some.inj e0
  replace e3 : u 3 = .slice none 0 0 := Option.some.inj e3
  replace e4 : u 4 = p4 := Option.some.inj e4
  replace e5 : u 5 = p5 := Option.some.inj e5
  replace e11 : u 11 = .int .i64 ((0 : Nat) : Int) := Option.some.inj e11
  rw [e0, e3, e4, e5, e11]
  clear e0 e3 e4 e5 e11
  go_wp2
  exact unhide HQ _ rfl ⟨rfl, rfl, rfl, rfl, trivial⟩

set_option maxRecDepth 100000 in
set_option maxHeartbeats 4000000 in
theorem check20_any {W : World} {p0 p4 p5 : Value} {tm : Array Value} (hsz : tm.size = 160) (hchk : chk tm [(0, p0), (3, .slice none 0 0), (4, p4), (5, p5)]) {Q : Exit → Act → World → Prop}
    (hQ : ∀ tm : Array Value, tm.size = 160 → chk tm [(0, p0), (3, .slice none 0 0), (4, p4), (5, p5)] → Q .normal { tmps := tm, defers := [] } W) :
    skCheck2.wp Tryd.prog Q { tmps := tm, defers := [] } W := by
  have HQ := hide hQ
  obtain ⟨x, rfl⟩ := frame160 hsz
  obtain ⟨e0, e3, e4, e5, _⟩ := hchk
  replace e0 : x 0 = p0 := Option.some.inj e0
  replace e3 : x 3 = .slice none 0 0 := Option.some.inj e3
  replace e4 : x 4 = p4 := Option.some.inj e4
  replace e5 : x 5 = p5 := Option.some.inj e5
  rw [e0, e3, e4, e5]
  clear hQ e0 e3 e4 e5
  unfold skCheck2 
  dsimp only [Tryd.f3]
  go_wp2
  refine wp_loop_count (CntR (fun _ w => w = W) 0 (fun k => [(0, p0), (3, .slice none 0 0), (4, p4), (5, p5), (16, .int .i64 (k : Int))])) ?_ 0 _ _ ⟨_, 0, rfl, rfl, ⟨rfl, rfl, rfl, rfl, rfl, trivial⟩, rfl, Nat.zero_le _, rfl⟩
  rintro m _ wr ⟨tm, i, rfl, hsz, hchk, hm, hi, rfl⟩
  obtain rfl : i = 0 := by omega
  obtain ⟨u, rfl⟩ := frame160 hsz
  obtain ⟨e0, e3, e4, e5, e16, _⟩ := hchk
  replace e0 : u 0 = p0 := Option.some.inj e0
  replace e3 : u 3 = .slice none 0 0 := Option.some.inj e3
  replace e4 : u 4 = p4 := Option.some.inj e4
  replace e5 : u 5 = p5 := Option.some.inj e5
  replace e16 : u 16 = .int .i64 ((0 : Nat) : Int) := Option.some.inj e16
  rw [e0, e3, e4, e5, e16]
  clear e0 e3 e4 e5 e16
  go_wp2
  exact unhide HQ _ rfl ⟨rfl, rfl, rfl, rfl, trivial⟩

theorem check_all {W : World} {p0 p4 p5 v3 : Value} {B : Nat} {us : List Value} (hS : St B W v3 us) (hul : us.length ≤ 10485760) {tm : Array Value} (hsz : tm.size = 160) (hchk : chk tm [(0, p0), (3, v3), (4, p4), (5, p5)]) {Q : Exit → Act → World → Prop}
    (hQ : ∀ W', Below W.heap.size W W' → ∀ tm : Array Value, tm.size = 160 → chk tm [(0, p0), (3, v3), (4, p4), (5, p5)] → Q .normal { tmps := tm, defers := [] } W') :
    skCheck1.wp Tryd.prog Q { tmps := tm, defers := [] } W := by
  rcases id hS.o3.2 with ⟨rfl, h0⟩ | ⟨g, c, _, rfl, _⟩
  · exact check10_any hsz hchk (hQ W (Below.refl _ _))
  · exact check1_any hS hul hsz hchk hQ
theorem check_all2 {W : World} {p0 p4 p5 v3 : Value} {B : Nat} {us : List Value} (hS : St B W v3 us) (hul : us.length ≤ 10485760) {tm : Array Value} (hsz : tm.size = 160) (hchk : chk tm [(0, p0), (3, v3), (4, p4), (5, p5)]) {Q : Exit → Act → World → Prop}
    (hQ : ∀ W', Below W.heap.size W W' → ∀ tm : Array Value, tm.size = 160 → chk tm [(0, p0), (3, v3), (4, p4), (5, p5)] → Q .normal { tmps := tm, defers := [] } W') :
    skCheck2.wp Tryd.prog Q { tmps := tm, defers := [] } W := by
  rcases id hS.o3.2 with ⟨rfl, h0⟩ | ⟨g, c, _, rfl, _⟩
  · exact check20_any hsz hchk (hQ W (Below.refl _ _))
  · exact check2_any hS hul hsz hchk hQ
theorem St.grown {B : Nat} {w w' : World} {v3 : Value} {us : List Value} {row : Option Nat} (h : St B w v3 us) (hg : w.grownBy w' row) (h3 : ∀ k, v3.ownBlock = some k → some k ≠ row) (hu : ∀ v ∈ us, ∀ b, v.ownBlock = some b → some b ≠ row) : St B w' v3 us :=
  ⟨h.o3.kept hg (own_ne h3), fun k v hv => by obtain ⟨n, h1, h2⟩ := h.k k v hv; exact ⟨n, h1, h2.kept hg (hu v (List.mem_of_getElem? hv))⟩, h.n3⟩
theorem St.blk {B : Nat} {w : World} {v3 : Value} {us : List Value} (h : St B w v3 us) : (∀ k, v3.ownBlock = some k → B ≤ k ∧ k < w.heap.size) ∧ ∀ v ∈ us, ∀ b, v.ownBlock = some b → b < w.heap.size := by
  refine ⟨fun k e => h.o3.lt k e, fun v hv b e => ?_⟩
  obtain ⟨k, hk⟩ := List.mem_iff_getElem?.1 hv
  obtain ⟨n, _, _, _, rfl, h2, _⟩ := h.k k v hk
  exact h2 b e
theorem St.form {B : Nat} {w : World} {v3 : Value} {us : List Value} (h : St B w v3 us) : ∃ a c, v3 = .slice a us.length c := by
  rcases h.o3.2 with ⟨rfl, h0⟩ | ⟨g, cap, _, rfl, _⟩
  · exact ⟨_, _, by rw [h0]⟩
  · exact ⟨_, _, rfl⟩
theorem St.stp {B : Nat} {w w' : World} {v3 : Value} {us : List Value} {g : Option Nat} {t : Tk} (h : St B w v3 us) (hg : Stp g t w w') (h3 : ∀ k, v3.ownBlock = some k → some k ≠ g) (hu : ∀ v ∈ us, ∀ b, v.ownBlock = some b → some b ≠ g) : St B w' v3 us := h.grown ⟨hg.os, hg.tape, hg.output, hg.size, hg.block⟩ h3 hu
/-- The last half of the round. -/
theorem half_any {W0 W : World} {p0 p4 v3 vl : Value} {us : List Value} {ks : List Tk} {B bx r : Nat} (hS0 : St B W0 v3 us) (hB : B ≤ W0.heap.size) (h0 : Below W0.heap.size W0 W) (hl : RowT W0.heap.size W vl ks) (hx : XAt W bx (mkT r)) (hbx : W0.heap.size ≤ bx) (hbl : ∀ k, vl.ownBlock = some k → k ≠ bx) (hL : ks.length ≤ 16384) (hul5 : us.length = 5 * r) (hul : us.length ≤ 10485760)
    {z : Code} {tm : Array Value} (hsz : tm.size = 160) (hchk : chk tm [(0, p0), (3, v3), (4, p4), (5, vl), (13, .pointer (some ⟨bx, 0, none⟩))]) {Q : Exit → Act → World → Prop}
    (hz : ∀ W' (tm : Array Value) (Q' : Exit → Act → World → Prop), tm.size = 160 → chk tm [(0, p0), (3, v3), (4, p4), (5, vl), (13, .pointer (some ⟨bx, 0, none⟩))] → (∀ tm : Array Value, tm.size = 160 → chk tm [(0, p0), (3, v3), (4, p4), (5, vl), (13, .pointer (some ⟨bx, 0, none⟩)), (15, .slice none 0 0)] → Q' .normal { tmps := tm, defers := [] } W') → z.wp Tryd.prog Q' { tmps := tm, defers := [] } W')
    (hQ : ∀ W' v3' us', St B W' v3' us' → us'.length = us.length + 5 → Below B W0 W' → ∀ tm : Array Value, tm.size = 160 → chk tm [(0, p0), (3, v3'), (4, p4)] → Q .normal { tmps := tm, defers := [] } W') :
    (Code.seq skFill (.seq z (.seq skMore skEnd))).wp Tryd.prog Q { tmps := tm, defers := [] } W := by
  have hb := hS0.blk
  have hlo := fun k e => World.ownsRow.lt hl k e
  have n3 : ∀ k, v3.ownBlock = some k → some k ≠ vl.ownBlock := fun k e q => by have h1 := (hb.1 k e).2; have h2 := (hlo k q.symm).1; omega
  have nu : ∀ v ∈ us, ∀ b, v.ownBlock = some b → some b ≠ vl.ownBlock := fun v hv b e q => by have h1 := hb.2 v hv b e; have h2 := (hlo b q.symm).1; omega
  have nx : some bx ≠ vl.ownBlock := fun q => hbl bx q.symm rfl
  have hSW := hS0.up h0
  refine wp_seq ?_
  refine fill_any hl hx nx hL hsz hchk ?_
  intro W1 hl1 hg1 tm hsz hchk
  have hx1 := hx.grown hg1 nx
  have hS1 := hSW.grown hg1 n3 nu
  show (Code.seq z (.seq skMore skEnd)).wp _ _ _ _
  refine wp_seq ?_
  refine hz W1 tm _ hsz hchk ?_
  intro tm hsz hchk
  show (Code.seq skMore skEnd).wp _ _ _ _
  refine wp_seq ?_
  have hs1 : W0.heap.size ≤ W1.heap.size := Nat.le_trans h0.size hg1.size
  refine more_any hl1 hs1 hx1 nx hL hsz hchk ?_
  intro W2 vm hst hl2 hm2 tm hsz hchk
  have hS2 := hS1.stp hst n3 nu
  have hx2 := hx1.block (hst.block bx hx1.lt nx)
  have hlm := fun k e => World.ownsRow.lt hm2 k e
  have hs2 : W1.heap.size ≤ W2.heap.size := hst.size
  refine end_any (B := B) (B0 := W0.heap.size) (Bm := W1.heap.size) (r := r) rfl ⟨hl2, hm2, hS2, hx2⟩ hB (by omega) hL hul5 hul (fun k e q => n3 k q.symm e.symm) nu (fun k e => ⟨fun q => ?_, fun q => ?_⟩) ⟨nx, fun q => ?_⟩ hsz hchk ?_
  · have h1 := (hlm k e).1
    have h2 := (World.ownsRow.lt hl1 k q.symm).2
    omega
  · have h1 := (hlm k e).1
    have h2 := (hb.1 k q.symm).2
    omega
  · have h2 := (hb.1 bx q.symm).2
    omega
  · intro W3 v3' us' hS3 hl3 hb3
    refine hQ W3 v3' us' hS3 hl3 ?_
    have k1 : Below B W W1 := ⟨hg1.os, hg1.tape, hg1.output, hg1.size, fun k hk => hg1.block k (Nat.lt_of_lt_of_le (by omega) h0.size) (fun e => by have := (hlo k e.symm).1; omega)⟩
    have k2 : Below B W1 W2 := hst.below (by omega) (fun k e => by have := (hlo k e).1; omega)
    exact (((h0.mono hB).trans k1).trans k2).trans hb3
end Go.Proofs.YtkkbccdjbgjjaaaDoor
