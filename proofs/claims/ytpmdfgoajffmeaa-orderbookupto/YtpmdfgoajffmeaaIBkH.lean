import Derived.Test.YtpmdfgoajffmeaaIBkL

namespace Go.Proofs.Ytpmdfgoajffmeaa
open Go.RowKit Go.Shelf
attribute [local go_sem ↓] Go.wp_at_zero Go.wp_at_succ

noncomputable def bkLoop : Code := match Try.f3.body with
  | some (.seq _ (.seq _ (.seq _ (.seq _ (.seq _ (.seq _ (.seq _ (.seq _ (.seq _ (.seq (.seq _ x) _)))))))))) => x
  | _ => .skip
noncomputable def bkBodyW (f m e : Code) : Code := match bkBody with
  | .seq c0 (.seq c1 (.seq c2 (.seq _ (.seq c4 (.seq _ _))))) => .seq c0 (.seq c1 (.seq c2 (.seq f (.seq c4 (.seq m e)))))
  | _ => .skip
noncomputable def bkLoopWith (b : Code) : Code := match bkLoop with
  | .block i (.loop (.seq a (.seq (.block j _) c))) => .block i (.loop (.seq a (.seq (.block j b) c)))
  | _ => .skip
theorem bkLoop_split : bkLoop = bkLoopWith (bkBodyW bkFill bkMore bkEnd) := rfl

/-- Between two rounds. -/
def BkJ (V : World) (T : BT) (a0 : Value) (a1 : Option Addr) (n1 c1 bm b6 : Nat) (s : Nat → Value) (n : Nat) (a : Act) (w : World) : Prop :=
  ∃ (r : Nat) (rr : Int) (v8 v9 : Value) (us : List Kp) (ms : List Int), a.defers = [] ∧ a.tmps.size = 160 ∧ chk a.tmps [(0, a0), (1, .slice a1 n1 c1), (2, s 2), (3, s 3), (5, .pointer (some ⟨bm, 0, none⟩)), (6, .pointer (some ⟨b6, 0, none⟩)), (7, s 7), (8, v8), (9, v9), (10, .int .i64 rr), (17, s 17), (18, s 18), (19, s 19), (20, s 20), (21, s 21), (22, s 22), (23, s 23), (24, s 24), (25, s 25), (26, s 26), (27, s 27), (28, s 28), (29, s 29), (30, s 30), (31, s 31), (32, s 32), (33, s 33), (34, s 34), (35, s 35), (36, s 36), (37, s 37), (38, s 38), (39, s 39), (40, s 40), (41, s 41), (153, s 153), (154, s 154), (155, s 155), (156, s 156), (157, s 157), (158, s 158), (159, s 159)] ∧ rr = (r : Int) ∧ n = n1 - r ∧ r ≤ n1 ∧ us.length = 5 * ms.length ∧ ms.length = r ∧ St V.heap.size w v8 v9 T.io.length us ms ms ∧ Below V.heap.size V w

set_option maxRecDepth 100000 in
set_option maxHeartbeats 8000000 in
theorem loop_any {V : World} {a0 : Value} {a1 : Option Addr} {n1 c1 bm b6 kc : Nat} {ka : Option Addr} {T : BT} (hM : IsM V (some ⟨bm, 0, none⟩) T) (h6 : V.cell? ⟨b6, 1, none⟩ = some (.slice ka T.io.length kc)) (hK6 : IsKs V (.slice ka T.io.length kc) (T.io.map (·.1))) (hL : T.io.length ≤ 17592186044320) (hn1 : n1 ≤ 1048576)
    (s : Nat → Value) {Q : Exit → Act → World → Prop}
    (hQ : ∀ W', Below V.heap.size V W' → ∀ tm : Array Value, tm.size = 160 → tm[5]? = some (.pointer (some ⟨bm, 0, none⟩)) → tm[6]? = some (.pointer (some ⟨b6, 0, none⟩)) → Q .normal { tmps := tm, defers := [] } W') :
    bkLoop.wp Try.prog Q { tmps := #[a0, .slice a1 n1 c1, s 2, s 3, s 4, .pointer (some ⟨bm, 0, none⟩), .pointer (some ⟨b6, 0, none⟩), s 7, .slice none 0 0, .slice none 0 0, .int .i64 0, s 11, s 12, s 13, s 14, s 15, s 16, s 17, s 18, s 19, s 20, s 21, s 22, s 23, s 24, s 25, s 26, s 27, s 28, s 29, s 30, s 31, s 32, s 33, s 34, s 35, s 36, s 37, s 38, s 39, s 40, s 41, s 42, s 43, s 44, s 45, s 46, s 47, s 48, s 49, s 50, s 51, s 52, s 53, s 54, s 55, s 56, s 57, s 58, s 59, s 60, s 61, s 62, s 63, s 64, s 65, s 66, s 67, s 68, s 69, s 70, s 71, s 72, s 73, s 74, s 75, s 76, s 77, s 78, s 79, s 80, s 81, s 82, s 83, s 84, s 85, s 86, s 87, s 88, s 89, s 90, s 91, s 92, s 93, s 94, s 95, s 96, s 97, s 98, s 99, s 100, s 101, s 102, s 103, s 104, s 105, s 106, s 107, s 108, s 109, s 110, s 111, s 112, s 113, s 114, s 115, s 116, s 117, s 118, s 119, s 120, s 121, s 122, s 123, s 124, s 125, s 126, s 127, s 128, s 129, s 130, s 131, s 132, s 133, s 134, s 135, s 136, s 137, s 138, s 139, s 140, s 141, s 142, s 143, s 144, s 145, s 146, s 147, s 148, s 149, s 150, s 151, s 152, s 153, s 154, s 155, s 156, s 157, s 158, s 159], defers := [] } V := by
  have HQ := hide hQ
  have HM := hide hM
  have HK6 := hide hK6
  have H6 := hide h6
  have hb6 : b6 < V.heap.size := lt_of_cell h6
  rw [bkLoop_split]
  obtain ⟨tF, hF⟩ : ∃ t, bkFill = t := ⟨_, rfl⟩
  obtain ⟨tM, hMo⟩ : ∃ t, bkMore = t := ⟨_, rfl⟩
  obtain ⟨tE, hE⟩ : ∃ t, bkEnd = t := ⟨_, rfl⟩
  rw [hF, hMo, hE]
  unfold bkLoopWith bkLoop bkBodyW bkBody
  dsimp only [Try.f3]
  clear hQ hM hK6 h6
  go_wp2
  refine wp_loop_count (BkJ V T a0 a1 n1 c1 bm b6 s) ?_ n1 _ _
    ⟨0, 0, _, _, [], [], rfl, rfl, ⟨rfl, rfl, rfl, rfl, rfl, rfl, rfl, rfl, rfl, rfl, rfl, rfl, rfl, rfl, rfl, rfl, rfl, rfl, rfl, rfl, rfl, rfl, rfl, rfl, rfl, rfl, rfl, rfl, rfl, rfl, rfl, rfl, rfl, rfl, rfl, rfl, rfl, rfl, rfl, rfl, rfl, rfl, trivial⟩, rfl, rfl, Nat.zero_le _, rfl, rfl, ⟨World.ownsRow_nil _ _ _ _, World.ownsRow_nil _ _ _ _, fun k x h => by simp at h, fun x h => by simp at h, fun x h => by simp at h⟩, Below.refl _ _⟩
  rintro n ⟨tm, _⟩ wr ⟨r, _, v8, v9, us, ms, rfl, hsz, hchk, rfl, hn, hr, hul, hml, hS, hB⟩
  obtain ⟨u, rfl⟩ := bkFrame hsz hchk
  have Hn := hide hn
  have HB := hide hB
  have HS := hide hS
  have Hul := hide hul
  have Hml := hide hml
  clear hn hB hS hul hml hsz hchk
  by_cases hlt : r < n1
  · have hd : decide ((r : Int) < (n1 : Int)) = true := by simp; omega
    go_wp2_with fail
    refine (keys_full ((unhide HM).up (unhide HB)) (by omega)).mono ?_
    rintro o w1 ⟨g, rfl, hg, hrow, hb1⟩
    have h61 : w1.cell? ⟨b6, 1, none⟩ = some (.slice ka T.io.length kc) := (hb1.cell (p := ⟨b6, 1, none⟩) (Nat.lt_of_lt_of_le hb6 (unhide HB).size)).trans (((unhide HB).cell (p := ⟨b6, 1, none⟩) hb6).trans (unhide H6))
    have Hrow : Hid (RowI wr.heap.size w1 g T.io.length T.io.length (T.io.map (·.1))) := by
      have := hrow
      show World.ownsRow _ _ _ _ _ _ _
      simpa [Function.comp_def] using this
    have HB1 : Hid (Below V.heap.size V w1) := (unhide HB).trans (hb1.mono (unhide HB).size)
    have Hb1 := hide hb1
    have Hg := hide hg
    clear hrow hb1 hg
    go_wp2_with fail
    refine (same_any (l := T.io.map (·.1)) (isKs_own (base := wr.heap.size) (by have := unhide Hrow; unfold RowI at this; simpa using this)) ((unhide HK6).up (unhide HB1))).mono ?_
    rintro o w2 ⟨rfl, hb2⟩
    have Hb2 : Hid (Below wr.heap.size wr w2) := (unhide Hb1).trans (hb2.mono (unhide Hb1).size)
    have Hrow2 := hide ((unhide Hrow).up' hb2)
    clear hb2 h61
    go_wp2
    rw [← hF]
    refine fill_any (unhide Hrow2) (by omega) _ _ _ _ _ _ _ _ _ _ _ _ _ _ _ _ _ _ _ _ _ _ _ _ _ _ _ _ _ _ _ _ _ _ _ _ _ _ _ _ _ _ _ _ _ _ _ _ _ _ _ _ _ _ _ _ _ _ _ _ _ _ _ _ _ _ _ _ _ _ _ _ _ _ _ _ _ _ _ _ _ _ _ _ _ _ _ _ _ _ _ _ _ _ _ _ _ _ _ _ _ _ _ _ _ _ _ _ _ _ _ _ _ _ _ _ _ _ _ _ _ _ _ _ _ _ _ _ _ _ _ _ _ _ _ _ _ _ _ _ _ _ _ _ _ _ _ _ _ _ _ ?_
    intro w3 hr3 hg3 fu13 fu57 fu58 fu59 fu60 fu61 fu62 fu63 fu64 fu65 fu66
    have Hb3 : Hid (Below wr.heap.size wr w3) := (unhide Hb2).grown hg3 (unhide Hb2).size (fun k e => by cases e; exact unhide Hg)
    have Hr3 := hide hr3
    clear hr3 hg3
    go_wp2
    rw [← hMo]
    refine more_any (unhide Hr3) (by omega) _ _ _ _ _ _ _ _ _ _ _ _ _ _ _ _ _ _ _ _ _ _ _ _ _ _ _ _ _ _ _ _ _ _ _ _ _ _ _ _ _ _ _ _ _ _ _ _ _ _ _ _ _ _ _ _ _ _ _ _ _ _ _ _ _ _ _ _ _ _ _ _ _ _ _ _ _ _ _ _ _ _ _ _ _ _ _ _ _ _ _ _ _ _ _ _ _ _ _ _ _ _ _ _ _ _ _ _ _ _ _ _ _ _ _ _ _ _ _ _ _ _ _ _ _ _ _ _ _ _ _ _ _ _ _ _ _ _ _ _ _ _ _ _ _ _ _ _ _ _ ?_
    intro w4 v14 hr4 hb4 mu4 mu67 mu68 mu69 mu70 mu71 mu72 mu73 mu74 mu75 mu76 mu77 mu78 mu79 mu80 mu81 mu82 mu83
    obtain ⟨g14, c14, rfl⟩ := ownsRow_succ hr4
    have Hr14 : Hid (RowI w3.heap.size w4 g14 96 c14 (List.replicate 96 (-1000 - (r : Int)))) := hr4
    have Hr4 := hide ((unhide Hr3).up' hb4)
    have Hb4 : Hid (Below wr.heap.size wr w4) := (unhide Hb3).trans (hb4.mono (unhide Hb3).size)
    clear hr4 hb4
    go_wp2
    rw [← hE]
    have s4 := (unhide Hb4).size
    have sB := (unhide HB).size
    refine end_any ((unhide HS).up (unhide Hb4)) (unhide Hul) (by have := unhide Hml; omega) (by omega) (unhide Hr4) hL (ne_new (unhide HS).o8 (unhide Hg)) (ne_new (unhide HS).o9 (unhide Hg)) (unhide Hr14) (((unhide Hb4).cell (p := ⟨b6, 1, none⟩) (by show b6 < _; omega)).trans (((unhide HB).cell (p := ⟨b6, 1, none⟩) hb6).trans (unhide H6))) hb6 _ _ _ _ _ _ _ _ _ _ _ _ _ _ _ _ _ _ _ _ _ _ _ _ _ _ _ _ _ _ _ _ _ _ _ _ _ _ _ _ _ _ _ _ _ _ _ _ _ _ _ _ _ _ _ _ _ _ _ _ _ _ _ _ _ _ _ _ _ _ _ _ _ _ _ _ _ _ _ _ _ _ _ _ _ _ _ _ _ _ _ _ _ _ _ _ _ _ _ _ _ _ _ _ _ _ _ _ _ _ _ _ _ _ _ _ _ _ _ _ _ _ _ _ _ _ _ _ _ _ _ _ _ _ _ _ _ _ _ _ _ _ _ _ _ _ _ _ _ _ ?_
    intro w5 v8' v9' us' hS5 hul5 hb5 eu4 eu15 eu16 eu84 eu85 eu86 eu87 eu88 eu89 eu90 eu91 eu92 eu93 eu94 eu95 eu96 eu97 eu98 eu99 eu100 eu101 eu102 eu103 eu104 eu105 eu106 eu107 eu108 eu109 eu110 eu111 eu112 eu113 eu114 eu115 eu116 eu117 eu118 eu119 eu120 eu121 eu122 eu123 eu124 eu125 eu126 eu127 eu128 eu129 eu130 eu131 eu132 eu133 eu134 eu135 eu136 eu137 eu138 eu139 eu140 eu141 eu142 eu143 eu144 eu145 eu146 eu147 eu148 eu149 eu150 eu151 eu152
    have HS5 := hide hS5
    have Hul5 := hide hul5
    have HB5 : Hid (Below V.heap.size V w5) := (unhide HB).trans (((unhide Hb4).mono (unhide HB).size).trans hb5)
    clear hS5 hul5 hb5
    go_wp2
    exact ⟨n1 - (r + 1), by have := unhide Hn; omega, r + 1, _, v8', v9', us', ms ++ [-1000 - (r : Int)], rfl, rfl, ⟨rfl, rfl, rfl, rfl, rfl, rfl, rfl, rfl, rfl, rfl, rfl, rfl, rfl, rfl, rfl, rfl, rfl, rfl, rfl, rfl, rfl, rfl, rfl, rfl, rfl, rfl, rfl, rfl, rfl, rfl, rfl, rfl, rfl, rfl, rfl, rfl, rfl, rfl, rfl, rfl, rfl, rfl, trivial⟩, by omega, rfl, by omega, by have := unhide Hul; have := unhide Hul5; simp; omega, by have := unhide Hml; simp; omega, unhide HS5, unhide HB5⟩
  · obtain rfl : r = n1 := by omega
    have hd : decide ((r : Int) < (r : Int)) = false := by simp
    go_wp2
    exact unhide HQ _ (unhide HB) _ rfl rfl rfl
end Go.Proofs.Ytpmdfgoajffmeaa
