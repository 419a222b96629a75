import Derived.Test.YtpmdfgoajffmeaaIOwA

namespace Go.Proofs.Ytpmdfgoajffmeaa
open Go.RowKit Go.Shelf
attribute [local go_sem ↓] Go.wp_at_zero Go.wp_at_succ

noncomputable def owBody : Code := match Try.f13.body with
  | some c => c
  | none => .skip
noncomputable def ow1 : Code := match owBody with
  | .seq _ (.seq _ (.seq x _)) => x
  | _ => .skip
noncomputable def ow2 : Code := match owBody with
  | .seq _ (.seq _ (.seq _ (.seq _ (.seq x _)))) => x
  | _ => .skip
noncomputable def ow4 : Code := match owBody with
  | .seq _ (.seq _ (.seq _ (.seq _ (.seq _ (.seq _ (.seq x _)))))) => x
  | _ => .skip
noncomputable def ow6 : Code := match owBody with
  | .seq _ (.seq _ (.seq _ (.seq _ (.seq _ (.seq _ (.seq _ (.seq x _))))))) => x
  | _ => .skip
noncomputable def owWith (p1 p2 p4 p6 : Code) : Code := match owBody with
  | .seq c0 (.seq c1 (.seq _ (.seq c3 (.seq _ (.seq c5 (.seq _ (.seq _ c8))))))) => .seq c0 (.seq c1 (.seq p1 (.seq c3 (.seq p2 (.seq c5 (.seq p4 (.seq p6 c8)))))))
  | _ => .skip
theorem ow_split : Try.f13.body = some (owWith ow1 ow2 ow4 ow6) := rfl

set_option maxRecDepth 100000 in
set_option maxHeartbeats 4000000 in
theorem ow1_any {W : World} {bm b3 kc : Nat} {ka : Option Addr} {T : BT} (hM : IsM W (some ⟨bm, 0, none⟩) T) (h3 : W.cell? ⟨b3, 1, none⟩ = some (.slice ka T.io.length kc)) (hK3 : IsKs W (.slice ka T.io.length kc) (T.io.map (·.1))) (hL : T.io.length ≤ 17592186044320) (s : Nat → Value) {Q : Exit → Act → World → Prop}
    (hQ : ∀ W' v5 gs, Ow W.heap.size W' v5 T.io.length gs (fun _ => T.io.map (·.1)) → gs.length = 5 → Below W.heap.size W W' → ∀ tm : Array Value, tm.size = 159 → chk tm [(0, .pointer (some ⟨bm, 0, none⟩)), (3, .pointer (some ⟨b3, 0, none⟩)), (5, v5)] → Q .normal { tmps := tm, defers := [] } W') :
    ow1.wp Try.prog Q { tmps := #[.pointer (some ⟨bm, 0, none⟩), s 1, s 2, .pointer (some ⟨b3, 0, none⟩), s 4, .slice none 0 0, s 6, s 7, s 8, s 9, s 10, s 11, s 12, s 13, s 14, s 15, s 16, s 17, s 18, s 19, s 20, s 21, s 22, s 23, s 24, s 25, s 26, s 27, s 28, s 29, s 30, s 31, s 32, s 33, s 34, s 35, s 36, s 37, s 38, s 39, s 40, s 41, s 42, s 43, s 44, s 45, s 46, s 47, s 48, s 49, s 50, s 51, s 52, s 53, s 54, s 55, s 56, s 57, s 58, s 59, s 60, s 61, s 62, s 63, s 64, s 65, s 66, s 67, s 68, s 69, s 70, s 71, s 72, s 73, s 74, s 75, s 76, s 77, s 78, s 79, s 80, s 81, s 82, s 83, s 84, s 85, s 86, s 87, s 88, s 89, s 90, s 91, s 92, s 93, s 94, s 95, s 96, s 97, s 98, s 99, s 100, s 101, s 102, s 103, s 104, s 105, s 106, s 107, s 108, s 109, s 110, s 111, s 112, s 113, s 114, s 115, s 116, s 117, s 118, s 119, s 120, s 121, s 122, s 123, s 124, s 125, s 126, s 127, s 128, s 129, s 130, s 131, s 132, s 133, s 134, s 135, s 136, s 137, s 138, s 139, s 140, s 141, s 142, s 143, s 144, s 145, s 146, s 147, s 148, s 149, s 150, s 151, s 152, s 153, s 154, s 155, s 156, s 157, s 158], defers := [] } W := by
  obtain ⟨i1, qi, qz0, qz1, qz2⟩ := info_parts Try.infoInts
  have HQ := hide hQ
  have HM := hide hM
  have HK3 := hide hK3
  have H3 := hide h3
  have hb3 : b3 < W.heap.size := lt_of_cell h3
  unfold ow1 owBody
  dsimp only [Try.f13]
  clear hQ hM hK3 h3
  go_wp2
  go_loopg [5, 6] 5 (fun gk v5 v6 wr => ∃ gs : List Nat, v6 = .int .i64 (gs.length : Int) ∧ gk = 5 - gs.length ∧ gs.length ≤ 5 ∧ Ow W.heap.size wr v5 T.io.length gs (fun _ => T.io.map (·.1)) ∧ Below W.heap.size W wr)
  case atStart => exact ⟨[], rfl, rfl, by simp, ⟨World.ownsRow_nil _ _ _ _, fun i g h => by simp at h, by simp⟩, Below.refl _ _⟩
  case round =>
    obtain ⟨gs, rfl, hgk, hi, hO, hB⟩ := hrel
    have Hgk := hide hgk
    have HO := hide hO
    have HB := hide hB
    clear hgk hO hB
    by_cases hlt : gs.length < 5
    · have hd : decide ((gs.length : Int) < 5) = true := by simp; omega
      go_wp2_with fail
      refine (keys_full ((unhide HM).up (unhide HB)) (by omega)).mono ?_
      rintro o w1 ⟨g, rfl, hg, hrow, hb1⟩
      have h31 : w1.cell? ⟨b3, 1, none⟩ = some (.slice ka T.io.length kc) := (hb1.cell (p := ⟨b3, 1, none⟩) (Nat.lt_of_lt_of_le hb3 (unhide HB).size)).trans (((unhide HB).cell (p := ⟨b3, 1, none⟩) hb3).trans (unhide H3))
      have Hrow : Hid (RowI wr.heap.size w1 g T.io.length T.io.length (T.io.map (·.1))) := by
        have := hrow
        show World.ownsRow _ _ _ _ _ _ _
        simpa [Function.comp_def] using this
      have HB1 : Hid (Below W.heap.size W w1) := (unhide HB).trans (hb1.mono (unhide HB).size)
      have Hb1 := hide hb1
      have Hg := hide hg
      clear hrow hb1 hg
      go_wp2_with fail
      refine (same_any (l := T.io.map (·.1)) (isKs_own (base := wr.heap.size) (by have := unhide Hrow; unfold RowI at this; simpa using this)) ((unhide HK3).up (unhide HB1))).mono ?_
      rintro o w2 ⟨rfl, hb2⟩
      have Hb2 : Hid (Below wr.heap.size wr w2) := (unhide Hb1).trans (hb2.mono (unhide Hb1).size)
      have Hrow2 : Hid (RowI W.heap.size w2 g T.io.length T.io.length (T.io.map (·.1))) := RowI.mono ((unhide Hrow).up' hb2) (unhide HB).size
      have HO2 := hide ((unhide HO).up (unhide Hb2))
      have s2 := (unhide Hb2).size
      have sB := (unhide HB).size
      have hgn : g ∉ gs := fun hm => by have h1 := ((unhide HO).mem_lt hm).2; have h2 := unhide Hg; omega
      have Hgn := hide hgn
      have hlg : (gs ++ [g]).length = gs.length + 1 := by simp
      clear hb2 h31 hgn
      go_wp2_with (at_builtin; refine wpList_append_own_at _ rfl _ _ 32 rfl W.heap.size 22 i1 (.slice none 0 0) 1 24 Try.underlying32 qi qz0 qz1 qz2 rfl (by decide) _ _ _ rfl ((unhide HO2).row.alloc _) ⟨w2.heap.size, 0, none⟩ 1 1 [.slice (some ⟨g, 0, none⟩) T.io.length T.io.length] rfl rfl (cell_one_new _ _ _) (by simp [Value.oneCell']) (by unfold maxLen; omega) (by omega) (by rw [World.size_alloc]; omega) ?_; intro v' w4 hown' hgrow _ _; have HO4 := hide ((unhide HO2).push (unhide Hrow2) (unhide Hgn) (ne_new (unhide HO).row (unhide Hg)) hgrow hown'); have HB4 : Hid (Below W.heap.size W w4) := (((unhide HB).trans ((unhide Hb2).mono sB)).alloc (by omega) _).grown hgrow (by rw [World.size_alloc]; omega) (fun k e => ((unhide HO).row.lt k e).1); clear hown' hgrow)
      go_roundg (5 - (gs.length + 1))
      case measure => have := unhide Hgk; omega
      case rel => exact ⟨gs ++ [g], by rw [hlg]; go_num, by rw [hlg], by omega, unhide HO4, unhide HB4⟩
    · have hg5 : gs.length = 5 := by omega
      have Hg5 := hide hg5
      have hd : decide ((gs.length : Int) < 5) = false := by simp; omega
      clear hg5
      go_wp2
      exact unhide HQ _ _ gs (unhide HO) (unhide Hg5) (unhide HB) _ rfl ⟨rfl, rfl, rfl, trivial⟩
end Go.Proofs.Ytpmdfgoajffmeaa
