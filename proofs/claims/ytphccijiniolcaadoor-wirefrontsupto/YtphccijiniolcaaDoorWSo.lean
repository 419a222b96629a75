import Derived.Test.YtphccijiniolcaaDoorWSL
import Derived.Test.YtphccijiniolcaaDoorWSk
import Derived.Test.YtphccijiniolcaaDoorW8J
namespace Go.Proofs.YtphccijiniolcaaDoor
open Go.RowKit
attribute [local go_sem ↓] Go.wp_at_zero Go.wp_at_succ

theorem HasRt.form {W : World} {P : Nat → Prop} {v : Value} {ts : List Rt} (h : HasRt W P v ts) : ∃ a c, v = .slice a ts.length c := by
  cases h with
  | nil a c => exact ⟨a, c, rfl⟩
  | row g n c ts us hp hn hm hg hc hi => exact ⟨_, c, by rw [hn]⟩
set_option maxRecDepth 100000 in
set_option maxHeartbeats 4000000 in
/-- Records that are the same. -/
theorem same_rt {W : World} {P Q : Nat → Prop} {v : Value} {ts : List Rt} (h : HasRt W P v ts) : ∀ u, HasRt W Q u ts → ∀ w0, Below W.heap.size W w0 → Calls Tryd.prog 12 #[v, u] w0 fun e W' => e = .returned (.bool true) ∧ Below w0.heap.size w0 W' := by
  induction h with
  | nil a c =>
    intro u hu w0 _
    obtain ⟨a', c', rfl⟩ := hu.form
    exact sameR_nil w0 a a' c c'
  | row g n c ts us hp hn hm hg hc hi ih =>
    intro u hu w0 hw0
    cases hu with
    | nil a' c' =>
      obtain rfl : n = 0 := hn.symm
      exact sameR_nil w0 _ a' c c'
    | row g' n' c' _ us' hp' hn' hm' hg' hc' hi' =>
      obtain rfl : n = n' := hn.symm.trans hn'
      have Hc := hide hc
      have Hc' := hide hc'
      have Hih := hide ih
      have Hi' := hide hi'
      have Hi := hide hi
      unfold maxLen at hm
      have Hn := hide hn
      have Hw0 := hide hw0
      clear hc hc' ih hi hi' hn hn' hm' hp hp' hw0
      have d0 : ((n : Int) != (n : Int)) = false := by simp
      go_enter Tryd.func12, Tryd.ntmps12
      go_wp2
      go_loopg [5] n (fun gk v5 wr => ∃ (i : Nat), v5 = .int .i64 (i : Int) ∧ gk = n - i ∧ i ≤ n ∧ Hid (Below w0.heap.size w0 wr))
      case atStart => exact ⟨0, rfl, rfl, Nat.zero_le _, Below.refl _ _⟩
      case round =>
        obtain ⟨i, rfl, hgk, hin, HB⟩ := hrel
        have Hgk := hide hgk
        clear hgk
        by_cases hlt : i < n
        · obtain ⟨r, hr⟩ : ∃ r, ts[i]? = some r := ⟨_, List.getElem?_eq_getElem (by rw [unhide Hn]; exact hlt)⟩
          have hBW : Below W.heap.size W wr := (unhide Hw0).trans ((unhide HB).mono (unhide Hw0).size)
          have hcs := unhide Hc i r hr
          have hcs' := unhide Hc' i r hr
          obtain ⟨ia, ic, eu⟩ := (unhide Hi i r hr).form
          obtain ⟨ja, jc, eu'⟩ := (unhide Hi' i r hr).form
          have hcall := unhide Hih i r hr (us' i) (unhide Hi' i r hr)
          rw [eu] at hcs hcall
          rw [eu'] at hcs' hcall
          obtain ⟨nb, kd, x, t, li⟩ := r
          replace hcall : ∀ w0, Below W.heap.size W w0 → Calls Tryd.prog 12 #[.slice ia li.length ic, .slice ja li.length jc] w0 fun e W' => e = .returned (.bool true) ∧ Below w0.heap.size w0 W' := hcall
          have Hcall := hide hcall
          have d0 := (hBW.cell (p := ⟨g, i * 5, none⟩) hg).trans (hcs 0 _ rfl)
          have d1 := (hBW.cell (p := ⟨g, i * 5 + 1, none⟩) hg).trans (hcs 1 _ rfl)
          have d2 := (hBW.cell (p := ⟨g, i * 5 + 2, none⟩) hg).trans (hcs 2 _ rfl)
          have d3 := (hBW.cell (p := ⟨g, i * 5 + 3, none⟩) hg).trans (hcs 3 _ rfl)
          have d4 : wr.cell? ⟨g, i * 5 + 4, none⟩ = some (.slice ia li.length ic) := (hBW.cell (p := ⟨g, i * 5 + 4, none⟩) hg).trans (hcs 4 _ rfl)
          have f0 := (hBW.cell (p := ⟨g', i * 5, none⟩) hg').trans (hcs' 0 _ rfl)
          have f1 := (hBW.cell (p := ⟨g', i * 5 + 1, none⟩) hg').trans (hcs' 1 _ rfl)
          have f2 := (hBW.cell (p := ⟨g', i * 5 + 2, none⟩) hg').trans (hcs' 2 _ rfl)
          have f3 := (hBW.cell (p := ⟨g', i * 5 + 3, none⟩) hg').trans (hcs' 3 _ rfl)
          have f4 : wr.cell? ⟨g', i * 5 + 4, none⟩ = some (.slice ja li.length jc) := (hBW.cell (p := ⟨g', i * 5 + 4, none⟩) hg').trans (hcs' 4 _ rfl)
          have hi0 : (0 : Int) ≤ (i : Int) := Int.natCast_nonneg _
          have hi1 : (i : Int) < (n : Int) := by omega
          have e0 : ((nb : Int) != (nb : Int)) = false := by simp
          have e1 : ((kd : Int) != (kd : Int)) = false := by simp
          have e2 : (x != x) = false := by simp
          have hgw : g' < wr.heap.size := Nat.lt_of_lt_of_le hg' hBW.size
          have gf0 : ∀ o, (wr.alloc o).cell? ⟨g', i * 5, none⟩ = _ := fun o => (World.cell?_alloc_lt _ _ _ hgw).trans f0
          have gf1 : ∀ o, (wr.alloc o).cell? ⟨g', i * 5 + 1, none⟩ = _ := fun o => (World.cell?_alloc_lt _ _ _ hgw).trans f1
          have gf2 : ∀ o, (wr.alloc o).cell? ⟨g', i * 5 + 2, none⟩ = _ := fun o => (World.cell?_alloc_lt _ _ _ hgw).trans f2
          have gf3 : ∀ o, (wr.alloc o).cell? ⟨g', i * 5 + 3, none⟩ = _ := fun o => (World.cell?_alloc_lt _ _ _ hgw).trans f3
          have gf4 : ∀ o, (wr.alloc o).cell? ⟨g', i * 5 + 4, none⟩ = _ := fun o => (World.cell?_alloc_lt _ _ _ hgw).trans f4
          have HBW := hide hBW
          clear hcs hcs' eu eu' hcall hBW
          go_wp2_with fail
          have hB2 : Below w0.heap.size w0 ((wr.alloc (.cells #[.int .i64 (nb : Int), .int .i64 (kd : Int), .int .i64 x, .string t, .slice ia li.length ic] 45)).alloc (.cells #[.int .i64 (nb : Int), .int .i64 (kd : Int), .int .i64 x, .string t, .slice ja li.length jc] 45)) := ((unhide HB).alloc (unhide HB).size _).alloc (by have := (unhide HB).size; rw [World.size_alloc]; omega) _
          refine (unhide Hcall _ ((unhide Hw0).trans (hB2.mono (unhide Hw0).size))).mono ?_
          rintro e w2 ⟨rfl, hb2⟩
          have HB3 := hide (hB2.trans (hb2.mono hB2.size))
          clear d0 d1 d2 d3 d4 f0 f1 f2 f3 f4 gf0 gf1 gf2 gf3 gf4 hB2 hb2 Hcall
          go_wp2
          go_roundg (n - (i + 1))
          case measure => have := unhide Hgk; omega
          case rel => exact ⟨i + 1, by go_num, rfl, by omega, HB3⟩
        · obtain rfl : i = n := by omega
          go_wp2
          go_ret
          exact ⟨rfl, unhide HB⟩
#print axioms same_rt
end Go.Proofs.YtphccijiniolcaaDoor
