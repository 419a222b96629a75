import Derived.Test.YtaadpiimcaabkaaGreatDoorJ06
import Derived.Laws.EntriesVeiled
import Derived.Shelf.Strconv.Itoa3
import Derived.Test.YtaadpiimcaabkaaGreatDoorChecked
import Derived.Test.YtaadpiimcaabkaaGreatDoorJ00

namespace Go.Proofs.YtaadpiimcaabkaaGreatDoor
open Go.RowKit
attribute [local go_sem ↓] Go.wp_at_zero Go.wp_at_succ

theorem four_new (W : World) (a b c d : Array Value) (ta tb tc td : TypeId) : ((((W.alloc (.cells a ta)).alloc (.cells b tb)).alloc (.cells c tc)).alloc (.cells d td)).heap[W.heap.size]? = some (.cells a ta (0, 0)) ∧ ((((W.alloc (.cells a ta)).alloc (.cells b tb)).alloc (.cells c tc)).alloc (.cells d td)).heap[W.heap.size + 1]? = some (.cells b tb (0, 0)) ∧ ((((W.alloc (.cells a ta)).alloc (.cells b tb)).alloc (.cells c tc)).alloc (.cells d td)).heap[W.heap.size + 1 + 1]? = some (.cells c tc (0, 0)) ∧ ((((W.alloc (.cells a ta)).alloc (.cells b tb)).alloc (.cells c tc)).alloc (.cells d td)).heap[W.heap.size + 1 + 1 + 1]? = some (.cells d td (0, 0)) ∧ Below W.heap.size W ((((W.alloc (.cells a ta)).alloc (.cells b tb)).alloc (.cells c tc)).alloc (.cells d td)) := by
  have s1 := World.size_alloc W (.cells a ta)
  have s2 := World.size_alloc (W.alloc (.cells a ta)) (.cells b tb)
  have s3 := World.size_alloc ((W.alloc (.cells a ta)).alloc (.cells b tb)) (.cells c tc)
  have n2 := heap_new (W.alloc (.cells a ta)) (.cells b tb)
  have n3 := heap_new ((W.alloc (.cells a ta)).alloc (.cells b tb)) (.cells c tc)
  have n4 := heap_new (((W.alloc (.cells a ta)).alloc (.cells b tb)).alloc (.cells c tc)) (.cells d td)
  rw [s1] at n2
  rw [s2, s1] at n3
  rw [s3, s2, s1] at n4
  refine ⟨?_, ?_, ?_, n4, ((((Below.refl _ _).alloc (Nat.le_refl _) _).alloc (by omega) _).alloc (by omega) _).alloc (by omega) _⟩
  · rw [Below.heap_alloc _ _ _ (by omega), Below.heap_alloc _ _ _ (by omega), Below.heap_alloc _ _ _ (by omega)]
    exact heap_new _ _
  · rw [Below.heap_alloc _ _ _ (by omega), Below.heap_alloc _ _ _ (by omega)]
    exact n2
  · rw [Below.heap_alloc _ _ _ (by omega)]
    exact n3
theorem frozen_of {w : World} {b : Nat} {cs : Array Value} {t : TypeId} (h : w.heap[b]? = some (.cells cs t (0, 0))) (j : Nat) : w.frozen? ⟨b, j, none⟩ = false := by simp [World.frozen?, h]
set_option maxRecDepth 100000 in
set_option maxHeartbeats 1000000 in
theorem newPen_any (W : World) : Calls Tryz.prog 43 #[] W fun e w => e = .returned (.agg #[fLine (W.heap.size + 1) (W.heap.size + 1 + 1), fBlock (W.heap.size + 1 + 1 + 1) (W.heap.size + 1 + 1), fWhole (W.heap.size + 1)]) ∧ Pn W (W.heap.size + 1) (W.heap.size + 1) (W.heap.size + 1 + 1) [] 0 w ∧ w.heap[W.heap.size + 1 + 1 + 1]? = some (.cells #[fLine (W.heap.size + 1) (W.heap.size + 1 + 1)] 85 (0, 0)) := by
  obtain ⟨k0, k1, k2, k3, hb⟩ := four_new W #[.nilFunc, .nilFunc, .nilFunc] #[.pointer none, .slice none 0 0] #[.int .i64 0] #[.nilFunc] 89 125 3 85
  obtain ⟨X, hX⟩ : ∃ X, ((((W.alloc (.cells #[.nilFunc, .nilFunc, .nilFunc] 89)).alloc (.cells #[.pointer none, .slice none 0 0] 125)).alloc (.cells #[.int .i64 0] 3)).alloc (.cells #[.nilFunc] 85)) = X := ⟨_, rfl⟩
  rw [hX] at k0 k1 k2 k3 hb
  have c3 : X.cell? ⟨W.heap.size + 1 + 1 + 1, 0, none⟩ = some .nilFunc := cell_of_row _ _ _ _ _ _ k3
  have f3 := frozen_of k3 0
  obtain ⟨r3, g3⟩ := set_block (j := 0) k3 (fLine (W.heap.size + 1) (W.heap.size + 1 + 1))
  have m0 := (g3.block _ (Array.getElem?_eq_some_iff.1 k0).1 (by simp; omega)).trans k0
  have m1 := (g3.block _ (Array.getElem?_eq_some_iff.1 k1).1 (by simp)).trans k1
  have m2 := (g3.block _ (Array.getElem?_eq_some_iff.1 k2).1 (by simp)).trans k2
  have hb2 := grown_below hb g3 hb.size (fun k e => by obtain rfl := Option.some.inj e; omega)
  unfold fLine at r3 m0 m1 m2 hb2
  unfold fLine fBlock fWhole
  obtain ⟨Y, hY⟩ : ∃ Y, X.setCell ⟨W.heap.size + 1 + 1 + 1, 0, none⟩ (.func (.func 80) #[] #[.pointer (some ⟨W.heap.size + 1, 0, none⟩), .pointer (some ⟨W.heap.size + 1 + 1, 0, none⟩)]) = Y := ⟨_, rfl⟩
  rw [hY] at r3 m0 m1 m2 hb2
  have l3 : Y.cell? ⟨W.heap.size + 1 + 1 + 1, 0, none⟩ = some (.func (.func 80) #[] #[.pointer (some ⟨W.heap.size + 1, 0, none⟩), .pointer (some ⟨W.heap.size + 1 + 1, 0, none⟩)]) := cell_of_row _ _ _ _ _ _ r3
  have p0 : Y.cell? ⟨W.heap.size, 0, none⟩ = some .nilFunc := cell_of_row _ _ _ _ _ _ m0
  have p1 : Y.cell? ⟨W.heap.size, 1, none⟩ = some .nilFunc := cell_of_row _ _ _ _ _ _ m0
  have p2 : Y.cell? ⟨W.heap.size, 2, none⟩ = some .nilFunc := cell_of_row _ _ _ _ _ _ m0
  have p3 := frozen_of m0 0
  have p4 := frozen_of m0 1
  have p5 := frozen_of m0 2
  have R3 := hide r3
  have M0 := hide m0
  have M1 := hide m1
  have M2 := hide m2
  have HB2 := hide hb2
  clear k0 k1 k2 k3 hb r3 g3 m0 m1 m2 hb2
  go_enter Tryz.func43, Tryz.ntmps43
  go_wp2
  obtain ⟨q0, u0⟩ := set_block (j := 0) (unhide M0) (.func (.func 80) #[] #[.pointer (some ⟨W.heap.size + 1, 0, none⟩), .pointer (some ⟨W.heap.size + 1 + 1, 0, none⟩)])
  obtain ⟨q1, u1⟩ := set_block (j := 1) q0 (.func (.func 84) #[] #[.pointer (some ⟨W.heap.size + 1 + 1 + 1, 0, none⟩), .pointer (some ⟨W.heap.size + 1 + 1, 0, none⟩)])
  obtain ⟨q2, u2⟩ := set_block (j := 2) q1 (.func (.func 85) #[.pointer (some ⟨W.heap.size + 1, 0, none⟩)] #[])
  have u := (u0.trans u1).trans u2
  have v1 := (u.block _ (Array.getElem?_eq_some_iff.1 (unhide M1)).1 (by simp)).trans (unhide M1)
  have v2 := (u.block _ (Array.getElem?_eq_some_iff.1 (unhide M2)).1 (by simp; omega)).trans (unhide M2)
  have v3 := (u.block _ (Array.getElem?_eq_some_iff.1 (unhide R3)).1 (by simp; omega)).trans (unhide R3)
  refine bodyPost_ret (results_cell_row rfl _ _ W.heap.size 89 _ (0, 0) _ rfl q2 Tryz.underlying89 rfl (by kernel_rfl)) rfl ?_
  refine ⟨rfl, ⟨grown_below (unhide HB2) u (unhide HB2).size (fun k e => by obtain rfl := Option.some.inj e; omega), by omega, ?_, v2, by omega, by omega⟩, v3⟩
  exact .inl ⟨Nat.le_refl _, _, v1, ⟨rfl, .inl ⟨rfl, rfl⟩⟩, by simp [Value.ownBlock]⟩
end Go.Proofs.YtaadpiimcaabkaaGreatDoor
namespace Go.Proofs
open Go.Shelf
def Tryz.laysNT171_ren : Go.Shelf.Ren := ⟨fun | 171 => 134 | 243 => 178 | 246 => 190 | 283 => 199 | 284 => 200 | 285 => 201 | 286 => 202 | 129 => 212 | 317 => 211 | 318 => 213 | 319 => 214 | 320 => 215 | 337 => 218 | 338 => 219 | n => n, fun | 3 => 3 | 9 => 9 | 2 => 2 | 4 => 4 | 171 => 211 | 0 => 0 | 53 => 189 | 37 => 58 | 5 => 5 | 173 => 214 | 212 => 228 | 51 => 186 | 20 => 20 | 213 => 229 | 46 => 156 | 232 => 239 | 233 => 240 | n => n, fun | 17 => 4 | 18 => 7 | 19 => 8 | n => n⟩
theorem Tryz.laysNT171 : Go.Proofs.LaysM.n171 Tryz.prog Tryz.laysNT171_ren := {
  mixed := by kernel_rfl
  f129 := Tryz.func212.trans (congrArg some (by kernel_rfl))
  f171 := Tryz.func134.trans (congrArg some (by kernel_rfl))
  f243 := Tryz.func178.trans (congrArg some (by kernel_rfl))
  f246 := Tryz.func190.trans (congrArg some (by kernel_rfl))
  f283 := Tryz.func199.trans (congrArg some (by kernel_rfl))
  f284 := Tryz.func200.trans (congrArg some (by kernel_rfl))
  f285 := Tryz.func201.trans (congrArg some (by kernel_rfl))
  f286 := Tryz.func202.trans (congrArg some (by kernel_rfl))
  f317 := Tryz.func211.trans (congrArg some (by kernel_rfl))
  f318 := Tryz.func213.trans (congrArg some (by kernel_rfl))
  f319 := Tryz.func214.trans (congrArg some (by kernel_rfl))
  f320 := Tryz.func215.trans (congrArg some (by kernel_rfl))
  f337 := Tryz.func218.trans (congrArg some (by kernel_rfl))
  f338 := Tryz.func219.trans (congrArg some (by kernel_rfl))
  t0 := Tryz.underlying0
  a0 := Tryz.isAgg0
  z0 := Tryz.sizeOf0
  v0 := Tryz.zeroValue0
  t2 := Tryz.underlying2
  a2 := Tryz.isAgg2
  z2 := Tryz.sizeOf2
  v2 := Tryz.zeroValue2
  t3 := Tryz.underlying3
  a3 := Tryz.isAgg3
  z3 := Tryz.sizeOf3
  v3 := Tryz.zeroValue3
  t4 := Tryz.underlying4
  a4 := Tryz.isAgg4
  z4 := Tryz.sizeOf4
  v4 := Tryz.zeroValue4
  t5 := Tryz.underlying5
  a5 := Tryz.isAgg5
  z5 := Tryz.sizeOf5
  v5 := Tryz.zeroValue5
  t9 := Tryz.underlying9
  a9 := Tryz.isAgg9
  z9 := Tryz.sizeOf9
  v9 := Tryz.zeroValue9
  t20 := Tryz.underlying20
  a20 := Tryz.isAgg20
  z20 := Tryz.sizeOf20
  v20 := Tryz.zeroValue20
  t37 := Tryz.underlying58
  a37 := Tryz.isAgg58
  z37 := Tryz.sizeOf58
  v37 := Tryz.zeroValue58
  t46 := Tryz.underlying156
  a46 := Tryz.isAgg156
  z46 := Tryz.sizeOf156
  v46 := Tryz.zeroValue156
  t51 := Tryz.underlying186
  a51 := Tryz.isAgg186
  z51 := Tryz.sizeOf186
  v51 := Tryz.zeroValue186
  t53 := Tryz.underlying189
  a53 := Tryz.isAgg189
  z53 := Tryz.sizeOf189
  v53 := Tryz.zeroValue189
  t171 := Tryz.underlying211
  a171 := Tryz.isAgg211
  z171 := Tryz.sizeOf211
  v171 := Tryz.zeroValue211
  t173 := Tryz.underlying214
  a173 := Tryz.isAgg214
  z173 := Tryz.sizeOf214
  v173 := Tryz.zeroValue214
  t212 := Tryz.underlying228
  a212 := Tryz.isAgg228
  z212 := Tryz.sizeOf228
  v212 := Tryz.zeroValue228
  t213 := Tryz.underlying229
  a213 := Tryz.isAgg229
  z213 := Tryz.sizeOf229
  t232 := Tryz.underlying239
  a232 := Tryz.isAgg239
  z232 := Tryz.sizeOf239
  v232 := Tryz.zeroValue239
  t233 := Tryz.underlying240
  a233 := Tryz.isAgg240
  z233 := Tryz.sizeOf240
  v233 := Tryz.zeroValue240
  g17 := by kernel_rfl
  g18 := by kernel_rfl
  g19 := by kernel_rfl
  i0 := by kernel_rfl
  i2 := by kernel_rfl
  i3 := by kernel_rfl
  i4 := by kernel_rfl
  i5 := by kernel_rfl
  i9 := by kernel_rfl
  i20 := by kernel_rfl
  i37 := by kernel_rfl
  i46 := by kernel_rfl
  i51 := by kernel_rfl
  i53 := by kernel_rfl
  i171 := by kernel_rfl
  i173 := by kernel_rfl
  i212 := by kernel_rfl
  i232 := by kernel_rfl
  i233 := by kernel_rfl
  m17 := by kernel_rfl
  m18 := by kernel_rfl
  m19 := by kernel_rfl }
end Go.Proofs

namespace Go.Proofs.YtaadpiimcaabkaaGreatDoor
open Go.RowKit
attribute [local go_sem ↓] Go.wp_at_zero Go.wp_at_succ

set_option maxRecDepth 100000 in
set_option maxHeartbeats 1000000 in
theorem classOf_any (W : World) (c : Nat) (hc : c < 256) :
    Calls Tryz.prog 95 #[.int .u8 (c : Int)] W fun e w => e = .returned (.int .i64 (cls c : Int)) ∧ w = W := by
  have hi := sgn_idx hc
  generalize hg : firstIdx ⟨#[123, 125, 91, 93, 40, 41, 60, 62, 59, 44, 61, 46, 45]⟩ (Nat.toUInt8 c) = ix at hi
  have Hg := hide hg
  have Hi := hide hi
  clear hg hi
  by_cases h1 : (9 ≤ c ∧ c ≤ 13) ∨ c = 32
  · have hk : cls c = 1 := by unfold cls; rw [if_pos h1]
    rw [hk]
    rcases h1 with ⟨h1, h2⟩ | rfl
    · go_enter Tryz.func95, Tryz.ntmps95; go_wp2; go_ret; exact ⟨rfl, rfl⟩
    · go_enter Tryz.func95, Tryz.ntmps95; go_wp2; go_ret; exact ⟨rfl, rfl⟩
  · obtain ⟨n32, hb⟩ : ¬ ((c : Int) = 32) ∧ (c < 9 ∨ 13 < c) := by omega
    by_cases h2 : isLet c
    · have hk : cls c = 2 := cls_let.2 h2
      rw [hk]
      unfold isLet at h2
      clear h1
      rcases h2 with ⟨h1, h2⟩ | ⟨h1, h2⟩ | rfl
      · have b1 := geT (c := c) (k := 9) (by omega); have b2 := leF (c := c) (k := 13) (by omega); have b3 := eqF n32; have b4 := geT (c := c) (k := 65) (by omega); have b5 := leT (c := c) (k := 90) (by omega)
        go_enter Tryz.func95, Tryz.ntmps95; go_wp2; go_ret; exact ⟨rfl, rfl⟩
      · have b1 := geT (c := c) (k := 9) (by omega); have b2 := leF (c := c) (k := 13) (by omega); have b3 := eqF n32; have b4 := geT (c := c) (k := 65) (by omega); have b5 := leF (c := c) (k := 90) (by omega); have b6 := geT (c := c) (k := 97) (by omega); have b7 := leT (c := c) (k := 122) (by omega)
        go_enter Tryz.func95, Tryz.ntmps95; go_wp2; go_ret; exact ⟨rfl, rfl⟩
      · go_enter Tryz.func95, Tryz.ntmps95; go_wp2; go_ret; exact ⟨rfl, rfl⟩
    · by_cases h3 : isDig c
      · have hk : cls c = 3 := cls_dig.2 h3
        rw [hk]
        unfold isDig at h3
        obtain ⟨h4, h5⟩ := h3
        clear h1 h2
        have b1 := geT (c := c) (k := 9) (by omega); have b2 := leF (c := c) (k := 13) (by omega); have b3 := eqF n32; have b4 := geF (c := c) (k := 65) (by omega); have b5 := geF (c := c) (k := 97) (by omega); have b6 := eqF (c := c) (k := 95) (by omega); have b7 := geT (c := c) (k := 48) (by omega); have b8 := leT (c := c) (k := 57) (by omega)
        go_enter Tryz.func95, Tryz.ntmps95; go_wp2; go_ret; exact ⟨rfl, rfl⟩
      · by_cases h4 : c = 39 ∨ c = 34
        · have hk : cls c = 4 := by unfold cls; rw [if_neg h1, if_neg h2, if_neg h3, if_pos h4]
          rw [hk]
          rcases h4 with rfl | rfl
          · go_enter Tryz.func95, Tryz.ntmps95; go_wp2; go_ret; exact ⟨rfl, rfl⟩
          · go_enter Tryz.func95, Tryz.ntmps95; go_wp2; go_ret; exact ⟨rfl, rfl⟩
        · obtain ⟨n39, n34⟩ : ¬ ((c : Int) = 39) ∧ ¬ ((c : Int) = 34) := by omega
          have hk : cls c = if isSgn c then 5 else if c = 47 then 6 else 0 := by unfold cls; rw [if_neg h1, if_neg h2, if_neg h3, if_neg h4]
          rw [hk]
          obtain ⟨n95, hl⟩ : ¬ ((c : Int) = 95) ∧ (c < 9 ∨ (13 < c ∧ c < 48) ∨ (57 < c ∧ c < 65) ∨ (90 < c ∧ c < 97) ∨ 122 < c) := by unfold isLet at h2; unfold isDig at h3; omega
          clear h1 h2 h3 h4 hb hk
          have q1 := eqF n32; have q2 := eqF n95; have q3 := eqF n39; have q4 := eqF n34
          by_cases h5 : isSgn c
          · rw [if_pos h5]
            have hix : 0 ≤ ix := (unhide Hi).2 h5
            have q5 : decide (0 ≤ ix) = true := by simp; omega
            rcases hl with hl | ⟨hl, hm⟩ | ⟨hl, hm⟩ | ⟨hl, hm⟩ | hl
            · have r0 := geF (c := c) (k := 9) (by omega); have r1 := geF (c := c) (k := 65) (by omega); have r2 := geF (c := c) (k := 97) (by omega); have r3 := geF (c := c) (k := 48) (by omega)
              go_enter Tryz.func95, Tryz.ntmps95; go_wp2_with fail; refine (idx_any W _ _).mono ?_; rintro e w' ⟨rfl, he⟩; obtain rfl : W = w' := he.symm; have Hg' := unhide Hg; simp only [Int.toNat_natCast]; rw [Hg']; clear Hg'; go_wp2; go_ret; exact ⟨rfl, rfl⟩
            · have r0 := geT (c := c) (k := 9) (by omega); have r1 := leF (c := c) (k := 13) (by omega); have r2 := geF (c := c) (k := 65) (by omega); have r3 := geF (c := c) (k := 97) (by omega); have r4 := geF (c := c) (k := 48) (by omega)
              go_enter Tryz.func95, Tryz.ntmps95; go_wp2_with fail; refine (idx_any W _ _).mono ?_; rintro e w' ⟨rfl, he⟩; obtain rfl : W = w' := he.symm; have Hg' := unhide Hg; simp only [Int.toNat_natCast]; rw [Hg']; clear Hg'; go_wp2; go_ret; exact ⟨rfl, rfl⟩
            · have r0 := geT (c := c) (k := 9) (by omega); have r1 := leF (c := c) (k := 13) (by omega); have r2 := geF (c := c) (k := 65) (by omega); have r3 := geF (c := c) (k := 97) (by omega); have r4 := geT (c := c) (k := 48) (by omega); have r5 := leF (c := c) (k := 57) (by omega)
              go_enter Tryz.func95, Tryz.ntmps95; go_wp2_with fail; refine (idx_any W _ _).mono ?_; rintro e w' ⟨rfl, he⟩; obtain rfl : W = w' := he.symm; have Hg' := unhide Hg; simp only [Int.toNat_natCast]; rw [Hg']; clear Hg'; go_wp2; go_ret; exact ⟨rfl, rfl⟩
            · have r0 := geT (c := c) (k := 9) (by omega); have r1 := leF (c := c) (k := 13) (by omega); have r2 := geT (c := c) (k := 65) (by omega); have r3 := leF (c := c) (k := 90) (by omega); have r4 := geF (c := c) (k := 97) (by omega); have r5 := geT (c := c) (k := 48) (by omega); have r6 := leF (c := c) (k := 57) (by omega)
              go_enter Tryz.func95, Tryz.ntmps95; go_wp2_with fail; refine (idx_any W _ _).mono ?_; rintro e w' ⟨rfl, he⟩; obtain rfl : W = w' := he.symm; have Hg' := unhide Hg; simp only [Int.toNat_natCast]; rw [Hg']; clear Hg'; go_wp2; go_ret; exact ⟨rfl, rfl⟩
            · have r0 := geT (c := c) (k := 9) (by omega); have r1 := leF (c := c) (k := 13) (by omega); have r2 := geT (c := c) (k := 65) (by omega); have r3 := leF (c := c) (k := 90) (by omega); have r4 := geT (c := c) (k := 97) (by omega); have r5 := leF (c := c) (k := 122) (by omega); have r6 := geT (c := c) (k := 48) (by omega); have r7 := leF (c := c) (k := 57) (by omega)
              go_enter Tryz.func95, Tryz.ntmps95; go_wp2_with fail; refine (idx_any W _ _).mono ?_; rintro e w' ⟨rfl, he⟩; obtain rfl : W = w' := he.symm; have Hg' := unhide Hg; simp only [Int.toNat_natCast]; rw [Hg']; clear Hg'; go_wp2; go_ret; exact ⟨rfl, rfl⟩
          · rw [if_neg h5]
            have hix : ix < 0 := by have := mt (unhide Hi).1 h5; omega
            have q5 : decide (0 ≤ ix) = false := by simp; omega
            by_cases h6 : c = 47
            · rw [if_pos h6]
              have n47 : ((c : Int) == 47) = true := by simp; omega
              have r0 := geT (c := c) (k := 9) (by omega); have r1 := leF (c := c) (k := 13) (by omega); have r2 := geF (c := c) (k := 65) (by omega); have r3 := geF (c := c) (k := 97) (by omega); have r4 := geF (c := c) (k := 48) (by omega)
              clear hl h6
              go_enter Tryz.func95, Tryz.ntmps95; go_wp2_with fail; refine (idx_any W _ _).mono ?_; rintro e w' ⟨rfl, he⟩; obtain rfl : W = w' := he.symm; have Hg' := unhide Hg; simp only [Int.toNat_natCast]; rw [Hg']; clear Hg'; go_wp2; go_ret; exact ⟨rfl, rfl⟩
            · rw [if_neg h6]
              have n47 := eqF (c := c) (k := 47) (by omega)
              clear h6
              rcases hl with hl | ⟨hl, hm⟩ | ⟨hl, hm⟩ | ⟨hl, hm⟩ | hl
              · have r0 := geF (c := c) (k := 9) (by omega); have r1 := geF (c := c) (k := 65) (by omega); have r2 := geF (c := c) (k := 97) (by omega); have r3 := geF (c := c) (k := 48) (by omega)
                go_enter Tryz.func95, Tryz.ntmps95; go_wp2_with fail; refine (idx_any W _ _).mono ?_; rintro e w' ⟨rfl, he⟩; obtain rfl : W = w' := he.symm; have Hg' := unhide Hg; simp only [Int.toNat_natCast]; rw [Hg']; clear Hg'; go_wp2; go_ret; exact ⟨rfl, rfl⟩
              · have r0 := geT (c := c) (k := 9) (by omega); have r1 := leF (c := c) (k := 13) (by omega); have r2 := geF (c := c) (k := 65) (by omega); have r3 := geF (c := c) (k := 97) (by omega); have r4 := geF (c := c) (k := 48) (by omega)
                go_enter Tryz.func95, Tryz.ntmps95; go_wp2_with fail; refine (idx_any W _ _).mono ?_; rintro e w' ⟨rfl, he⟩; obtain rfl : W = w' := he.symm; have Hg' := unhide Hg; simp only [Int.toNat_natCast]; rw [Hg']; clear Hg'; go_wp2; go_ret; exact ⟨rfl, rfl⟩
              · have r0 := geT (c := c) (k := 9) (by omega); have r1 := leF (c := c) (k := 13) (by omega); have r2 := geF (c := c) (k := 65) (by omega); have r3 := geF (c := c) (k := 97) (by omega); have r4 := geT (c := c) (k := 48) (by omega); have r5 := leF (c := c) (k := 57) (by omega)
                go_enter Tryz.func95, Tryz.ntmps95; go_wp2_with fail; refine (idx_any W _ _).mono ?_; rintro e w' ⟨rfl, he⟩; obtain rfl : W = w' := he.symm; have Hg' := unhide Hg; simp only [Int.toNat_natCast]; rw [Hg']; clear Hg'; go_wp2; go_ret; exact ⟨rfl, rfl⟩
              · have r0 := geT (c := c) (k := 9) (by omega); have r1 := leF (c := c) (k := 13) (by omega); have r2 := geT (c := c) (k := 65) (by omega); have r3 := leF (c := c) (k := 90) (by omega); have r4 := geF (c := c) (k := 97) (by omega); have r5 := geT (c := c) (k := 48) (by omega); have r6 := leF (c := c) (k := 57) (by omega)
                go_enter Tryz.func95, Tryz.ntmps95; go_wp2_with fail; refine (idx_any W _ _).mono ?_; rintro e w' ⟨rfl, he⟩; obtain rfl : W = w' := he.symm; have Hg' := unhide Hg; simp only [Int.toNat_natCast]; rw [Hg']; clear Hg'; go_wp2; go_ret; exact ⟨rfl, rfl⟩
              · have r0 := geT (c := c) (k := 9) (by omega); have r1 := leF (c := c) (k := 13) (by omega); have r2 := geT (c := c) (k := 65) (by omega); have r3 := leF (c := c) (k := 90) (by omega); have r4 := geT (c := c) (k := 97) (by omega); have r5 := leF (c := c) (k := 122) (by omega); have r6 := geT (c := c) (k := 48) (by omega); have r7 := leF (c := c) (k := 57) (by omega)
                go_enter Tryz.func95, Tryz.ntmps95; go_wp2_with fail; refine (idx_any W _ _).mono ?_; rintro e w' ⟨rfl, he⟩; obtain rfl : W = w' := he.symm; have Hg' := unhide Hg; simp only [Int.toNat_natCast]; rw [Hg']; clear Hg'; go_wp2; go_ret; exact ⟨rfl, rfl⟩

theorem ne23 {k : Nat} (h2 : ¬ k = 2) (h3 : ¬ k = 3) : ((k : Int) != 2) = true ∧ ((k : Int) != 3) = true := by
  constructor <;> simp <;> omega
set_option maxRecDepth 100000 in
set_option maxHeartbeats 1000000 in
/-- How many letters and digits stand in front. -/
theorem row_any (W : World) (s : ByteArray) (hs : s.size ≤ 140737488351232) :
    Calls Tryz.prog 140 #[.string s] W fun e w => ∃ n : Nat, e = .returned (.int .i64 (n : Int)) ∧ w = W ∧ n ≤ s.size ∧ (∀ j x, j < n → (strN s)[j]? = some x → isLet x ∨ isDig x) ∧ (∀ x, (strN s)[n]? = some x → ¬ (isLet x ∨ isDig x)) := by
  go_enter Tryz.func140, Tryz.ntmps140
  go_wp2
  go_loopg [3, 4, 7] s.size (fun gk _ _ v7 wr => ∃ (k : Nat), v7 = .int .i64 (k : Int) ∧ gk = s.size - k ∧ k ≤ s.size ∧ wr = W ∧ ∀ j x, j < k → (strN s)[j]? = some x → isLet x ∨ isDig x)
  case atStart => exact ⟨0, rfl, rfl, by omega, rfl, fun j x hj => by omega⟩
  case round =>
    obtain ⟨k, rfl, hgk, hk, rfl, hall⟩ := hrel
    have Hgk := hide hgk
    have Hall := hide hall
    clear hgk hall
    by_cases hlt : k < s.size
    · obtain ⟨x, hx, hx2, gx⟩ := strN_ex s k hlt
      have Hx := hide hx
      clear hx
      go_wp2_with fail
      refine (classOf_any wr x hx2).mono ?_
      rintro e w' ⟨rfl, he⟩
      obtain rfl : wr = w' := he.symm
      by_cases h2 : isLet x ∨ isDig x
      · have hcl : cls x = 2 ∨ cls x = 3 := h2.imp cls_let.2 cls_dig.2
        have hnext : ∀ j y, j < k + 1 → (strN s)[j]? = some y → isLet y ∨ isDig y := by
          intro j y hj hy
          by_cases hjk : j < k
          · exact unhide Hall j y hjk hy
          · obtain rfl : j = k := by omega
            rw [unhide Hx] at hy
            obtain rfl := Option.some.inj hy
            exact h2
        have Hnext := hide hnext
        clear hnext h2 gx
        rcases hcl with hc | hc
        · rw [hc]
          go_wp2
          go_roundg (s.size - (k + 1))
          case measure => have := unhide Hgk; omega
          case rel => exact ⟨k + 1, by go_num, rfl, by omega, rfl, unhide Hnext⟩
        · rw [hc]
          go_wp2
          go_roundg (s.size - (k + 1))
          case measure => have := unhide Hgk; omega
          case rel => exact ⟨k + 1, by go_num, rfl, by omega, rfl, unhide Hnext⟩
      · obtain ⟨e2, e3⟩ := ne23 (mt cls_let.1 (fun h => h2 (.inl h))) (mt cls_dig.1 (fun h => h2 (.inr h)))
        have H2 := hide h2
        clear h2 gx
        generalize cls x = kx at *
        go_wp2
        go_ret
        refine ⟨k, rfl, rfl, by omega, unhide Hall, fun y hy => ?_⟩
        rw [unhide Hx] at hy
        obtain rfl := Option.some.inj hy
        exact unhide H2
    · obtain rfl : k = s.size := by omega
      go_wp2
      go_ret
      refine ⟨_, rfl, rfl, Nat.le_refl _, unhide Hall, fun y hy => ?_⟩
      have := (List.getElem?_eq_some_iff.1 hy).1
      rw [strN_len] at this
      omega
end Go.Proofs.YtaadpiimcaabkaaGreatDoor
