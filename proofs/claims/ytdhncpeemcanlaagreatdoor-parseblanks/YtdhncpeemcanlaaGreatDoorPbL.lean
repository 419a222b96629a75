import Derived.Test.YtdhncpeemcanlaaGreatDoorPbI

namespace Go.Proofs.YtdhncpeemcanlaaGreatDoor
open Go.RowKit
attribute [local go_sem ↓] Go.wp_at_zero Go.wp_at_succ

def valuesT (p b : Nat) : List (ByteArray × Value) := [(⟨#[114, 101, 115, 101, 114, 118, 101, 100]⟩, .func (.func 119) #[] #[.pointer (some ⟨p, 0, none⟩), .pointer (some ⟨p + 1, 0, none⟩)]), (⟨#[111, 112, 116, 105, 111, 110]⟩, .func (.func 74) #[.pointer (some ⟨b, 0, none⟩)] #[])]
set_option maxRecDepth 100000 in
set_option maxHeartbeats 4000000 in
theorem values_any (w0 : World) (b g : Nat) : Calls Tryz.prog 95 #[.pointer (some ⟨b, 0, none⟩), .pointer (some ⟨g, 0, none⟩)] w0 fun e w => e = .returned (.map (some (w0.heap.size + 2))) ∧ Below w0.heap.size w0 w ∧ Cell1 w0.heap.size #[.pointer (some ⟨b, 0, none⟩)] 80 (fun k => w0.heap.size ≤ k) w ∧ Cell1 (w0.heap.size + 1) #[.pointer (some ⟨g, 0, none⟩)] 131 (fun k => w0.heap.size ≤ k) w ∧ WMap (w0.heap.size + 2) (valuesT w0.heap.size b) (fun k => w0.heap.size ≤ k) w := by
  obtain ⟨p, hp⟩ : ∃ p, w0.heap.size = p := ⟨_, rfl⟩
  have hm0 := wmap_new ((w0.alloc (.cells #[.pointer (some ⟨b, 0, none⟩)] 80)).alloc (.cells #[.pointer (some ⟨g, 0, none⟩)] 131))
  have hb0 : Below w0.heap.size w0 (((w0.alloc (.cells #[.pointer (some ⟨b, 0, none⟩)] 80)).alloc (.cells #[.pointer (some ⟨g, 0, none⟩)] 131)).alloc (.map #[] 0)) := (((Below.refl _ _).alloc (Nat.le_refl _) _).alloc (by simp only [World.size_alloc]; omega) _).alloc (by simp only [World.size_alloc]; omega) _
  have h4 : (((w0.alloc (.cells #[.pointer (some ⟨b, 0, none⟩)] 80)).alloc (.cells #[.pointer (some ⟨g, 0, none⟩)] 131)).alloc (.map #[] 0)).heap[p]? = some (.cells #[.pointer (some ⟨b, 0, none⟩)] 80 (0, 0)) := by
    rw [← hp, Below.heap_alloc _ _ _ (by simp only [World.size_alloc]; omega), Below.heap_alloc _ _ _ (by simp only [World.size_alloc]; omega)]
    exact heap_new _ _
  have h5 : (((w0.alloc (.cells #[.pointer (some ⟨b, 0, none⟩)] 80)).alloc (.cells #[.pointer (some ⟨g, 0, none⟩)] 131)).alloc (.map #[] 0)).heap[p + 1]? = some (.cells #[.pointer (some ⟨g, 0, none⟩)] 131 (0, 0)) := by
    rw [← hp, Below.heap_alloc _ _ _ (by simp only [World.size_alloc]; omega)]
    have := heap_new (w0.alloc (.cells #[.pointer (some ⟨b, 0, none⟩)] 80)) (.cells #[.pointer (some ⟨g, 0, none⟩)] 131)
    simpa only [World.size_alloc] using this
  simp only [World.size_alloc, hp, Nat.add_assoc, Nat.reduceAdd] at hm0
  have hc0 : (((w0.alloc (.cells #[.pointer (some ⟨b, 0, none⟩)] 80)).alloc (.cells #[.pointer (some ⟨g, 0, none⟩)] 131)).alloc (.map #[] 0)).cell? ⟨p, 0, none⟩ = some (.pointer (some ⟨b, 0, none⟩)) := by rw [cell_of_row _ _ _ _ _ _ h4]; rfl
  have hP : WMap (p + 2) [] (fun k => p ≤ k) (((w0.alloc (.cells #[.pointer (some ⟨b, 0, none⟩)] 80)).alloc (.cells #[.pointer (some ⟨g, 0, none⟩)] 131)).alloc (.map #[] 0)) := ⟨hm0.1, by omega⟩
  have hg0 : (((w0.alloc (.cells #[.pointer (some ⟨b, 0, none⟩)] 80)).alloc (.cells #[.pointer (some ⟨g, 0, none⟩)] 131)).alloc (.map #[] 0)).grownBy (((w0.alloc (.cells #[.pointer (some ⟨b, 0, none⟩)] 80)).alloc (.cells #[.pointer (some ⟨g, 0, none⟩)] 131)).alloc (.map #[] 0)) (some (p + 2)) := World.grownBy.refl _ _
  obtain ⟨v1, r1, m1, g1⟩ := run_insW hP ⟨#[114, 101, 115, 101, 114, 118, 101, 100]⟩ (.func (.func 119) #[] #[.pointer (some ⟨p, 0, none⟩), .pointer (some ⟨p + 1, 0, none⟩)]) (by rfl)
  have hg1 := hg0.trans g1
  have hc1 : v1.cell? ⟨p, 0, none⟩ = some (.pointer (some ⟨b, 0, none⟩)) := by rw [cell_of_row _ _ _ _ _ _ ((hg1.block p (Array.getElem?_eq_some_iff.1 h4).1 (by simp)).trans h4)]; rfl
  obtain ⟨v2, r2, m2, g2⟩ := run_insW m1 ⟨#[111, 112, 116, 105, 111, 110]⟩ (.func (.func 74) #[.pointer (some ⟨b, 0, none⟩)] #[]) (by rfl)
  have hg2 := hg1.trans g2
  have hc2 : v2.cell? ⟨p, 0, none⟩ = some (.pointer (some ⟨b, 0, none⟩)) := by rw [cell_of_row _ _ _ _ _ _ ((hg2.block p (Array.getElem?_eq_some_iff.1 h4).1 (by simp)).trans h4)]; rfl
  have HE : Hid (Below p w0 v2 ∧ Cell1 p #[.pointer (some ⟨b, 0, none⟩)] 80 (fun k => p ≤ k) v2 ∧ Cell1 (p + 1) #[.pointer (some ⟨g, 0, none⟩)] 131 (fun k => p ≤ k) v2 ∧ WMap (p + 2) (valuesT p b) (fun k => p ≤ k) v2) := ⟨hp ▸ hb0.grown hg2 hb0.size (fun k e => by simp at e; omega), ⟨(hg2.block p (Array.getElem?_eq_some_iff.1 h4).1 (by simp)).trans h4, Nat.le_refl _⟩, ⟨(hg2.block (p + 1) (Array.getElem?_eq_some_iff.1 h5).1 (by simp)).trans h5, by omega⟩, m2⟩
  have hmm := @run_makeMap Tryz.prog
  rw [hp]
  clear hm0 hP hb0 h4 h5 hg0 m1 g1 hg1 m2 g2 hg2 
  subst hp
  go_enter Tryz.func95, Tryz.ntmps95
  go_wp2
  go_ret
  exact ⟨rfl, unhide HE⟩
def choicesT (b : Nat) : List (ByteArray × Value) := [(⟨#[111, 112, 116, 105, 111, 110]⟩, .func (.func 74) #[.pointer (some ⟨b, 0, none⟩)] #[]), (⟨#[103, 114, 111, 117, 112]⟩, .func (.func 74) #[.pointer (some ⟨b, 0, none⟩)] #[]), (⟨#[111, 112, 116, 105, 111, 110, 97, 108]⟩, .func (.func 74) #[.pointer (some ⟨b, 0, none⟩)] #[]), (⟨#[114, 101, 112, 101, 97, 116, 101, 100]⟩, .func (.func 74) #[.pointer (some ⟨b, 0, none⟩)] #[]), (⟨#[114, 101, 113, 117, 105, 114, 101, 100]⟩, .func (.func 74) #[.pointer (some ⟨b, 0, none⟩)] #[]), (⟨#[111, 110, 101, 111, 102]⟩, .func (.func 74) #[.pointer (some ⟨b, 0, none⟩)] #[]), (⟨#[109, 101, 115, 115, 97, 103, 101]⟩, .func (.func 74) #[.pointer (some ⟨b, 0, none⟩)] #[]), (⟨#[101, 110, 117, 109]⟩, .func (.func 74) #[.pointer (some ⟨b, 0, none⟩)] #[]), (⟨#[114, 101, 115, 101, 114, 118, 101, 100]⟩, .func (.func 74) #[.pointer (some ⟨b, 0, none⟩)] #[])]
set_option maxRecDepth 100000 in
set_option maxHeartbeats 4000000 in
theorem choices_any (w0 : World) (b : Nat) : Calls Tryz.prog 124 #[.pointer (some ⟨b, 0, none⟩)] w0 fun e w => e = .returned (.map (some w0.heap.size)) ∧ Below w0.heap.size w0 w ∧ WMap w0.heap.size (choicesT b) (fun k => w0.heap.size ≤ k) w := by
  have hb0 : Below w0.heap.size w0 (w0.alloc (.map #[] 0)) := (Below.refl _ _).alloc (Nat.le_refl _) _
  have hP := wmap_new w0
  have hg0 : (w0.alloc (.map #[] 0)).grownBy (w0.alloc (.map #[] 0)) (some w0.heap.size) := World.grownBy.refl _ _
  obtain ⟨v1, r1, m1, g1⟩ := run_insW hP ⟨#[111, 112, 116, 105, 111, 110]⟩ (.func (.func 74) #[.pointer (some ⟨b, 0, none⟩)] #[]) (by rfl)
  have hg1 := hg0.trans g1
  obtain ⟨v2, r2, m2, g2⟩ := run_insW m1 ⟨#[103, 114, 111, 117, 112]⟩ (.func (.func 74) #[.pointer (some ⟨b, 0, none⟩)] #[]) (by rfl)
  have hg2 := hg1.trans g2
  obtain ⟨v3, r3, m3, g3⟩ := run_insW m2 ⟨#[111, 112, 116, 105, 111, 110, 97, 108]⟩ (.func (.func 74) #[.pointer (some ⟨b, 0, none⟩)] #[]) (by rfl)
  have hg3 := hg2.trans g3
  obtain ⟨v4, r4, m4, g4⟩ := run_insW m3 ⟨#[114, 101, 112, 101, 97, 116, 101, 100]⟩ (.func (.func 74) #[.pointer (some ⟨b, 0, none⟩)] #[]) (by rfl)
  have hg4 := hg3.trans g4
  obtain ⟨v5, r5, m5, g5⟩ := run_insW m4 ⟨#[114, 101, 113, 117, 105, 114, 101, 100]⟩ (.func (.func 74) #[.pointer (some ⟨b, 0, none⟩)] #[]) (by rfl)
  have hg5 := hg4.trans g5
  obtain ⟨v6, r6, m6, g6⟩ := run_insW m5 ⟨#[111, 110, 101, 111, 102]⟩ (.func (.func 74) #[.pointer (some ⟨b, 0, none⟩)] #[]) (by rfl)
  have hg6 := hg5.trans g6
  obtain ⟨v7, r7, m7, g7⟩ := run_insW m6 ⟨#[109, 101, 115, 115, 97, 103, 101]⟩ (.func (.func 74) #[.pointer (some ⟨b, 0, none⟩)] #[]) (by rfl)
  have hg7 := hg6.trans g7
  obtain ⟨v8, r8, m8, g8⟩ := run_insW m7 ⟨#[101, 110, 117, 109]⟩ (.func (.func 74) #[.pointer (some ⟨b, 0, none⟩)] #[]) (by rfl)
  have hg8 := hg7.trans g8
  obtain ⟨v9, r9, m9, g9⟩ := run_insW m8 ⟨#[114, 101, 115, 101, 114, 118, 101, 100]⟩ (.func (.func 74) #[.pointer (some ⟨b, 0, none⟩)] #[]) (by rfl)
  have hg9 := hg8.trans g9
  have HE : Hid (Below w0.heap.size w0 v9 ∧ WMap w0.heap.size (choicesT b) (fun k => w0.heap.size ≤ k) v9) := ⟨hb0.grown hg9 hb0.size (fun k e => by simp at e; omega), m9⟩
  have hmm := @run_makeMap Tryz.prog
  clear hP hb0 hg0 m1 g1 hg1 m2 g2 hg2 m3 g3 hg3 m4 g4 hg4 m5 g5 hg5 m6 g6 hg6 m7 g7 hg7 m8 g8 hg8 m9 g9 hg9
  go_enter Tryz.func124, Tryz.ntmps124
  go_wp2
  go_ret
  exact ⟨rfl, unhide HE⟩
def membersT (p b : Nat) : List (ByteArray × Value) := [(⟨#[109, 101, 115, 115, 97, 103, 101]⟩, .func (.func 107) #[] #[.pointer (some ⟨p + 1, 0, none⟩), .pointer (some ⟨p, 0, none⟩)]), (⟨#[101, 110, 117, 109]⟩, .func (.func 108) #[] #[.pointer (some ⟨p + 1, 0, none⟩), .pointer (some ⟨p, 0, none⟩)]), (⟨#[111, 110, 101, 111, 102]⟩, .func (.func 109) #[] #[.pointer (some ⟨p, 0, none⟩), .pointer (some ⟨p + 1, 0, none⟩)]), (⟨#[114, 101, 115, 101, 114, 118, 101, 100]⟩, .func (.func 111) #[] #[.pointer (some ⟨p, 0, none⟩), .pointer (some ⟨p + 1, 0, none⟩)]), (⟨#[111, 112, 116, 105, 111, 110, 97, 108]⟩, .func (.func 113) #[] #[.pointer (some ⟨p + 1, 0, none⟩), .pointer (some ⟨p, 0, none⟩)]), (⟨#[114, 101, 112, 101, 97, 116, 101, 100]⟩, .func (.func 115) #[] #[.pointer (some ⟨p + 1, 0, none⟩), .pointer (some ⟨p, 0, none⟩)]), (⟨#[109, 97, 112]⟩, .func (.func 116) #[] #[.pointer (some ⟨p + 1, 0, none⟩), .pointer (some ⟨p, 0, none⟩)]), (⟨#[111, 112, 116, 105, 111, 110]⟩, .func (.func 74) #[.pointer (some ⟨b, 0, none⟩)] #[]), (⟨#[101, 120, 116, 101, 110, 100]⟩, .func (.func 74) #[.pointer (some ⟨b, 0, none⟩)] #[]), (⟨#[101, 120, 116, 101, 110, 115, 105, 111, 110, 115]⟩, .func (.func 74) #[.pointer (some ⟨b, 0, none⟩)] #[]), (⟨#[103, 114, 111, 117, 112]⟩, .func (.func 74) #[.pointer (some ⟨b, 0, none⟩)] #[]), (⟨#[114, 101, 113, 117, 105, 114, 101, 100]⟩, .func (.func 74) #[.pointer (some ⟨b, 0, none⟩)] #[])]
set_option maxRecDepth 100000 in
set_option maxHeartbeats 4000000 in
theorem members_any (w0 : World) (b g : Nat) : Calls Tryz.prog 92 #[.pointer (some ⟨b, 0, none⟩), .pointer (some ⟨g, 0, none⟩)] w0 fun e w => e = .returned (.map (some (w0.heap.size + 2))) ∧ Below w0.heap.size w0 w ∧ Cell1 w0.heap.size #[.pointer (some ⟨b, 0, none⟩)] 80 (fun k => w0.heap.size ≤ k) w ∧ Cell1 (w0.heap.size + 1) #[.pointer (some ⟨g, 0, none⟩)] 128 (fun k => w0.heap.size ≤ k) w ∧ WMap (w0.heap.size + 2) (membersT w0.heap.size b) (fun k => w0.heap.size ≤ k) w := by
  obtain ⟨p, hp⟩ : ∃ p, w0.heap.size = p := ⟨_, rfl⟩
  have hm0 := wmap_new ((w0.alloc (.cells #[.pointer (some ⟨b, 0, none⟩)] 80)).alloc (.cells #[.pointer (some ⟨g, 0, none⟩)] 128))
  have hb0 : Below w0.heap.size w0 (((w0.alloc (.cells #[.pointer (some ⟨b, 0, none⟩)] 80)).alloc (.cells #[.pointer (some ⟨g, 0, none⟩)] 128)).alloc (.map #[] 0)) := (((Below.refl _ _).alloc (Nat.le_refl _) _).alloc (by simp only [World.size_alloc]; omega) _).alloc (by simp only [World.size_alloc]; omega) _
  have h4 : (((w0.alloc (.cells #[.pointer (some ⟨b, 0, none⟩)] 80)).alloc (.cells #[.pointer (some ⟨g, 0, none⟩)] 128)).alloc (.map #[] 0)).heap[p]? = some (.cells #[.pointer (some ⟨b, 0, none⟩)] 80 (0, 0)) := by
    rw [← hp, Below.heap_alloc _ _ _ (by simp only [World.size_alloc]; omega), Below.heap_alloc _ _ _ (by simp only [World.size_alloc]; omega)]
    exact heap_new _ _
  have h5 : (((w0.alloc (.cells #[.pointer (some ⟨b, 0, none⟩)] 80)).alloc (.cells #[.pointer (some ⟨g, 0, none⟩)] 128)).alloc (.map #[] 0)).heap[p + 1]? = some (.cells #[.pointer (some ⟨g, 0, none⟩)] 128 (0, 0)) := by
    rw [← hp, Below.heap_alloc _ _ _ (by simp only [World.size_alloc]; omega)]
    have := heap_new (w0.alloc (.cells #[.pointer (some ⟨b, 0, none⟩)] 80)) (.cells #[.pointer (some ⟨g, 0, none⟩)] 128)
    simpa only [World.size_alloc] using this
  simp only [World.size_alloc, hp, Nat.add_assoc, Nat.reduceAdd] at hm0
  have hc0 : (((w0.alloc (.cells #[.pointer (some ⟨b, 0, none⟩)] 80)).alloc (.cells #[.pointer (some ⟨g, 0, none⟩)] 128)).alloc (.map #[] 0)).cell? ⟨p, 0, none⟩ = some (.pointer (some ⟨b, 0, none⟩)) := by rw [cell_of_row _ _ _ _ _ _ h4]; rfl
  have hP : WMap (p + 2) [] (fun k => p ≤ k) (((w0.alloc (.cells #[.pointer (some ⟨b, 0, none⟩)] 80)).alloc (.cells #[.pointer (some ⟨g, 0, none⟩)] 128)).alloc (.map #[] 0)) := ⟨hm0.1, by omega⟩
  have hg0 : (((w0.alloc (.cells #[.pointer (some ⟨b, 0, none⟩)] 80)).alloc (.cells #[.pointer (some ⟨g, 0, none⟩)] 128)).alloc (.map #[] 0)).grownBy (((w0.alloc (.cells #[.pointer (some ⟨b, 0, none⟩)] 80)).alloc (.cells #[.pointer (some ⟨g, 0, none⟩)] 128)).alloc (.map #[] 0)) (some (p + 2)) := World.grownBy.refl _ _
  obtain ⟨v1, r1, m1, g1⟩ := run_insW hP ⟨#[109, 101, 115, 115, 97, 103, 101]⟩ (.func (.func 107) #[] #[.pointer (some ⟨p + 1, 0, none⟩), .pointer (some ⟨p, 0, none⟩)]) (by rfl)
  have hg1 := hg0.trans g1
  have hc1 : v1.cell? ⟨p, 0, none⟩ = some (.pointer (some ⟨b, 0, none⟩)) := by rw [cell_of_row _ _ _ _ _ _ ((hg1.block p (Array.getElem?_eq_some_iff.1 h4).1 (by simp)).trans h4)]; rfl
  obtain ⟨v2, r2, m2, g2⟩ := run_insW m1 ⟨#[101, 110, 117, 109]⟩ (.func (.func 108) #[] #[.pointer (some ⟨p + 1, 0, none⟩), .pointer (some ⟨p, 0, none⟩)]) (by rfl)
  have hg2 := hg1.trans g2
  have hc2 : v2.cell? ⟨p, 0, none⟩ = some (.pointer (some ⟨b, 0, none⟩)) := by rw [cell_of_row _ _ _ _ _ _ ((hg2.block p (Array.getElem?_eq_some_iff.1 h4).1 (by simp)).trans h4)]; rfl
  obtain ⟨v3, r3, m3, g3⟩ := run_insW m2 ⟨#[111, 110, 101, 111, 102]⟩ (.func (.func 109) #[] #[.pointer (some ⟨p, 0, none⟩), .pointer (some ⟨p + 1, 0, none⟩)]) (by rfl)
  have hg3 := hg2.trans g3
  have hc3 : v3.cell? ⟨p, 0, none⟩ = some (.pointer (some ⟨b, 0, none⟩)) := by rw [cell_of_row _ _ _ _ _ _ ((hg3.block p (Array.getElem?_eq_some_iff.1 h4).1 (by simp)).trans h4)]; rfl
  obtain ⟨v4, r4, m4, g4⟩ := run_insW m3 ⟨#[114, 101, 115, 101, 114, 118, 101, 100]⟩ (.func (.func 111) #[] #[.pointer (some ⟨p, 0, none⟩), .pointer (some ⟨p + 1, 0, none⟩)]) (by rfl)
  have hg4 := hg3.trans g4
  have hc4 : v4.cell? ⟨p, 0, none⟩ = some (.pointer (some ⟨b, 0, none⟩)) := by rw [cell_of_row _ _ _ _ _ _ ((hg4.block p (Array.getElem?_eq_some_iff.1 h4).1 (by simp)).trans h4)]; rfl
  obtain ⟨v5, r5, m5, g5⟩ := run_insW m4 ⟨#[111, 112, 116, 105, 111, 110, 97, 108]⟩ (.func (.func 113) #[] #[.pointer (some ⟨p + 1, 0, none⟩), .pointer (some ⟨p, 0, none⟩)]) (by rfl)
  have hg5 := hg4.trans g5
  have hc5 : v5.cell? ⟨p, 0, none⟩ = some (.pointer (some ⟨b, 0, none⟩)) := by rw [cell_of_row _ _ _ _ _ _ ((hg5.block p (Array.getElem?_eq_some_iff.1 h4).1 (by simp)).trans h4)]; rfl
  obtain ⟨v6, r6, m6, g6⟩ := run_insW m5 ⟨#[114, 101, 112, 101, 97, 116, 101, 100]⟩ (.func (.func 115) #[] #[.pointer (some ⟨p + 1, 0, none⟩), .pointer (some ⟨p, 0, none⟩)]) (by rfl)
  have hg6 := hg5.trans g6
  have hc6 : v6.cell? ⟨p, 0, none⟩ = some (.pointer (some ⟨b, 0, none⟩)) := by rw [cell_of_row _ _ _ _ _ _ ((hg6.block p (Array.getElem?_eq_some_iff.1 h4).1 (by simp)).trans h4)]; rfl
  obtain ⟨v7, r7, m7, g7⟩ := run_insW m6 ⟨#[109, 97, 112]⟩ (.func (.func 116) #[] #[.pointer (some ⟨p + 1, 0, none⟩), .pointer (some ⟨p, 0, none⟩)]) (by rfl)
  have hg7 := hg6.trans g7
  have hc7 : v7.cell? ⟨p, 0, none⟩ = some (.pointer (some ⟨b, 0, none⟩)) := by rw [cell_of_row _ _ _ _ _ _ ((hg7.block p (Array.getElem?_eq_some_iff.1 h4).1 (by simp)).trans h4)]; rfl
  obtain ⟨v8, r8, m8, g8⟩ := run_insW m7 ⟨#[111, 112, 116, 105, 111, 110]⟩ (.func (.func 74) #[.pointer (some ⟨b, 0, none⟩)] #[]) (by rfl)
  have hg8 := hg7.trans g8
  have hc8 : v8.cell? ⟨p, 0, none⟩ = some (.pointer (some ⟨b, 0, none⟩)) := by rw [cell_of_row _ _ _ _ _ _ ((hg8.block p (Array.getElem?_eq_some_iff.1 h4).1 (by simp)).trans h4)]; rfl
  obtain ⟨v9, r9, m9, g9⟩ := run_insW m8 ⟨#[101, 120, 116, 101, 110, 100]⟩ (.func (.func 74) #[.pointer (some ⟨b, 0, none⟩)] #[]) (by rfl)
  have hg9 := hg8.trans g9
  have hc9 : v9.cell? ⟨p, 0, none⟩ = some (.pointer (some ⟨b, 0, none⟩)) := by rw [cell_of_row _ _ _ _ _ _ ((hg9.block p (Array.getElem?_eq_some_iff.1 h4).1 (by simp)).trans h4)]; rfl
  obtain ⟨v10, r10, m10, g10⟩ := run_insW m9 ⟨#[101, 120, 116, 101, 110, 115, 105, 111, 110, 115]⟩ (.func (.func 74) #[.pointer (some ⟨b, 0, none⟩)] #[]) (by rfl)
  have hg10 := hg9.trans g10
  have hc10 : v10.cell? ⟨p, 0, none⟩ = some (.pointer (some ⟨b, 0, none⟩)) := by rw [cell_of_row _ _ _ _ _ _ ((hg10.block p (Array.getElem?_eq_some_iff.1 h4).1 (by simp)).trans h4)]; rfl
  obtain ⟨v11, r11, m11, g11⟩ := run_insW m10 ⟨#[103, 114, 111, 117, 112]⟩ (.func (.func 74) #[.pointer (some ⟨b, 0, none⟩)] #[]) (by rfl)
  have hg11 := hg10.trans g11
  have hc11 : v11.cell? ⟨p, 0, none⟩ = some (.pointer (some ⟨b, 0, none⟩)) := by rw [cell_of_row _ _ _ _ _ _ ((hg11.block p (Array.getElem?_eq_some_iff.1 h4).1 (by simp)).trans h4)]; rfl
  obtain ⟨v12, r12, m12, g12⟩ := run_insW m11 ⟨#[114, 101, 113, 117, 105, 114, 101, 100]⟩ (.func (.func 74) #[.pointer (some ⟨b, 0, none⟩)] #[]) (by rfl)
  have hg12 := hg11.trans g12
  have hc12 : v12.cell? ⟨p, 0, none⟩ = some (.pointer (some ⟨b, 0, none⟩)) := by rw [cell_of_row _ _ _ _ _ _ ((hg12.block p (Array.getElem?_eq_some_iff.1 h4).1 (by simp)).trans h4)]; rfl
  have HE : Hid (Below p w0 v12 ∧ Cell1 p #[.pointer (some ⟨b, 0, none⟩)] 80 (fun k => p ≤ k) v12 ∧ Cell1 (p + 1) #[.pointer (some ⟨g, 0, none⟩)] 128 (fun k => p ≤ k) v12 ∧ WMap (p + 2) (membersT p b) (fun k => p ≤ k) v12) := ⟨hp ▸ hb0.grown hg12 hb0.size (fun k e => by simp at e; omega), ⟨(hg12.block p (Array.getElem?_eq_some_iff.1 h4).1 (by simp)).trans h4, Nat.le_refl _⟩, ⟨(hg12.block (p + 1) (Array.getElem?_eq_some_iff.1 h5).1 (by simp)).trans h5, by omega⟩, m12⟩
  have hmm := @run_makeMap Tryz.prog
  rw [hp]
  clear hm0 hP hb0 h4 h5 hg0 m1 g1 hg1 m2 g2 hg2 m3 g3 hg3 m4 g4 hg4 m5 g5 hg5 m6 g6 hg6 m7 g7 hg7 m8 g8 hg8 m9 g9 hg9 m10 g10 hg10 m11 g11 hg11 m12 g12 hg12 
  subst hp
  go_enter Tryz.func92, Tryz.ntmps92
  go_wp2
  go_ret
  exact ⟨rfl, unhide HE⟩
def topsT (p b : Nat) : List (ByteArray × Value) := [(⟨#[112, 97, 99, 107, 97, 103, 101]⟩, .func (.func 66) #[] #[.pointer (some ⟨p, 0, none⟩), .pointer (some ⟨p + 1, 0, none⟩)]), (⟨#[105, 109, 112, 111, 114, 116]⟩, .func (.func 68) #[] #[.pointer (some ⟨p + 1, 0, none⟩), .pointer (some ⟨p, 0, none⟩)]), (⟨#[109, 101, 115, 115, 97, 103, 101]⟩, .func (.func 70) #[] #[.pointer (some ⟨p + 1, 0, none⟩), .pointer (some ⟨p, 0, none⟩)]), (⟨#[101, 110, 117, 109]⟩, .func (.func 72) #[] #[.pointer (some ⟨p + 1, 0, none⟩), .pointer (some ⟨p, 0, none⟩)]), (⟨#[111, 112, 116, 105, 111, 110]⟩, .func (.func 74) #[.pointer (some ⟨b, 0, none⟩)] #[]), (⟨#[115, 101, 114, 118, 105, 99, 101]⟩, .func (.func 74) #[.pointer (some ⟨b, 0, none⟩)] #[]), (⟨#[101, 120, 116, 101, 110, 100]⟩, .func (.func 74) #[.pointer (some ⟨b, 0, none⟩)] #[])]
set_option maxRecDepth 100000 in
set_option maxHeartbeats 4000000 in
theorem tops_any (w0 : World) (b g : Nat) : Calls Tryz.prog 50 #[.pointer (some ⟨b, 0, none⟩), .pointer (some ⟨g, 0, none⟩)] w0 fun e w => e = .returned (.map (some (w0.heap.size + 2))) ∧ Below w0.heap.size w0 w ∧ Cell1 w0.heap.size #[.pointer (some ⟨b, 0, none⟩)] 80 (fun k => w0.heap.size ≤ k) w ∧ Cell1 (w0.heap.size + 1) #[.pointer (some ⟨g, 0, none⟩)] 104 (fun k => w0.heap.size ≤ k) w ∧ WMap (w0.heap.size + 2) (topsT w0.heap.size b) (fun k => w0.heap.size ≤ k) w := by
  obtain ⟨p, hp⟩ : ∃ p, w0.heap.size = p := ⟨_, rfl⟩
  have hm0 := wmap_new ((w0.alloc (.cells #[.pointer (some ⟨b, 0, none⟩)] 80)).alloc (.cells #[.pointer (some ⟨g, 0, none⟩)] 104))
  have hb0 : Below w0.heap.size w0 (((w0.alloc (.cells #[.pointer (some ⟨b, 0, none⟩)] 80)).alloc (.cells #[.pointer (some ⟨g, 0, none⟩)] 104)).alloc (.map #[] 0)) := (((Below.refl _ _).alloc (Nat.le_refl _) _).alloc (by simp only [World.size_alloc]; omega) _).alloc (by simp only [World.size_alloc]; omega) _
  have h4 : (((w0.alloc (.cells #[.pointer (some ⟨b, 0, none⟩)] 80)).alloc (.cells #[.pointer (some ⟨g, 0, none⟩)] 104)).alloc (.map #[] 0)).heap[p]? = some (.cells #[.pointer (some ⟨b, 0, none⟩)] 80 (0, 0)) := by
    rw [← hp, Below.heap_alloc _ _ _ (by simp only [World.size_alloc]; omega), Below.heap_alloc _ _ _ (by simp only [World.size_alloc]; omega)]
    exact heap_new _ _
  have h5 : (((w0.alloc (.cells #[.pointer (some ⟨b, 0, none⟩)] 80)).alloc (.cells #[.pointer (some ⟨g, 0, none⟩)] 104)).alloc (.map #[] 0)).heap[p + 1]? = some (.cells #[.pointer (some ⟨g, 0, none⟩)] 104 (0, 0)) := by
    rw [← hp, Below.heap_alloc _ _ _ (by simp only [World.size_alloc]; omega)]
    have := heap_new (w0.alloc (.cells #[.pointer (some ⟨b, 0, none⟩)] 80)) (.cells #[.pointer (some ⟨g, 0, none⟩)] 104)
    simpa only [World.size_alloc] using this
  simp only [World.size_alloc, hp, Nat.add_assoc, Nat.reduceAdd] at hm0
  have hc0 : (((w0.alloc (.cells #[.pointer (some ⟨b, 0, none⟩)] 80)).alloc (.cells #[.pointer (some ⟨g, 0, none⟩)] 104)).alloc (.map #[] 0)).cell? ⟨p, 0, none⟩ = some (.pointer (some ⟨b, 0, none⟩)) := by rw [cell_of_row _ _ _ _ _ _ h4]; rfl
  have hP : WMap (p + 2) [] (fun k => p ≤ k) (((w0.alloc (.cells #[.pointer (some ⟨b, 0, none⟩)] 80)).alloc (.cells #[.pointer (some ⟨g, 0, none⟩)] 104)).alloc (.map #[] 0)) := ⟨hm0.1, by omega⟩
  have hg0 : (((w0.alloc (.cells #[.pointer (some ⟨b, 0, none⟩)] 80)).alloc (.cells #[.pointer (some ⟨g, 0, none⟩)] 104)).alloc (.map #[] 0)).grownBy (((w0.alloc (.cells #[.pointer (some ⟨b, 0, none⟩)] 80)).alloc (.cells #[.pointer (some ⟨g, 0, none⟩)] 104)).alloc (.map #[] 0)) (some (p + 2)) := World.grownBy.refl _ _
  obtain ⟨v1, r1, m1, g1⟩ := run_insW hP ⟨#[112, 97, 99, 107, 97, 103, 101]⟩ (.func (.func 66) #[] #[.pointer (some ⟨p, 0, none⟩), .pointer (some ⟨p + 1, 0, none⟩)]) (by rfl)
  have hg1 := hg0.trans g1
  have hc1 : v1.cell? ⟨p, 0, none⟩ = some (.pointer (some ⟨b, 0, none⟩)) := by rw [cell_of_row _ _ _ _ _ _ ((hg1.block p (Array.getElem?_eq_some_iff.1 h4).1 (by simp)).trans h4)]; rfl
  obtain ⟨v2, r2, m2, g2⟩ := run_insW m1 ⟨#[105, 109, 112, 111, 114, 116]⟩ (.func (.func 68) #[] #[.pointer (some ⟨p + 1, 0, none⟩), .pointer (some ⟨p, 0, none⟩)]) (by rfl)
  have hg2 := hg1.trans g2
  have hc2 : v2.cell? ⟨p, 0, none⟩ = some (.pointer (some ⟨b, 0, none⟩)) := by rw [cell_of_row _ _ _ _ _ _ ((hg2.block p (Array.getElem?_eq_some_iff.1 h4).1 (by simp)).trans h4)]; rfl
  obtain ⟨v3, r3, m3, g3⟩ := run_insW m2 ⟨#[109, 101, 115, 115, 97, 103, 101]⟩ (.func (.func 70) #[] #[.pointer (some ⟨p + 1, 0, none⟩), .pointer (some ⟨p, 0, none⟩)]) (by rfl)
  have hg3 := hg2.trans g3
  have hc3 : v3.cell? ⟨p, 0, none⟩ = some (.pointer (some ⟨b, 0, none⟩)) := by rw [cell_of_row _ _ _ _ _ _ ((hg3.block p (Array.getElem?_eq_some_iff.1 h4).1 (by simp)).trans h4)]; rfl
  obtain ⟨v4, r4, m4, g4⟩ := run_insW m3 ⟨#[101, 110, 117, 109]⟩ (.func (.func 72) #[] #[.pointer (some ⟨p + 1, 0, none⟩), .pointer (some ⟨p, 0, none⟩)]) (by rfl)
  have hg4 := hg3.trans g4
  have hc4 : v4.cell? ⟨p, 0, none⟩ = some (.pointer (some ⟨b, 0, none⟩)) := by rw [cell_of_row _ _ _ _ _ _ ((hg4.block p (Array.getElem?_eq_some_iff.1 h4).1 (by simp)).trans h4)]; rfl
  obtain ⟨v5, r5, m5, g5⟩ := run_insW m4 ⟨#[111, 112, 116, 105, 111, 110]⟩ (.func (.func 74) #[.pointer (some ⟨b, 0, none⟩)] #[]) (by rfl)
  have hg5 := hg4.trans g5
  have hc5 : v5.cell? ⟨p, 0, none⟩ = some (.pointer (some ⟨b, 0, none⟩)) := by rw [cell_of_row _ _ _ _ _ _ ((hg5.block p (Array.getElem?_eq_some_iff.1 h4).1 (by simp)).trans h4)]; rfl
  obtain ⟨v6, r6, m6, g6⟩ := run_insW m5 ⟨#[115, 101, 114, 118, 105, 99, 101]⟩ (.func (.func 74) #[.pointer (some ⟨b, 0, none⟩)] #[]) (by rfl)
  have hg6 := hg5.trans g6
  have hc6 : v6.cell? ⟨p, 0, none⟩ = some (.pointer (some ⟨b, 0, none⟩)) := by rw [cell_of_row _ _ _ _ _ _ ((hg6.block p (Array.getElem?_eq_some_iff.1 h4).1 (by simp)).trans h4)]; rfl
  obtain ⟨v7, r7, m7, g7⟩ := run_insW m6 ⟨#[101, 120, 116, 101, 110, 100]⟩ (.func (.func 74) #[.pointer (some ⟨b, 0, none⟩)] #[]) (by rfl)
  have hg7 := hg6.trans g7
  have hc7 : v7.cell? ⟨p, 0, none⟩ = some (.pointer (some ⟨b, 0, none⟩)) := by rw [cell_of_row _ _ _ _ _ _ ((hg7.block p (Array.getElem?_eq_some_iff.1 h4).1 (by simp)).trans h4)]; rfl
  have HE : Hid (Below p w0 v7 ∧ Cell1 p #[.pointer (some ⟨b, 0, none⟩)] 80 (fun k => p ≤ k) v7 ∧ Cell1 (p + 1) #[.pointer (some ⟨g, 0, none⟩)] 104 (fun k => p ≤ k) v7 ∧ WMap (p + 2) (topsT p b) (fun k => p ≤ k) v7) := ⟨hp ▸ hb0.grown hg7 hb0.size (fun k e => by simp at e; omega), ⟨(hg7.block p (Array.getElem?_eq_some_iff.1 h4).1 (by simp)).trans h4, Nat.le_refl _⟩, ⟨(hg7.block (p + 1) (Array.getElem?_eq_some_iff.1 h5).1 (by simp)).trans h5, by omega⟩, m7⟩
  have hmm := @run_makeMap Tryz.prog
  rw [hp]
  clear hm0 hP hb0 h4 h5 hg0 m1 g1 hg1 m2 g2 hg2 m3 g3 hg3 m4 g4 hg4 m5 g5 hg5 m6 g6 hg6 m7 g7 hg7 
  subst hp
  go_enter Tryz.func50, Tryz.ntmps50
  go_wp2
  go_ret
  exact ⟨rfl, unhide HE⟩
end Go.Proofs.YtdhncpeemcanlaaGreatDoor
