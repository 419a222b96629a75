import Derived.Test.YtoojchjfmnbdpabDoorDSh
namespace Go.Proofs.YtoojchjfmnbdpabDoor
open Go.RowKit
attribute [local go_sem ↓] Go.wp_at_zero Go.wp_at_succ

/-- The first state, as it is laid. -/
def HasS (W : World) : Prop := 0 < W.heap.size ∧ ∀ (i k : Nat), st0.list[i]? = some k → W.cell? ⟨0, i, none⟩ = some (.int .u32 (k : Int))
theorem HasS.up {W w : World} (h : HasS W) (hb : Below W.heap.size W w) : HasS w := ⟨Nat.lt_of_lt_of_le h.1 hb.size, fun i t hi => (hb.cell (p := ⟨0, i, none⟩) h.1).trans (h.2 i t hi)⟩

def Z59 : Array Value := (nw (List.replicate 8 0) ++ (nb (List.replicate 64 0) ++ [Value.int .i64 0])).toArray
theorem Z59_size : Z59.size = 73 := by rfl
theorem zero59 (w : World) : (zeroValue 65).run Tryd.prog w = .ok (.agg Z59) w := by
  have h : (Tryd.prog.info? 65).map (·.zero) = some (some (.agg Z59)) := by kernel_rfl
  obtain ⟨i, hi, hz⟩ := Option.map_eq_some_iff.1 h
  simp [zeroValue, typeInfo, hi, hz]
theorem Z59_st0 : ((((((((Z59.setIfInBounds 0 (.int .u32 1779033703)).setIfInBounds 1 (.int .u32 3144134277)).setIfInBounds 2 (.int .u32 1013904242)).setIfInBounds 3 (.int .u32 2773480762)).setIfInBounds 4 (.int .u32 1359893119)).setIfInBounds 5 (.int .u32 2600822924)).setIfInBounds 6 (.int .u32 528734635)).setIfInBounds 7 (.int .u32 1541459225)) = (hashCells (stOf []) (List.replicate 64 0) 0).toArray := by rfl
set_option maxRecDepth 100000 in
set_option maxHeartbeats 1000000 in
theorem new_any {W : World} (hS : HasS W) : Calls Tryd.prog 10 #[] W fun e W' => e = .returned (.pointer (some ⟨W.heap.size, 0, none⟩)) ∧ HashAt W' W.heap.size [] ∧ Below W.heap.size W W' := by
  have c0 := hS.2 0 _ rfl
  have c1 := hS.2 1 _ rfl
  have c2 := hS.2 2 _ rfl
  have c3 := hS.2 3 _ rfl
  have c4 := hS.2 4 _ rfl
  have c5 := hS.2 5 _ rfl
  have c6 := hS.2 6 _ rfl
  have c7 := hS.2 7 _ rfl
  simp only [st0] at c0 c1 c2 c3 c4 c5 c6 c7
  have zv := zero59
  have hzs := Z59_size
  obtain ⟨Z, hZ⟩ : ∃ Z, Z = Z59 := ⟨_, rfl⟩
  have hst := Z59_st0
  rw [← hZ] at zv hzs hst
  have Hst := hide hst
  clear hZ hst
  go_enter Tryd.func10, Tryd.ntmps10
  go_wp2
  go_ret
  refine ⟨rfl, ⟨List.replicate 64 0, rfl, ?_, rfl, ?_⟩, (Below.refl _ _).alloc (Nat.le_refl _) _⟩
  · intro x hx
    rw [List.mem_replicate] at hx
    omega
  · rw [heap_new]
    exact congrArg (fun c => some (Obj.cells c 65 (0, 0))) (unhide Hst)
set_option maxRecDepth 100000 in
set_option maxHeartbeats 1000000 in
theorem fork_any {W : World} {h : Nat} {L : List Nat} (hH : HashAt W h L) : Calls Tryd.prog 11 #[.pointer (some ⟨h, 0, none⟩)] W fun e W' => e = .returned (.pointer (some ⟨W.heap.size, 0, none⟩)) ∧ HashAt W' W.heap.size L ∧ Below W.heap.size W W' := by
  obtain ⟨r, hr, hrb, hrt, hb⟩ := hH
  have hif : (Tryd.prog.info? 65).map (·.size) = some 73 := by kernel_rfl
  obtain ⟨C, hC⟩ : ∃ C, (hashCells (stOf L) r L.length).toArray = C := ⟨_, rfl⟩
  have hCs : C.size = 73 := by rw [← hC]; simp [hash_len _ _ _ hr]
  rw [hC] at hb
  have hifC : (Tryd.prog.info? 65).map (·.size) = some C.size := by rw [hCs]; exact hif
  have hC1 : C.all (·.oneCell') = true := by
    rw [← hC]
    refine all_oneCell_toArray fun v hv => ?_
    unfold hashCells at hv
    rcases List.mem_append.1 hv with q | q
    · obtain ⟨b, _, rfl⟩ := List.mem_map.1 q; rfl
    · rcases List.mem_append.1 q with q | q
      · exact nb_one r v q
      · rw [List.mem_singleton] at q; rw [q]; rfl
  have zv := zero59
  have hzs := Z59_size
  obtain ⟨Z, hZ⟩ : ∃ Z, Z = Z59 := ⟨_, rfl⟩
  rw [← hZ] at zv hzs
  obtain ⟨X, hX⟩ : ∃ X : World, X = W.alloc (.cells Z 65) := ⟨_, rfl⟩
  have hXn : X.heap[W.heap.size]? = some (.cells Z 65 (0, 0)) := by rw [hX]; exact heap_new _ _
  have hXb : Below W.heap.size W X := by rw [hX]; exact (Below.refl _ _).alloc (Nat.le_refl _) _
  have HX := hide hX
  have HC := hide hC
  clear hX hZ hC
  go_enter Tryd.func11, Tryd.ntmps11
  go_wp2_with (first
    | (refine wpList_load_row rfl 65 (.tmp 5) rfl h rfl 65 C (0, 0) _ hb Tryd.underlying65 rfl hifC ?_)
    | (rw [← unhide HX]; refine wpList_store_row rfl 65 (.tmp 3) (.tmp 6) rfl W.heap.size C rfl rfl 65 Z hXn hifC (by rw [hzs, hCs]) hC1 ?_))
  go_ret
  refine ⟨rfl, ⟨r, hr, hrb, hrt, ?_⟩, below_setRow hXb (Nat.le_refl _) _⟩
  rw [unhide HC]
  exact setRow_heap X _ _ _ _ _ hXn
end Go.Proofs.YtoojchjfmnbdpabDoor
