import Derived.Test.YtaadpiimcaabkaaGreatDoorJ35
import Derived.Test.YtaadpiimcaabkaaGreatDoorJ18
import Derived.Deep.MidRow
import Derived.Laws.Rows

namespace Go.Proofs.YtaadpiimcaabkaaGreatDoor
open Go.RowKit

theorem lessJ_some {n : Nat} {x y : Int} (h : lessJ n x = some y) : y = x - n ∧ 0 ≤ y := by
  unfold lessJ at h
  split at h
  · obtain rfl := Option.some.inj h; exact ⟨rfl, by assumption⟩
  · cases h
/-- A oneof's number is one of a oneof. -/
theorem onG_in : ∀ (l : List Fd) (h b r : Int), onG l h b = some r → (h = 0 ∨ (1 ≤ h ∧ h ≤ b)) → 0 ≤ b → ∀ d ∈ l, d.oneof ≠ 0 → 1 ≤ d.oneof ∧ d.oneof ≤ r
  | [], _, _, _, _, _, _, d, hd, _ => by simp at hd
  | c :: l, h, b, r, e, hh, hb, d, hd, hd0 => by
    unfold onG at e
    split at e
    · rename_i hc
      split at e
      · cases e
      · rename_i hc2
        have hc3 : c.oneof = b + 1 := by simpa using hc2
        have hle := onG_le l _ _ _ e
        rcases List.mem_cons.1 hd with rfl | hm
        · omega
        · exact onG_in l _ _ _ e (.inr (by omega)) (by omega) d hm hd0
    · rename_i hc
      have hle := onG_le l _ _ _ e
      rcases List.mem_cons.1 hd with rfl | hm
      · by_cases hz : d.oneof = h
        · rcases hh with h0 | h0 <;> omega
        · exact absurd ⟨hd0, hz⟩ hc
      · refine onG_in l _ _ _ e ?_ hb d hm hd0
        by_cases hz : c.oneof = 0
        · exact .inl hz
        · by_cases hz2 : c.oneof = h
          · rcases hh with h0 | h0
            · omega
            · exact .inr (by omega)
          · exact absurd ⟨hz, hz2⟩ hc
theorem onB_in {l : List Fd} {n : Nat} (h : onB l n = true) : ∀ d ∈ l, d.oneof ≠ 0 → 1 ≤ d.oneof ∧ d.oneof ≤ n := by
  unfold onB at h
  split at h
  · cases h
  · rename_i b hb
    have : b = (n : Int) := by simpa using h
    subst this
    exact onG_in l 0 0 _ hb (.inl rfl) (Int.le_refl _)
theorem grps_flat (l : List Fd) : ∀ i, i ≤ l.length → (grps (l.take i)).flatten = l.take i := by
  intro i
  induction i with
  | zero => intro _; simp [grps]
  | succ i ih =>
    intro h
    have hi : i < l.length := by omega
    have h2 := ih (by omega)
    rw [grps_take (List.getElem?_eq_getElem hi), take_app (List.getElem?_eq_getElem hi)]
    obtain ⟨gs, hgs⟩ : ∃ gs, grps (l.take i) = gs := ⟨_, rfl⟩
    rw [hgs] at h2 ⊢
    unfold grpS
    split
    · rename_i hc
      unfold grpC at hc
      have hne : gs ≠ [] := by rintro rfl; simp at hc
      obtain ⟨G, r, rfl⟩ : ∃ r G, gs = r ++ [G] := ⟨_, _, (List.dropLast_concat_getLast hne).symm⟩
      rw [← h2]
      simp
    · rw [List.flatten_append, h2]
      simp
theorem grps_flat' (l : List Fd) : (grps l).flatten = l := by
  have := grps_flat l l.length (Nat.le_refl _)
  rwa [List.take_length] at this
theorem grps_ne (l : List Fd) : ∀ G ∈ grps l, G ≠ [] ∧ ∀ d ∈ G, d ∈ l := by
  have := grps_mem l l.length (Nat.le_refl _)
  rwa [List.take_length] at this
theorem grpL_len {n : Nat} (hn : n ≤ 99) {os : List ByteArray} (ho : ∀ s ∈ os, s.size ≤ 255) {G : List Fd} (hG : G ≠ []) (hf : ∀ d ∈ G, fieldB d = true) : (grpL n os G).length ≤ 4000 * G.length := by
  unfold grpL
  split
  · exact absurd rfl hG
  · rename_i d r
    have h1 : 1 ≤ (d :: r).length := by simp
    have q0 := flat_bd (g := fieldL n) (k := 2000) (d :: r) (fun x hx => fieldL_len (by omega) (hf x hx))
    have q1 := flat_bd (g := fieldL (n + 1)) (k := 2000) (d :: r) (fun x hx => fieldL_len (by omega) (hf x hx))
    split
    · have hb : (os.getD (d.oneof.toNat - 1) ⟨#[]⟩).size ≤ 255 := by
        rw [List.getD_eq_getElem?_getD]
        cases e : os[d.oneof.toNat - 1]? with
        | none => exact Nat.zero_le _
        | some s => exact ho s (List.mem_of_getElem? e)
      have := blkL_len (n := n) (by omega) (a := sOneof) (by decide) hb ((d :: r).flatMap (fieldL (n + 1)))
      omega
    · omega
theorem grpsL_len {n : Nat} (hn : n ≤ 99) {os : List ByteArray} (ho : ∀ s ∈ os, s.size ≤ 255) : ∀ (gs : List (List Fd)), (∀ G ∈ gs, G ≠ [] ∧ ∀ d ∈ G, fieldB d = true) → (gs.flatMap (grpL n os)).length ≤ 4000 * gs.flatten.length
  | [], _ => by simp
  | G :: r, h => by
    have ih := grpsL_len hn ho r (fun K hK => h K (List.mem_cons_of_mem _ hK))
    have h1 := grpL_len hn ho (h G (List.mem_cons_self ..)).1 (h G (List.mem_cons_self ..)).2
    rw [List.flatMap_cons, List.length_append, List.flatten_cons, List.length_append, Nat.mul_add]
    omega
theorem allL_cost {α : Type} {q : α → Int → Option Int} {g : α → List Nat} {P : α → Prop} : ∀ (l : List α), (∀ a ∈ l, ∀ x y, x ≤ 4096 → q a x = some y → P a ∧ (0 ≤ x → 0 ≤ y) ∧ y ≤ x ∧ ((g a).length : Int) ≤ 2000 + 4000 * (x - y)) → ∀ x y, x ≤ 4096 → allL q l x = some y → (∀ a ∈ l, P a) ∧ (0 ≤ x → 0 ≤ y) ∧ y ≤ x ∧ ((l.flatMap g).length : Int) ≤ 2000 * l.length + 4000 * (x - y)
  | [], _, x, y, _, e => by
    obtain rfl := Option.some.inj e
    refine ⟨fun a ha => by simp at ha, id, Int.le_refl _, by simp⟩
  | a :: r, h, x, y, hx, e => by
    unfold allL at e
    cases hq : q a x with
    | none => rw [hq] at e; cases e
    | some z =>
      rw [hq] at e
      obtain ⟨p1, p2, p3, p4⟩ := h a (List.mem_cons_self ..) x z hx hq
      obtain ⟨r1, r2, r3, r4⟩ := allL_cost r (fun b hb => h b (List.mem_cons_of_mem _ hb)) z y (by omega) e
      refine ⟨fun b hb => ?_, fun h0 => r2 (p2 h0), by omega, ?_⟩
      · rcases List.mem_cons.1 hb with rfl | hb
        · exact p1
        · exact r1 b hb
      · rw [List.flatMap_cons, List.length_append, List.length_cons]
        push_cast
        omega
theorem enL_cost {n : Nat} (hn : n ≤ 99) (e : En) (x y : Int) (hx : x ≤ 4096) (h : enumJ e x = some y) : (OkE e ∧ enumOk e = true) ∧ (0 ≤ x → 0 ≤ y) ∧ y ≤ x ∧ ((enL n e).length : Int) ≤ 2000 + 4000 * (x - y) := by
  unfold enumJ at h
  split at h
  · cases h
  · rename_i x1 hl
    obtain ⟨rfl, h0⟩ := lessJ_some hl
    split at h
    · rename_i hok
      obtain rfl := Option.some.inj h
      obtain ⟨k1, k2, k3⟩ := enum_len (n := n + 1) (by omega) hok ⟨by omega, by omega⟩
      have k4 := blkL_len (n := n) (by omega) (a := sEnum) (by decide) k2 (valsL (n + 1) e)
      refine ⟨⟨k1, hok⟩, fun _ => h0, by omega, ?_⟩
      unfold enL
      omega
    · cases h
/-- What a right message keeps. -/
def RtM : Nat → Ms → Prop
  | 0, _ => False
  | f + 1, .mk nm fs os ms es rs gs => msOk nm fs os rs gs = true ∧ (∀ m ∈ ms, RtM f m) ∧ ∀ e ∈ es, enumOk e = true
theorem ms_cost : ∀ (f n : Nat), n + f ≤ 90 → ∀ (m : Ms) (x y : Int), x ≤ 4096 → msJ f m x = some y → (OkM f m ∧ RtM f m ∧ m.nm.size ≤ 255) ∧ (0 ≤ x → 0 ≤ y) ∧ y ≤ x ∧ ((memL f n m).length : Int) ≤ 4000 * (x - y)
  | 0, _, _, _, _, _, _, e => by cases e
  | f + 1, n, hn, .mk nm fs os ms es rs gs, x, y, hx, e => by
    unfold msJ at e
    split at e
    · cases e
    · rename_i x1 hl
      obtain ⟨rfl, h0⟩ := lessJ_some hl
      split at e
      · rename_i hok
        have hok0 := hok
        unfold msOk at hok
        simp only [Bool.and_eq_true] at hok
        obtain ⟨⟨⟨⟨⟨h1, h2⟩, h3⟩, h4⟩, h5⟩, h6⟩ := hok
        have hfs : ∀ d ∈ fs, fieldB d = true := fun d hd => List.all_eq_true.1 h3 d hd
        have hos : ∀ s ∈ os, s.size ≤ 255 := fun s hs => word_size (List.all_eq_true.1 h2 s hs)
        have hgs : ∀ s ∈ gs, s.size ≤ 255 := fun s hs => word_size (List.all_eq_true.1 h6 s hs)
        have hrs := row_ok (by decide) (by decide) h5
        split at e
        · cases e
        · rename_i x2 hm
          obtain ⟨m1, m2, m3, m4⟩ := allL_cost (P := fun m => OkM f m ∧ RtM f m) (g := fun m => blkL n sMessage m.nm (memL f (n + 1) m)) ms (fun m _ u v hu hv => by
            obtain ⟨⟨p1, p2, p3⟩, p4, p5, p6⟩ := ms_cost f (n + 1) (by omega) m u v hu hv
            have := blkL_len (n := n) (by omega) (a := sMessage) (by decide) p3 (memL f (n + 1) m)
            exact ⟨⟨p1, p2⟩, p4, p5, by omega⟩) _ _ (by omega) hm
          obtain ⟨e1, e2, e3, e4⟩ := allL_cost (P := fun e => OkE e ∧ enumOk e = true) (g := enL n) es (fun d _ u v hu hv => enL_cost (by omega) d u v hu hv) _ _ (by omega) e
          have g1 := grpsL_len (n := n) (by omega) hos (grps fs) (fun G hG => ⟨(grps_ne fs G hG).1, fun d hd => hfs d ((grps_ne fs G hG).2 d hd)⟩)
          rw [grps_flat'] at g1
          have r1 := rsvL_len (n := n) (by omega) (most := 536870911) hrs hgs
          refine ⟨⟨⟨⟨by omega, by omega, by omega⟩, fun d hd => ⟨(field_ok (hfs d hd)).1, onB_in h4 d hd⟩, hrs, fun s hs => by have := hgs s hs; omega, fun m hm => (m1 m hm).1, fun d hd => (e1 d hd).1⟩, ⟨hok0, fun m hm => (m1 m hm).2, fun d hd => (e1 d hd).2⟩, word_size h1⟩, fun _ => e2 (m2 h0), by omega, ?_⟩
          unfold memL
          simp only [List.length_append]
          push_cast
          omega
      · cases e
/-- A right file. -/
structure RtF (F : Fl) : Prop where
  pk : F.pkg.toList.isEmpty = true ∨ namesB F.pkg = true
  im : ∀ s ∈ F.imps, importB s = true
  ms : ∀ m ∈ F.ms, RtM 32 m
  es : ∀ e ∈ F.es, enumOk e = true
/-- What can be said of a file that may be. -/
theorem file_cost {F : Fl} (h : (fileJ F).isSome = true) : RtF F ∧ F.imps.length ≤ 4096 ∧ (∀ s ∈ F.imps, s.size ≤ 1048576) ∧ (∀ m ∈ F.ms, OkM 32 m) ∧ (∀ e ∈ F.es, OkE e) ∧ (fileL F).length ≤ 1099511627776 := by
  obtain ⟨y, hy⟩ := Option.isSome_iff_exists.1 h
  unfold fileJ at hy
  split at hy
  · rename_i hpk
    simp only [Bool.or_eq_true] at hpk
    split at hy
    · cases hy
    · rename_i x1 hl
      obtain ⟨rfl, h0⟩ := lessJ_some hl
      split at hy
      · rename_i him
        split at hy
        · cases hy
        · rename_i x2 hm
          obtain ⟨m1, m2, m3, m4⟩ := allL_cost (P := fun m => OkM 32 m ∧ RtM 32 m) (g := fun m => blkL 0 sMessage m.nm (memL 32 (0 + 1) m)) F.ms (fun m _ u v hu hv => by
            obtain ⟨⟨p1, p2, p3⟩, p4, p5, p6⟩ := ms_cost 32 (0 + 1) (by omega) m u v hu hv
            have := blkL_len (n := 0) (by omega) (a := sMessage) (by decide) p3 (memL 32 (0 + 1) m)
            exact ⟨⟨p1, p2⟩, p4, p5, by omega⟩) _ _ (by omega) hm
          obtain ⟨e1, e2, e3, e4⟩ := allL_cost (P := fun e => OkE e ∧ enumOk e = true) (g := enL 0) F.es (fun d _ u v hu hv => enL_cost (by omega) d u v hu hv) _ _ (by omega) hy
          have hims : ∀ s ∈ F.imps, importB s = true := fun s hs => List.all_eq_true.1 him s hs
          have hiz : ∀ s ∈ F.imps, s.size ≤ 255 := fun s hs => by
            have := hims s hs
            unfold importB at this
            simp only [Bool.and_eq_true, decide_eq_true_eq] at this
            omega
          have i1 := flat_bd (g := impL) (k := 2000) F.imps (fun s hs => by
            unfold impL
            rw [lineL_len]
            simp only [List.map_cons, List.map_nil, List.sum_cons, List.sum_nil]
            have e1 : sImport.size = 7 := rfl
            have e2 : sSemi.size = 1 := rfl
            have := quoteB_size (hiz s hs)
            omega)
          have p1 : (pkgL F.pkg).length ≤ 2000 := by
            unfold pkgL
            split
            · simp
            · rename_i hne
              have := names_size (hpk.resolve_left hne)
              rw [lineL_len]
              simp only [List.map_cons, List.map_nil, List.sum_cons, List.sum_nil]
              have e1 : sPackage.size = 8 := rfl
              have e2 : sSemi.size = 1 := rfl
              omega
          have s1 : (lineL 0 [sSyntax]).length = 19 := rfl
          refine ⟨⟨hpk, hims, fun m hm => (m1 m hm).2, fun d hd => (e1 d hd).2⟩, by omega, fun s hs => by have := hiz s hs; omega, fun m hm => (m1 m hm).1, fun d hd => (e1 d hd).1, ?_⟩
          have n2 := m2 h0
          have n3 := e2 n2
          unfold fileL innL
          simp only [List.length_append]
          omega
      · cases hy
  · cases hy
theorem flat_byt {α : Type} {g : α → List Nat} {l : List α} (h : ∀ a ∈ l, Byt (g a)) : Byt (l.flatMap g) := fun x hx => by
  obtain ⟨a, ha, hxa⟩ := List.mem_flatMap.1 hx
  exact h a ha x hxa
theorem resL_byt (n : Nat) (ts : List ByteArray) : Byt (resL n ts) := by
  unfold resL
  split
  · exact lineL_byt _ _
  · exact fun x hx => by simp at hx
theorem rsvL_byt (n : Nat) (m : Int) (rs : List (Int × Int)) (gs : List ByteArray) : Byt (rsvL n m rs gs) := (resL_byt _ _).append (resL_byt _ _)
theorem blkL_byt {n : Nat} {a b : ByteArray} {I : List Nat} (h : Byt I) : Byt (blkL n a b I) := ((lineL_byt _ _).append h).append (lineL_byt _ _)
theorem enL_byt (n : Nat) (e : En) : Byt (enL n e) := blkL_byt ((rsvL_byt _ _ _ _).append (flat_byt fun _ _ => lineL_byt _ _))
theorem grpL_byt (n : Nat) (os : List ByteArray) (G : List Fd) : Byt (grpL n os G) := by
  unfold grpL
  split
  · exact fun x hx => by simp at hx
  · split
    · exact blkL_byt (flat_byt fun _ _ => lineL_byt _ _)
    · exact flat_byt fun _ _ => lineL_byt _ _
theorem memL_byt : ∀ (f n : Nat) (m : Ms), Byt (memL f n m)
  | 0, _, _ => fun x hx => by unfold memL at hx; simp at hx
  | f + 1, n, .mk nm fs os ms es rs gs => by
    unfold memL
    exact ((rsvL_byt _ _ _ _).append (flat_byt fun _ _ => grpL_byt _ _ _)).append ((flat_byt fun m _ => blkL_byt (memL_byt f (n + 1) m)).append (flat_byt fun _ _ => enL_byt _ _))
theorem fileL_byt (F : Fl) : Byt (fileL F) := by
  unfold fileL innL
  refine (((lineL_byt _ _).append ?_).append (flat_byt fun _ _ => lineL_byt _ _)).append ((flat_byt fun m _ => blkL_byt (memL_byt _ _ m)).append (flat_byt fun _ _ => enL_byt _ _))
  unfold pkgL
  split
  · exact fun x hx => by simp at hx
  · exact lineL_byt _ _
end Go.Proofs.YtaadpiimcaabkaaGreatDoor

namespace Go.Proofs.YtaadpiimcaabkaaGreatDoor
open Go.RowKit
attribute [local go_sem ↓] Go.wp_at_zero Go.wp_at_succ

/-- A block that is written from a place on. -/
def written : Array Value → Nat → List Value → Array Value
  | cs, _, [] => cs
  | cs, o, v :: vs => written (cs.setIfInBounds o v) (o + 1) vs
theorem heap_setCells {t : TypeId} {g : Nat} : ∀ (vs : List Value) (o : Nat) (w : World) (cs : Array Value), w.heap[g]? = some (.cells cs t (0, 0)) → (w.setCells g o vs).heap[g]? = some (.cells (written cs o vs) t (0, 0)) ∧ (∀ b, b ≠ g → (w.setCells g o vs).heap[b]? = w.heap[b]?)
  | [], _, _, _, h => ⟨h, fun _ _ => rfl⟩
  | v :: vs, o, w, cs, h => by
    obtain ⟨h1, h2⟩ := heap_setCells vs (o + 1) (w.setCell ⟨g, o, none⟩ v) (cs.setIfInBounds o v) (heap_setCell_same w g o cs t v h)
    exact ⟨h1, fun b hb => (h2 b hb).trans (heap_setCell_other w _ b v hb)⟩
theorem below_setCells {n g : Nat} {A : World} (hg : n ≤ g) : ∀ (vs : List Value) (o : Nat) (w : World), Below n A w → Below n A (w.setCells g o vs)
  | [], _, _, h => h
  | v :: vs, o, _, h => below_setCells hg vs (o + 1) _ (h.setCell (p := ⟨g, o, none⟩) hg v)
theorem size_setCells {g : Nat} : ∀ (vs : List Value) (o : Nat) (w : World), (w.setCells g o vs).heap.size = w.heap.size
  | [], _, _ => rfl
  | _ :: vs, o, w => (size_setCells vs (o + 1) _).trans (World.size_setCell w _ _)
/-- The table of what is done, by class. -/
def stepCells : List Value := [.func (.func 136) #[] #[], .func (.func 138) #[] #[], .func (.func 139) #[] #[], .func (.func 142) #[] #[], .func (.func 144) #[] #[], .func (.func 146) #[] #[], .func (.func 147) #[] #[]]
theorem Tryz.infoSteps : (Tryz.prog.info? 137).map (·.size) = some stepCells.toArray.size := by kernel_rfl
theorem stepOne : stepCells.toArray.all (·.oneCell') = true := by decide +kernel
/-- The function of a class. -/
def tabF : Nat → Nat
  | 0 => 136 | 1 => 138 | 2 => 139 | 3 => 142 | 4 => 144 | 5 => 146 | _ => 147
theorem tab_cells : ∀ c, c < 7 → stepCells[c]? = some (.func (.func (tabF c)) #[] #[])
  | 0, _ => rfl | 1, _ => rfl | 2, _ => rfl | 3, _ => rfl | 4, _ => rfl | 5, _ => rfl | 6, _ => rfl
  | _ + 7, h => by omega
def nils : Array Value := #[.nilFunc, .nilFunc, .nilFunc, .nilFunc, .nilFunc, .nilFunc, .nilFunc]
theorem there7 (W : World) : (W.alloc (.cells #[.nilFunc, .nilFunc, .nilFunc, .nilFunc, .nilFunc, .nilFunc, .nilFunc] 137)).there W.heap.size 0 stepCells.toArray.size := by
  intro j hj
  have hb := heap_alloc_new W (.cells #[.nilFunc, .nilFunc, .nilFunc, .nilFunc, .nilFunc, .nilFunc, .nilFunc] 137)
  refine ⟨?_, frozen_of_row _ _ _ _ _ hb⟩
  rw [Nat.zero_add, cell_of_row _ _ _ _ _ _ hb]
  have hj' : j < 7 := hj
  simp
  omega
set_option maxRecDepth 100000 in
set_option maxHeartbeats 2000000 in
theorem steps_any (W : World) : Calls Tryz.prog 94 #[] W fun e W' => e = .returned (.agg stepCells.toArray) ∧ Below W.heap.size W W' := by
  have hth := there7 W
  go_enter Tryz.func94, Tryz.ntmps94
  go_wp2_with (refine wpList_store_mid rfl 137 (.tmp 0) (.tmp 1) rfl W.heap.size 0 stepCells.toArray rfl rfl hth Tryz.infoSteps stepOne ?_)
  obtain ⟨hw1, hw2⟩ := heap_setCells (t := 137) (g := W.heap.size) stepCells 0 (W.alloc (.cells #[.nilFunc, .nilFunc, .nilFunc, .nilFunc, .nilFunc, .nilFunc, .nilFunc] 137)) #[.nilFunc, .nilFunc, .nilFunc, .nilFunc, .nilFunc, .nilFunc, .nilFunc] (heap_alloc_new W _)
  have hw3 : written #[.nilFunc, .nilFunc, .nilFunc, .nilFunc, .nilFunc, .nilFunc, .nilFunc] 0 stepCells = stepCells.toArray := by rfl
  rw [hw3] at hw1
  have hB : Below W.heap.size W ((W.alloc (.cells #[.nilFunc, .nilFunc, .nilFunc, .nilFunc, .nilFunc, .nilFunc, .nilFunc] 137)).setCells W.heap.size 0 stepCells) := below_setCells (Nat.le_refl _) _ _ _ ((Below.refl _ W).alloc (Nat.le_refl _) _)
  refine bodyPost_ret (v := .agg stepCells.toArray) (results_cell_row rfl _ _ W.heap.size 137 stepCells.toArray (0, 0) _ rfl hw1 Tryz.underlying137 rfl Tryz.infoSteps) rfl ⟨rfl, hB⟩
/-- The table lies there. -/
def HasT (W : World) (tb : Nat) : Prop := W.heap[tb]? = some (.cells stepCells.toArray 137 (0, 0))
theorem HasT.cell {W : World} {tb : Nat} (h : HasT W tb) (c : Nat) (hc : c < 7) : W.cell? ⟨tb, c, none⟩ = some (.func (.func (tabF c)) #[] #[]) := by
  rw [cell_of_row _ _ _ _ _ _ h, ← tab_cells c hc]
  simp
theorem hasT_new (W : World) : HasT ((W.alloc (.cells #[.nilFunc, .nilFunc, .nilFunc, .nilFunc, .nilFunc, .nilFunc, .nilFunc] 137)).setCells W.heap.size 0 stepCells) W.heap.size := by
  have := (heap_setCells (t := 137) (g := W.heap.size) stepCells 0 _ _ (heap_alloc_new W (.cells #[.nilFunc, .nilFunc, .nilFunc, .nilFunc, .nilFunc, .nilFunc, .nilFunc] 137))).1
  rw [show written #[.nilFunc, .nilFunc, .nilFunc, .nilFunc, .nilFunc, .nilFunc, .nilFunc] 0 stepCells = stepCells.toArray from rfl] at this
  exact this
/-- The table, as a letter. -/
structure Tab (A : Array Value) : Prop where
  eq : A = stepCells.toArray
  info : (Tryz.prog.info? 137).map (·.size) = some A.size
  one : A.all (·.oneCell') = true
theorem tab_any : Tab stepCells.toArray := ⟨rfl, Tryz.infoSteps, stepOne⟩
theorem cls_lt (c : Nat) : cls c < 7 := by
  unfold cls
  repeat' split
  all_goals decide
theorem enters_any {f : FuncId} {F : Func} (h : Tryz.prog.funcs[f]? = some F) (hn : ¬ F.name = "runtime.NumGoroutine") (hb : F.body.isSome = true) (w : World) (vs : Array Value) : (callFunc f vs).run Tryz.prog w = .ok (.enter f vs) w := by
  obtain ⟨c, hc⟩ := Option.isSome_iff_exists.1 hb
  simp [callFunc, h, hn, hc]
theorem callV_any (w : World) (vs : Array Value) : ∀ c, c < 7 → (callFunc (tabF c) vs).run Tryz.prog w = .ok (.enter (tabF c) vs) w
  | 0, _ => by exact enters_any Tryz.func136 (by decide +kernel) (by kernel_rfl) w vs
  | 1, _ => by exact enters_any Tryz.func138 (by decide +kernel) (by kernel_rfl) w vs
  | 2, _ => by exact enters_any Tryz.func139 (by decide +kernel) (by kernel_rfl) w vs
  | 3, _ => by exact enters_any Tryz.func142 (by decide +kernel) (by kernel_rfl) w vs
  | 4, _ => by exact enters_any Tryz.func144 (by decide +kernel) (by kernel_rfl) w vs
  | 5, _ => by exact enters_any Tryz.func146 (by decide +kernel) (by kernel_rfl) w vs
  | 6, _ => by exact enters_any Tryz.func147 (by decide +kernel) (by kernel_rfl) w vs
  | _ + 7, h => by omega
theorem callC_any (w : World) (vs : Array Value) : (callFunc 95 vs).run Tryz.prog w = .ok (.enter 95 vs) w := by exact enters_any Tryz.func95 (by decide +kernel) (by kernel_rfl) w vs
/-- The step of a class. -/
theorem stepP_any {W : World} {B b : Nat} {s : ByteArray} {k n : Nat} {v : Value} {xs : List Value} (hE : HasE W) (hM : HasM W) (I : ScanIn W B b s k n v xs) :
    Calls Tryz.prog (tabF (cls (byteAt s k))) #[.pointer (some ⟨b, 0, none⟩)] W (StepP B b s k n xs W) := by
  have hm := I.more
  have hone : oneF s k = oneF s k := rfl
  conv at hone => rhs; unfold oneF
  rcases cls_cases (byteAt s k) with ⟨e, h1⟩ | ⟨n1, ⟨e, h2⟩ | ⟨n2, ⟨e, h3⟩ | ⟨n3, ⟨e, h4⟩ | ⟨n4, ⟨e, h5⟩ | ⟨n5, ⟨e, h6⟩ | ⟨e, n6⟩⟩⟩⟩⟩⟩
  · rw [e]
    exact stepP_blank I h1
  · rw [e]
    rw [if_pos h2] at hone
    exact stepP_letter I (pass_other hm n1 (fun q => by rw [q] at h2; exact absurd h2 (by decide))) hone
  · rw [e]
    rw [if_neg n2, if_pos h3] at hone
    exact stepP_digit hE I (pass_other hm n1 (fun q => by rw [q] at h3; exact absurd h3 (by decide))) hone
  · rw [e]
    rw [if_neg n2, if_neg n3, if_pos h4] at hone
    exact stepP_quote hE I (pass_other hm n1 (fun q => by omega)) h4 hone
  · rw [e]
    rw [if_neg n2, if_neg n3, if_neg n4, if_pos h5] at hone
    exact stepP_sign I (pass_other hm n1 (fun q => by rw [q] at h5; exact absurd h5 (by decide))) hone
  · rw [e]
    rw [if_neg n2, if_neg n3, if_neg n4, if_neg n5] at hone
    exact stepP_comment hM I h6 (by rw [hone])
  · rw [e]
    rw [if_neg n2, if_neg n3, if_neg n4, if_neg n5] at hone
    exact stepP_none I (pass_other hm n1 n6) (by rw [hone])
end Go.Proofs.YtaadpiimcaabkaaGreatDoor
