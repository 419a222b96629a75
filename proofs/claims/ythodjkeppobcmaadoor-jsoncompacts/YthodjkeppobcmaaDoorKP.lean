import Derived.Test.YthodjkeppobcmaaDoorKO
import Derived.Outline

namespace Go.Proofs.YthodjkeppobcmaaDoor
open Go.RowKit Go.Lib
attribute [local go_sem ↓] Go.wp_at_zero Go.wp_at_succ

/-- What is answered: a place further on, within the text, with bytes; or an error that is one. -/
def Gd (s : ByteArray) (a : Nat) (r : RR) : Prop := (∀ l p, r = .ok (l, p) → a < p ∧ p ≤ s.size ∧ Byt l) ∧ ∀ c p, r = .error (c, p) → c ≠ 0
theorem Gd.err {s : ByteArray} {a c p : Nat} (h : c ≠ 0) : Gd s a (.error (c, p)) := ⟨fun _ _ e => (by cases e), fun _ _ e => (by cases e; exact h)⟩
theorem Gd.go {s : ByteArray} {a : Nat} {r : RR} {k : Nat → RR} (h : Gd s a r) (hk : ∀ q, a < q → q ≤ s.size → Gd s q (k q)) : Gd s a (r.go k) := by
  match r, h with
  | .error (c, p), h => exact Gd.err (h.2 c p rfl)
  | .ok (b, q), h =>
    obtain ⟨h1, h2, h3⟩ := h.1 b q rfl
    have hq := hk q h1 h2
    show Gd s a (RR.pre b (k q))
    cases hkq : k q with
    | error x => obtain ⟨c, p⟩ := x; exact Gd.err (hq.2 c p hkq)
    | ok x =>
      obtain ⟨l2, p2⟩ := x
      obtain ⟨g1, g2, g3⟩ := hq.1 l2 p2 hkq
      refine ⟨fun l p e => ?_, fun _ _ e => (by cases e)⟩
      cases e
      exact ⟨by omega, g2, h3.append g3⟩
theorem byt_part {L : List Nat} (h : Byt L) (a n : Nat) : Byt ((L.drop a).take n) := fun x hx => h x (List.mem_of_mem_drop (List.mem_of_mem_take hx))
theorem tok_gd {s : ByteArray} {a : Nat} (h : a ≤ s.size) : Gd s a (tokR (strN s) a) := by
  unfold tokR
  have h1 := skB_le h
  have h2 := tkE_le h1.2
  split
  · refine ⟨fun l p e => ?_, fun _ _ e => (by cases e)⟩
    cases e
    exact ⟨by omega, h2.2, byt_part (strN_byt s) _ _⟩
  · exact Gd.err (by split <;> omega)
theorem must_gd {s : ByteArray} {a : Nat} (c : Nat) (h : a ≤ s.size) : Gd s a (mustR (strN s) c a) := by
  unfold mustR
  split
  · exact tok_gd h
  · exact Gd.err (by omega)
theorem items_gd {s : ByteArray} {ea : Nat → RR} (tt : Nat) (h : ∀ q, q ≤ s.size → Gd s q (ea q)) : ∀ (f q : Nat), q ≤ s.size → s.size < q + f → Gd s q (itemsR (strN s) ea tt f q) := by
  intro f
  induction f with
  | zero => intro q h1 h2; omega
  | succ f ih =>
    intro q h1 h2
    rw [items_succ]
    refine (h q h1).go (fun q' h3 h4 => ?_)
    unfold moreR
    split
    · exact (tok_gd h4).go (fun q2 h5 h6 => ih q2 h6 (by omega))
    · exact must_gd _ h4
theorem row_gd {s : ByteArray} {ea : Nat → RR} (ff tt : Nat) {a : Nat} (ha : a ≤ s.size) (h : ∀ q, q ≤ s.size → Gd s q (ea q)) : Gd s a (rowR (strN s) ea ff tt a) := by
  refine (must_gd _ ha).go (fun q h1 h2 => ?_)
  split
  · exact must_gd _ h2
  · exact items_gd _ h _ _ h2 (by rw [strN_len]; omega)
theorem mem_gd {s : ByteArray} {v : Nat → RR} {a : Nat} (ha : a ≤ s.size) (h : ∀ q, q ≤ s.size → Gd s q (v q)) : Gd s a (memR (strN s) v a) := (must_gd _ ha).go (fun _ _ h2 => (must_gd _ h2).go (fun q _ h4 => h q h4))
theorem val_gd {s : ByteArray} : ∀ (d a : Nat), a ≤ s.size → Gd s a (valR (strN s) d a) := by
  intro d
  induction d with
  | zero =>
    intro a ha
    unfold valR
    split
    · exact Gd.err (by omega)
    · split
      · exact Gd.err (by omega)
      · exact tok_gd ha
  | succ d ih =>
    intro a ha
    unfold valR
    split
    · exact row_gd _ _ ha (fun _ h => mem_gd h ih)
    · split
      · exact row_gd _ _ ha ih
      · split
        · exact Gd.err (by omega)
        · exact tok_gd ha
theorem ck_err {s : ByteArray} {c p : Nat} (h : ckR s = .error (c, p)) : c ≠ 0 := by
  unfold ckR at h
  split at h
  · cases h; omega
  · split at h
    · cases h; omega
    · unfold topR at h
      have hv := val_gd (s := s) 200 0 (Nat.zero_le _)
      match hr : valR (strN s) 200 0, hv with
      | .error (c', p'), hv =>
        rw [hr] at h
        cases h
        exact hv.2 _ _ rfl
      | .ok (l, q), hv =>
        rw [hr] at h
        have h' : RR.pre l (if skB (strN s) q < (strN s).length then .error (120, skB (strN s) q) else .ok ([], q)) = .error (c, p) := h
        split at h'
        · cases h'; omega
        · cases h'
theorem ck_byt {s : ByteArray} {l : List Nat} {p : Nat} (h : ckR s = .ok (l, p)) : Byt l := by
  unfold ckR at h
  split at h
  · cases h
  · split at h
    · cases h
    · unfold topR at h
      have hv := val_gd (s := s) 200 0 (Nat.zero_le _)
      match hr : valR (strN s) 200 0, hv with
      | .error (c', p'), hv =>
        rw [hr] at h
        cases h
      | .ok (l', q), hv =>
        rw [hr] at h
        have h' : RR.pre l' (if skB (strN s) q < (strN s).length then .error (120, skB (strN s) q) else .ok ([], q)) = .ok (l, p) := h
        split at h'
        · cases h'
        · have e : l' ++ [] = l := by cases h'; rfl
          rw [← e, List.append_nil]
          exact (hv.1 _ _ rfl).2.2
theorem results_mix {P : Program} {fn : Func} {q p : Tmp} {ty : TypeId} (h : fn.results = #[.tmp q, .cell p ty]) (tmps : Array Value) (w : World) (g : Nat) (t : TypeId) (v : Value) (cs : Array Value) (fr : Nat × Nat) (d : TypeDesc) (hv : tmps.getD q undef = v)
    (hp : tmps.getD p undef = .pointer (some ⟨g, 0, none⟩)) (hg : w.heap[g]? = some (.cells cs t fr)) (hu : P.underlying ty = some d) (hd : (match d with | .struct _ | .array _ _ => true | _ => false) = true) (hi : (P.info? ty).map (·.size) = some cs.size) : (results fn tmps).run P w = .ok (.tuple #[v, .agg cs]) w := by
  have hp' : tmps[p]?.getD undef = .pointer (some ⟨g, 0, none⟩) := by simpa using hp
  have hv' : tmps[q]?.getD undef = v := by simpa using hv
  simp [results, h, hp', hv', asAddr, run_loadVar_row w g t ty cs fr d hg hu hd hi]
/-- What Compact answers. -/
def JA (W : World) (r : RR) (e : Ending) (w : World) : Prop := (match r with
  | .error (c, p) => e = .returned (.tuple #[.string ⟨#[]⟩, .agg (fltA (c : Int) (p : Int))])
  | .ok (l, _) => e = .returned (.tuple #[.string (ofN l), .agg (fltA 0 0)])) ∧ Below W.heap.size W w
set_option maxRecDepth 100000 in
set_option maxHeartbeats 1000000 in
theorem jcompact_any {W : World} (hE : HasE W) (hF : HasF W) (s : ByteArray) (hs : s.size ≤ 140737488351232) : Calls Tryd.prog 4 #[.string s] W (JA W (ckR s)) := by
  obtain ⟨V, hV⟩ : ∃ V, W.alloc (.cells #[.int .i64 0, .int .i64 0, .int .i64 0, .string ⟨#[]⟩] 24) = V := ⟨_, rfl⟩
  have hWV : Below W.heap.size W V := by rw [← hV]; exact (Below.refl _ _).alloc (Nat.le_refl _) _
  have hVs : V.heap.size = W.heap.size + 1 := by rw [← hV, World.size_alloc]
  have kV : V.heap[W.heap.size]? = some (.cells #[.int .i64 0, .int .i64 0, .int .i64 0, .string ⟨#[]⟩] 24 (0, 0)) := by rw [← hV]; exact heap_new _ _
  have hb1 : Below V.heap.size V (V.alloc (.cells #[.pointer none, .slice none 0 0] 33)) := (Below.refl _ _).alloc (Nat.le_refl _) _
  have hI : BI V.heap.size (W.heap.size + 1) [] (V.alloc (.cells #[.pointer none, .slice none 0 0] 33)) := .inl ⟨by omega, _, by rw [← hVs]; exact heap_new _ _, ⟨rfl, .inl ⟨rfl, rfl⟩⟩, by simp [Value.ownBlock]⟩
  have HC := hide (checked_any (hE.up hWV) (hF.up hWV) hs hI hb1)
  have HErr : Hid (∀ c p, ckR s = .error (c, p) → c ≠ 0) := fun c p h => ck_err h
  have HByt : Hid (∀ l p, ckR s = .ok (l, p) → Byt l) := fun l p h => ck_byt h
  obtain ⟨R, hR⟩ : ∃ R, ckR s = R := ⟨_, rfl⟩
  rw [hR] at HC HErr HByt ⊢
  have HWV := hide hWV
  have HVs := hide hVs
  have KV := hide kV
  rw [← hV] at HC HWV HVs KV
  clear hR hI hE hF hb1 hWV hVs kV hV
  go_enter Tryd.func4, Tryd.ntmps4
  go_wp2_with fail
  refine (unhide HC).mono ?_
  intro e w2 h2
  match R, h2, HErr, HByt with
  | .error (c, p), ⟨he, hb, hk⟩, HErr, _ =>
    subst he
    have hc : c ≠ 0 := unhide HErr c p rfl
    have hcb : ((c : Int) == 0) = false := by simp; omega
    have k4 := (hb.block W.heap.size (by rw [unhide HVs]; omega)).trans (unhide KV)
    have hl := (Array.getElem?_eq_some_iff.1 k4).1
    have hbW : Below W.heap.size W w2 := (unhide HWV).trans (hb.mono (unhide HWV).size)
    have k5 : (w2.alloc (.cells (fltA (c : Int) (p : Int)) 24)).heap[W.heap.size]? = _ := (Below.heap_alloc _ _ _ hl).trans k4
    have hb5 := hbW.alloc hbW.size (.cells (fltA (c : Int) (p : Int)) 24)
    obtain ⟨⟨z0, z1, z2, z3⟩, zf⟩ := cells4 k5
    have g0 := zf 0
    have g1 := zf 1
    have g2 := zf 2
    have g3 := zf 3
    obtain ⟨r1, r2⟩ := set4_block k5 (.int .i64 (c : Int)) (.int .i64 0) (.int .i64 (p : Int)) (.string ⟨#[]⟩)
    have hfin := hb5.grown r2 hb5.size (fun k e => by simp at e; omega)
    have R1 := hide r1
    have HF := hide hfin
    unfold set4 fltA at R1 HF
    unfold fltA at z0 z1 z2 z3 g0 g1 g2 g3
    unfold fltA
    clear k4 k5 zf r1 r2 hfin hb hk h2 HC hb5 HErr hc hl hbW
    go_wp2_with fail
    go_region
    all_goals (
      go_wp2_with fail
      refine bodyPost_ret (results_mix rfl _ _ W.heap.size 24 (.string ⟨#[]⟩) (fltA (c : Int) (p : Int)) (0, 0) _ rfl rfl (unhide R1) Tryd.underlying24 rfl sizeFt) rfl ?_
      exact ⟨rfl, (unhide HF).os, (unhide HF).tape, (unhide HF).output, (unhide HF).size, (unhide HF).block⟩)
  | .ok (l, p), ⟨he, hI, hb, hk⟩, _, HByt =>
    subst he
    have hb5 := hb.alloc hb.size (.cells (fltA 0 0) 24)
    have hI5 := hI.up (((Below.refl _ _).alloc (Nat.le_refl _) (.cells (fltA 0 0) 24)))
    have HC2 := hide (getS hI5 (unhide HByt l p rfl) hb5.size)
    have HB5 := hide hb5
    unfold fltA at HC2 HB5
    unfold fltA
    clear hb hk h2 HC hb5 HByt hI hI5
    go_wp2_with fail
    refine (unhide HC2).mono ?_
    rintro e w3 ⟨rfl, hb3⟩
    have hb := (unhide HB5).trans hb3
    have k4 := (hb.block W.heap.size (by rw [unhide HVs]; omega)).trans (unhide KV)
    have hbW : Below W.heap.size W w3 := (unhide HWV).trans (hb.mono (unhide HWV).size)
    obtain ⟨⟨z0, z1, z2, z3⟩, zf⟩ := cells4 k4
    have g0 := zf 0
    have g1 := zf 1
    have g2 := zf 2
    have g3 := zf 3
    obtain ⟨r1, r2⟩ := set4_block k4 (.int .i64 0) (.int .i64 0) (.int .i64 0) (.string ⟨#[]⟩)
    have hfin := hbW.grown r2 hbW.size (fun k e => by simp at e; omega)
    have R1 := hide r1
    have HF := hide hfin
    unfold set4 at R1 HF
    clear k4 zf r1 r2 hfin hb hb3 HC2 hbW HB5
    go_wp2
    refine bodyPost_ret (results_mix rfl _ _ W.heap.size 24 (.string (ofN l)) (fltA 0 0) (0, 0) _ rfl rfl (unhide R1) Tryd.underlying24 rfl sizeFt) rfl ?_
    exact ⟨rfl, unhide HF⟩
end Go.Proofs.YthodjkeppobcmaaDoor
