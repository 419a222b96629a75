import Derived.Test.YtcbcahnajabhfaaSStepA
namespace Go.Proofs.Ytcbcahnajabhfaa
open Go.RowKit Go.Shelf
attribute [local go_sem] kless_eq keq_eq kne_eq kgeq_eq
attribute [local go_sem ↓] Go.wp_at_zero Go.wp_at_succ

/-- The script as it lies. -/
def IsSteps (W : World) (a : Option Addr) (ss : List Step) : Prop := (∀ o ∈ ss, o.wf) ∧ ∃ b off, (0 < ss.length → a = some ⟨b, off, none⟩ ∧ b < W.heap.size) ∧
  ∀ i o, ss[i]? = some o → W.cell? ⟨b, off + i * 6, none⟩ = some (.int .i64 o.kind) ∧ W.cell? ⟨b, off + i * 6 + 1, none⟩ = some (.int .i64 o.on) ∧ W.cell? ⟨b, off + i * 6 + 2, none⟩ = some (.int .i64 o.other) ∧
    W.cell? ⟨b, off + i * 6 + 3, none⟩ = some (.int .i64 o.a) ∧ W.cell? ⟨b, off + i * 6 + 4, none⟩ = some (.int .i64 o.b) ∧ W.cell? ⟨b, off + i * 6 + 5, none⟩ = some (.string o.s)

theorem keys_len {l : List Ent} (hs : Srt l) {ks : List KT} (h : ∀ x ∈ l, x.1 ∈ ks) : l.length ≤ ks.length := by
  have h1 : Srt (l.map fun x => ((x.1, 0) : Ent)) := by
    unfold Srt at hs ⊢
    exact List.pairwise_map.2 hs
  have := h1.len_le (z := ks.map fun k => ((k, 0) : Ent)) (fun x hx => by
    obtain ⟨y, hy, rfl⟩ := List.mem_map.1 hx
    exact List.mem_map.2 ⟨y.1, h y hy, rfl⟩)
  simpa using this

def Among (ss : List Step) (vs : List Ver) : Prop := ∀ v ∈ vs, ∀ x ∈ v.T.io, x.1 ∈ ss.map Step.key
theorem among_add {ss : List Step} {vs : List Ver} {nv : Ver} {o : Step} (h : Among ss vs) (ho : o ∈ ss) (hn : ∀ x ∈ nv.T.io, x.1 = o.key ∨ ∃ v ∈ vs, x ∈ v.T.io) : Among ss (vs ++ [nv]) := by
  intro v hv x hx
  rcases List.mem_append.1 hv with hv | hv
  · exact h v hv x hx
  · obtain rfl : v = nv := by simpa using hv
    rcases hn x hx with e | ⟨u, hu, hxu⟩
    · rw [e]; exact List.mem_map.2 ⟨o, ho, rfl⟩
    · exact h u hu x hxu

set_option maxRecDepth 100000 in
set_option maxHeartbeats 8000000 in
theorem played_any {W : World} {a : Option Addr} {cap : Nat} (ss : List Step) (k1 k2 : Int) (h : IsSteps W a ss) (hcap : ss.length ≤ cap) (hcap2 : cap * 56 ≤ 140737488351232) :
    Calls Try.prog 4 #[.slice a ss.length cap, .int .i64 k1, .int .i64 k2] W fun e W' => e = .returned (.bool true) ∧ Below W.heap.size W W' := by
  obtain ⟨hwf, sb, soff, hsa, hsc⟩ := h
  have Hwf := hide hwf
  have Hsa := hide hsa
  have Hsc := hide hsc
  clear hwf hsa hsc
  go_enter Try.func4, Try.ntmps4
  go_wp2_with fail
  refine (begin_any W).mono ?_
  rintro e w1 ⟨bw, v0, rfl, hst, hleaf, hb1⟩
  have Hst := hide hst
  have Hlf := hide hleaf
  clear hst hleaf
  go_wp2
  go_loopg [8] ss.length (fun gk v8 wr => ∃ (j : Nat) (vs : List Ver), v8 = .int .i64 (j : Int) ∧ gk = ss.length - j ∧ j ≤ ss.length ∧ St W.heap.size wr bw vs ∧ Below W.heap.size W wr ∧ Among ss vs ∧ vs.length ≤ 4096)
  case atStart =>
    refine ⟨0, [v0], rfl, rfl, Nat.zero_le _, unhide Hst, hb1, fun v hv x hx => ?_, by simp⟩
    obtain rfl : v = v0 := by simpa using hv
    rw [unhide Hlf] at hx
    simp [BT.io] at hx
  case round =>
    obtain ⟨j, vs, rfl, hgk, hj, hst, hB, ham, hvl⟩ := hrel
    have Hgk := hide hgk
    have HB := hide hB
    have Ham := hide ham
    obtain ⟨gM, cM, gR, cR, m0, m1, mb, mg, rg, hn, hbb, hcells, hver⟩ := hst.reads
    have hz := hB.size
    have Hst := hide hst
    have Hver := hide hver
    clear hgk hcells hver hst ham hB hb1
    by_cases hlt : j < ss.length
    · have d1 : decide ((j : Int) < (ss.length : Int)) = true := by simp; omega
      by_cases h4 : vs.length < 4096
      · have d2 : decide ((vs.length : Int) < 4096) = true := by simp; omega
        obtain ⟨o, ho⟩ : ∃ o, ss[j]? = some o := ⟨_, List.getElem?_eq_getElem hlt⟩
        have hom : o ∈ ss := List.mem_of_getElem? ho
        obtain ⟨rfl, hsb⟩ := unhide Hsa (by omega)
        obtain ⟨s0, s1, s2, s3, s4, s5⟩ := unhide Hsc j o ho
        have t0 := ((unhide HB).cell (p := ⟨sb, soff + j * 6, none⟩) hsb).trans s0
        have t1 := ((unhide HB).cell (p := ⟨sb, soff + j * 6 + 1, none⟩) hsb).trans s1
        have t2 := ((unhide HB).cell (p := ⟨sb, soff + j * 6 + 2, none⟩) hsb).trans s2
        have t3 := ((unhide HB).cell (p := ⟨sb, soff + j * 6 + 3, none⟩) hsb).trans s3
        have t4 := ((unhide HB).cell (p := ⟨sb, soff + j * 6 + 4, none⟩) hsb).trans s4
        have t5 := ((unhide HB).cell (p := ⟨sb, soff + j * 6 + 5, none⟩) hsb).trans s5
        have hj0 : (0 : Int) ≤ (j : Int) := Int.natCast_nonneg _
        have hj1 : (j : Int) < (ss.length : Int) := by omega
        have How := hide (unhide Hwf o hom)
        have Hom := hide hom
        clear s0 s1 s2 s3 s4 s5 ho hom
        have hBx : Below wr.heap.size wr (wr.alloc (.cells #[.int .i64 o.kind, .int .i64 o.on, .int .i64 o.other, .int .i64 o.a, .int .i64 o.b, .string o.s] 32)) := (Below.refl _ _).alloc (Nat.le_refl _) _
        have hbox := World.alloc_heap_new wr (.cells #[.int .i64 o.kind, .int .i64 o.on, .int .i64 o.other, .int .i64 o.a, .int .i64 o.b, .string o.s] 32)
        have HSx : Hid (St W.heap.size (wr.alloc (.cells #[.int .i64 o.kind, .int .i64 o.on, .int .i64 o.other, .int .i64 o.a, .int .i64 o.b, .string o.s] 32)) bw vs) := (unhide Hst).up hBx
        have HN : Hid (∀ v ∈ vs, v.T.io.length ≤ ss.length) := fun v hv => by
          obtain ⟨_, _, _, _, _, _, hsv⟩ := (unhide Hver v hv).1
          have := keys_len hsv (unhide Ham v hv)
          simpa using this
        go_wp2_with fail
        generalize wr.alloc (.cells #[.int .i64 o.kind, .int .i64 o.on, .int .i64 o.other, .int .i64 o.a, .int .i64 o.b, .string o.s] 32) = X at *
        refine (step_any (N := ss.length) o (unhide How) (unhide HSx) (unhide HN) (by omega) h4).mono ?_
        rintro e W2 ⟨rfl, ⟨vs', hst', hmk, hnm⟩, hb2, hkt⟩
        have HB2 : Hid (Below W.heap.size W W2) := ((unhide HB).trans (hBx.mono hz)).trans hb2
        have q0 := (keepsT_cell hkt hbox (by decide) (by decide) (by decide) 0).trans (cells6_of hbox).1
        clear hkt hbox hBx hb2 t0 t1 t2 t3 t4 t5 m0 m1
        by_cases hk : 1 ≤ o.kind ∧ o.kind ≤ 5
        · obtain ⟨nv, rfl, hnv⟩ := hmk hk
          have Hnv := hide hnv
          have hl : (vs ++ [nv]).length = vs.length + 1 := by simp
          obtain ⟨gM', cM', _, _, n0, _, nb, _⟩ := hst'.reads
          rw [hl] at n0
          have Hst' := hide hst'
          have d3 : decide (1 ≤ o.kind) = true := by simp; omega
          have d4 : decide (o.kind ≤ 5) = true := by simp; omega
          have d5 : (((vs.length + 1 : Nat) : Int) == (vs.length : Int)) = false := by simp; omega
          clear hmk hnm hk hnv hst'
          go_wp2
          go_roundg (ss.length - (j + 1))
          case measure => have := unhide Hgk; omega
          case rel => exact ⟨j + 1, vs ++ [nv], by go_num, rfl, by omega, unhide Hst', unhide HB2, among_add (unhide Ham) (unhide Hom) (unhide Hnv), by omega⟩
        · obtain rfl := hnm hk
          obtain ⟨gM', cM', _, _, n0, _, nb, _⟩ := hst'.reads
          have Hst' := hide hst'
          clear hmk hnm hst'
          by_cases hk1 : 1 ≤ o.kind
          · have d3 : decide (1 ≤ o.kind) = true := by simp; omega
            have d4 : decide (o.kind ≤ 5) = false := by simp; omega
            clear hk hk1
            go_wp2
            go_roundg (ss.length - (j + 1))
            case measure => have := unhide Hgk; omega
            case rel => exact ⟨j + 1, vs', by go_num, rfl, by omega, unhide Hst', unhide HB2, unhide Ham, hvl⟩
          · have d3 : decide (1 ≤ o.kind) = false := by simp; omega
            clear hk hk1
            go_wp2
            go_roundg (ss.length - (j + 1))
            case measure => have := unhide Hgk; omega
            case rel => exact ⟨j + 1, vs', by go_num, rfl, by omega, unhide Hst', unhide HB2, unhide Ham, hvl⟩
      · have d2 : decide ((vs.length : Int) < 4096) = false := by simp; omega
        go_wp2
        go_ret
        exact ⟨rfl, unhide HB⟩
    · have d1 : decide ((j : Int) < (ss.length : Int)) = false := by simp; omega
      go_wp2
      go_ret
      exact ⟨rfl, unhide HB⟩
end Go.Proofs.Ytcbcahnajabhfaa
