import Derived.Test.YtaadpiimcaabkaaGreatDoorYAh

namespace Go.Proofs.YtaadpiimcaabkaaGreatDoor
open Go.RowKit
attribute [local go_sem ↓] Go.wp_at_zero Go.wp_at_succ

theorem grps_mem (l : List Fd) : ∀ (i : Nat), i ≤ l.length → ∀ G ∈ grps (l.take i), G ≠ [] ∧ ∀ d ∈ G, d ∈ l := by
  intro i
  induction i with
  | zero => intro _; simp [grps]
  | succ i ih =>
    intro h G hG
    have h2 := ih (by omega)
    have hi : i < l.length := by omega
    rw [grps_take (List.getElem?_eq_getElem hi)] at hG
    unfold grpS at hG
    split at hG
    · rcases List.mem_or_eq_of_mem_set hG with z | rfl
      · exact h2 G z
      · refine ⟨by simp, fun d hd => ?_⟩
        rcases List.mem_append.1 hd with y | y
        · rw [List.getD_eq_getElem?_getD] at y
          cases e : (grps (l.take i))[(grps (l.take i)).length - 1]? with
          | none => rw [e] at y; simp at y
          | some K => rw [e] at y; exact (h2 K (List.mem_of_getElem? e)).2 d y
        · simp at y; subst y; exact List.getElem_mem hi
    · rcases List.mem_append.1 hG with z | z
      · exact h2 G z
      · simp at z; subst z; exact ⟨by simp, fun d hd => by simp at hd; subst hd; exact List.getElem_mem hi⟩
theorem Pn.bt {W w : World} {B bb dd : Nat} {L : List Nat} {n : Nat} (h : Pn W B bb dd L n w) : ∃ cs, w.heap[bb]? = some (.cells cs 125 (0, 0)) := by
  rcases h.bi with k | k
  · obtain ⟨_, _, k2, _⟩ := k; exact ⟨_, k2⟩
  · obtain ⟨_, _, k2, _⟩ := k; exact ⟨_, k2⟩
theorem Pn.neq {W w : World} {B bb dd : Nat} {L : List Nat} {n : Nat} (h : Pn W B bb dd L n w) {q t : Nat} {cs : Array Value} (hq : w.heap[q]? = some (.cells cs t (0, 0))) (ht : t ≠ 125) : q ≠ bb := by
  intro e
  subst e
  obtain ⟨c2, e2⟩ := h.bt
  rw [hq] at e2
  simp at e2
  exact ht e2.2
/-- The groups, as they can be read beside a pen. -/
theorem Gr.rd {W w : World} {B bb dd lo : Nat} {L : List Nat} {n : Nat} {v : Value} {gs : List (List Fd)} {us : List Value} (h : Gr lo w v gs us) (hp : Pn W B bb dd L n w) (hn : 0 < gs.length) : ∃ q c cur, v = .slice (some ⟨q, 0, none⟩) gs.length c ∧ w.heap[q]? = some (.cells cur 43 (0, 0)) ∧ q ≠ bb ∧ (∀ (k : Nat) (u : Value), us[k]? = some u → cur[k]? = some u) ∧ ∀ (k : Nat) (G : List Fd) (u : Value), gs[k]? = some G → us[k]? = some u → 0 < G.length → Rg w u G bb := by
  obtain ⟨B2, hB2, hr⟩ := h.row
  rcases hr.2 with ⟨rfl, h2⟩ | ⟨q, c, cur, rfl, hB, hh, h3, h4, h5, h6⟩
  · omega
  · refine ⟨q, c, cur, rfl, hh, hp.neq hh (by decide), fun k u hk => ?_, fun k G u h1 h2 hG => ?_⟩
    · rw [← h6, List.getElem?_take] at hk
      split at hk
      · simpa using hk
      · cases hk
    · rcases (h.grp k G u h1 h2).2 with ⟨rfl, h7⟩ | ⟨q2, c2, cur2, rfl, _, hh2, _, _, _, h8⟩
      · omega
      · exact ⟨q2, c2, cur2, rfl, hh2, h8, hp.neq hh2 (by decide)⟩
set_option maxRecDepth 100000 in
set_option maxHeartbeats 4000000 in
theorem members_succ (f : Nat) (ih : MemC f) : MemC (f + 1) := by
  intro W w B bb dd ll L n m vf vo vm ve vr vg nm fs os ms es rs gs cm ce h hP hF hd hlb hld hn hll hV hok hl
  obtain ⟨rfl, hvf, hvo, hvm, hms, hve, hes, hvr, hvg⟩ := hV
  obtain ⟨⟨hf1, hr1, hg1⟩, hfo, hr2, hg2, hmo, heo⟩ := hok
  have s1 := World.size_alloc w (.cells (penV bb dd ll) 89)
  have k1 := heap_new w (.cells (penV bb dd ll) 89)
  have k2 := heap_new (w.alloc (.cells (penV bb dd ll) 89)) (.cells #[.string nm, vf, vo, vm, ve, vr, vg] 46)
  rw [s1] at k2
  have k1' := (Below.heap_alloc (w.alloc (.cells (penV bb dd ll) 89)) (.cells #[.string nm, vf, vo, vm, ve, vr, vg] 46) _ (by rw [s1]; omega)).trans k1
  have hbV : Below w.heap.size w ((w.alloc (.cells (penV bb dd ll) 89)).alloc (.cells #[.string nm, vf, vo, vm, ve, vr, vg] 46)) := ((Below.refl _ _).alloc (Nat.le_refl _) _).alloc (by omega) _
  have hlen : (memL (f + 1) n (.mk nm fs os ms es rs gs)).length = (rsvL n 536870911 rs gs).length + ((grps fs).flatMap (grpL n os)).length + (innL f n ms es).length := by
    unfold memL innL
    rw [List.length_append, List.length_append]
  have HR := hide (reserved_any (ll := ll) (most := 536870911) (h.below hbV) hP hF hvr hvg hr1 hr2 hg1 hg2 (by omega))
  have HBl := hide (fun w' hw' => blocks_any hvf hf1 w' hw')
  have HIn := hide (fun w' L' (hp' : Pn W B bb dd L' n w') hll' hl' => inner_any f ih hp' hP hF hd hlb hld (by omega) hll' hvm hms hve hes hmo heo hl')
  obtain ⟨V, hV⟩ : ∃ V, (w.alloc (.cells (penV bb dd ll) 89)).alloc (.cells #[.string nm, vf, vo, vm, ve, vr, vg] 46) = V := ⟨_, rfl⟩
  rw [hV] at k1' k2 hbV HR
  have hlt0 := h.bi.lt.2
  have hdl := (Array.getElem?_eq_some_iff.1 h.dp).1
  have Hpb := hide (show w.heap.size ≠ bb by omega)
  have Hpd := hide (show w.heap.size ≠ dd by omega)
  have Hmb := hide (show w.heap.size + 1 ≠ bb by omega)
  have Hmd := hide (show w.heap.size + 1 ≠ dd by omega)
  have HKV := hide (show Kp bb w V from Kp.below hbV)
  have HJV := hide k1'
  have HMV := hide k2
  have HLV := hide ((hbV.block _ (Array.getElem?_eq_some_iff.1 hll).1).trans hll)
  have Hlen := hide (hlen ▸ hl)
  have Hfo := hide hfo
  have Hf1 := hide hf1
  have HPP := hide hP
  have Hd := hide hd
  have Hlb := hide hlb
  have Hld := hide hld
  have Hn := hide hn
  have Hvo := hide hvo
  obtain ⟨af, cf, rfl, -, -⟩ := hvf
  obtain ⟨ao, co, rfl, hob, hvo2⟩ := hvo
  have Hvo2 := hide hvo2
  have Hob := hide hob
  obtain ⟨am, cm', rfl, -, -⟩ := hvm
  obtain ⟨ae, ce', rfl, -, -⟩ := hve
  obtain ⟨ar, cr, rfl, -, -⟩ := hvr
  obtain ⟨ag, cg, rfl, -, -⟩ := hvg
  have p0 : V.cell? ⟨w.heap.size, 0, none⟩ = some (fLine bb dd) := cell_of_row _ _ _ _ _ _ k1'
  have p1 : V.cell? ⟨w.heap.size, 1, none⟩ = some (fBlock ll dd) := cell_of_row _ _ _ _ _ _ k1'
  have p2 : V.cell? ⟨w.heap.size, 2, none⟩ = some (fWhole bb) := cell_of_row _ _ _ _ _ _ k1'
  have m5 : V.cell? ⟨w.heap.size + 1, 5, none⟩ = some (.slice ar rs.length cr) := cell_of_row _ _ _ _ _ _ k2
  have m6 : V.cell? ⟨w.heap.size + 1, 6, none⟩ = some (.slice ag gs.length cg) := cell_of_row _ _ _ _ _ _ k2
  unfold penV fLine fBlock fWhole at hV HR
  unfold penV fLine fBlock fWhole
  unfold fLine at p0
  unfold fBlock at p1
  unfold fWhole at p2
  clear s1 k1 k1' k2 hbV hlen hll hl hfo hf1 hP hd hlb hld hn h hF hr1 hr2 hg1 hg2 hmo heo hms hes hlt0 hdl hvo2 hob
  go_enter Tryz.func89, Tryz.ntmps89
  go_wp2_with fail
  refine (unhide HR).mono ?_
  rintro e' w1 ⟨rfl, hp1, hk1⟩
  have hm1 := hk1 _ _ _ _ (unhide Hmb) (unhide HMV) (by decide)
  have m1 : w1.cell? ⟨w.heap.size + 1, 1, none⟩ = some (.slice af fs.length cf) := cell_of_row _ _ _ _ _ _ hm1
  have HB1 := hide (unhide HBl w1 hp1.bel)
  have HP1 := hide hp1
  have HK1 := hide hk1
  clear p0 p1 p2 m5 m6 hp1 hk1 hm1 HR HBl
  go_wp2_with fail
  refine (unhide HB1).mono ?_
  rintro e' w2 ⟨u2, us, rfl, hG, hb2⟩
  have HP2 := hide ((unhide HP1).below hb2)
  have HK2 := hide ((unhide HK1).trans (Kp.below hb2))
  have HG := hide hG
  obtain ⟨B2, hB2, hrow⟩ := hG.row
  obtain ⟨a2, c2, rfl⟩ : ∃ a c, u2 = .slice a (grps fs).length c := by
    rcases hrow.2 with ⟨rfl, h2⟩ | ⟨_, _, _, rfl, _⟩
    · exact ⟨none, 0, by rw [h2]⟩
    · exact ⟨_, _, rfl⟩
  clear hb2 hG HB1 HP1 HK1 m1
  go_wp2_with fail
  go_loopg [5, 6, 7, 18] (grps fs).length (fun gk _ _ _ v18 wr => ∃ (i : Nat), v18 = .int .i64 (i : Int) ∧ gk = (grps fs).length - i ∧ i ≤ (grps fs).length ∧ Hid (Pn W B bb dd (L ++ rsvL n 536870911 rs gs ++ ((grps fs).take i).flatMap (grpL n os)) n wr) ∧ Hid (Kp bb w2 wr))
  case atStart => exact ⟨0, rfl, rfl, by omega, by rw [List.take_zero, List.flatMap_nil, List.append_nil]; exact HP2, Kp.refl _ _⟩
  case round =>
    obtain ⟨i, rfl, hgk, hi, HP3, HK3⟩ := hrel
    have Hgk := hide hgk
    clear hgk
    have hgb := grps_bd fs fs.length (Nat.le_refl _)
    rw [List.take_length] at hgb
    have hgl : (grps fs).length ≤ 4096 := by have := unhide Hf1; omega
    by_cases hlt : i < (grps fs).length
    · obtain ⟨q, qc, cur, hsl, hqb, hqn, hcur, hrg⟩ := (unhide HG).rd (unhide HP2) (by omega)
      obtain ⟨rfl, rfl⟩ : a2 = some ⟨q, 0, none⟩ ∧ c2 = qc := by simpa using hsl
      have hr := List.getElem?_eq_getElem hlt
      have hmem := List.getElem_mem hlt
      obtain ⟨G, hGG⟩ : ∃ G, (grps fs)[i] = G := ⟨_, rfl⟩
      rw [hGG] at hr hmem
      obtain ⟨u, hu⟩ : ∃ u, us[i]? = some u := ⟨_, List.getElem?_eq_getElem (by rw [(unhide HG).len]; exact hlt)⟩
      have hgm := grps_mem fs fs.length (Nat.le_refl _) G (by rw [List.take_length]; exact hmem)
      obtain ⟨d, r, rfl⟩ : ∃ d r, G = d :: r := by
        cases G with
        | nil => exact absurd rfl hgm.1
        | cons d r => exact ⟨d, r, rfl⟩
      have hRg := (hrg i _ u hr hu (by simp)).kp (unhide HK3)
      have hq3 := unhide HK3 _ _ _ _ hqn hqb (by decide)
      have x0 : wr.cell? ⟨q, i, none⟩ = some u := by rw [cell_of_row _ _ _ _ _ _ hq3]; exact hcur i u hu
      have hfl : ((grps fs).take (i + 1)).flatMap (grpL n os) = ((grps fs).take i).flatMap (grpL n os) ++ grpL n os (d :: r) := by
        rw [take_app hr, List.flatMap_append]
        simp
      have hlen : (L ++ rsvL n 536870911 rs gs ++ ((grps fs).take i).flatMap (grpL n os)).length + (grpL n os (d :: r)).length ≤ 1099511627776 := by
        have e2 : (grps fs).flatMap (grpL n os) = ((grps fs).take (i + 1)).flatMap (grpL n os) ++ ((grps fs).drop (i + 1)).flatMap (grpL n os) := by rw [← List.flatMap_append, List.take_append_drop]
        have h1 := congrArg List.length e2
        rw [hfl] at h1
        have h2 := unhide Hlen
        simp only [List.length_append] at h1 h2 ⊢
        omega
      have hfo2 : ∀ d' ∈ d :: r, ((0 ≤ d'.num ∧ d'.num ≤ 2147483647) ∧ d'.key.size ≤ 255 ∧ d'.ty.size ≤ 255) := fun d' hd' => (unhide Hfo d' (hgm.2 d' hd')).1
      have hon := (unhide Hfo d (hgm.2 d (by simp))).2
      have hGl : (d :: r).length ≤ 4096 := by have := hgb.2 _ hmem; have := unhide Hf1; omega
      obtain ⟨uh, uc, ucur, rfl, huh, hut, hun⟩ := id hRg
      have o5 : wr.cell? ⟨uh, 5, none⟩ = some (.int .i64 d.oneof) := by
        rw [cell_of_row _ _ _ _ _ _ huh, ← Array.getElem?_toList]
        have e1 := fldC_at (l := d :: r) (i := 0) (d := d) rfl (j := 5) (by decide)
        rw [← hut, List.getElem?_take, if_pos (by simp; omega)] at e1
        simpa [Fd.cs] using e1
      have hn0 := heap_new wr (.cells #[.slice (some ⟨uh, 0, none⟩) (d :: r).length uc] 43)
      have hb0 : Below wr.heap.size wr (wr.alloc (.cells #[.slice (some ⟨uh, 0, none⟩) (d :: r).length uc] 43)) := (Below.refl _ _).alloc (Nat.le_refl _) _
      obtain ⟨X, hX⟩ : ∃ X, wr.alloc (.cells #[.slice (some ⟨uh, 0, none⟩) (d :: r).length uc] 43) = X := ⟨_, rfl⟩
      rw [hX] at hn0 hb0
      have hpX := (unhide HP3).below hb0
      have hkX : Kp bb w2 X := (unhide HK3).trans (Kp.below hb0)
      have hkVX : Kp bb V X := (unhide HK2).trans hkX
      have HJX := hide (hkVX _ _ _ _ (unhide Hpb) (unhide HJV) (by decide))
      have HMX := hide (hkVX _ _ _ _ (unhide Hmb) (unhide HMV) (by decide))
      have HLX := hide (hkVX _ _ _ _ (unhide Hlb) (unhide HLV) (by decide))
      have HNX := hide hn0
      have Hwb := hide (show wr.heap.size ≠ bb by have := (unhide HP3).bi.lt.2; omega)
      have Hwd := hide (show wr.heap.size ≠ dd by have := (Array.getElem?_eq_some_iff.1 (unhide HP3).dp).1; omega)
      have HRX := hide (hRg.kp (Kp.below hb0))
      have y0 : X.cell? ⟨wr.heap.size, 0, none⟩ = some (.slice (some ⟨uh, 0, none⟩) (d :: r).length uc) := cell_of_row _ _ _ _ _ _ hn0
      have y5 : X.cell? ⟨uh, 5, none⟩ = some (.int .i64 d.oneof) := (hb0.cell (p := ⟨uh, 5, none⟩) (Array.getElem?_eq_some_iff.1 huh).1).trans o5
      have Hfl := hide hfl
      have Hlen2 := hide hlen
      have HKX := hide hkX
      have HKVX := hide hkVX
      have HPX := hide hpX
      have Hf2 := hide hfo2
      have HGl := hide hGl
      have i0 : (0 : Int) ≤ (i : Int) := Int.natCast_nonneg _
      have i1 : (i : Int) < ((grps fs).length : Int) := by omega
      have r1 : (0 : Int) < ((d :: r).length : Int) := by simp
      have Hlt := hide hlt
      have Hon := hide hon
      obtain ⟨gl, hgle⟩ : ∃ gl, (d :: r).length = gl := ⟨_, rfl⟩
      rw [hgle] at hX HNX y0 r1 HRX
      clear hsl hqb hqn hcur hrg hr hmem hGG hu hgm hRg hq3 hfl hlen hfo2 hon hGl huh hut hun hn0 hb0 hpX hkX hkVX hlt o5
      by_cases h0 : d.oneof = 0
      · have e0 : (d.oneof != 0) = false := by simpa using h0
        have hgr : grpL n os (d :: r) = (d :: r).flatMap (fieldL n) := by
          unfold grpL
          show (if d.oneof ≠ 0 then blkL n sOneof (os.getD (d.oneof.toNat - 1) ⟨#[]⟩) ((d :: r).flatMap (fieldL (n + 1))) else (d :: r).flatMap (fieldL n)) = _
          rw [if_neg (fun z => z h0)]
        have HC := hide (members_1 (ll := ll) (unhide HPX) (unhide HPP) (unhide HNX) (unhide HJX) (unhide Hpb) (unhide HRX) (unhide HGl) (unhide Hf2) (by rw [← hgr]; exact unhide Hlen2))
        have Hgr := hide hgr
        clear h0 hgr
        go_wp2_with fail
        refine (unhide HC).mono ?_
        rintro e' w5 ⟨rfl, hp5, hk5⟩
        have HP5 := hide (show Pn W B bb dd (L ++ rsvL n 536870911 rs gs ++ ((grps fs).take (i + 1)).flatMap (grpL n os)) n w5 by rw [unhide Hfl, unhide Hgr, ← List.append_assoc]; exact hp5)
        have HK5 := hide ((unhide HKX).trans hk5)
        clear hp5 hk5 HC HP3 HK3 HPX HKX HKVX Hfl Hgr
        go_wp2
        go_roundg ((grps fs).length - (i + 1))
        case measure => have := unhide Hgk; have := unhide Hlt; omega
        case rel => exact ⟨i + 1, by go_num, rfl, unhide Hlt, HP5, HK5⟩
      · have e0 : (d.oneof != 0) = true := by simpa using h0
        obtain ⟨ho1, ho2⟩ := unhide Hon h0
        obtain ⟨k, hk⟩ : ∃ k : Nat, d.oneof = (k : Int) + 1 := ⟨d.oneof.toNat - 1, by omega⟩
        have hkl : k < os.length := by omega
        obtain ⟨oh, oo, rfl, hol, hoc⟩ := unhide Hvo2 (by omega)
        obtain ⟨ot, hot⟩ : ∃ t, os[k]? = some t := ⟨_, List.getElem?_eq_getElem hkl⟩
        have z0 : X.cell? ⟨oh, oo + k, none⟩ = some (.string ot) := ((unhide HPX).bel.cell (p := ⟨oh, oo + k, none⟩) hol).trans (hoc _ _ (strC_at hot))
        have hgr : grpL n os (d :: r) = lineL n [⟨#[111, 110, 101, 111, 102]⟩, ⟨#[32]⟩, ot, ⟨#[32, 123]⟩] ++ (d :: r).flatMap (fieldL (n + 1)) ++ lineL n [⟨#[125]⟩] := by
          unfold grpL
          show (if d.oneof ≠ 0 then blkL n sOneof (os.getD (d.oneof.toNat - 1) ⟨#[]⟩) ((d :: r).flatMap (fieldL (n + 1))) else (d :: r).flatMap (fieldL n)) = _
          rw [if_pos h0]
          unfold blkL sOneof
          rw [show d.oneof.toNat - 1 = k by omega, List.getD_eq_getElem?_getD, hot]
          rfl
        have hll2 := unhide Hlen2
        have hg2 : (grpL n os (d :: r)).length = (lineL n [⟨#[111, 110, 101, 111, 102]⟩, ⟨#[32]⟩, ot, ⟨#[32, 123]⟩]).length + ((d :: r).flatMap (fieldL (n + 1))).length + (lineL n [⟨#[125]⟩]).length := by rw [hgr, List.length_append, List.length_append]
        rw [hg2] at hll2
        have hbD : Below X.heap.size X X.drew := below_drewN (Below.refl _ _) 1
        have HC := hide (block_any (w := X.drew) (I := (d :: r).flatMap (fieldL (n + 1))) (a := ⟨#[111, 110, 101, 111, 102]⟩) (b := ot) (f := ⟨132, #[], #[.pointer (some ⟨wr.heap.size, 0, none⟩), .pointer (some ⟨w.heap.size, 0, none⟩)]⟩) ((unhide HPX).below hbD) (unhide Hd) (by have := unhide Hn; omega) (unhide HLX) (unhide Hlb) (unhide Hld) (fun vs w => by kernel_rfl) (by omega) (fun w3 hp3 hq3 => by
          have hR3 : Rg w3 (.slice (some ⟨uh, 0, none⟩) gl uc) (d :: r) bb := by
            obtain ⟨a1, a2, a3, a4, a5, a6, a7⟩ := unhide HRX
            exact ⟨a1, a2, a3, a4, hq3 _ _ _ _ a7 (by intro z; subst z; have h9 := (unhide HPX).dp; rw [a5] at h9; simp at h9) a5 (by decide), a6, a7⟩
          exact members_1 (ll := ll) hp3 (unhide HPP) (hq3 _ _ _ _ (unhide Hwb) (unhide Hwd) (unhide HNX) (by decide)) (hq3 _ _ _ _ (unhide Hpb) (unhide Hpd) (unhide HJX) (by decide)) (unhide Hpb) hR3 (unhide HGl) (unhide Hf2) (by rw [List.length_append]; omega)))
        have Hgr := hide hgr
        have hT : (fun w' : World => w'.cell? ⟨w.heap.size, 1, none⟩ = some (.func (.func 84) #[] #[.pointer (some ⟨ll, 0, none⟩), .pointer (some ⟨dd, 0, none⟩)]) ∧ w'.cell? ⟨w.heap.size + 1, 2, none⟩ = some (.slice (some ⟨oh, oo, none⟩) os.length co) ∧ w'.cell? ⟨oh, oo + k, none⟩ = some (.string ot)) X.drew := ⟨cell_of_row _ _ _ _ _ _ (unhide HJX), cell_of_row _ _ _ _ _ _ (unhide HMX), z0⟩
        have k0 : (0 : Int) ≤ (k : Int) := Int.natCast_nonneg _
        have k1 : (k : Int) < (os.length : Int) := by omega
        have ob : os.length ≤ 140737488355328 := unhide Hob
        unfold Fv.val at HC
        simp only at HC
        rw [hk] at e0 y5
        clear h0 ho1 ho2 hk hoc hot hgr hll2 hg2 hbD z0
        go_upto_region 8 with fail
        refine wp_region_any (by kernel_rfl) (wpAny_of_Z (z := 99) (T := fun w' => w'.cell? ⟨w.heap.size, 1, none⟩ = some (.func (.func 84) #[] #[.pointer (some ⟨ll, 0, none⟩), .pointer (some ⟨dd, 0, none⟩)]) ∧ w'.cell? ⟨w.heap.size + 1, 2, none⟩ = some (.slice (some ⟨oh, oo, none⟩) os.length co) ∧ w'.cell? ⟨oh, oo + k, none⟩ = some (.string ot)) _ _ _ _ ?_)
        try (change wpAnyZ _ _ _ _ _ _ _ _ _ (World.drew _))
        refine wpAnyZ_tk 0 (.pointer (some ⟨w.heap.size, 1, none⟩)) 29 rfl rfl (Or.inl ⟨by rfl, fun w' hw => by obtain ⟨hw0, hw1, hw2⟩ := hw; go_simp⟩) hT ?_
        simp only [Act.put, List.setIfInBounds_toArray, List.set_cons_zero, List.set_cons_succ]
        refine wpAnyZ_tk 1 (.func (.func 84) #[] #[.pointer (some ⟨ll, 0, none⟩), .pointer (some ⟨dd, 0, none⟩)]) 30 rfl rfl (Or.inl ⟨by rfl, fun w' hw => by obtain ⟨hw0, hw1, hw2⟩ := hw; go_simp⟩) hT ?_
        simp only [Act.put, List.setIfInBounds_toArray, List.set_cons_zero, List.set_cons_succ]
        refine wpAnyZ_tk 2 (.pointer (some ⟨w.heap.size + 1, 2, none⟩)) 31 rfl rfl (Or.inl ⟨by rfl, fun w' hw => by obtain ⟨hw0, hw1, hw2⟩ := hw; go_simp⟩) hT ?_
        simp only [Act.put, List.setIfInBounds_toArray, List.set_cons_zero, List.set_cons_succ]
        refine wpAnyZ_tk 3 (.slice (some ⟨oh, oo, none⟩) os.length co) 32 rfl rfl (Or.inl ⟨by rfl, fun w' hw => by obtain ⟨hw0, hw1, hw2⟩ := hw; go_simp⟩) hT ?_
        simp only [Act.put, List.setIfInBounds_toArray, List.set_cons_zero, List.set_cons_succ]
        refine wpAnyZ_tk 4 (.int .i64 ((k : Int) + 1)) 33 rfl rfl (Or.inl ⟨by rfl, fun w' hw => by obtain ⟨hw0, hw1, hw2⟩ := hw; go_simp⟩) hT ?_
        simp only [Act.put, List.setIfInBounds_toArray, List.set_cons_zero, List.set_cons_succ]
        refine wpAnyZ_tk 5 (.int .i64 (k : Int)) 34 rfl rfl (Or.inl ⟨by rfl, fun w' hw => by obtain ⟨hw0, hw1, hw2⟩ := hw; go_simp; exact IntWalk.i64_in _ (by omega)⟩) hT ?_
        simp only [Act.put, List.setIfInBounds_toArray, List.set_cons_zero, List.set_cons_succ]
        refine wpAnyZ_tk 6 (.pointer (some ⟨oh, oo + k, none⟩)) 35 rfl rfl (Or.inl ⟨by rfl, fun w' hw => by obtain ⟨hw0, hw1, hw2⟩ := hw; go_simp⟩) hT ?_
        simp only [Act.put, List.setIfInBounds_toArray, List.set_cons_zero, List.set_cons_succ]
        refine wpAnyZ_tk 7 (.string ot) 36 rfl rfl (Or.inl ⟨by rfl, fun w' hw => by obtain ⟨hw0, hw1, hw2⟩ := hw; go_simp⟩) hT ?_
        simp only [Act.put, List.setIfInBounds_toArray, List.set_cons_zero, List.set_cons_succ]
        refine wpAnyZ_tk 8 (.func (.func 132) #[] #[.pointer (some ⟨wr.heap.size, 0, none⟩), .pointer (some ⟨w.heap.size, 0, none⟩)]) 37 rfl rfl (Or.inl ⟨by rfl, fun w' hw => by obtain ⟨hw0, hw1, hw2⟩ := hw; go_simp⟩) hT ?_
        simp only [Act.put, List.setIfInBounds_toArray, List.set_cons_zero, List.set_cons_succ]
        refine wpAnyZ_one 9 (by kernel_rfl) rfl (fun K hK => ?_)
        refine step_callF 38 30 rfl 84 #[] #[.pointer (some ⟨ll, 0, none⟩), .pointer (some ⟨dd, 0, none⟩)] (fun vs => by kernel_rfl) #[.const (.string ⟨#[111, 110, 101, 111, 102]⟩), .tmp 36, .tmp 37] #[9, 9, 1] rfl (by first | rfl | simp [Act.eval]) #[.string ⟨#[111, 110, 101, 111, 102]⟩, .string ot, .func (.func 132) #[] #[.pointer (some ⟨wr.heap.size, 0, none⟩), .pointer (some ⟨w.heap.size, 0, none⟩)], .pointer (some ⟨ll, 0, none⟩), .pointer (some ⟨dd, 0, none⟩)] (by first | rfl | simp [Act.eval]) (unhide HC) (by rfl) ?_
        rintro e' w5 ⟨rfl, hp5, hk5⟩
        have hk5' : Kp bb X w5 := fun d cs ty fr h1 h2 h3 => hk5 d cs ty fr h1 h2 h3
        have HP5 := hide (show Pn W B bb dd (L ++ rsvL n 536870911 rs gs ++ ((grps fs).take (i + 1)).flatMap (grpL n os)) n w5 by rw [unhide Hfl, unhide Hgr, ← List.append_assoc]; exact hp5)
        have HK5 := hide ((unhide HKX).trans hk5')
        have hT5 : (fun w' : World => w'.cell? ⟨w.heap.size, 1, none⟩ = some (.func (.func 84) #[] #[.pointer (some ⟨ll, 0, none⟩), .pointer (some ⟨dd, 0, none⟩)]) ∧ w'.cell? ⟨w.heap.size + 1, 2, none⟩ = some (.slice (some ⟨oh, oo, none⟩) os.length co) ∧ w'.cell? ⟨oh, oo + k, none⟩ = some (.string ot)) w5 := ⟨cell_of_row _ _ _ _ _ _ (hk5' _ _ _ _ (unhide Hpb) (unhide HJX) (by decide)), cell_of_row _ _ _ _ _ _ (hk5' _ _ _ _ (unhide Hmb) (unhide HMX) (by decide)), (hp5.bel.cell (p := ⟨oh, oo + k, none⟩) hol).trans (((unhide HPX).bel.cell (p := ⟨oh, oo + k, none⟩) hol).symm.trans hT.2.2)⟩
        refine ⟨_, rfl, hK _ _ ⟨fun _ => hT5, ?_⟩⟩
        clear hK K hT hT5 hp5 hk5 hk5' HC HP3 HK3 HPX HKX HKVX Hfl Hgr
        simp only [Act.put, List.setIfInBounds_toArray, List.set_cons_zero, List.set_cons_succ]
        refine wpAnyZ_done (by kernel_rfl) ?_
        go_wp2
        go_roundg ((grps fs).length - (i + 1))
        case measure => have := unhide Hgk; have := unhide Hlt; omega
        case rel => exact ⟨i + 1, by go_num, rfl, unhide Hlt, HP5, HK5⟩
    · obtain rfl : i = (grps fs).length := by omega
      have hP9 := unhide HP3
      rw [List.take_length] at hP9
      have hkV9 : Kp bb V wr := (unhide HK2).trans (unhide HK3)
      have hM9 := hkV9 _ _ _ _ (unhide Hmb) (unhide HMV) (by decide)
      have hJ9 := hkV9 _ _ _ _ (unhide Hpb) (unhide HJV) (by decide)
      have m3 : wr.cell? ⟨w.heap.size + 1, 3, none⟩ = some (.slice am ms.length cm') := cell_of_row _ _ _ _ _ _ hM9
      have m4 : wr.cell? ⟨w.heap.size + 1, 4, none⟩ = some (.slice ae es.length ce') := cell_of_row _ _ _ _ _ _ hM9
      have p0 : wr.cell? ⟨w.heap.size, 0, none⟩ = some (fLine bb dd) := cell_of_row _ _ _ _ _ _ hJ9
      have p1 : wr.cell? ⟨w.heap.size, 1, none⟩ = some (fBlock ll dd) := cell_of_row _ _ _ _ _ _ hJ9
      have p2 : wr.cell? ⟨w.heap.size, 2, none⟩ = some (fWhole bb) := cell_of_row _ _ _ _ _ _ hJ9
      have HC := hide (unhide HIn wr _ hP9 (hkV9 _ _ _ _ (unhide Hlb) (unhide HLV) (by decide)) (by simp only [List.length_append]; have := unhide Hlen; omega))
      have HK9 := hide ((unhide HKV).trans hkV9)
      unfold penV fLine fBlock fWhole at HC
      unfold fLine at p0
      unfold fBlock at p1
      unfold fWhole at p2
      clear hP9 hkV9 hM9 hJ9 HP3 HK3
      go_wp2_with fail
      refine (unhide HC).mono ?_
      rintro e' w6 ⟨rfl, hp6, hk6⟩
      have HE := hide (show PnQ W B bb dd (L ++ memL (f + 1) n (.mk nm fs os ms es rs gs)) n w (.returned (.tuple #[])) w6 from ⟨rfl, by unfold memL; unfold innL at hp6; simpa only [List.append_assoc] using hp6, (unhide HK9).trans hk6⟩)
      clear hp6 hk6 HC HK9
      go_wp2
      refine bodyPost_ret (results_none rfl _ _ _) rfl ?_
      exact unhide HE
end Go.Proofs.YtaadpiimcaabkaaGreatDoor
