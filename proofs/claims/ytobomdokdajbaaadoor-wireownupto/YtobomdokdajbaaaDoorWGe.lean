import Derived.Test.YtobomdokdajbaaaDoorWGd

namespace Go.Proofs.YtobomdokdajbaaaDoor
open Go.RowKit
attribute [local go_sem ↓] Go.wp_at_zero Go.wp_at_succ

/-- The blocks of P are as they were, and none is the row's own. -/
structure Kp (W : World) (P : Nat → Prop) (w : World) (u : Value) : Prop where
  size : W.heap.size ≤ w.heap.size
  at' : ∀ g, g < W.heap.size → P g → w.heap[g]? = W.heap[g]? ∧ some g ≠ u.ownBlock
theorem Kp.ext {W w w' : World} {P : Nat → Prop} {u u' : Value} (h : Kp W P w u) (e : Ext w u w' u') : Kp W P w' u' := by
  refine ⟨Nat.le_trans h.size e.size, fun g hg hp => ?_⟩
  obtain ⟨h1, h2⟩ := h.at' g hg hp
  have hz := h.size
  refine ⟨(e.far g (by omega) h2).trans h1, ?_⟩
  rcases e.own with o | ⟨q, o, hq⟩
  · rw [o]; exact h2
  · rw [o]; intro z; have := Option.some.inj z; omega
theorem byB_append (a b : List Nat) : byB (a ++ b) = byB a ++ byB b := by simp [byB]
theorem low_at (x : Int) : ∀ i : Nat, i < 8 → ((un x / 256 ^ i % 256 : Nat) : Int) = x / 2 ^ (8 * i) % 256 := by
  have h := un_eq x
  intro i hi
  have hh : i = 0 ∨ i = 1 ∨ i = 2 ∨ i = 3 ∨ i = 4 ∨ i = 5 ∨ i = 6 ∨ i = 7 := by omega
  rcases hh with rfl | rfl | rfl | rfl | rfl | rfl | rfl | rfl <;> simp only [Nat.reducePow, Int.reducePow, Nat.reduceMul] <;> omega
theorem lows_fN (x : Int) : ∀ n : Nat, n ≤ 8 → lows x n = byB (fN (un x) n)
  | 0, _ => rfl
  | n + 1, h => by
    have ih := lows_fN x n (by omega)
    have e : lows x (n + 1) = lows x n ++ [x / 2 ^ (8 * n) % 256] := by simp [lows, List.range_succ]
    rw [e, ih, ← low_at x n (by omega)]
    show _ = byB (fN (un x) n ++ [_])
    simp [byB]
theorem strB_tN (t : ByteArray) : strB t = byB (tN t) := by simp [strB, tN, byB]
set_option maxRecDepth 100000 in
set_option maxHeartbeats 2000000 in
theorem put0 {W : World} {base nb : Nat} {v : Value} {bs : List Int} {x : Int} {ia : Option Addr} {ic : Nat} (h : Bytes base W v bs) (hb : base ≤ W.heap.size) (hl : bs.length ≤ 1099511627776) :
    Calls Tryd.prog 73 #[v, .agg #[.int .i64 (nb : Int), .int .i64 0, .int .i64 x, .string ⟨#[]⟩, .slice ia 0 ic]] W fun e W' => ∃ v', e = .returned v' ∧ Bytes base W' v' (bs ++ byB (vN (un x))) ∧ Ext W v W' v' := by
  have hE0 := Ext.of_below ((Below.refl _ W).alloc (Nat.le_refl _) (.cells #[.int .i64 (nb : Int), .int .i64 0, .int .i64 x, .string ⟨#[]⟩, .slice ia 0 ic] 35)) v
  have Hp := hide (putVarint_any (h.alloc (.cells #[.int .i64 (nb : Int), .int .i64 0, .int .i64 x, .string ⟨#[]⟩, .slice ia 0 ic] 35)) (by simp; omega) hl x (un x) (un_wrap x) (un_lt x))
  have HE := hide hE0
  clear h hb hl hE0
  rw [byB_vN]
  go_enter Tryd.func73, Tryd.ntmps73
  go_wp2_with fail
  refine (unhide Hp).mono ?_
  rintro e w' ⟨v', rfl, hB, hE⟩
  go_wp2
  go_ret
  exact ⟨_, rfl, hB, (unhide HE).trans hE⟩
set_option maxRecDepth 100000 in
set_option maxHeartbeats 2000000 in
theorem put1 {W : World} {base nb : Nat} {v : Value} {bs : List Int} {x : Int} {ia : Option Addr} {ic : Nat} (h : Bytes base W v bs) (hb : base ≤ W.heap.size) (hl : bs.length ≤ 1099511627776) :
    Calls Tryd.prog 78 #[v, .agg #[.int .i64 (nb : Int), .int .i64 1, .int .i64 x, .string ⟨#[]⟩, .slice ia 0 ic]] W fun e W' => ∃ v', e = .returned v' ∧ Bytes base W' v' (bs ++ byB (fN (un x) 8)) ∧ Ext W v W' v' := by
  have hE0 := Ext.of_below ((Below.refl _ W).alloc (Nat.le_refl _) (.cells #[.int .i64 (nb : Int), .int .i64 1, .int .i64 x, .string ⟨#[]⟩, .slice ia 0 ic] 35)) v
  have Hp := hide (putFixed_any (h.alloc (.cells #[.int .i64 (nb : Int), .int .i64 1, .int .i64 x, .string ⟨#[]⟩, .slice ia 0 ic] 35)) (by simp; omega) hl x 8 (by decide))
  have HE := hide hE0
  clear h hb hl hE0
  rw [← lows_fN x 8 (by decide)]
  go_enter Tryd.func78, Tryd.ntmps78
  go_wp2_with fail
  refine (unhide Hp).mono ?_
  rintro e w' ⟨v', rfl, hB, hE⟩
  go_wp2
  go_ret
  exact ⟨_, rfl, hB, (unhide HE).trans hE⟩
set_option maxRecDepth 100000 in
set_option maxHeartbeats 2000000 in
theorem put5 {W : World} {base nb : Nat} {v : Value} {bs : List Int} {x : Int} {ia : Option Addr} {ic : Nat} (h : Bytes base W v bs) (hb : base ≤ W.heap.size) (hl : bs.length ≤ 1099511627776) :
    Calls Tryd.prog 91 #[v, .agg #[.int .i64 (nb : Int), .int .i64 5, .int .i64 x, .string ⟨#[]⟩, .slice ia 0 ic]] W fun e W' => ∃ v', e = .returned v' ∧ Bytes base W' v' (bs ++ byB (fN (un x) 4)) ∧ Ext W v W' v' := by
  have hE0 := Ext.of_below ((Below.refl _ W).alloc (Nat.le_refl _) (.cells #[.int .i64 (nb : Int), .int .i64 5, .int .i64 x, .string ⟨#[]⟩, .slice ia 0 ic] 35)) v
  have Hp := hide (putFixed_any (h.alloc (.cells #[.int .i64 (nb : Int), .int .i64 5, .int .i64 x, .string ⟨#[]⟩, .slice ia 0 ic] 35)) (by simp; omega) hl x 4 (by decide))
  have HE := hide hE0
  clear h hb hl hE0
  rw [← lows_fN x 4 (by decide)]
  go_enter Tryd.func91, Tryd.ntmps91
  go_wp2_with fail
  refine (unhide Hp).mono ?_
  rintro e w' ⟨v', rfl, hB, hE⟩
  go_wp2
  go_ret
  exact ⟨_, rfl, hB, (unhide HE).trans hE⟩
set_option maxRecDepth 100000 in
set_option maxHeartbeats 2000000 in
theorem put2 {W : World} {base nb : Nat} {v : Value} {bs : List Int} {t : ByteArray} {ia : Option Addr} {ic : Nat} (h : Bytes base W v bs) (hb : base ≤ W.heap.size) (hl : bs.length ≤ 1099511627776) (ht : t.size ≤ 1099511627776) :
    Calls Tryd.prog 82 #[v, .agg #[.int .i64 (nb : Int), .int .i64 2, .int .i64 0, .string t, .slice ia 0 ic]] W fun e W' => ∃ v', e = .returned v' ∧ Bytes base W' v' (bs ++ byB (vN t.size ++ tN t)) ∧ Ext W v W' v' := by
  have hE0 := Ext.of_below ((Below.refl _ W).alloc (Nat.le_refl _) (.cells #[.int .i64 (nb : Int), .int .i64 2, .int .i64 0, .string t, .slice ia 0 ic] 35)) v
  have Hp := hide (putText_any (h.alloc (.cells #[.int .i64 (nb : Int), .int .i64 2, .int .i64 0, .string t, .slice ia 0 ic] 35)) (by simp; omega) hl t ht)
  have HE := hide hE0
  clear h hb hl hE0 ht
  rw [byB_append, byB_vN, ← strB_tN]
  go_enter Tryd.func82, Tryd.ntmps82
  go_wp2_with fail
  refine (unhide Hp).mono ?_
  rintro e w' ⟨v', rfl, hB, hE⟩
  go_wp2
  go_ret
  exact ⟨_, rfl, hB, (unhide HE).trans hE⟩
/-- putAll of these records writes these bytes. -/
def PutA (W : World) (P : Nat → Prop) (v : Value) (ys : List Nat) : Prop := ∀ (base : Nat) (w0 : World) (u : Value) (bs : List Int), Kp W P w0 u → Bytes base w0 u bs → base ≤ w0.heap.size → bs.length + ys.length ≤ 1099511627000 →
  Calls Tryd.prog 40 #[u, v] w0 fun e W' => ∃ u', e = .returned u' ∧ Bytes base W' u' (bs ++ byB ys) ∧ Ext w0 u W' u'
set_option maxRecDepth 100000 in
set_option maxHeartbeats 4000000 in
theorem put3 {W Y : World} {P : Nat → Prop} {base nb il : Nat} {v : Value} {bs : List Int} {ys : List Nat} {ia : Option Addr} {ic : Nat} (hn : nb ≤ 536870911) (hc : PutA W P (.slice ia il ic) ys) (hK : Kp W P Y v) (h : Bytes base Y v bs) (hb : base ≤ Y.heap.size) (hl : bs.length + ys.length ≤ 1099511627000) :
    Calls Tryd.prog 86 #[v, .agg #[.int .i64 (nb : Int), .int .i64 3, .int .i64 0, .string ⟨#[]⟩, .slice ia il ic]] Y fun e W' => ∃ v', e = .returned v' ∧ Bytes base W' v' (bs ++ byB (ys ++ vN (8 * nb + 4))) ∧ Ext Y v W' v' := by
  have hV : Below Y.heap.size Y (Y.alloc (.cells #[.int .i64 (nb : Int), .int .i64 3, .int .i64 0, .string ⟨#[]⟩, .slice ia il ic] 35)) := (Below.refl _ _).alloc (Nat.le_refl _) _
  have hbx := heap_alloc_new Y (.cells #[.int .i64 (nb : Int), .int .i64 3, .int .i64 0, .string ⟨#[]⟩, .slice ia il ic] 35)
  have hVs : (Y.alloc (.cells #[.int .i64 (nb : Int), .int .i64 3, .int .i64 0, .string ⟨#[]⟩, .slice ia il ic] 35)).heap.size = Y.heap.size + 1 := World.size_alloc _ _
  have hByV : Bytes base (Y.alloc (.cells #[.int .i64 (nb : Int), .int .i64 3, .int .i64 0, .string ⟨#[]⟩, .slice ia il ic] 35)) v bs := h.alloc _
  have hbn : some Y.heap.size ≠ v.ownBlock := fun e => by have := (h.lt _ e.symm).2; omega
  have hKV := hK.ext (Ext.of_below hV v)
  have Hc := hide hc
  have HV := hide hV
  have HBX := hide hbx
  have HVs := hide hVs
  have HBy := hide hByV
  have HK := hide hKV
  have Hl := hide hl
  have Hn := hide hn
  have Hb := hide hb
  clear hc hV hbx hVs hByV hKV hK hl hn h hb
  rw [byB_append, byB_vN]
  go_enter Tryd.func86, Tryd.ntmps86
  go_wp2_with fail
  have hV := unhide HV
  have hbx := unhide HBX
  have hVs := unhide HVs
  have hByV := unhide HBy
  have hKV := unhide HK
  clear HV HBX HVs HBy HK
  generalize Y.alloc (.cells #[.int .i64 (nb : Int), .int .i64 3, .int .i64 0, .string ⟨#[]⟩, .slice ia il ic] 35) = V at *
  obtain ⟨x0, x1, x2, x3, x4, _⟩ := cells5_of' hbx
  have HS : Hid (∀ w', Far V v w' → (w'.cell? ⟨Y.heap.size, 0, none⟩ = some (.int .i64 (nb : Int)) ∧ w'.cell? ⟨Y.heap.size, 4, none⟩ = some (.slice ia il ic))) := fun w' h => ⟨(h.cell (p := ⟨Y.heap.size, 0, none⟩) (by simp; omega) hbn).trans x0, (h.cell (p := ⟨Y.heap.size, 4, none⟩) (by simp; omega) hbn).trans x4⟩
  have Hc2 := hide (unhide Hc base V.drew v bs ⟨hKV.size, hKV.at'⟩ hByV (by have := unhide Hb; show base ≤ V.heap.size; omega) (unhide Hl))
  clear x0 x1 x2 x3 x4 hbx hKV
  go_region_held3 (fun w' => (w'.cell? ⟨Y.heap.size, 0, none⟩ = some (.int .i64 (nb : Int)) ∧ w'.cell? ⟨Y.heap.size, 4, none⟩ = some (.slice ia il ic)))
    ((refine unhide HS _ ?_; first | exact fun _ _ _ => rfl | exact hF2 | exact hF1))
    (first
      | (go_at_call 40; refine (unhide Hc2).mono ?_; rintro o W1 ⟨v1, rfl, hb1', he1⟩; have hF1 : Far V v W1 := he1.far; have HE1 := hide he1; have HB1 := hide hb1')
      | (go_at_call 35; refine (putTag_any (W := W1) (unhide HB1) (Nat.le_trans (show base ≤ V.heap.size by have := unhide Hb; omega) (unhide HE1).size) (by have := unhide Hl; rw [List.length_append, byB_length]; omega) nb 4 (unhide Hn) (by decide)).mono ?_; rintro o W2 ⟨v2, rfl, hb2', he2⟩; have hE2 := (unhide HE1).trans he2; have hF2 : Far V v W2 := hE2.far; have HB2 := hide hb2'))
  go_wp2
  go_ret
  exact ⟨_, rfl, by rw [← List.append_assoc]; exact unhide HB2, (Ext.of_below hV v).trans (⟨hE2.os, hE2.tape, hE2.output, hE2.size, hE2.far, hE2.own⟩ : Ext V v W2 v2)⟩
set_option maxRecDepth 100000 in
set_option maxHeartbeats 8000000 in
theorem putAll_rt {W : World} {P : Nat → Prop} {v : Value} {ts : List Rt} (h : HasRt W P v ts) : WfL ts → PutA W P v (encL ts) := by
  induction h with
  | nil a c =>
    intro _ base w0 u bs _ hu hb hl
    have q := putAll_flat (W := w0) (v := .slice a 0 c) (rs := []) ⟨a, c, rfl, by simp, fun h => by simp at h⟩ hu hb (fun h => by simp at h) (fun _ => 0) (fun _ => 0) (fun _ => []) (fun r hr => by simp at hr) (by simp [joined] at hl ⊢; omega)
    exact q
  | row g n c ts us hp hn hm hg hc hi ih =>
    intro hrg base w0 u bs hkp hu hbase hbd
    unfold maxLen at hm
    have hKg := hkp.at' g hg hp
    have Hc := hide hc
    have Hih := hide ih
    have Hi := hide hi
    have Hn := hide hn
    have Hkp := hide hkp
    have Hrg := hide hrg
    have Hbd0 := hide hbd
    have hkz := hkp.size
    have Hp := hide hp
    clear hc ih hi hn hp hkp hrg hbd
    go_enter Tryd.func40, Tryd.ntmps40
    go_wp2_with fail
    refine (acts_any w0).mono ?_
    rintro e w1 ⟨rfl, hb1⟩
    obtain ⟨A, hA, hTab⟩ : ∃ A, actCells.toArray = A ∧ Tab A := ⟨_, rfl, tab_any⟩
    rw [hA]
    clear hA
    have hth := there_new w1 hTab
    have hif := hTab.info
    have hone := hTab.one
    go_wp2_with (refine wpList_store_mid rfl 113 (.tmp 5) (.tmp 8) rfl w1.heap.size 0 A rfl rfl hth hif hone ?_)
    have hT := hasT_new w1 hTab
    have hB0 := below_setCells hb1.size A.toList 0 _ (hb1.alloc hb1.size (.cells #[.nilFunc, .nilFunc, .nilFunc, .nilFunc, .nilFunc, .nilFunc, .nilFunc, .nilFunc, .nilFunc, .nilFunc, .nilFunc, .nilFunc, .nilFunc, .nilFunc, .nilFunc, .nilFunc, .nilFunc, .nilFunc, .nilFunc, .nilFunc, .nilFunc, .nilFunc, .nilFunc, .nilFunc] 113))
    generalize (w1.alloc (.cells #[.nilFunc, .nilFunc, .nilFunc, .nilFunc, .nilFunc, .nilFunc, .nilFunc, .nilFunc, .nilFunc, .nilFunc, .nilFunc, .nilFunc, .nilFunc, .nilFunc, .nilFunc, .nilFunc, .nilFunc, .nilFunc, .nilFunc, .nilFunc, .nilFunc, .nilFunc, .nilFunc, .nilFunc] 113)).setCells w1.heap.size 0 A.toList = X at *
    have hX := hb1.size
    have hEX : Ext w0 u X u := Ext.of_below hB0 u
    have HuX : Hid (Bytes base X u bs) := hu.same fun b hb => hB0.block b (hu.lt b hb).2
    have hut : ∀ b, u.ownBlock = some b → b < w1.heap.size := fun b hb => Nat.lt_of_lt_of_le (hu.lt b hb).2 hX
    have htX := (Array.getElem?_eq_some_iff.1 hT).1
    have HKX : Hid (Kp W P X u) := (unhide Hkp).ext hEX
    go_loopg [0, 11] n (fun gk v0 v11 wr => ∃ (i : Nat), v11 = .int .i64 (i : Int) ∧ gk = n - i ∧ i ≤ n ∧ Hid (Bytes base wr v0 (bs ++ byB (encL (ts.take i)))) ∧ Hid (Ext X u wr v0))
    case atStart => exact ⟨0, rfl, rfl, Nat.zero_le _, by show Bytes _ _ _ _; simpa [encL, byB] using unhide HuX, Ext.refl _ _⟩
    case round =>
     obtain ⟨i, rfl, hgk, hin, HBy, HE⟩ := hrel
     have Hgk := hide hgk
     clear hgk
     by_cases hlt : i < n
     · obtain ⟨r, hr⟩ : ∃ r, ts[i]? = some r := ⟨_, List.getElem?_eq_getElem (by rw [unhide Hn]; exact hlt)⟩
       have HK : Hid (Kp W P wr u0) := (unhide HKX).ext (unhide HE)
       have hFX : Far X u wr := (unhide HE).far
       have hgb := ((unhide HK).at' g hg (unhide Hp)).1
       have hcs := unhide Hc i r hr
       obtain ⟨ia, ic, eu⟩ := (unhide Hi i r hr).form
       have hcall0 := unhide Hih i r hr
       rw [eu] at hcs hcall0
       have hnx := enc_take hr
       have hbd := unhide Hbd0
       obtain ⟨nb, kd, x, t, li⟩ := r
       obtain ⟨hR, hRL⟩ := (unhide Hrg).at' hr
       have hcall : PutA W P (.slice ia li.length ic) (encL li) := hcall0 hRL
       have d0 := (World.cell?_of_block (a := ⟨g, i * 5, none⟩) hgb).trans (hcs 0 _ rfl)
       have d1 := (World.cell?_of_block (a := ⟨g, i * 5 + 1, none⟩) hgb).trans (hcs 1 _ rfl)
       have d2 := (World.cell?_of_block (a := ⟨g, i * 5 + 2, none⟩) hgb).trans (hcs 2 _ rfl)
       have d3 := (World.cell?_of_block (a := ⟨g, i * 5 + 3, none⟩) hgb).trans (hcs 3 _ rfl)
       have d4 : wr.cell? ⟨g, i * 5 + 4, none⟩ = some (.slice ia li.length ic) := (World.cell?_of_block (a := ⟨g, i * 5 + 4, none⟩) hgb).trans (hcs 4 _ rfl)
       have hi0 : (0 : Int) ≤ (i : Int) := Int.natCast_nonneg _
       have hi1 : (i : Int) < (n : Int) := by omega
       have hTr : HasT wr w1.heap.size := (hFX w1.heap.size htX (fun e => by have := hut _ e.symm; omega)).trans hT
       have htb := (Array.getElem?_eq_some_iff.1 hTr).1
       have htn : some w1.heap.size ≠ u0.ownBlock := fun e => by
         rcases (unhide HE).own with o | ⟨g', o, hg'⟩
         · have := hut _ (o.symm.trans e.symm); omega
         · rw [o] at e
           have : w1.heap.size = g' := by simpa using e
           omega
       have hsm := (unhide HE).size
       have hXs := hB0.size
       clear hcs eu hcall0 hr hgb
       have hkk : kd = 0 ∨ kd = 1 ∨ kd = 2 ∨ kd = 3 ∨ kd = 5 := by have := hR.rg.kind; omega
       rcases hkk with rfl | rfl | rfl | rfl | rfl
       · obtain rfl := hR.rg.text (by decide)
         obtain rfl := hR.rg.inner (by decide)
         have ht1 := (hTr.cell 2).trans (show actCells[2]? = some (.func (.func 73) #[] #[]) from rfl)
         have hbe : encR (.mk nb 0 x ⟨#[]⟩ []) = vN (8 * nb + 0) ++ (vN (un x)) := by rw [encR]; rfl
         rw [hbe] at hnx
         have hfr := enc_front (ts := ts) (i + 1)
         rw [hnx, List.length_append, List.length_append] at hfr
         have HRr : Hid (∀ (Y : World) (y : Value) (zs : List Int), Kp W P Y y → Bytes base Y y zs → base ≤ Y.heap.size → zs.length + (vN (un x)).length ≤ 1099511627000 → Calls Tryd.prog 73 #[y, .agg #[.int .i64 (nb : Int), .int .i64 0, .int .i64 x, .string ⟨#[]⟩, .slice ia 0 ic]] Y fun e W' => ∃ v', e = .returned v' ∧ Bytes base W' v' (zs ++ byB (vN (un x))) ∧ Ext Y y W' v') := fun Y y zs hkp hy hbb hll => put0 hy hbb (by omega)
         have Hfr : Hid (bs.length + ((encL (ts.take i)).length + ((vN (8 * nb + 0)).length + (vN (un x)).length)) ≤ 1099511627000) := by show _ ≤ _; omega
         have Hnx := hide hnx
         have hnum := hR.rg.num
         have d1' : wr.cell? ⟨g, i * 5 + 1, none⟩ = some (.int .i64 0) := d1
         have d4' : wr.cell? ⟨g, i * 5 + 4, none⟩ = some (.slice ia 0 ic) := d4
         clear hTr d1 d4 hcall hR hnx hbe hfr hRL
         generalize vN (un x) = bd at *
         go_wp2_with fail
         have hV : Below wr.heap.size wr (wr.alloc (.cells #[.int .i64 (nb : Int), .int .i64 0, .int .i64 x, .string ⟨#[]⟩, .slice ia 0 ic] 35)) := (Below.refl _ _).alloc (Nat.le_refl _) _
         have hbx := heap_alloc_new wr (.cells #[.int .i64 (nb : Int), .int .i64 0, .int .i64 x, .string ⟨#[]⟩, .slice ia 0 ic] 35)
         have hVs : (wr.alloc (.cells #[.int .i64 (nb : Int), .int .i64 0, .int .i64 x, .string ⟨#[]⟩, .slice ia 0 ic] 35)).heap.size = wr.heap.size + 1 := World.size_alloc _ _
         generalize wr.alloc (.cells #[.int .i64 (nb : Int), .int .i64 0, .int .i64 x, .string ⟨#[]⟩, .slice ia 0 ic] 35) = V at *
         obtain ⟨x0, x1, x2, x3, x4, _⟩ := cells5_of' hbx
         have xt := (hV.cell (p := ⟨w1.heap.size, 2, none⟩) htb).trans ht1
         clear d0 d1' d2 d3 d4'
         have hbn : some wr.heap.size ≠ u0.ownBlock := fun e => by have := ((unhide HBy).lt _ e.symm).2; omega
         have HByV : Hid (Bytes base V u0 (bs ++ byB (encL (ts.take i)))) := (unhide HBy).same fun b hb => hV.block b ((unhide HBy).lt b hb).2
         have HKV : Hid (Kp W P V u0) := (unhide HK).ext (Ext.of_below hV u0)
         have HS : Hid (∀ w', Far V u0 w' → (w'.cell? ⟨wr.heap.size, 0, none⟩ = some (.int .i64 (nb : Int)) ∧ w'.cell? ⟨wr.heap.size, 1, none⟩ = some (.int .i64 0) ∧ w'.cell? ⟨wr.heap.size, 2, none⟩ = some (.int .i64 x) ∧ w'.cell? ⟨wr.heap.size, 3, none⟩ = some (.string ⟨#[]⟩) ∧ w'.cell? ⟨wr.heap.size, 4, none⟩ = some (.slice ia 0 ic) ∧ w'.cell? ⟨w1.heap.size, 2, none⟩ = some (.func (.func 73) #[] #[]))) := fun w' h => ⟨(h.cell (p := ⟨wr.heap.size, 0, none⟩) (by simp; omega) hbn).trans x0, (h.cell (p := ⟨wr.heap.size, 1, none⟩) (by simp; omega) hbn).trans x1, (h.cell (p := ⟨wr.heap.size, 2, none⟩) (by simp; omega) hbn).trans x2, (h.cell (p := ⟨wr.heap.size, 3, none⟩) (by simp; omega) hbn).trans x3, (h.cell (p := ⟨wr.heap.size, 4, none⟩) (by simp; omega) hbn).trans x4, (h.cell (p := ⟨w1.heap.size, 2, none⟩) (by simp; omega) htn).trans xt⟩
         have Hpt := hide (putTag_any (W := V.drew) (unhide HByV) (by show base ≤ V.heap.size; omega) (by have := unhide Hfr; rw [List.length_append, byB_length]; omega) nb 0 hnum.2 (by decide))
         clear x0 x1 x2 x3 x4 xt
         go_region_held3 (fun w' => (w'.cell? ⟨wr.heap.size, 0, none⟩ = some (.int .i64 (nb : Int)) ∧ w'.cell? ⟨wr.heap.size, 1, none⟩ = some (.int .i64 0) ∧ w'.cell? ⟨wr.heap.size, 2, none⟩ = some (.int .i64 x) ∧ w'.cell? ⟨wr.heap.size, 3, none⟩ = some (.string ⟨#[]⟩) ∧ w'.cell? ⟨wr.heap.size, 4, none⟩ = some (.slice ia 0 ic) ∧ w'.cell? ⟨w1.heap.size, 2, none⟩ = some (.func (.func 73) #[] #[])))
           ((refine unhide HS _ ?_; first | exact fun _ _ _ => rfl | exact hF2 | exact hF1))
           (first
             | (go_at_call 35; refine (unhide Hpt).mono ?_; rintro o W1 ⟨v1, rfl, hb1', he1⟩; have hF1 : Far V u0 W1 := he1.far; have HE1 := hide (⟨he1.os, he1.tape, he1.output, he1.size, he1.far, he1.own⟩ : Ext V u0 W1 v1); have HB1 := hide hb1')
             | (go_at_call 73; refine (unhide HRr W1 v1 _ ((unhide HKV).ext (unhide HE1)) (unhide HB1) (by have := (unhide HE1).size; omega) (by have := unhide Hfr; rw [List.length_append, List.length_append, byB_length, ← byB_vN, byB_length]; omega)).mono ?_; rintro o W2 ⟨v2, rfl, hb2', he2⟩; have hE2 := (unhide HE1).trans he2; have hF2 : Far V u0 W2 := hE2.far; have HB2 := hide hb2'))
         go_wp2
         go_roundg (n - (i + 1))
         case measure => have := unhide Hgk; omega
         case rel => exact ⟨i + 1, by go_num, rfl, by omega, by show Bytes _ _ _ _; rw [unhide Hnx, byB_append, byB_append, byB_vN]; simpa only [List.append_assoc] using unhide HB2, (unhide HE).trans ((Ext.of_below hV u0).trans hE2)⟩
       · obtain rfl := hR.rg.text (by decide)
         obtain rfl := hR.rg.inner (by decide)
         have ht1 := (hTr.cell 6).trans (show actCells[6]? = some (.func (.func 78) #[] #[]) from rfl)
         have hbe : encR (.mk nb 1 x ⟨#[]⟩ []) = vN (8 * nb + 1) ++ (fN (un x) 8) := by rw [encR]; rfl
         rw [hbe] at hnx
         have hfr := enc_front (ts := ts) (i + 1)
         rw [hnx, List.length_append, List.length_append] at hfr
         have HRr : Hid (∀ (Y : World) (y : Value) (zs : List Int), Kp W P Y y → Bytes base Y y zs → base ≤ Y.heap.size → zs.length + (fN (un x) 8).length ≤ 1099511627000 → Calls Tryd.prog 78 #[y, .agg #[.int .i64 (nb : Int), .int .i64 1, .int .i64 x, .string ⟨#[]⟩, .slice ia 0 ic]] Y fun e W' => ∃ v', e = .returned v' ∧ Bytes base W' v' (zs ++ byB (fN (un x) 8)) ∧ Ext Y y W' v') := fun Y y zs hkp hy hbb hll => put1 hy hbb (by omega)
         have Hfr : Hid (bs.length + ((encL (ts.take i)).length + ((vN (8 * nb + 1)).length + (fN (un x) 8).length)) ≤ 1099511627000) := by show _ ≤ _; omega
         have Hnx := hide hnx
         have hnum := hR.rg.num
         have d1' : wr.cell? ⟨g, i * 5 + 1, none⟩ = some (.int .i64 1) := d1
         have d4' : wr.cell? ⟨g, i * 5 + 4, none⟩ = some (.slice ia 0 ic) := d4
         clear hTr d1 d4 hcall hR hnx hbe hfr hRL
         generalize fN (un x) 8 = bd at *
         go_wp2_with fail
         have hV : Below wr.heap.size wr (wr.alloc (.cells #[.int .i64 (nb : Int), .int .i64 1, .int .i64 x, .string ⟨#[]⟩, .slice ia 0 ic] 35)) := (Below.refl _ _).alloc (Nat.le_refl _) _
         have hbx := heap_alloc_new wr (.cells #[.int .i64 (nb : Int), .int .i64 1, .int .i64 x, .string ⟨#[]⟩, .slice ia 0 ic] 35)
         have hVs : (wr.alloc (.cells #[.int .i64 (nb : Int), .int .i64 1, .int .i64 x, .string ⟨#[]⟩, .slice ia 0 ic] 35)).heap.size = wr.heap.size + 1 := World.size_alloc _ _
         generalize wr.alloc (.cells #[.int .i64 (nb : Int), .int .i64 1, .int .i64 x, .string ⟨#[]⟩, .slice ia 0 ic] 35) = V at *
         obtain ⟨x0, x1, x2, x3, x4, _⟩ := cells5_of' hbx
         have xt := (hV.cell (p := ⟨w1.heap.size, 6, none⟩) htb).trans ht1
         clear d0 d1' d2 d3 d4'
         have hbn : some wr.heap.size ≠ u0.ownBlock := fun e => by have := ((unhide HBy).lt _ e.symm).2; omega
         have HByV : Hid (Bytes base V u0 (bs ++ byB (encL (ts.take i)))) := (unhide HBy).same fun b hb => hV.block b ((unhide HBy).lt b hb).2
         have HKV : Hid (Kp W P V u0) := (unhide HK).ext (Ext.of_below hV u0)
         have HS : Hid (∀ w', Far V u0 w' → (w'.cell? ⟨wr.heap.size, 0, none⟩ = some (.int .i64 (nb : Int)) ∧ w'.cell? ⟨wr.heap.size, 1, none⟩ = some (.int .i64 1) ∧ w'.cell? ⟨wr.heap.size, 2, none⟩ = some (.int .i64 x) ∧ w'.cell? ⟨wr.heap.size, 3, none⟩ = some (.string ⟨#[]⟩) ∧ w'.cell? ⟨wr.heap.size, 4, none⟩ = some (.slice ia 0 ic) ∧ w'.cell? ⟨w1.heap.size, 6, none⟩ = some (.func (.func 78) #[] #[]))) := fun w' h => ⟨(h.cell (p := ⟨wr.heap.size, 0, none⟩) (by simp; omega) hbn).trans x0, (h.cell (p := ⟨wr.heap.size, 1, none⟩) (by simp; omega) hbn).trans x1, (h.cell (p := ⟨wr.heap.size, 2, none⟩) (by simp; omega) hbn).trans x2, (h.cell (p := ⟨wr.heap.size, 3, none⟩) (by simp; omega) hbn).trans x3, (h.cell (p := ⟨wr.heap.size, 4, none⟩) (by simp; omega) hbn).trans x4, (h.cell (p := ⟨w1.heap.size, 6, none⟩) (by simp; omega) htn).trans xt⟩
         have Hpt := hide (putTag_any (W := V.drew) (unhide HByV) (by show base ≤ V.heap.size; omega) (by have := unhide Hfr; rw [List.length_append, byB_length]; omega) nb 1 hnum.2 (by decide))
         clear x0 x1 x2 x3 x4 xt
         go_region_held3 (fun w' => (w'.cell? ⟨wr.heap.size, 0, none⟩ = some (.int .i64 (nb : Int)) ∧ w'.cell? ⟨wr.heap.size, 1, none⟩ = some (.int .i64 1) ∧ w'.cell? ⟨wr.heap.size, 2, none⟩ = some (.int .i64 x) ∧ w'.cell? ⟨wr.heap.size, 3, none⟩ = some (.string ⟨#[]⟩) ∧ w'.cell? ⟨wr.heap.size, 4, none⟩ = some (.slice ia 0 ic) ∧ w'.cell? ⟨w1.heap.size, 6, none⟩ = some (.func (.func 78) #[] #[])))
           ((refine unhide HS _ ?_; first | exact fun _ _ _ => rfl | exact hF2 | exact hF1))
           (first
             | (go_at_call 35; refine (unhide Hpt).mono ?_; rintro o W1 ⟨v1, rfl, hb1', he1⟩; have hF1 : Far V u0 W1 := he1.far; have HE1 := hide (⟨he1.os, he1.tape, he1.output, he1.size, he1.far, he1.own⟩ : Ext V u0 W1 v1); have HB1 := hide hb1')
             | (go_at_call 78; refine (unhide HRr W1 v1 _ ((unhide HKV).ext (unhide HE1)) (unhide HB1) (by have := (unhide HE1).size; omega) (by have := unhide Hfr; rw [List.length_append, List.length_append, byB_length, ← byB_vN, byB_length]; omega)).mono ?_; rintro o W2 ⟨v2, rfl, hb2', he2⟩; have hE2 := (unhide HE1).trans he2; have hF2 : Far V u0 W2 := hE2.far; have HB2 := hide hb2'))
         go_wp2
         go_roundg (n - (i + 1))
         case measure => have := unhide Hgk; omega
         case rel => exact ⟨i + 1, by go_num, rfl, by omega, by show Bytes _ _ _ _; rw [unhide Hnx, byB_append, byB_append, byB_vN]; simpa only [List.append_assoc] using unhide HB2, (unhide HE).trans ((Ext.of_below hV u0).trans hE2)⟩
       · obtain rfl := hR.rg.zero (.inl rfl)
         obtain rfl := hR.rg.inner (by decide)
         have ht1 := (hTr.cell 10).trans (show actCells[10]? = some (.func (.func 82) #[] #[]) from rfl)
         have hbe : encR (.mk nb 2 0 t []) = vN (8 * nb + 2) ++ (vN t.size ++ tN t) := by rw [encR]; rfl
         rw [hbe] at hnx
         have hfr := enc_front (ts := ts) (i + 1)
         rw [hnx, List.length_append, List.length_append] at hfr
         have htx : t.size ≤ 1099511627776 := by rw [List.length_append, tN_len] at hfr; omega
         have HRr : Hid (∀ (Y : World) (y : Value) (zs : List Int), Kp W P Y y → Bytes base Y y zs → base ≤ Y.heap.size → zs.length + (vN t.size ++ tN t).length ≤ 1099511627000 → Calls Tryd.prog 82 #[y, .agg #[.int .i64 (nb : Int), .int .i64 2, .int .i64 0, .string t, .slice ia 0 ic]] Y fun e W' => ∃ v', e = .returned v' ∧ Bytes base W' v' (zs ++ byB (vN t.size ++ tN t)) ∧ Ext Y y W' v') := fun Y y zs hkp hy hbb hll => put2 hy hbb (by omega) htx
         have Hfr : Hid (bs.length + ((encL (ts.take i)).length + ((vN (8 * nb + 2)).length + (vN t.size ++ tN t).length)) ≤ 1099511627000) := by show _ ≤ _; omega
         have Hnx := hide hnx
         have hnum := hR.rg.num
         have d1' : wr.cell? ⟨g, i * 5 + 1, none⟩ = some (.int .i64 2) := d1
         have d4' : wr.cell? ⟨g, i * 5 + 4, none⟩ = some (.slice ia 0 ic) := d4
         clear hTr d1 d4 hcall hR hnx hbe hfr hRL htx
         generalize vN t.size ++ tN t = bd at *
         go_wp2_with fail
         have hV : Below wr.heap.size wr (wr.alloc (.cells #[.int .i64 (nb : Int), .int .i64 2, .int .i64 0, .string t, .slice ia 0 ic] 35)) := (Below.refl _ _).alloc (Nat.le_refl _) _
         have hbx := heap_alloc_new wr (.cells #[.int .i64 (nb : Int), .int .i64 2, .int .i64 0, .string t, .slice ia 0 ic] 35)
         have hVs : (wr.alloc (.cells #[.int .i64 (nb : Int), .int .i64 2, .int .i64 0, .string t, .slice ia 0 ic] 35)).heap.size = wr.heap.size + 1 := World.size_alloc _ _
         generalize wr.alloc (.cells #[.int .i64 (nb : Int), .int .i64 2, .int .i64 0, .string t, .slice ia 0 ic] 35) = V at *
         obtain ⟨x0, x1, x2, x3, x4, _⟩ := cells5_of' hbx
         have xt := (hV.cell (p := ⟨w1.heap.size, 10, none⟩) htb).trans ht1
         clear d0 d1' d2 d3 d4'
         have hbn : some wr.heap.size ≠ u0.ownBlock := fun e => by have := ((unhide HBy).lt _ e.symm).2; omega
         have HByV : Hid (Bytes base V u0 (bs ++ byB (encL (ts.take i)))) := (unhide HBy).same fun b hb => hV.block b ((unhide HBy).lt b hb).2
         have HKV : Hid (Kp W P V u0) := (unhide HK).ext (Ext.of_below hV u0)
         have HS : Hid (∀ w', Far V u0 w' → (w'.cell? ⟨wr.heap.size, 0, none⟩ = some (.int .i64 (nb : Int)) ∧ w'.cell? ⟨wr.heap.size, 1, none⟩ = some (.int .i64 2) ∧ w'.cell? ⟨wr.heap.size, 2, none⟩ = some (.int .i64 0) ∧ w'.cell? ⟨wr.heap.size, 3, none⟩ = some (.string t) ∧ w'.cell? ⟨wr.heap.size, 4, none⟩ = some (.slice ia 0 ic) ∧ w'.cell? ⟨w1.heap.size, 10, none⟩ = some (.func (.func 82) #[] #[]))) := fun w' h => ⟨(h.cell (p := ⟨wr.heap.size, 0, none⟩) (by simp; omega) hbn).trans x0, (h.cell (p := ⟨wr.heap.size, 1, none⟩) (by simp; omega) hbn).trans x1, (h.cell (p := ⟨wr.heap.size, 2, none⟩) (by simp; omega) hbn).trans x2, (h.cell (p := ⟨wr.heap.size, 3, none⟩) (by simp; omega) hbn).trans x3, (h.cell (p := ⟨wr.heap.size, 4, none⟩) (by simp; omega) hbn).trans x4, (h.cell (p := ⟨w1.heap.size, 10, none⟩) (by simp; omega) htn).trans xt⟩
         have Hpt := hide (putTag_any (W := V.drew) (unhide HByV) (by show base ≤ V.heap.size; omega) (by have := unhide Hfr; rw [List.length_append, byB_length]; omega) nb 2 hnum.2 (by decide))
         clear x0 x1 x2 x3 x4 xt
         go_region_held3 (fun w' => (w'.cell? ⟨wr.heap.size, 0, none⟩ = some (.int .i64 (nb : Int)) ∧ w'.cell? ⟨wr.heap.size, 1, none⟩ = some (.int .i64 2) ∧ w'.cell? ⟨wr.heap.size, 2, none⟩ = some (.int .i64 0) ∧ w'.cell? ⟨wr.heap.size, 3, none⟩ = some (.string t) ∧ w'.cell? ⟨wr.heap.size, 4, none⟩ = some (.slice ia 0 ic) ∧ w'.cell? ⟨w1.heap.size, 10, none⟩ = some (.func (.func 82) #[] #[])))
           ((refine unhide HS _ ?_; first | exact fun _ _ _ => rfl | exact hF2 | exact hF1))
           (first
             | (go_at_call 35; refine (unhide Hpt).mono ?_; rintro o W1 ⟨v1, rfl, hb1', he1⟩; have hF1 : Far V u0 W1 := he1.far; have HE1 := hide (⟨he1.os, he1.tape, he1.output, he1.size, he1.far, he1.own⟩ : Ext V u0 W1 v1); have HB1 := hide hb1')
             | (go_at_call 82; refine (unhide HRr W1 v1 _ ((unhide HKV).ext (unhide HE1)) (unhide HB1) (by have := (unhide HE1).size; omega) (by have := unhide Hfr; rw [List.length_append, List.length_append, byB_length, ← byB_vN, byB_length]; omega)).mono ?_; rintro o W2 ⟨v2, rfl, hb2', he2⟩; have hE2 := (unhide HE1).trans he2; have hF2 : Far V u0 W2 := hE2.far; have HB2 := hide hb2'))
         go_wp2
         go_roundg (n - (i + 1))
         case measure => have := unhide Hgk; omega
         case rel => exact ⟨i + 1, by go_num, rfl, by omega, by show Bytes _ _ _ _; rw [unhide Hnx, byB_append, byB_append, byB_vN]; simpa only [List.append_assoc] using unhide HB2, (unhide HE).trans ((Ext.of_below hV u0).trans hE2)⟩
       · obtain rfl := hR.rg.zero (.inr rfl)
         obtain rfl := hR.rg.text (by decide)
         have ht1 := (hTr.cell 14).trans (show actCells[14]? = some (.func (.func 86) #[] #[]) from rfl)
         have hbe : encR (.mk nb 3 0 ⟨#[]⟩ li) = vN (8 * nb + 3) ++ (encL li ++ vN (8 * nb + 4)) := by rw [encR]; rfl
         rw [hbe] at hnx
         have hfr := enc_front (ts := ts) (i + 1)
         rw [hnx, List.length_append, List.length_append] at hfr
         have HRr : Hid (∀ (Y : World) (y : Value) (zs : List Int), Kp W P Y y → Bytes base Y y zs → base ≤ Y.heap.size → zs.length + (encL li ++ vN (8 * nb + 4)).length ≤ 1099511627000 → Calls Tryd.prog 86 #[y, .agg #[.int .i64 (nb : Int), .int .i64 3, .int .i64 0, .string ⟨#[]⟩, .slice ia li.length ic]] Y fun e W' => ∃ v', e = .returned v' ∧ Bytes base W' v' (zs ++ byB (encL li ++ vN (8 * nb + 4))) ∧ Ext Y y W' v') := fun Y y zs hkp hy hbb hll => put3 hR.rg.num.2 hcall hkp hy hbb (by rw [List.length_append] at hll; omega)
         have Hfr : Hid (bs.length + ((encL (ts.take i)).length + ((vN (8 * nb + 3)).length + (encL li ++ vN (8 * nb + 4)).length)) ≤ 1099511627000) := by show _ ≤ _; omega
         have Hnx := hide hnx
         have hnum := hR.rg.num
         have d1' : wr.cell? ⟨g, i * 5 + 1, none⟩ = some (.int .i64 3) := d1
         have d4' : wr.cell? ⟨g, i * 5 + 4, none⟩ = some (.slice ia li.length ic) := d4
         clear hTr d1 d4 hcall hR hnx hbe hfr hRL
         generalize encL li ++ vN (8 * nb + 4) = bd at *
         go_wp2_with fail
         have hV : Below wr.heap.size wr (wr.alloc (.cells #[.int .i64 (nb : Int), .int .i64 3, .int .i64 0, .string ⟨#[]⟩, .slice ia li.length ic] 35)) := (Below.refl _ _).alloc (Nat.le_refl _) _
         have hbx := heap_alloc_new wr (.cells #[.int .i64 (nb : Int), .int .i64 3, .int .i64 0, .string ⟨#[]⟩, .slice ia li.length ic] 35)
         have hVs : (wr.alloc (.cells #[.int .i64 (nb : Int), .int .i64 3, .int .i64 0, .string ⟨#[]⟩, .slice ia li.length ic] 35)).heap.size = wr.heap.size + 1 := World.size_alloc _ _
         generalize wr.alloc (.cells #[.int .i64 (nb : Int), .int .i64 3, .int .i64 0, .string ⟨#[]⟩, .slice ia li.length ic] 35) = V at *
         obtain ⟨x0, x1, x2, x3, x4, _⟩ := cells5_of' hbx
         have xt := (hV.cell (p := ⟨w1.heap.size, 14, none⟩) htb).trans ht1
         clear d0 d1' d2 d3 d4'
         have hbn : some wr.heap.size ≠ u0.ownBlock := fun e => by have := ((unhide HBy).lt _ e.symm).2; omega
         have HByV : Hid (Bytes base V u0 (bs ++ byB (encL (ts.take i)))) := (unhide HBy).same fun b hb => hV.block b ((unhide HBy).lt b hb).2
         have HKV : Hid (Kp W P V u0) := (unhide HK).ext (Ext.of_below hV u0)
         have HS : Hid (∀ w', Far V u0 w' → (w'.cell? ⟨wr.heap.size, 0, none⟩ = some (.int .i64 (nb : Int)) ∧ w'.cell? ⟨wr.heap.size, 1, none⟩ = some (.int .i64 3) ∧ w'.cell? ⟨wr.heap.size, 2, none⟩ = some (.int .i64 0) ∧ w'.cell? ⟨wr.heap.size, 3, none⟩ = some (.string ⟨#[]⟩) ∧ w'.cell? ⟨wr.heap.size, 4, none⟩ = some (.slice ia li.length ic) ∧ w'.cell? ⟨w1.heap.size, 14, none⟩ = some (.func (.func 86) #[] #[]))) := fun w' h => ⟨(h.cell (p := ⟨wr.heap.size, 0, none⟩) (by simp; omega) hbn).trans x0, (h.cell (p := ⟨wr.heap.size, 1, none⟩) (by simp; omega) hbn).trans x1, (h.cell (p := ⟨wr.heap.size, 2, none⟩) (by simp; omega) hbn).trans x2, (h.cell (p := ⟨wr.heap.size, 3, none⟩) (by simp; omega) hbn).trans x3, (h.cell (p := ⟨wr.heap.size, 4, none⟩) (by simp; omega) hbn).trans x4, (h.cell (p := ⟨w1.heap.size, 14, none⟩) (by simp; omega) htn).trans xt⟩
         have Hpt := hide (putTag_any (W := V.drew) (unhide HByV) (by show base ≤ V.heap.size; omega) (by have := unhide Hfr; rw [List.length_append, byB_length]; omega) nb 3 hnum.2 (by decide))
         clear x0 x1 x2 x3 x4 xt
         go_region_held3 (fun w' => (w'.cell? ⟨wr.heap.size, 0, none⟩ = some (.int .i64 (nb : Int)) ∧ w'.cell? ⟨wr.heap.size, 1, none⟩ = some (.int .i64 3) ∧ w'.cell? ⟨wr.heap.size, 2, none⟩ = some (.int .i64 0) ∧ w'.cell? ⟨wr.heap.size, 3, none⟩ = some (.string ⟨#[]⟩) ∧ w'.cell? ⟨wr.heap.size, 4, none⟩ = some (.slice ia li.length ic) ∧ w'.cell? ⟨w1.heap.size, 14, none⟩ = some (.func (.func 86) #[] #[])))
           ((refine unhide HS _ ?_; first | exact fun _ _ _ => rfl | exact hF2 | exact hF1))
           (first
             | (go_at_call 35; refine (unhide Hpt).mono ?_; rintro o W1 ⟨v1, rfl, hb1', he1⟩; have hF1 : Far V u0 W1 := he1.far; have HE1 := hide (⟨he1.os, he1.tape, he1.output, he1.size, he1.far, he1.own⟩ : Ext V u0 W1 v1); have HB1 := hide hb1')
             | (go_at_call 86; refine (unhide HRr W1 v1 _ ((unhide HKV).ext (unhide HE1)) (unhide HB1) (by have := (unhide HE1).size; omega) (by have := unhide Hfr; rw [List.length_append, List.length_append, byB_length, ← byB_vN, byB_length]; omega)).mono ?_; rintro o W2 ⟨v2, rfl, hb2', he2⟩; have hE2 := (unhide HE1).trans he2; have hF2 : Far V u0 W2 := hE2.far; have HB2 := hide hb2'))
         go_wp2
         go_roundg (n - (i + 1))
         case measure => have := unhide Hgk; omega
         case rel => exact ⟨i + 1, by go_num, rfl, by omega, by show Bytes _ _ _ _; rw [unhide Hnx, byB_append, byB_append, byB_vN]; simpa only [List.append_assoc] using unhide HB2, (unhide HE).trans ((Ext.of_below hV u0).trans hE2)⟩
       · obtain rfl := hR.rg.text (by decide)
         obtain rfl := hR.rg.inner (by decide)
         have ht1 := (hTr.cell 22).trans (show actCells[22]? = some (.func (.func 91) #[] #[]) from rfl)
         have hbe : encR (.mk nb 5 x ⟨#[]⟩ []) = vN (8 * nb + 5) ++ (fN (un x) 4) := by rw [encR]; rfl
         rw [hbe] at hnx
         have hfr := enc_front (ts := ts) (i + 1)
         rw [hnx, List.length_append, List.length_append] at hfr
         have HRr : Hid (∀ (Y : World) (y : Value) (zs : List Int), Kp W P Y y → Bytes base Y y zs → base ≤ Y.heap.size → zs.length + (fN (un x) 4).length ≤ 1099511627000 → Calls Tryd.prog 91 #[y, .agg #[.int .i64 (nb : Int), .int .i64 5, .int .i64 x, .string ⟨#[]⟩, .slice ia 0 ic]] Y fun e W' => ∃ v', e = .returned v' ∧ Bytes base W' v' (zs ++ byB (fN (un x) 4)) ∧ Ext Y y W' v') := fun Y y zs hkp hy hbb hll => put5 hy hbb (by omega)
         have Hfr : Hid (bs.length + ((encL (ts.take i)).length + ((vN (8 * nb + 5)).length + (fN (un x) 4).length)) ≤ 1099511627000) := by show _ ≤ _; omega
         have Hnx := hide hnx
         have hnum := hR.rg.num
         have d1' : wr.cell? ⟨g, i * 5 + 1, none⟩ = some (.int .i64 5) := d1
         have d4' : wr.cell? ⟨g, i * 5 + 4, none⟩ = some (.slice ia 0 ic) := d4
         clear hTr d1 d4 hcall hR hnx hbe hfr hRL
         generalize fN (un x) 4 = bd at *
         go_wp2_with fail
         have hV : Below wr.heap.size wr (wr.alloc (.cells #[.int .i64 (nb : Int), .int .i64 5, .int .i64 x, .string ⟨#[]⟩, .slice ia 0 ic] 35)) := (Below.refl _ _).alloc (Nat.le_refl _) _
         have hbx := heap_alloc_new wr (.cells #[.int .i64 (nb : Int), .int .i64 5, .int .i64 x, .string ⟨#[]⟩, .slice ia 0 ic] 35)
         have hVs : (wr.alloc (.cells #[.int .i64 (nb : Int), .int .i64 5, .int .i64 x, .string ⟨#[]⟩, .slice ia 0 ic] 35)).heap.size = wr.heap.size + 1 := World.size_alloc _ _
         generalize wr.alloc (.cells #[.int .i64 (nb : Int), .int .i64 5, .int .i64 x, .string ⟨#[]⟩, .slice ia 0 ic] 35) = V at *
         obtain ⟨x0, x1, x2, x3, x4, _⟩ := cells5_of' hbx
         have xt := (hV.cell (p := ⟨w1.heap.size, 22, none⟩) htb).trans ht1
         clear d0 d1' d2 d3 d4'
         have hbn : some wr.heap.size ≠ u0.ownBlock := fun e => by have := ((unhide HBy).lt _ e.symm).2; omega
         have HByV : Hid (Bytes base V u0 (bs ++ byB (encL (ts.take i)))) := (unhide HBy).same fun b hb => hV.block b ((unhide HBy).lt b hb).2
         have HKV : Hid (Kp W P V u0) := (unhide HK).ext (Ext.of_below hV u0)
         have HS : Hid (∀ w', Far V u0 w' → (w'.cell? ⟨wr.heap.size, 0, none⟩ = some (.int .i64 (nb : Int)) ∧ w'.cell? ⟨wr.heap.size, 1, none⟩ = some (.int .i64 5) ∧ w'.cell? ⟨wr.heap.size, 2, none⟩ = some (.int .i64 x) ∧ w'.cell? ⟨wr.heap.size, 3, none⟩ = some (.string ⟨#[]⟩) ∧ w'.cell? ⟨wr.heap.size, 4, none⟩ = some (.slice ia 0 ic) ∧ w'.cell? ⟨w1.heap.size, 22, none⟩ = some (.func (.func 91) #[] #[]))) := fun w' h => ⟨(h.cell (p := ⟨wr.heap.size, 0, none⟩) (by simp; omega) hbn).trans x0, (h.cell (p := ⟨wr.heap.size, 1, none⟩) (by simp; omega) hbn).trans x1, (h.cell (p := ⟨wr.heap.size, 2, none⟩) (by simp; omega) hbn).trans x2, (h.cell (p := ⟨wr.heap.size, 3, none⟩) (by simp; omega) hbn).trans x3, (h.cell (p := ⟨wr.heap.size, 4, none⟩) (by simp; omega) hbn).trans x4, (h.cell (p := ⟨w1.heap.size, 22, none⟩) (by simp; omega) htn).trans xt⟩
         have Hpt := hide (putTag_any (W := V.drew) (unhide HByV) (by show base ≤ V.heap.size; omega) (by have := unhide Hfr; rw [List.length_append, byB_length]; omega) nb 5 hnum.2 (by decide))
         clear x0 x1 x2 x3 x4 xt
         go_region_held3 (fun w' => (w'.cell? ⟨wr.heap.size, 0, none⟩ = some (.int .i64 (nb : Int)) ∧ w'.cell? ⟨wr.heap.size, 1, none⟩ = some (.int .i64 5) ∧ w'.cell? ⟨wr.heap.size, 2, none⟩ = some (.int .i64 x) ∧ w'.cell? ⟨wr.heap.size, 3, none⟩ = some (.string ⟨#[]⟩) ∧ w'.cell? ⟨wr.heap.size, 4, none⟩ = some (.slice ia 0 ic) ∧ w'.cell? ⟨w1.heap.size, 22, none⟩ = some (.func (.func 91) #[] #[])))
           ((refine unhide HS _ ?_; first | exact fun _ _ _ => rfl | exact hF2 | exact hF1))
           (first
             | (go_at_call 35; refine (unhide Hpt).mono ?_; rintro o W1 ⟨v1, rfl, hb1', he1⟩; have hF1 : Far V u0 W1 := he1.far; have HE1 := hide (⟨he1.os, he1.tape, he1.output, he1.size, he1.far, he1.own⟩ : Ext V u0 W1 v1); have HB1 := hide hb1')
             | (go_at_call 91; refine (unhide HRr W1 v1 _ ((unhide HKV).ext (unhide HE1)) (unhide HB1) (by have := (unhide HE1).size; omega) (by have := unhide Hfr; rw [List.length_append, List.length_append, byB_length, ← byB_vN, byB_length]; omega)).mono ?_; rintro o W2 ⟨v2, rfl, hb2', he2⟩; have hE2 := (unhide HE1).trans he2; have hF2 : Far V u0 W2 := hE2.far; have HB2 := hide hb2'))
         go_wp2
         go_roundg (n - (i + 1))
         case measure => have := unhide Hgk; omega
         case rel => exact ⟨i + 1, by go_num, rfl, by omega, by show Bytes _ _ _ _; rw [unhide Hnx, byB_append, byB_append, byB_vN]; simpa only [List.append_assoc] using unhide HB2, (unhide HE).trans ((Ext.of_below hV u0).trans hE2)⟩
     · obtain rfl : i = n := by omega
       have hBB := unhide HBy
       rw [List.take_of_length_le (by rw [unhide Hn]; exact Nat.le_refl _)] at hBB
       have HBB := hide hBB
       clear hBB HBy
       go_wp2
       go_ret
       exact ⟨_, rfl, unhide HBB, hEX.trans (unhide HE)⟩
#print axioms putAll_rt
end Go.Proofs.YtobomdokdajbaaaDoor
