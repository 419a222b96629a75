import Derived.Test.YthodjkeppobcmaaDoorKJ

namespace Go.Proofs.YthodjkeppobcmaaDoor
open Go.RowKit Go.Lib
attribute [local go_sem ↓] Go.wp_at_zero Go.wp_at_succ

def Gt (a : Nat) (r : RR) : Prop := ∀ l p, r = .ok (l, p) → a < p
theorem Gt.go {a : Nat} {r : RR} {k : Nat → RR} (h : Gt a r) (hk : ∀ q, Gt q (k q)) : Gt a (r.go k) := by
  intro l p e
  match r, h, e with
  | .ok (b, q), h, e =>
    have h1 := h b q rfl
    have e' : RR.pre b (k q) = .ok (l, p) := e
    cases hq : k q with
    | error x => rw [hq] at e'; cases e'
    | ok x =>
      obtain ⟨l2, p2⟩ := x
      rw [hq] at e'
      have := hk q l2 p2 hq
      have e2 : p2 = p := by cases e'; rfl
      omega
theorem Gt.err (a : Nat) (x : Nat × Nat) : Gt a (.error x) := fun _ _ e => by cases e
theorem tokR_gt (L : List Nat) (a : Nat) : Gt a (tokR L a) := by
  intro l p e
  unfold tokR at e
  split at e
  · rename_i q
    have := tw_ge isBl L a
    have h2 : skB L a = tw isBl L a := rfl
    cases e
    omega
  · cases e
theorem mustR_gt (L : List Nat) (c a : Nat) : Gt a (mustR L c a) := by
  unfold mustR
  split
  · exact tokR_gt L a
  · exact Gt.err _ _
theorem items_gt (L : List Nat) (ea : Nat → RR) (to_ : Nat) (h : ∀ q, Gt q (ea q)) : ∀ (f q : Nat), Gt q (itemsR L ea to_ f q) := by
  intro f
  induction f with
  | zero => intro q; exact Gt.err _ _
  | succ f ih =>
    intro q
    rw [items_succ]
    refine (h q).go (fun q => ?_)
    unfold moreR
    split
    · exact (tokR_gt L q).go ih
    · exact mustR_gt _ _ _
theorem row_gt (L : List Nat) (ea : Nat → RR) (from_ to_ a : Nat) (h : ∀ q, Gt q (ea q)) : Gt a (rowR L ea from_ to_ a) := by
  refine (mustR_gt _ _ _).go (fun q => ?_)
  split
  · exact mustR_gt _ _ _
  · exact items_gt _ _ _ h _ _
theorem mem_gt (L : List Nat) (v : Nat → RR) (a : Nat) (h : ∀ q, Gt q (v q)) : Gt a (memR L v a) := (mustR_gt _ _ _).go (fun _ => (mustR_gt _ _ _).go h)
theorem val_gt (L : List Nat) : ∀ (d a : Nat), Gt a (valR L d a) := by
  intro d
  induction d with
  | zero =>
    intro a
    unfold valR
    split
    · exact Gt.err _ _
    · split
      · exact Gt.err _ _
      · exact tokR_gt _ _
  | succ d ih =>
    intro a
    unfold valR
    split
    · exact row_gt _ _ _ _ _ (fun _ => mem_gt _ _ _ ih)
    · split
      · exact row_gt _ _ _ _ _ ih
      · split
        · exact Gt.err _ _
        · exact tokR_gt _ _
theorem skB_sk (L : List Nat) (a : Nat) : skB L (skB L a) = skB L a := tw_idem _ _ _
theorem mustR_sk (L : List Nat) (c a : Nat) : mustR L c (skB L a) = mustR L c a := by
  unfold mustR
  rw [skB_sk, tokR_sk]
theorem memR_sk (L : List Nat) (v : Nat → RR) (a : Nat) : memR L v (skB L a) = memR L v a := by
  unfold memR
  rw [mustR_sk]
theorem rowR_sk (L : List Nat) (ea : Nat → RR) (f t a : Nat) : rowR L ea f t (skB L a) = rowR L ea f t a := by
  unfold rowR
  rw [mustR_sk]
theorem valR_sk (L : List Nat) (d a : Nat) : valR L d (skB L a) = valR L d a := by
  cases d with
  | zero => unfold valR; rw [skB_sk, tokR_sk]
  | succ d => unfold valR; rw [skB_sk, tokR_sk, rowR_sk, rowR_sk]
theorem items_sk {L : List Nat} {ea : Nat → RR} (h : ∀ a, ea (skB L a) = ea a) (t f a : Nat) : itemsR L ea t f (skB L a) = itemsR L ea t f a := by
  cases f with
  | zero => rfl
  | succ f => rw [items_succ, items_succ, h]
set_option maxRecDepth 100000 in
set_option maxHeartbeats 2000000 in
theorem row_cvalue {V : World × World} {s : ByteArray} {bb b a op : Nat} {out : List Nat} {W : World} (hE : HasE V.1) (h : Sc V s bb b a op out W) (hs : s.size ≤ 67108864) (hop : op < 200) (ff tt : Nat) (hfr : ff < 256) (hto : tt < 256) {ea : Nat → RR} (hsk : ∀ a, ea (skB (strN s) a) = ea a) (hgt : ∀ a, Gt a (ea a))
    (hea : ∀ a' out' w, Sc V s bb b a' (op + 1) out' w → Calls Tryd.prog 15 #[.pointer (some ⟨b, 0, none⟩)] w (CR V s bb b (op + 1) out' isNil (ea a'))) :
    Calls Tryd.prog 26 #[.pointer (some ⟨b, 0, none⟩), .int .u8 (ff : Int), .int .u8 (tt : Int), .func (.func 15) #[.pointer (some ⟨b, 0, none⟩)] #[]] W (CR V s bb b op out isNil (rowR (strN s) ea ff tt a)) := by
  obtain ⟨-, -, -, c3, fz⟩ := h.cells
  have f3 := fz 3
  have e1 : ((op + 1 : Nat) : Int) = (op : Int) + 1 := by omega
  have h1 := h.opn (op + 1) (by omega)
  rw [e1] at h1
  have q200 : ((op : Int) == 200) = false := by simp; omega
  have HM := hide (must_any hE h1 hs hfr)
  have HE := hide hE
  have Hea := hide hea
  have Hgt := hide hgt
  have Hsk := hide hsk
  have HL := hide (strN_len s)
  obtain ⟨R, hR⟩ : ∃ R, rowR (strN s) ea ff tt a = R := ⟨_, rfl⟩
  have HR : Hid (R = (mustR (strN s) ff a).go fun p => if bt (strN s) (skB (strN s) p) = tt then mustR (strN s) tt p else itemsR (strN s) ea tt ((strN s).length + 1) p) := hR.symm
  rw [hR]
  clear h h1 fz hE hea hgt hsk e1 hR
  go_enter Tryd.func26, Tryd.ntmps26
  go_wp2_with fail
  refine (unhide HM).mono ?_
  intro e w1 hm
  rcases hm.split with ⟨c, p, hr, rfl, hb⟩ | ⟨l0, p0, v, hr, rfl, ⟨y, rfl⟩, h1⟩
  · have HEnd : CR V s bb b op out isNil R (flt (c : Int) (p : Int)) w1 := by
      rw [unhide HR, hr]
      exact CR.err _ _ hb
    exact ⟨rfl, HEnd⟩
  rw [hr] at HR
  have HP := hide (peek_any h1 hs)
  have hle0 := h1.le
  clear hm hr h1 HM
  obtain ⟨k, hk⟩ : ∃ k, skB (strN s) p0 = k := ⟨_, rfl⟩
  rw [hk] at HP
  have Hk := hide hk
  obtain ⟨x, hx⟩ : ∃ x, bt (strN s) k = x := ⟨_, rfl⟩
  rw [hx] at HP
  have Hx := hide hx
  clear hk hx
  go_wp2_with fail
  refine (unhide HP).mono ?_
  rintro e w2 ⟨rfl, h2⟩
  have H2 := hide h2
  clear h2 HP
  have HR2 : Hid (if (!((x : Int) == (tt : Int))) = true then R = RR.pre l0 (itemsR (strN s) ea tt ((strN s).length + 1) k) else R = RR.pre l0 (mustR (strN s) tt k)) := by
    show if _ then _ else _
    have hr : R = RR.pre l0 (if bt (strN s) (skB (strN s) p0) = tt then mustR (strN s) tt p0 else itemsR (strN s) ea tt ((strN s).length + 1) p0) := unhide HR
    rw [unhide Hk, unhide Hx] at hr
    rw [← unhide Hk, items_sk (unhide Hsk), mustR_sk]
    by_cases q : x = tt
    · rw [if_neg (by simp; omega), hr, if_pos q]
    · rw [if_pos (by simp; omega), hr, if_neg q]
  have hkle := (unhide H2).le
  go_wp2_with fail
  go_loopg [8] (s.size + 2) (fun gk v8 wr => ∃ (more : Bool) (a' : Nat) (pr : List Nat), v8 = .bool more ∧ a' ≤ s.size ∧ Hid (Sc V s bb b a' (op + 1) (out ++ pr) wr) ∧ Hid (if more = true then ∃ f, f < gk ∧ s.size < a' + f ∧ R = RR.pre pr (itemsR (strN s) ea tt f a') else R = RR.pre pr (mustR (strN s) tt a')))
  case atStart =>
    refine ⟨_, k, l0, rfl, hkle, H2, ?_⟩
    have := unhide HR2
    rw [unhide HL] at this
    show if _ then _ else _
    split at this
    · rw [if_pos (by assumption)]
      exact ⟨s.size + 1, by omega, by omega, this⟩
    · rw [if_neg (by assumption)]
      exact this
  case round =>
    obtain ⟨more, a', pr, rfl, hle, HS, Hm⟩ := hrel
    clear HR HR2 H2 Hx Hk
    cases more with
    | true =>
      have hm : ∃ f, f < gk ∧ s.size < a' + f ∧ R = RR.pre pr (itemsR (strN s) ea tt f a') := unhide Hm
      obtain ⟨f, hfg, hlt, hr⟩ := hm
      obtain ⟨f, rfl⟩ : ∃ j, f = j + 1 := ⟨f - 1, by omega⟩
      rw [items_succ, RR.pre_go] at hr
      have HR := hide hr
      have Hfg := hide hfg
      have Hlt := hide hlt
      have HC := hide (unhide Hea a' (out ++ pr) wr (unhide HS))
      have hgt := hide (unhide Hgt a')
      clear hr hfg hlt HS Hm
      go_wp2_with fail
      refine (unhide HC).mono ?_
      intro e w3 h3
      rcases h3.split with ⟨c, p, hr, rfl, hb⟩ | ⟨l, p, v, hr, rfl, rfl, h4⟩
      · have HEnd : CR V s bb b op out isNil R (flt (c : Int) (p : Int)) w3 := by
          rw [unhide HR, hr]
          exact CR.err _ _ hb
        exact ⟨rfl, HEnd⟩
      have hap : a' < p := unhide hgt l p hr
      have HR2 : Hid (R = RR.pre (pr ++ l) (moreR (strN s) ea tt f p)) := by
        show _ = _
        rw [unhide HR, hr]
        rfl
      rw [List.append_assoc] at h4
      have hple := h4.le
      have HC2 := hide (comma_any (unhide HE) h4 hs)
      have H4 := hide h4
      have Hap := hide hap
      clear h3 hr h4 hap HC HR hgt
      go_wp2_with fail
      refine (unhide HC2).mono ?_
      intro e w4 h5
      by_cases q44 : bt (strN s) (skB (strN s) p) = 44
      · rw [if_pos q44] at h5
        have HR3 : Hid (R = RR.go (RR.pre (pr ++ l) (tokR (strN s) p)) (itemsR (strN s) ea tt f)) := by
          show _ = _
          rw [unhide HR2, ← RR.pre_go]
          unfold moreR
          rw [if_pos q44]
        rcases h5.split with ⟨c, p', hr, rfl, hb⟩ | ⟨l2, p2, v, hr, rfl, rfl, h6⟩
        · have HEnd : CR V s bb b op out isNil R (flt (c : Int) (p' : Int)) w4 := by
            rw [unhide HR3, hr]
            exact CR.err _ _ hb
          exact ⟨rfl, HEnd⟩
        have hp2 : p < p2 := tokR_gt _ _ l2 p2 hr
        have hle2 := h6.le
        rw [List.append_assoc] at h6
        have H6 := hide h6
        have HF : Hid (if true = true then ∃ f', f' < f + 1 ∧ s.size < p2 + f' ∧ R = RR.pre ((pr ++ l) ++ l2) (itemsR (strN s) ea tt f' p2) else R = RR.pre ((pr ++ l) ++ l2) (mustR (strN s) tt p2)) := by
          show if _ then _ else _
          rw [if_pos rfl]
          refine ⟨f, by omega, by have := unhide Hlt; have := unhide Hap; omega, ?_⟩
          rw [unhide HR3, hr]
          rfl
        clear h5 hr hp2 h6 HR2 HR3 HC2 q44
        go_wp2_with fail
        go_roundg (f + 1)
        case measure => have := unhide Hfg; omega
        case rel => exact ⟨true, p2, _, rfl, hle2, H6, HF⟩
      · rw [if_neg q44] at h5
        obtain ⟨rfl, h6⟩ := h5
        have hle2 := h6.le
        have H6 := hide h6
        have HF : Hid (if false = true then ∃ f', f' < f + 1 ∧ s.size < skB (strN s) p + f' ∧ R = RR.pre (pr ++ l) (itemsR (strN s) ea tt f' (skB (strN s) p)) else R = RR.pre (pr ++ l) (mustR (strN s) tt (skB (strN s) p))) := by
          show if _ then _ else _
          rw [if_neg (by decide), mustR_sk, unhide HR2]
          unfold moreR
          rw [if_neg q44]
        clear h6 HR2 HC2 q44
        go_wp2_with fail
        go_roundg (f + 1)
        case measure => have := unhide Hfg; omega
        case rel => exact ⟨false, _, _, rfl, hle2, H6, HF⟩
    | false =>
      have hr : R = RR.pre pr (mustR (strN s) tt a') := unhide Hm
      have HR := hide hr
      have HC := hide (must_any (unhide HE) (unhide HS) hs hto)
      clear hr HS Hm
      go_wp2_with fail
      refine (unhide HC).mono ?_
      intro e w3 h3
      rcases h3.split with ⟨c, p, hr, rfl, hb⟩ | ⟨l, p, v, hr, rfl, ⟨y2, rfl⟩, h4⟩
      · have HEnd : CR V s bb b op out isNil R (flt (c : Int) (p : Int)) w3 := by
          rw [unhide HR, hr]
          exact CR.err _ _ hb
        exact ⟨rfl, HEnd⟩
      obtain ⟨-, -, -, d3, dz⟩ := h4.cells
      have g3 := dz 3
      have e1 : ((op + 1 : Nat) : Int) = (op : Int) + 1 := by omega
      rw [e1] at d3
      have H5 := hide (h4.opn op (by omega))
      have HR2 : Hid (R = .ok (pr ++ l, p)) := by
        show _ = _
        rw [unhide HR, hr]
        rfl
      have e2 : (op : Int) + 1 - 1 = (op : Int) := by omega
      clear h3 hr h4 dz HC HR e1
      go_wp2
      go_end0
      rw [unhide HR2]
      refine CR.good rfl ?_
      rw [← List.append_assoc]
      exact unhide H5
set_option maxRecDepth 100000 in
set_option maxHeartbeats 2000000 in
theorem row_cmember {V : World × World} {s : ByteArray} {bb b a op : Nat} {out : List Nat} {W : World} (hE : HasE V.1) (h : Sc V s bb b a op out W) (hs : s.size ≤ 67108864) (hop : op < 200) (ff tt : Nat) (hfr : ff < 256) (hto : tt < 256) {ea : Nat → RR} (hsk : ∀ a, ea (skB (strN s) a) = ea a) (hgt : ∀ a, Gt a (ea a))
    (hea : ∀ a' out' w, Sc V s bb b a' (op + 1) out' w → Calls Tryd.prog 27 #[.pointer (some ⟨b, 0, none⟩)] w (CR V s bb b (op + 1) out' isNil (ea a'))) :
    Calls Tryd.prog 26 #[.pointer (some ⟨b, 0, none⟩), .int .u8 (ff : Int), .int .u8 (tt : Int), .func (.func 27) #[.pointer (some ⟨b, 0, none⟩)] #[]] W (CR V s bb b op out isNil (rowR (strN s) ea ff tt a)) := by
  obtain ⟨-, -, -, c3, fz⟩ := h.cells
  have f3 := fz 3
  have e1 : ((op + 1 : Nat) : Int) = (op : Int) + 1 := by omega
  have h1 := h.opn (op + 1) (by omega)
  rw [e1] at h1
  have q200 : ((op : Int) == 200) = false := by simp; omega
  have HM := hide (must_any hE h1 hs hfr)
  have HE := hide hE
  have Hea := hide hea
  have Hgt := hide hgt
  have Hsk := hide hsk
  have HL := hide (strN_len s)
  obtain ⟨R, hR⟩ : ∃ R, rowR (strN s) ea ff tt a = R := ⟨_, rfl⟩
  have HR : Hid (R = (mustR (strN s) ff a).go fun p => if bt (strN s) (skB (strN s) p) = tt then mustR (strN s) tt p else itemsR (strN s) ea tt ((strN s).length + 1) p) := hR.symm
  rw [hR]
  clear h h1 fz hE hea hgt hsk e1 hR
  go_enter Tryd.func26, Tryd.ntmps26
  go_wp2_with fail
  refine (unhide HM).mono ?_
  intro e w1 hm
  rcases hm.split with ⟨c, p, hr, rfl, hb⟩ | ⟨l0, p0, v, hr, rfl, ⟨y, rfl⟩, h1⟩
  · have HEnd : CR V s bb b op out isNil R (flt (c : Int) (p : Int)) w1 := by
      rw [unhide HR, hr]
      exact CR.err _ _ hb
    exact ⟨rfl, HEnd⟩
  rw [hr] at HR
  have HP := hide (peek_any h1 hs)
  have hle0 := h1.le
  clear hm hr h1 HM
  obtain ⟨k, hk⟩ : ∃ k, skB (strN s) p0 = k := ⟨_, rfl⟩
  rw [hk] at HP
  have Hk := hide hk
  obtain ⟨x, hx⟩ : ∃ x, bt (strN s) k = x := ⟨_, rfl⟩
  rw [hx] at HP
  have Hx := hide hx
  clear hk hx
  go_wp2_with fail
  refine (unhide HP).mono ?_
  rintro e w2 ⟨rfl, h2⟩
  have H2 := hide h2
  clear h2 HP
  have HR2 : Hid (if (!((x : Int) == (tt : Int))) = true then R = RR.pre l0 (itemsR (strN s) ea tt ((strN s).length + 1) k) else R = RR.pre l0 (mustR (strN s) tt k)) := by
    show if _ then _ else _
    have hr : R = RR.pre l0 (if bt (strN s) (skB (strN s) p0) = tt then mustR (strN s) tt p0 else itemsR (strN s) ea tt ((strN s).length + 1) p0) := unhide HR
    rw [unhide Hk, unhide Hx] at hr
    rw [← unhide Hk, items_sk (unhide Hsk), mustR_sk]
    by_cases q : x = tt
    · rw [if_neg (by simp; omega), hr, if_pos q]
    · rw [if_pos (by simp; omega), hr, if_neg q]
  have hkle := (unhide H2).le
  go_wp2_with fail
  go_loopg [8] (s.size + 2) (fun gk v8 wr => ∃ (more : Bool) (a' : Nat) (pr : List Nat), v8 = .bool more ∧ a' ≤ s.size ∧ Hid (Sc V s bb b a' (op + 1) (out ++ pr) wr) ∧ Hid (if more = true then ∃ f, f < gk ∧ s.size < a' + f ∧ R = RR.pre pr (itemsR (strN s) ea tt f a') else R = RR.pre pr (mustR (strN s) tt a')))
  case atStart =>
    refine ⟨_, k, l0, rfl, hkle, H2, ?_⟩
    have := unhide HR2
    rw [unhide HL] at this
    show if _ then _ else _
    split at this
    · rw [if_pos (by assumption)]
      exact ⟨s.size + 1, by omega, by omega, this⟩
    · rw [if_neg (by assumption)]
      exact this
  case round =>
    obtain ⟨more, a', pr, rfl, hle, HS, Hm⟩ := hrel
    clear HR HR2 H2 Hx Hk
    cases more with
    | true =>
      have hm : ∃ f, f < gk ∧ s.size < a' + f ∧ R = RR.pre pr (itemsR (strN s) ea tt f a') := unhide Hm
      obtain ⟨f, hfg, hlt, hr⟩ := hm
      obtain ⟨f, rfl⟩ : ∃ j, f = j + 1 := ⟨f - 1, by omega⟩
      rw [items_succ, RR.pre_go] at hr
      have HR := hide hr
      have Hfg := hide hfg
      have Hlt := hide hlt
      have HC := hide (unhide Hea a' (out ++ pr) wr (unhide HS))
      have hgt := hide (unhide Hgt a')
      clear hr hfg hlt HS Hm
      go_wp2_with fail
      refine (unhide HC).mono ?_
      intro e w3 h3
      rcases h3.split with ⟨c, p, hr, rfl, hb⟩ | ⟨l, p, v, hr, rfl, rfl, h4⟩
      · have HEnd : CR V s bb b op out isNil R (flt (c : Int) (p : Int)) w3 := by
          rw [unhide HR, hr]
          exact CR.err _ _ hb
        exact ⟨rfl, HEnd⟩
      have hap : a' < p := unhide hgt l p hr
      have HR2 : Hid (R = RR.pre (pr ++ l) (moreR (strN s) ea tt f p)) := by
        show _ = _
        rw [unhide HR, hr]
        rfl
      rw [List.append_assoc] at h4
      have hple := h4.le
      have HC2 := hide (comma_any (unhide HE) h4 hs)
      have H4 := hide h4
      have Hap := hide hap
      clear h3 hr h4 hap HC HR hgt
      go_wp2_with fail
      refine (unhide HC2).mono ?_
      intro e w4 h5
      by_cases q44 : bt (strN s) (skB (strN s) p) = 44
      · rw [if_pos q44] at h5
        have HR3 : Hid (R = RR.go (RR.pre (pr ++ l) (tokR (strN s) p)) (itemsR (strN s) ea tt f)) := by
          show _ = _
          rw [unhide HR2, ← RR.pre_go]
          unfold moreR
          rw [if_pos q44]
        rcases h5.split with ⟨c, p', hr, rfl, hb⟩ | ⟨l2, p2, v, hr, rfl, rfl, h6⟩
        · have HEnd : CR V s bb b op out isNil R (flt (c : Int) (p' : Int)) w4 := by
            rw [unhide HR3, hr]
            exact CR.err _ _ hb
          exact ⟨rfl, HEnd⟩
        have hp2 : p < p2 := tokR_gt _ _ l2 p2 hr
        have hle2 := h6.le
        rw [List.append_assoc] at h6
        have H6 := hide h6
        have HF : Hid (if true = true then ∃ f', f' < f + 1 ∧ s.size < p2 + f' ∧ R = RR.pre ((pr ++ l) ++ l2) (itemsR (strN s) ea tt f' p2) else R = RR.pre ((pr ++ l) ++ l2) (mustR (strN s) tt p2)) := by
          show if _ then _ else _
          rw [if_pos rfl]
          refine ⟨f, by omega, by have := unhide Hlt; have := unhide Hap; omega, ?_⟩
          rw [unhide HR3, hr]
          rfl
        clear h5 hr hp2 h6 HR2 HR3 HC2 q44
        go_wp2_with fail
        go_roundg (f + 1)
        case measure => have := unhide Hfg; omega
        case rel => exact ⟨true, p2, _, rfl, hle2, H6, HF⟩
      · rw [if_neg q44] at h5
        obtain ⟨rfl, h6⟩ := h5
        have hle2 := h6.le
        have H6 := hide h6
        have HF : Hid (if false = true then ∃ f', f' < f + 1 ∧ s.size < skB (strN s) p + f' ∧ R = RR.pre (pr ++ l) (itemsR (strN s) ea tt f' (skB (strN s) p)) else R = RR.pre (pr ++ l) (mustR (strN s) tt (skB (strN s) p))) := by
          show if _ then _ else _
          rw [if_neg (by decide), mustR_sk, unhide HR2]
          unfold moreR
          rw [if_neg q44]
        clear h6 HR2 HC2 q44
        go_wp2_with fail
        go_roundg (f + 1)
        case measure => have := unhide Hfg; omega
        case rel => exact ⟨false, _, _, rfl, hle2, H6, HF⟩
    | false =>
      have hr : R = RR.pre pr (mustR (strN s) tt a') := unhide Hm
      have HR := hide hr
      have HC := hide (must_any (unhide HE) (unhide HS) hs hto)
      clear hr HS Hm
      go_wp2_with fail
      refine (unhide HC).mono ?_
      intro e w3 h3
      rcases h3.split with ⟨c, p, hr, rfl, hb⟩ | ⟨l, p, v, hr, rfl, ⟨y2, rfl⟩, h4⟩
      · have HEnd : CR V s bb b op out isNil R (flt (c : Int) (p : Int)) w3 := by
          rw [unhide HR, hr]
          exact CR.err _ _ hb
        exact ⟨rfl, HEnd⟩
      obtain ⟨-, -, -, d3, dz⟩ := h4.cells
      have g3 := dz 3
      have e1 : ((op + 1 : Nat) : Int) = (op : Int) + 1 := by omega
      rw [e1] at d3
      have H5 := hide (h4.opn op (by omega))
      have HR2 : Hid (R = .ok (pr ++ l, p)) := by
        show _ = _
        rw [unhide HR, hr]
        rfl
      have e2 : (op : Int) + 1 - 1 = (op : Int) := by omega
      clear h3 hr h4 dz HC HR e1
      go_wp2
      go_end0
      rw [unhide HR2]
      refine CR.good rfl ?_
      rw [← List.append_assoc]
      exact unhide H5
set_option maxRecDepth 100000 in
theorem member_any {V : World × World} {s : ByteArray} {bb b a op : Nat} {out : List Nat} {W : World} (hE : HasE V.1) (h : Sc V s bb b a op out W) (hs : s.size ≤ 67108864) {ea : Nat → RR}
    (hea : ∀ a' out' w, Sc V s bb b a' op out' w → Calls Tryd.prog 15 #[.pointer (some ⟨b, 0, none⟩)] w (CR V s bb b op out' isNil (ea a'))) :
    Calls Tryd.prog 27 #[.pointer (some ⟨b, 0, none⟩)] W (CR V s bb b op out isNil (memR (strN s) ea a)) := by
  have HM := hide (must_any hE h hs (c := 34) (by omega))
  have HM2 : Hid (∀ a' out' w, Sc V s bb b a' op out' w → Calls Tryd.prog 38 #[.pointer (some ⟨b, 0, none⟩), .int .u8 ((58 : Nat) : Int)] w (CR V s bb b op out' isStr (mustR (strN s) 58 a'))) := fun a' out' w hw => must_any hE hw hs (by omega)
  have Hea := hide hea
  obtain ⟨R, hR⟩ : ∃ R, memR (strN s) ea a = R := ⟨_, rfl⟩
  have HR : Hid (R = (mustR (strN s) 34 a).go fun p => (mustR (strN s) 58 p).go ea) := hR.symm
  rw [hR]
  clear h hE hea hR
  go_enter Tryd.func27, Tryd.ntmps27
  go_wp2_with fail
  refine (unhide HM).mono ?_
  intro e w1 h1
  rcases h1.split with ⟨c, p, hr, rfl, hb⟩ | ⟨l, p, v, hr, rfl, ⟨y, rfl⟩, h2⟩
  · have HEnd : CR V s bb b op out isNil R (flt (c : Int) (p : Int)) w1 := by
      rw [unhide HR, hr]
      exact CR.err _ _ hb
    exact ⟨rfl, HEnd⟩
  have HR2 : Hid (R = (RR.pre l (mustR (strN s) 58 p)).go ea) := by
    show _ = _
    rw [unhide HR, hr, ← RR.pre_go]
    rfl
  have HC := hide (unhide HM2 _ _ _ h2)
  clear h1 hr h2 HM HR
  go_wp2_with fail
  refine (unhide HC).mono ?_
  intro e w2 h1
  rcases h1.split with ⟨c, p', hr, rfl, hb⟩ | ⟨l2, p2, v, hr, rfl, ⟨y2, rfl⟩, h2⟩
  · have HEnd : CR V s bb b op out isNil R (flt (c : Int) (p' : Int)) w2 := by
      rw [unhide HR2, hr]
      exact CR.err _ _ hb
    exact ⟨rfl, HEnd⟩
  have HR3 : Hid (R = RR.pre (l ++ l2) (ea p2)) := by
    show _ = _
    rw [unhide HR2, hr]
    rfl
  rw [List.append_assoc] at h2
  have HC2 := hide (unhide Hea _ _ _ h2)
  clear h1 hr h2 HC HR2
  go_wp2_with fail
  refine (unhide HC2).mono ?_
  intro e w3 h1
  have h3 := h1.pre
  rw [← unhide HR3] at h3
  rcases h1.split with ⟨c, p', hr, rfl, hb⟩ | ⟨l3, p3, v, hr, rfl, rfl, h2⟩
  · exact ⟨rfl, h3⟩
  have H3 := hide h3
  clear h1 h3 hr h2
  go_wp2
  go_end0
  exact unhide H3
end Go.Proofs.YthodjkeppobcmaaDoor
