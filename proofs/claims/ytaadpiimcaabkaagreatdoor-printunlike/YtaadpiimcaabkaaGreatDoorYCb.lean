import Derived.Test.YtaadpiimcaabkaaGreatDoorYCa

namespace Go.Proofs.YtaadpiimcaabkaaGreatDoor

theorem map_inj_on {α β : Type} {f g : α → β} : ∀ (a b : List α), (∀ x ∈ a, ∀ y ∈ b, f x = g y → x = y) → a.map f = b.map g → a = b
  | [], [], _, _ => rfl
  | [], _ :: _, _, e => by simp at e
  | _ :: _, [], _, e => by simp at e
  | x :: a, y :: b, h, e => by
    obtain ⟨e1, e2⟩ := List.cons.inj e
    rw [h x (List.mem_cons_self ..) y (List.mem_cons_self ..) e1, map_inj_on a b (fun x hx y hy => h x (List.mem_cons_of_mem _ hx) y (List.mem_cons_of_mem _ hy)) e2]
theorem empty_eq {s : ByteArray} (h : s.toList.isEmpty = true) : strN s = [] := by
  have h1 : (strN s).length = 0 := by unfold strN; rw [List.length_map, Array.length_toList]; exact empty_size h
  exact List.eq_nil_of_length_eq_zero h1
/-- A field's line, without what it is indented by. -/
def fldT (d : Fd) : List Nat := strN (typeT d) ++ 32 :: (strN d.name ++ 32 :: 61 :: 32 :: (itN d.num ++ [59]))
def fldP (d : Fd) : List (List Nat) := (if d.card = 2 then [([111, 112, 116, 105, 111, 110, 97, 108]), strN d.ty] else if d.card = 3 then [([114, 101, 112, 101, 97, 116, 101, 100]), strN d.ty] else if d.card = 4 then [109 :: 97 :: 112 :: 60 :: (strN d.key ++ [44]), strN d.ty ++ [62]] else [strN d.ty]) ++ [strN d.name, [61], itN d.num ++ [59]]
theorem fld_nl (d : Fd) : fldT d ++ [32] = nl 32 (fldP d) := by
  unfold fldT fldP typeT
  have e1 : strN sOpt = [111, 112, 116, 105, 111, 110, 97, 108, 32] := rfl
  have e2 : strN sRep = [114, 101, 112, 101, 97, 116, 101, 100, 32] := rfl
  have e3 : strN sMap = [109, 97, 112, 60] := rfl
  have e4 : strN sCom = [44, 32] := rfl
  have e5 : strN sGt = [62] := rfl
  repeat' split
  all_goals simp [strN_app, nl, e1, e2, e3, e4, e5]
theorem fieldL_eq (n : Nat) (d : Fd) : fieldL n d = nl 10 [ind n ++ fldT d] := by
  have e1 : strN sSp = [32] := rfl
  have e2 : strN sEq = [32, 61, 32] := rfl
  have e3 : strN sSemi = [59] := rfl
  unfold fieldL lineL fldT ind nl itN
  simp [e1, e2, e3]
/-- What the parts of a right field are made of. -/
structure FdC (d : Fd) : Prop where
  nm : ∀ x ∈ strN d.name, isLet x ∨ isDig x
  ty : ∀ x ∈ strN d.ty, isLet x ∨ isDig x ∨ x = 46
  key : ∀ x ∈ strN d.key, isLet x ∨ isDig x ∨ x = 46
  card : d.card = 1 ∨ d.card = 2 ∨ d.card = 3 ∨ d.card = 4
  no : d.card ≠ 4 → strN d.key = []
  first : d.card = 1 → d.oneof = 0 → strN d.ty ≠ [114, 101, 115, 101, 114, 118, 101, 100]
theorem fdC {d : Fd} (h : fieldB d = true) : FdC d := by
  unfold fieldB at h
  simp only [Bool.and_eq_true, decide_eq_true_eq] at h
  obtain ⟨⟨⟨⟨h1, h2⟩, h3⟩, h4⟩, h5⟩ := h
  have hn : inS (firstS d.ty) (refW d) = false := by simpa using h5
  have h6 : (d.card = 1 ∨ d.card = 2 ∨ d.card = 3 ∨ d.card = 4) ∧ (d.card ≠ 4 → strN d.key = []) ∧ ∀ x ∈ strN d.key, isLet x ∨ isDig x ∨ x = 46 := by
    unfold cardB at h4
    split at h4
    · rename_i hc; exact ⟨.inl hc, fun _ => empty_eq h4, by rw [empty_eq h4]; simp⟩
    · split at h4
      · rename_i hc
        simp only [Bool.and_eq_true] at h4
        exact ⟨.inr (hc.elim .inl (fun h => .inr (.inl h))), fun _ => empty_eq h4.1, by rw [empty_eq h4.1]; simp⟩
      · split at h4
        · rename_i hc
          simp only [Bool.and_eq_true] at h4
          exact ⟨.inr (.inr (.inr hc)), fun h => absurd hc h, type_chars h4.1⟩
        · cases h4
  exact ⟨(word_chars h1).2, type_chars h3, h6.2.2, h6.1, h6.2.1, fun a b => not_reserved hn a b⟩
theorem FdC.pieces {d : Fd} (h : FdC d) : ∀ l ∈ fldP d, ∀ x ∈ l, x ≠ 32 ∧ x ≠ 10 := by
  have a1 : ∀ x ∈ strN d.name, x ≠ 32 ∧ x ≠ 10 := fun x hx => by have := h.nm x hx; unfold isLet isDig at this; omega
  have a2 : ∀ x ∈ strN d.ty, x ≠ 32 ∧ x ≠ 10 := fun x hx => by have := h.ty x hx; unfold isLet isDig at this; omega
  have a3 : ∀ x ∈ strN d.key, x ≠ 32 ∧ x ≠ 10 := fun x hx => by have := h.key x hx; unfold isLet isDig at this; omega
  have a4 : ∀ x ∈ itN d.num, x ≠ 32 ∧ x ≠ 10 := fun x hx => by have := (itN_chars d.num).2 x hx; unfold isDig at this; omega
  have a5 : ∀ l ∈ [strN d.name, [61], itN d.num ++ [59]], ∀ x ∈ l, x ≠ 32 ∧ x ≠ 10 := by
    intro l hl x hx
    simp only [List.mem_cons, List.not_mem_nil, or_false] at hl
    rcases hl with rfl | rfl | rfl
    · exact a1 x hx
    · simp at hx; omega
    · rcases List.mem_append.1 hx with hx | hx
      · exact a4 x hx
      · simp at hx; omega
  intro l hl x hx
  unfold fldP at hl
  rcases List.mem_append.1 hl with hl | hl
  · repeat' split at hl
    all_goals simp only [List.mem_cons, List.not_mem_nil, or_false] at hl
    · rcases hl with rfl | rfl
      · simp at hx; omega
      · exact a2 x hx
    · rcases hl with rfl | rfl
      · simp at hx; omega
      · exact a2 x hx
    · rcases hl with rfl | rfl
      · simp only [List.mem_cons, List.mem_append, List.not_mem_nil, or_false] at hx
        rcases hx with h | h | h | h | h | h
        · omega
        · omega
        · omega
        · omega
        · exact a3 x h
        · omega
      · rcases List.mem_append.1 hx with hx | hx
        · exact a2 x hx
        · simp at hx; omega
    · subst hl; exact a2 x hx
  · exact a5 l hl x hx
theorem nl_mem {x y : Nat} {ls : List (List Nat)} (h : ∀ l ∈ ls, y ∉ l) (hxy : y ≠ x) : y ∉ nl x ls := by
  unfold nl
  simp only [List.mem_flatMap, List.mem_append, List.mem_singleton, not_exists, not_and, not_or]
  exact fun l hl => ⟨h l hl, hxy⟩
theorem FdC.no10 {d : Fd} (h : FdC d) : 10 ∉ fldT d := by
  have h1 : 10 ∉ nl 32 (fldP d) := nl_mem (fun l hl hx => (h.pieces l hl 10 hx).2 rfl) (by decide)
  rw [← fld_nl] at h1
  exact fun hx => h1 (List.mem_append_left _ hx)
theorem fld_inj {d d' : Fd} (h : FdC d) (h' : FdC d') (ho : d.oneof = d'.oneof) (e : fldT d = fldT d') : d = d' := by
  have e2 : nl 32 (fldP d) = nl 32 (fldP d') := by rw [← fld_nl, ← fld_nl, e]
  have e3 := nl_inj _ _ (fun l hl hx => (h.pieces l hl 32 hx).1 rfl) (fun l hl hx => (h'.pieces l hl 32 hx).1 rfl) e2
  obtain ⟨card, key, ty, nm, num, on⟩ := d
  obtain ⟨card', key', ty', nm', num', on'⟩ := d'
  obtain rfl : on = on' := ho
  have c1 := h.card
  have c2 := h'.card
  have k1 := h.no
  have k2 := h'.no
  simp only at c1 c2 k1 k2
  unfold fldP at e3
  simp only at e3
  rcases c1 with rfl | rfl | rfl | rfl <;> rcases c2 with rfl | rfl | rfl | rfl
  all_goals simp at e3
  · obtain ⟨a, b, c⟩ := e3
    rw [strN_inj a, strN_inj b, itN_inj c, strN_inj ((k1 (by decide)).trans (k2 (by decide)).symm)]
  · obtain ⟨a, b, c⟩ := e3
    rw [strN_inj a, strN_inj b, itN_inj c, strN_inj ((k1 (by decide)).trans (k2 (by decide)).symm)]
  · obtain ⟨a, b, c⟩ := e3
    rw [strN_inj a, strN_inj b, itN_inj c, strN_inj ((k1 (by decide)).trans (k2 (by decide)).symm)]
  · obtain ⟨k, a, b, c⟩ := e3
    rw [strN_inj a, strN_inj b, itN_inj c, strN_inj k]
theorem tw {l r : List Nat} (h : 32 ∉ l) : (l ++ 32 :: r).takeWhile (· ≠ 32) = l := by
  induction l with
  | nil => simp
  | cons a l ih =>
    simp only [List.mem_cons, not_or] at h
    rw [List.cons_append, List.takeWhile_cons, if_pos (by simpa using fun e => h.1 e.symm), ih h.2]
/-- The word reserved. -/
def wRes : List Nat := [114, 101, 115, 101, 114, 118, 101, 100]
theorem FdC.word {d : Fd} (h : FdC d) (ho : d.card = 1 → d.oneof = 0) : (fldT d).takeWhile (· ≠ 32) ≠ wRes := by
  have key : ∃ l r, fldP d = l :: r ∧ l ≠ wRes := by
    unfold fldP
    rcases h.card with hc | hc | hc | hc
    · rw [if_neg (by omega), if_neg (by omega), if_neg (by omega)]; exact ⟨_, _, rfl, h.first hc (ho hc)⟩
    · rw [if_pos hc]; exact ⟨_, _, rfl, by decide⟩
    · rw [if_neg (by omega), if_pos hc]; exact ⟨_, _, rfl, by decide⟩
    · rw [if_neg (by omega), if_neg (by omega), if_pos hc]; exact ⟨_, _, rfl, fun e => by simp [wRes] at e⟩
  obtain ⟨l, r, h1, h2⟩ := key
  have h3 : 32 ∉ l := fun hx => (h.pieces l (by rw [h1]; simp) 32 hx).1 rfl
  have e := fld_nl d
  rw [h1, nl_cons] at e
  have h4 : ∃ q, fldT d = l ++ 32 :: q := by
    cases hr : r with
    | nil =>
      exfalso
      have := congrArg List.length h1
      rw [hr] at this
      unfold fldP at this
      simp at this
    | cons a b =>
      rw [hr, nl_cons] at e
      have e' : fldT d ++ [32] = (l ++ 32 :: (a ++ 32 :: nl 32 b)) := e
      have : fldT d = (l ++ 32 :: (a ++ 32 :: nl 32 b)).dropLast := by rw [← e']; simp
      refine ⟨(a ++ 32 :: nl 32 b).dropLast, ?_⟩
      rw [this, List.dropLast_append_of_ne_nil (by simp), List.dropLast_cons_of_ne_nil (by simp)]
  obtain ⟨q, hq⟩ := h4
  rw [hq, tw h3]
  exact h2
/-- A value's line. -/
def valT (v : ByteArray × Int) : List Nat := strN v.1 ++ 32 :: 61 :: 32 :: (itN v.2 ++ [59])
theorem valL_eq (n : Nat) (v : ByteArray × Int) : valL n v = nl 10 [ind n ++ valT v] := by
  have e2 : strN sEq = [32, 61, 32] := rfl
  have e3 : strN sSemi = [59] := rfl
  unfold valL lineL valT ind nl itN
  simp [e2, e3]
structure VlC (v : ByteArray × Int) : Prop where
  nm : ∀ x ∈ strN v.1, isLet x ∨ isDig x
  no : strN v.1 ≠ wRes
theorem vlC {v : ByteArray × Int} (h : valueB v = true) : VlC v := by
  unfold valueB at h
  simp only [Bool.and_eq_true, decide_eq_true_eq] at h
  obtain ⟨⟨⟨h1, h2⟩, h3⟩, -⟩ := h
  refine ⟨(word_chars h1).2, fun e => ?_⟩
  have e2 : v.1 = wReserved := strN_inj e
  rw [e2] at h3
  simp at h3
theorem VlC.no32 {v : ByteArray × Int} (h : VlC v) : 32 ∉ strN v.1 := fun hx => by have := h.nm _ hx; unfold isLet isDig at this; omega
theorem VlC.word {v : ByteArray × Int} (h : VlC v) : (valT v).takeWhile (· ≠ 32) ≠ wRes := by
  unfold valT
  rw [tw h.no32]
  exact h.no
theorem VlC.no10 {v : ByteArray × Int} (h : VlC v) : 10 ∉ valT v := by
  unfold valT
  intro hx
  simp only [List.mem_append, List.mem_cons, List.not_mem_nil, or_false] at hx
  rcases hx with hx | hx | hx | hx | hx | hx
  · have := h.nm _ hx; unfold isLet isDig at this; omega
  · omega
  · omega
  · omega
  · have := (itN_chars v.2).2 _ hx; unfold isDig at this; omega
  · omega
theorem val_inj {v v' : ByteArray × Int} (h : VlC v) (h' : VlC v') (e : valT v = valT v') : v = v' := by
  unfold valT at e
  obtain ⟨e1, e2⟩ := cut_at (· ≠ 32) (by simp) _ _ _ _ (fun x hx hh => h.no32 (hh ▸ hx)) (fun x hx hh => h'.no32 (hh ▸ hx)) e
  have e3 : itN v.2 ++ [59] = itN v'.2 ++ [59] := by simpa using e2
  obtain ⟨a, b⟩ := v
  obtain ⟨a', b'⟩ := v'
  exact Prod.ext (strN_inj e1) (itN_inj (List.append_cancel_right e3))
/-- A line of what is reserved. -/
def resI (ts : List ByteArray) : List It := if 0 < ts.length then [.ln (strN sResv ++ (strN (joinB ts) ++ [59]))] else []
theorem resL_eq (n : Nat) (ts : List ByteArray) : resL n ts = nl 10 ((resI ts).flatMap (It.ls n)) := by
  have e3 : strN sSemi = [59] := rfl
  unfold resL resI
  split
  · simp [It.ls, nl, lineL, ind, e3]
  · rfl
noncomputable def valsI (e : En) : List It := resI (e.res.map (rowT 2147483647)) ++ (resI (e.gone.map quoteB) ++ e.vals.map (fun v => .ln (valT v)))
theorem nl_map {α : Type} {f : α → List Nat} {g : α → It} {n : Nat} : ∀ (l : List α), (∀ x ∈ l, f x = nl 10 (It.ls n (g x))) → l.flatMap f = nl 10 ((l.map g).flatMap (It.ls n))
  | [], _ => rfl
  | x :: l, h => by
    rw [List.flatMap_cons, List.map_cons, List.flatMap_cons, nl_app, h x (List.mem_cons_self ..), nl_map l (fun y hy => h y (List.mem_cons_of_mem _ hy))]
theorem valsL_eq (n : Nat) (e : En) : valsL n e = nl 10 ((valsI e).flatMap (It.ls n)) := by
  unfold valsL rsvL valsI
  rw [List.flatMap_append, List.flatMap_append, nl_app, nl_app, resL_eq, resL_eq, nl_map (g := fun v => .ln (valT v)) e.vals (fun v _ => valL_eq n v), List.append_assoc]
theorem blk_eq (n : Nat) (a b : ByteArray) (I : List (List Nat)) : blkL n a b (nl 10 I) = nl 10 (It.ls n (.bk (strN a ++ 32 :: strN b) I)) := by
  have e1 : strN ⟨#[32]⟩ = [32] := rfl
  have e2 : strN ⟨#[32, 123]⟩ = [32, 123] := rfl
  have e3 : strN ⟨#[125]⟩ = [125] := rfl
  unfold It.ls
  rw [nl_cons, nl_app]
  unfold blkL lineL ind
  simp only [List.flatMap_cons, List.flatMap_nil, List.append_nil, e1, e2, e3, List.append_assoc, List.cons_append, List.nil_append, nl]
noncomputable def enI (n : Nat) (e : En) : It := .bk (strN sEnum ++ 32 :: strN e.name) ((valsI e).flatMap (It.ls (n + 1)))
theorem enL_eq (n : Nat) (e : En) : enL n e = nl 10 (It.ls n (enI n e)) := by
  unfold enL enI
  rw [valsL_eq, blk_eq]
def grpI (n : Nat) (os : List ByteArray) (G : List Fd) : It := match G with
  | [] => .ln [59]
  | d :: _ => if d.oneof ≠ 0 then .bk (strN sOneof ++ 32 :: strN (os.getD (d.oneof.toNat - 1) ⟨#[]⟩)) (G.map (fun d => ind (n + 1) ++ fldT d)) else .ln (fldT d)
/-- Groups in the order of the oneofs. -/
inductive Grp : Nat → List (List Fd) → Nat → Prop
  | nil {k : Nat} : Grp k [] k
  | one {k j : Nat} {d : Fd} {r : List (List Fd)} : d.oneof = 0 → Grp k r j → Grp k ([d] :: r) j
  | grp {k j : Nat} {d : Fd} {G : List Fd} {r : List (List Fd)} : (∀ x ∈ d :: G, x.oneof = (k : Int) + 1) → Grp (k + 1) r j → Grp k ((d :: G) :: r) j
theorem Grp.app {k j i : Nat} {a b : List (List Fd)} (h : Grp k a j) (h' : Grp j b i) : Grp k (a ++ b) i := by
  induction h with
  | nil => exact h'
  | one h1 _ ih => exact .one h1 (ih h')
  | grp h1 _ ih => exact .grp h1 (ih h')
/-- One more field in the last group. -/
theorem Grp.last {k j : Nat} {a : List (List Fd)} {G : List Fd} (h : Grp k (a ++ [G]) j) {c d : Fd} {q : List Fd} (hG : G = c :: q) (hc : c.oneof ≠ 0) (hd : d.oneof = c.oneof) : Grp k (a ++ [G ++ [d]]) j := by
  generalize hl : a ++ [G] = l at h
  induction h generalizing a with
  | nil => simp at hl
  | one h1 hr ih =>
    cases a with
    | nil =>
      obtain ⟨rfl, rfl⟩ := List.cons.inj hl
      obtain ⟨rfl, -⟩ := List.cons.inj hG
      exact absurd h1 hc
    | cons x a =>
      obtain ⟨rfl, h2⟩ := List.cons.inj hl
      exact .one h1 (ih h2)
  | @grp k j d0 G0 r h1 hr ih =>
    cases a with
    | nil =>
      obtain ⟨rfl, rfl⟩ := List.cons.inj hl
      obtain ⟨rfl, rfl⟩ := List.cons.inj hG
      refine .grp (fun x hx => ?_) hr
      rcases List.mem_cons.1 hx with rfl | hx
      · exact h1 _ (List.mem_cons_self ..)
      · rcases List.mem_append.1 hx with hx | hx
        · exact h1 x (List.mem_cons_of_mem _ hx)
        · obtain rfl : x = d := by simpa using hx
          rw [hd]; exact h1 _ (List.mem_cons_self ..)
    | cons x a =>
      obtain ⟨rfl, h2⟩ := List.cons.inj hl
      exact .grp h1 (ih h2)
/-- The oneof of the last group. -/
def lastO (gs : List (List Fd)) : Int := match gs[gs.length - 1]? with
  | some (a :: _) => a.oneof
  | _ => 0
theorem lastO_app (gs : List (List Fd)) (a : Fd) (q : List Fd) : lastO (gs ++ [a :: q]) = a.oneof := by simp [lastO]
theorem grps_grp : ∀ (l : List Fd) (gs : List (List Fd)) (b : Nat) (r : Int), Grp 0 gs b → onG l (lastO gs) b = some r → ∃ k : Nat, r = (k : Int) ∧ Grp 0 (l.foldl grpS gs) k
  | [], gs, b, r, h, e => ⟨b, (Option.some.inj e).symm, h⟩
  | d :: l, gs, b, r, h, e => by
    rw [List.foldl_cons]
    unfold onG at e
    by_cases hj : grpC gs d = true
    · have hgc := hj
      unfold grpC at hj
      have hne : gs ≠ [] := by rintro rfl; simp at hj
      obtain ⟨G, a, rfl⟩ : ∃ G a, gs = a ++ [G] := ⟨_, _, (List.dropLast_concat_getLast hne).symm⟩
      cases G with
      | nil => simp at hj
      | cons c q =>
        have hj2 : c.oneof ≠ 0 ∧ c.oneof = d.oneof := by simpa [joins] using hj
        have e1 : grpS (a ++ [c :: q]) d = a ++ [(c :: q) ++ [d]] := by
          unfold grpS
          rw [if_pos hgc]
          simp
        rw [lastO_app, if_neg (by intro hh; exact hh.2 hj2.2.symm)] at e
        rw [e1]
        refine grps_grp l _ b r (h.last rfl hj2.1 hj2.2.symm) ?_
        rw [show a ++ [(c :: q) ++ [d]] = a ++ [c :: (q ++ [d])] from rfl, lastO_app, hj2.2]
        exact e
    · have e1 : grpS gs d = gs ++ [([d])] := by unfold grpS; rw [if_neg hj]
      rw [e1]
      by_cases h0 : d.oneof = 0
      · rw [if_neg (by intro hh; exact hh.1 h0)] at e
        refine grps_grp l _ b r (h.app (.one h0 .nil)) ?_
        rw [lastO_app]; exact e
      · have h2 : d.oneof ≠ lastO gs := by
          intro hh
          apply hj
          unfold grpC
          unfold lastO at hh
          split at hh
          · rename_i a q hq
            rw [hq]
            simp [joins]
            exact ⟨fun z => h0 (hh.trans z), hh.symm⟩
          · exact absurd hh h0
        rw [if_pos ⟨h0, h2⟩] at e
        split at e
        · cases e
        · rename_i h3
          have h4 : d.oneof = (b : Int) + 1 := by simpa using h3
          refine grps_grp l _ (b + 1) r (h.app (.grp (fun x hx => ?_) .nil)) ?_
          · obtain rfl : x = d := by simpa using hx
            exact h4
          · rw [lastO_app]; exact e
theorem onB_grp {l : List Fd} {n : Nat} (h : onB l n = true) : Grp 0 (grps l) n := by
  unfold onB at h
  split at h
  · cases h
  · rename_i b hb
    have hbn : b = (n : Int) := by simpa using h
    obtain ⟨k, h1, h2⟩ := grps_grp l [] 0 b .nil hb
    obtain rfl : k = n := by omega
    exact h2
theorem grpL_eq {n : Nat} {os : List ByteArray} : ∀ {k j : Nat} {gs : List (List Fd)}, Grp k gs j → gs.flatMap (grpL n os) = nl 10 ((gs.map (grpI n os)).flatMap (It.ls n)) := by
  intro k j gs h
  induction h with
  | nil => rfl
  | @one k j d r h1 _ ih =>
    rw [List.flatMap_cons, List.map_cons, List.flatMap_cons, nl_app, ih]
    congr 1
    unfold grpL grpI
    simp only [h1, ne_eq, not_true_eq_false, if_false, List.flatMap_cons, List.flatMap_nil, List.append_nil]
    exact fieldL_eq n d
  | @grp k j d G r h1 _ ih =>
    rw [List.flatMap_cons, List.map_cons, List.flatMap_cons, nl_app, ih]
    congr 1
    have h0 : d.oneof ≠ 0 := by have := h1 d (List.mem_cons_self ..); omega
    unfold grpL grpI
    simp only
    rw [if_pos h0, if_pos h0, ← blk_eq]
    congr 1
    generalize d :: G = l
    induction l with
    | nil => rfl
    | cons a l ih2 => rw [List.flatMap_cons, List.map_cons, nl_cons, ih2, fieldL_eq, nl_cons, List.append_assoc]; rfl
/-- Groups that are written alike. -/
theorem grp_inj {n : Nat} {os os' : List ByteArray} : ∀ {k j : Nat} {gs : List (List Fd)}, Grp k gs j → ∀ {j' : Nat} {gs' : List (List Fd)}, Grp k gs' j' → (∀ G ∈ gs, ∀ d ∈ G, FdC d) → (∀ G ∈ gs', ∀ d ∈ G, FdC d) → gs.map (grpI n os) = gs'.map (grpI n os') → gs = gs' ∧ j = j' ∧ ∀ i, k ≤ i → i < j → os.getD i ⟨#[]⟩ = os'.getD i ⟨#[]⟩ := by
  intro k j gs h
  induction h with
  | nil =>
    intro j' gs' h' _ _ e
    cases h' with
    | nil => exact ⟨rfl, rfl, fun i h1 h2 => by omega⟩
    | one _ _ => simp at e
    | grp _ _ => simp at e
  | @one k j d r h1 _ ih =>
    intro j' gs' h' hf hf' e
    cases h' with
    | nil => simp at e
    | @one _ _ d' r' h1' hr' =>
      obtain ⟨e1, e2⟩ := List.cons.inj e
      obtain ⟨rfl, rfl, h3⟩ := ih hr' (fun G hG => hf G (List.mem_cons_of_mem _ hG)) (fun G hG => hf' G (List.mem_cons_of_mem _ hG)) e2
      unfold grpI at e1
      simp only [h1, h1', ne_eq, not_true_eq_false, if_false] at e1
      injection e1 with e1
      obtain rfl := fld_inj (hf [d] (List.mem_cons_self ..) d (by simp)) (hf' [d'] (List.mem_cons_self ..) d' (by simp)) (h1.trans h1'.symm) e1
      exact ⟨rfl, rfl, h3⟩
    | @grp _ _ d' G' r' h1' hr' =>
      obtain ⟨e1, -⟩ := List.cons.inj e
      have h0 : d'.oneof ≠ 0 := by have := h1' d' (List.mem_cons_self ..); omega
      unfold grpI at e1
      simp only [h1, ne_eq, not_true_eq_false, if_false] at e1
      rw [if_pos h0] at e1
      cases e1
  | @grp k j d G r h1 _ ih =>
    intro j' gs' h' hf hf' e
    have h0 : d.oneof ≠ 0 := by have := h1 d (List.mem_cons_self ..); omega
    cases h' with
    | nil => simp at e
    | @one _ _ d' r' h1' hr' =>
      obtain ⟨e1, -⟩ := List.cons.inj e
      unfold grpI at e1
      simp only [h1', ne_eq, not_true_eq_false, if_false] at e1
      rw [if_pos h0] at e1
      cases e1
    | @grp _ _ d' G' r' h1' hr' =>
      obtain ⟨e1, e2⟩ := List.cons.inj e
      have h0' : d'.oneof ≠ 0 := by have := h1' d' (List.mem_cons_self ..); omega
      obtain ⟨rfl, rfl, h3⟩ := ih hr' (fun G hG => hf G (List.mem_cons_of_mem _ hG)) (fun G hG => hf' G (List.mem_cons_of_mem _ hG)) e2
      unfold grpI at e1
      simp only at e1
      rw [if_pos h0, if_pos h0'] at e1
      injection e1 with e1 e3
      have hG : d :: G = d' :: G' := map_inj_on (d :: G) (d' :: G') (fun x hx y hy e => fld_inj (hf _ (List.mem_cons_self ..) x hx) (hf' _ (List.mem_cons_self ..) y hy) ((h1 x hx).trans (h1' y hy).symm) (List.append_cancel_left e)) e3
      refine ⟨by rw [hG], rfl, fun i a b => ?_⟩
      by_cases hi : i = k
      · subst hi
        have e4 := strN_inj (List.cons.inj (List.append_cancel_left e1)).2
        have z1 : d.oneof.toNat - 1 = i := by have := h1 d (List.mem_cons_self ..); omega
        have z2 : d'.oneof.toNat - 1 = i := by have := h1' d' (List.mem_cons_self ..); omega
        rw [z1, z2] at e4
        exact e4
      · exact h3 i (by omega) b
end Go.Proofs.YtaadpiimcaabkaaGreatDoor
