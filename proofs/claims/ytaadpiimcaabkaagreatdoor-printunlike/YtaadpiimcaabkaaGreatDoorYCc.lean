import Derived.Test.YtaadpiimcaabkaaGreatDoorYCb

namespace Go.Proofs.YtaadpiimcaabkaaGreatDoor

noncomputable def memI : Nat → Nat → Ms → List It
  | 0, _, _ => []
  | f + 1, n, .mk _ fs os ms es rs gs => resI (rs.map (rowT 536870911)) ++ (resI (gs.map quoteB) ++ ((grps fs).map (grpI n os) ++ (ms.map (fun m => .bk (strN sMessage ++ 32 :: strN m.nm) ((memI f (n + 1) m).flatMap (It.ls (n + 1)))) ++ es.map (enI n))))
noncomputable def msI (f n : Nat) (m : Ms) : It := .bk (strN sMessage ++ 32 :: strN m.nm) ((memI f (n + 1) m).flatMap (It.ls (n + 1)))
theorem memI_eq (f n : Nat) (nm : ByteArray) (fs : List Fd) (os : List ByteArray) (ms : List Ms) (es : List En) (rs : List (Int × Int)) (gs : List ByteArray) : memI (f + 1) n (.mk nm fs os ms es rs gs) = resI (rs.map (rowT 536870911)) ++ (resI (gs.map quoteB) ++ ((grps fs).map (grpI n os) ++ (ms.map (msI f n) ++ es.map (enI n)))) := by
  rw [memI]; rfl
/-- What a right message keeps, unfolded. -/
structure MsC (fs : List Fd) (os : List ByteArray) : Prop where
  fd : ∀ d ∈ fs, FdC d
  on : Grp 0 (grps fs) os.length
  ow : ∀ s ∈ os, ∀ x ∈ strN s, isLet x ∨ isDig x
theorem msC {nm : ByteArray} {fs : List Fd} {os : List ByteArray} {rs : List (Int × Int)} {gs : List ByteArray} (h : msOk nm fs os rs gs = true) : (∀ x ∈ strN nm, isLet x ∨ isDig x) ∧ MsC fs os := by
  unfold msOk at h
  simp only [Bool.and_eq_true] at h
  obtain ⟨⟨⟨⟨⟨h1, h2⟩, h3⟩, h4⟩, -⟩, -⟩ := h
  exact ⟨(word_chars h1).2, fun d hd => fdC (List.all_eq_true.1 h3 d hd), onB_grp h4, fun s hs => (word_chars (List.all_eq_true.1 h2 s hs)).2⟩
theorem enC {e : En} (h : enumOk e = true) : (∀ x ∈ strN e.name, isLet x ∨ isDig x) ∧ ∀ v ∈ e.vals, VlC v := by
  unfold enumOk at h
  simp only [Bool.and_eq_true] at h
  obtain ⟨⟨⟨⟨h1, -⟩, h3⟩, -⟩, -⟩ := h
  exact ⟨(word_chars h1).2, fun v hv => vlC (List.all_eq_true.1 h3 v hv)⟩
theorem grp_mem {gs : List (List Fd)} {P : Fd → Prop} (hp : ∀ d ∈ gs.flatten, P d) : ∀ G ∈ gs, ∀ d ∈ G, P d := fun G hG d hd => hp d (List.mem_flatten.2 ⟨G, hG, hd⟩)
theorem MsC.grp {fs : List Fd} {os : List ByteArray} (h : MsC fs os) : ∀ G ∈ grps fs, ∀ d ∈ G, FdC d := grp_mem (by rw [grps_flat']; exact h.fd)
theorem memL_eq : ∀ (f n : Nat) (m : Ms), RtM f m → memL f n m = nl 10 ((memI f n m).flatMap (It.ls n))
  | 0, _, _, h => h.elim
  | f + 1, n, .mk nm fs os ms es rs gs, h => by
    obtain ⟨h1, h2, h3⟩ := h
    rw [memL, memI_eq]
    unfold rsvL
    simp only [List.flatMap_append, nl_app]
    rw [← resL_eq, ← resL_eq, ← grpL_eq (msC h1).2.on, ← nl_map (g := msI f n) (f := fun m => blkL n sMessage m.nm (memL f (n + 1) m)) ms (fun m hm => by rw [memL_eq f (n + 1) m (h2 m hm), blk_eq]; rfl), ← nl_map (g := enI n) es (fun e _ => enL_eq n e)]
    simp only [List.append_assoc]
theorem innL_eq (f n : Nat) (ms : List Ms) (es : List En) (h2 : ∀ m ∈ ms, RtM f m) : innL f n ms es = nl 10 ((ms.map (msI f n) ++ es.map (enI n)).flatMap (It.ls n)) := by
  unfold innL
  rw [List.flatMap_append, nl_app, ← nl_map (g := msI f n) (f := fun m => blkL n sMessage m.nm (memL f (n + 1) m)) ms (fun m hm => by rw [memL_eq f (n + 1) m (h2 m hm), blk_eq]; rfl), ← nl_map (g := enI n) es (fun e _ => enL_eq n e)]
/-- The kinds of what stands in a message or an enum. -/
def kd : It → Nat
  | .ln c => if c.takeWhile (· ≠ 32) = wRes then (if c[9]? = some 34 then 2 else 1) else 3
  | .bk h _ => if h[0]? = some 109 then 4 else if h[0]? = some 101 then 5 else 3
theorem kd_ln (c : List Nat) : kd (.ln c) = if c.takeWhile (· ≠ 32) = wRes then (if c[9]? = some 34 then 2 else 1) else 3 := rfl
theorem kd_res (c : List Nat) : kd (.ln (strN sResv ++ c)) = if (strN sResv ++ c)[9]? = some 34 then 2 else 1 := by
  have e : (strN sResv ++ c).takeWhile (· ≠ 32) = wRes := tw (l := wRes) (r := c) (by decide)
  rw [kd_ln, if_pos e]
/-- No line is cut. -/
def It.no : It → Prop
  | .ln c => 10 ∉ c
  | .bk h I => 10 ∉ h ∧ ∀ l ∈ I, 10 ∉ l
def Gd (n : Nat) (i : It) : Prop := i.ok n ∧ i.no
theorem ind_no (n : Nat) : 10 ∉ ind n := by unfold ind; simp
theorem It.no_ls {i : It} (h : i.no) (n : Nat) : ∀ l ∈ i.ls n, 10 ∉ l := by
  intro l hl
  cases i with
  | ln c =>
    obtain rfl : l = ind n ++ c := by simpa [It.ls] using hl
    simp only [List.mem_append, not_or]
    exact ⟨ind_no n, h⟩
  | bk g I =>
    simp only [It.ls, List.mem_cons, List.mem_append, List.not_mem_nil, or_false] at hl
    rcases hl with rfl | hl | rfl
    · have := h.1; have := ind_no n; simp [*]
    · exact h.2 l hl
    · have := ind_no n; simp [*]
theorem It.ok_ls {i : It} {n : Nat} (h : i.ok n) : ∀ l ∈ i.ls n, ∃ c, l = ind n ++ c := by
  intro l hl
  cases i with
  | ln c => exact ⟨c, by simpa [It.ls] using hl⟩
  | bk g I =>
    simp only [It.ls, List.mem_cons, List.mem_append, List.not_mem_nil, or_false] at hl
    rcases hl with rfl | hl | rfl
    · exact ⟨_, rfl⟩
    · obtain ⟨c, rfl⟩ := h l hl
      refine ⟨32 :: 32 :: c, ?_⟩
      unfold ind
      rw [show 2 * (n + 1) = 2 * n + 2 by omega, ← List.replicate_append_replicate, List.append_assoc]
      rfl
    · exact ⟨_, rfl⟩
theorem gd_bk {n : Nat} {h : List Nat} {L : List It} (hh : 10 ∉ h) (hL : ∀ i ∈ L, Gd (n + 1) i) : Gd n (.bk h (L.flatMap (It.ls (n + 1)))) := by
  refine ⟨fun l hl => ?_, hh, fun l hl => ?_⟩
  · obtain ⟨i, hi, hl⟩ := List.mem_flatMap.1 hl
    exact It.ok_ls (hL i hi).1 l hl
  · obtain ⟨i, hi, hl⟩ := List.mem_flatMap.1 hl
    exact It.no_ls (hL i hi).2 _ l hl
theorem jn_no {x : Nat} (h1 : x ≠ 44) (h2 : x ≠ 32) : ∀ (ls : List (List Nat)), (∀ l ∈ ls, x ∉ l) → x ∉ jn ls
  | [], _ => by simp [jn]
  | [t], h => h t (by simp)
  | t :: u :: r, h => by
    rw [jn_cons]
    simp only [List.mem_append, List.mem_cons, not_or]
    exact ⟨h t (by simp), h1, h2, jn_no h1 h2 (u :: r) (fun l hl => h l (List.mem_cons_of_mem _ hl))⟩
theorem res_gd {n : Nat} {ts : List ByteArray} (h : ∀ t ∈ ts, 10 ∉ strN t) : ∀ i ∈ resI ts, Gd n i := by
  intro i hi
  unfold resI at hi
  split at hi
  · obtain rfl : i = _ := by simpa using hi
    refine ⟨⟨strN sResv ++ strN (joinB ts), by rw [List.append_assoc]⟩, ?_⟩
    show 10 ∉ _
    rw [join_strN]
    have hj := jn_no (x := 10) (by decide) (by decide) (ts.map strN) (fun l hl => by obtain ⟨t, ht, rfl⟩ := List.mem_map.1 hl; exact h t ht)
    have e : 10 ∉ strN sResv := by decide
    simp only [List.mem_append, List.mem_singleton, not_or]
    exact ⟨e, hj, by decide⟩
  · simp at hi
theorem row_no10 (most : Int) (rs : List (Int × Int)) : ∀ t ∈ rs.map (rowT most), 10 ∉ strN t := by
  intro t ht hx
  obtain ⟨r, -, rfl⟩ := List.mem_map.1 ht
  have := (row_chars most r).2.1 10 hx
  unfold isDig at this; omega
theorem qs_no10 (gs : List ByteArray) : ∀ t ∈ gs.map quoteB, 10 ∉ strN t := by
  intro t ht
  obtain ⟨r, -, rfl⟩ := List.mem_map.1 ht
  exact quote_no10 r
theorem jn_head {t : List Nat} (ht : t ≠ []) (r : List (List Nat)) (q : List Nat) : (jn (t :: r) ++ q)[0]? = t[0]? := by
  cases t with
  | nil => exact absurd rfl ht
  | cons a t => cases r <;> simp [jn]
theorem row_kd (most : Int) (rs : List (Int × Int)) : ∀ i ∈ resI (rs.map (rowT most)), kd i = 1 := by
  intro i hi
  unfold resI at hi
  split at hi
  · rename_i hl
    obtain rfl : i = _ := by simpa using hi
    cases rs with
    | nil => simp at hl
    | cons r rs =>
      have e : (strN sResv ++ (strN (joinB (List.map (rowT most) (r :: rs))) ++ [59]))[9]? ≠ some 34 := by
        rw [List.getElem?_append_right (show (strN sResv).length ≤ 9 by decide), join_strN, show 9 - (strN sResv).length = 0 from rfl, List.map_cons, List.map_cons, jn_head (row_chars most r).1]
        have := (row_chars most r).2.2
        rwa [List.head?_eq_getElem?] at this
      rw [kd_res, if_neg e]
  · simp at hi
theorem q_kd (gs : List ByteArray) : ∀ i ∈ resI (gs.map quoteB), kd i = 2 := by
  intro i hi
  unfold resI at hi
  split at hi
  · rename_i hl
    obtain rfl : i = _ := by simpa using hi
    cases gs with
    | nil => simp at hl
    | cons r gs =>
      obtain ⟨q, hq⟩ := quote_head r
      have e : (strN sResv ++ (strN (joinB (List.map quoteB (r :: gs))) ++ [59]))[9]? = some 34 := by
        rw [List.getElem?_append_right (show (strN sResv).length ≤ 9 by decide), join_strN, show 9 - (strN sResv).length = 0 from rfl, List.map_cons, List.map_cons, jn_head (by rw [hq]; simp), hq]
        rfl
      rw [kd_res, if_pos e]
  · simp at hi
theorem rows_inj {most : Int} {rs rs' : List (Int × Int)} (h : resI (rs.map (rowT most)) = resI (rs'.map (rowT most))) : rs = rs' := by
  unfold resI at h
  cases rs with
  | nil => cases rs' with
    | nil => rfl
    | cons a b => simp at h
  | cons r rs => cases rs' with
    | nil => simp at h
    | cons r' rs' =>
      rw [if_pos (by simp), if_pos (by simp)] at h
      injection h with h
      injection h with h
      have h2 := List.append_cancel_right (List.append_cancel_left h)
      rw [join_strN, join_strN] at h2
      have no : ∀ (l : List (Int × Int)), ∀ t ∈ (l.map (rowT most)).map strN, 44 ∉ t := by
        intro l t ht hx
        obtain ⟨s, hs, rfl⟩ := List.mem_map.1 ht
        obtain ⟨r, -, rfl⟩ := List.mem_map.1 hs
        have := (row_chars most r).2.1 44 hx
        unfold isDig at this; omega
      have h3 := jn_inj (by simp) (by simp) (no _) (no _) h2
      rw [List.map_map, List.map_map] at h3
      exact map_inj (fun x y e => row_inj e) _ _ h3
theorem gone_inj {gs gs' : List ByteArray} (h : resI (gs.map quoteB) = resI (gs'.map quoteB)) : gs = gs' := by
  unfold resI at h
  cases gs with
  | nil => cases gs' with
    | nil => rfl
    | cons a b => simp at h
  | cons r gs => cases gs' with
    | nil => simp at h
    | cons r' gs' =>
      rw [if_pos (by simp), if_pos (by simp)] at h
      injection h with h
      injection h with h
      have h2 := List.append_cancel_left h
      rw [join_strN, join_strN] at h2
      exact jq_inj _ _ (by simp) (by simp) h2
theorem vals_gd {n : Nat} {e : En} (h : enumOk e = true) : ∀ i ∈ valsI e, Gd n i := by
  intro i hi
  unfold valsI at hi
  rcases List.mem_append.1 hi with hi | hi
  · exact res_gd (row_no10 _ _) i hi
  · rcases List.mem_append.1 hi with hi | hi
    · exact res_gd (qs_no10 _) i hi
    · obtain ⟨v, hv, rfl⟩ := List.mem_map.1 hi
      exact ⟨⟨strN v.1 ++ 32 :: 61 :: 32 :: itN v.2, by unfold valT; simp⟩, ((enC h).2 v hv).no10⟩
theorem en_gd {n : Nat} {e : En} (h : enumOk e = true) : Gd n (enI n e) := by
  refine gd_bk ?_ (vals_gd h)
  have e1 : 10 ∉ strN sEnum := by decide
  simp only [List.mem_append, List.mem_cons, not_or]
  exact ⟨e1, by decide, fun hx => by have := (enC h).1 10 hx; unfold isLet isDig at this; omega⟩
theorem en_inj {n : Nat} {e e' : En} (h : enumOk e = true) (h' : enumOk e' = true) (eq : enI n e = enI n e') : e = e' := by
  unfold enI at eq
  injection eq with e1 e2
  have hn := strN_inj (List.cons.inj (List.append_cancel_left e1)).2
  have e3 := its_inj (n + 1) _ _ (fun i hi => (vals_gd h i hi).1) (fun i hi => (vals_gd h' i hi).1) e2
  unfold valsI at e3
  have hk : ∀ e : En, enumOk e = true → ∀ i ∈ e.vals.map (fun v => It.ln (valT v)), kd i = 3 := by
    intro e h i hi
    obtain ⟨v, hv, rfl⟩ := List.mem_map.1 hi
    rw [kd_ln, if_neg ((enC h).2 v hv).word]
  obtain ⟨a1, a2, a3, -, -⟩ := five kd (a4 := []) (a5 := []) (b4 := []) (b5 := []) (row_kd _ _) (q_kd _) (hk e h) (by simp) (by simp) (row_kd _ _) (q_kd _) (hk e' h') (by simp) (by simp) (by simpa using e3)
  have v3 := map_inj_on _ _ (fun x hx y hy e => val_inj ((enC h).2 x hx) ((enC h').2 y hy) (by injection e)) a3
  obtain ⟨nm, vs, rs, gs⟩ := e
  obtain ⟨nm', vs', rs', gs'⟩ := e'
  obtain rfl : nm = nm' := hn
  obtain rfl : vs = vs' := v3
  obtain rfl : rs = rs' := rows_inj a1
  obtain rfl : gs = gs' := gone_inj a2
  rfl
theorem grp_gd {n : Nat} {fs : List Fd} {os : List ByteArray} (h : MsC fs os) : ∀ i ∈ (grps fs).map (grpI n os), Gd n i ∧ kd i = 3 := by
  have key : ∀ {k j : Nat} {gs : List (List Fd)}, Grp k gs j → (∀ G ∈ gs, ∀ d ∈ G, FdC d) → ∀ i ∈ gs.map (grpI n os), Gd n i ∧ kd i = 3 := by
    intro k j gs hg
    induction hg with
    | nil => intro _ i hi; simp at hi
    | @one k j d r h1 _ ih =>
      intro hf i hi
      rw [List.map_cons] at hi
      rcases List.mem_cons.1 hi with rfl | hi
      · have hd := hf [d] (List.mem_cons_self ..) d (by simp)
        unfold grpI
        simp only [h1, ne_eq, not_true_eq_false, if_false]
        refine ⟨⟨⟨strN (typeT d) ++ 32 :: (strN d.name ++ 32 :: 61 :: 32 :: itN d.num), by unfold fldT; simp⟩, hd.no10⟩, ?_⟩
        rw [kd_ln, if_neg (hd.word (fun _ => h1))]
      · exact ih (fun G hG => hf G (List.mem_cons_of_mem _ hG)) i hi
    | @grp k j d G r h1 _ ih =>
      intro hf i hi
      rw [List.map_cons] at hi
      rcases List.mem_cons.1 hi with rfl | hi
      · have h0 : d.oneof ≠ 0 := by have := h1 d (List.mem_cons_self ..); omega
        have hd := hf _ (List.mem_cons_self ..)
        unfold grpI
        simp only
        rw [if_pos h0]
        refine ⟨⟨fun l hl => ?_, ?_, fun l hl => ?_⟩, ?_⟩
        · obtain ⟨x, -, rfl⟩ := List.mem_map.1 hl; exact ⟨_, rfl⟩
        · have e1 : 10 ∉ strN sOneof := by decide
          simp only [List.mem_append, List.mem_cons, not_or]
          refine ⟨e1, by decide, fun hx => ?_⟩
          rw [List.getD_eq_getElem?_getD] at hx
          cases e : os[d.oneof.toNat - 1]? with
          | none => rw [e] at hx; simp [strN] at hx
          | some s =>
            rw [e] at hx
            have := h.ow s (List.mem_of_getElem? e) 10 hx
            unfold isLet isDig at this; omega
        · obtain ⟨x, hx, rfl⟩ := List.mem_map.1 hl
          have := ind_no (n + 1)
          have := (hd x hx).no10
          simp [*]
        · rfl
      · exact ih (fun G hG => hf G (List.mem_cons_of_mem _ hG)) i hi
  exact key h.on h.grp
theorem os_eq {os os' : List ByteArray} (hl : os.length = os'.length) (h : ∀ i, 0 ≤ i → i < os.length → os.getD i ⟨#[]⟩ = os'.getD i ⟨#[]⟩) : os = os' := by
  apply List.ext_getElem hl
  intro i h1 h2
  have := h i (by omega) h1
  rw [List.getD_eq_getElem?_getD, List.getD_eq_getElem?_getD, List.getElem?_eq_getElem h1, List.getElem?_eq_getElem h2] at this
  exact this
theorem mem_gd : ∀ (f n : Nat) (m : Ms), RtM f m → ∀ i ∈ memI f n m, Gd n i
  | 0, _, _, h => h.elim
  | f + 1, n, .mk nm fs os ms es rs gs, h => by
    obtain ⟨h1, h2, h3⟩ := h
    intro i hi
    rw [memI_eq] at hi
    simp only [List.mem_append] at hi
    rcases hi with hi | hi | hi | hi | hi
    · exact res_gd (row_no10 _ _) i hi
    · exact res_gd (qs_no10 _) i hi
    · exact (grp_gd (msC h1).2 i hi).1
    · obtain ⟨m, hm, rfl⟩ := List.mem_map.1 hi
      refine gd_bk ?_ (mem_gd f (n + 1) m (h2 m hm))
      have e1 : 10 ∉ strN sMessage := by decide
      simp only [List.mem_append, List.mem_cons, not_or]
      refine ⟨e1, by decide, fun hx => ?_⟩
      match f, m, h2 m hm with
      | f + 1, .mk _ _ _ _ _ _ _, h => have := (msC h.1).1 10 hx; unfold isLet isDig at this; omega
    · obtain ⟨e, he, rfl⟩ := List.mem_map.1 hi
      exact en_gd (h3 e he)
theorem ms_gd {f n : Nat} {m : Ms} (h : RtM f m) : Gd n (msI f n m) := by
  refine gd_bk ?_ (mem_gd f (n + 1) m h)
  have e1 : 10 ∉ strN sMessage := by decide
  simp only [List.mem_append, List.mem_cons, not_or]
  refine ⟨e1, by decide, fun hx => ?_⟩
  match f, m, h with
  | f + 1, .mk _ _ _ _ _ _ _, h => have := (msC h.1).1 10 hx; unfold isLet isDig at this; omega
theorem ms_kd (f n : Nat) (ms : List Ms) : ∀ i ∈ ms.map (msI f n), kd i = 4 := by
  intro i hi; obtain ⟨m, -, rfl⟩ := List.mem_map.1 hi; rfl
theorem en_kd (n : Nat) (es : List En) : ∀ i ∈ es.map (enI n), kd i = 5 := by
  intro i hi; obtain ⟨m, -, rfl⟩ := List.mem_map.1 hi; rfl
theorem ms_inj : ∀ (f n : Nat) (m m' : Ms), RtM f m → RtM f m' → msI f n m = msI f n m' → m = m'
  | 0, _, _, _, h, _, _ => h.elim
  | f + 1, n, .mk nm fs os ms es rs gs, .mk nm' fs' os' ms' es' rs' gs', h, h', eq => by
    have e3 := its_inj (n + 1) _ _ (fun i hi => (mem_gd (f + 1) (n + 1) _ h i hi).1) (fun i hi => (mem_gd (f + 1) (n + 1) _ h' i hi).1) (It.bk.inj eq).2
    have hn : nm = nm' := strN_inj (List.cons.inj (List.append_cancel_left (It.bk.inj eq).1)).2
    obtain ⟨h1, h2, h3⟩ := h
    obtain ⟨h1', h2', h3'⟩ := h'
    rw [memI_eq, memI_eq] at e3
    obtain ⟨a1, a2, a3, a4, a5⟩ := five kd (row_kd _ _) (q_kd _) (fun i hi => (grp_gd (msC h1).2 i hi).2) (ms_kd _ _ _) (en_kd _ _) (row_kd _ _) (q_kd _) (fun i hi => (grp_gd (msC h1').2 i hi).2) (ms_kd _ _ _) (en_kd _ _) e3
    obtain ⟨b1, b2, b3⟩ := grp_inj (msC h1).2.on (msC h1').2.on (msC h1).2.grp (msC h1').2.grp a3
    have hfs : fs = fs' := by rw [← grps_flat' fs, b1, grps_flat']
    have hos := os_eq b2 b3
    have hms := map_inj_on _ _ (fun x hx y hy e => ms_inj f (n + 1) x y (h2 x hx) (h2' y hy) e) a4
    have hes := map_inj_on _ _ (fun x hx y hy e => en_inj (h3 x hx) (h3' y hy) e) a5
    subst hn hfs hos hms hes
    obtain rfl := rows_inj a1
    obtain rfl := gone_inj a2
    rfl
def pkgI (p : ByteArray) : List It := if p.toList.isEmpty then [] else [.ln (strN sPackage ++ (strN p ++ [59]))]
noncomputable def impI (s : ByteArray) : It := .ln (strN sImport ++ (strN (quoteB s) ++ [59]))
noncomputable def fileI (F : Fl) : List It := .ln (strN sSyntax) :: (pkgI F.pkg ++ (F.imps.map impI ++ (F.ms.map (msI 32 0) ++ F.es.map (enI 0))))
theorem fileL_eq {F : Fl} (h : RtF F) : fileL F = nl 10 ((fileI F).flatMap (It.ls 0)) := by
  have e3 : strN sSemi = [59] := rfl
  have e1 : lineL 0 [sSyntax] = nl 10 (It.ls 0 (.ln (strN sSyntax))) := rfl
  have e2 : pkgL F.pkg = nl 10 ((pkgI F.pkg).flatMap (It.ls 0)) := by
    unfold pkgL pkgI
    split
    · rfl
    · simp [It.ls, nl, lineL, ind, e3]
  have e4 : F.imps.flatMap impL = nl 10 ((F.imps.map impI).flatMap (It.ls 0)) := nl_map (g := impI) F.imps (fun s _ => by
    unfold impL impI
    simp [It.ls, nl, lineL, ind, e3])
  unfold fileL fileI
  rw [e1, e2, e4, innL_eq 32 0 F.ms F.es h.ms]
  simp only [List.flatMap_cons, List.flatMap_append, nl_app, List.append_assoc]
def kf : It → Nat
  | .ln c => if c[0]? = some 112 then 1 else 2
  | .bk h _ => if h[0]? = some 109 then 4 else 5
theorem pkg_no10 {p : ByteArray} (h : p.toList.isEmpty = true ∨ namesB p = true) : 10 ∉ strN p := by
  rcases h with h | h
  · rw [empty_eq h]; simp
  · exact fun hx => by have := names_chars h 10 hx; unfold isLet isDig at this; omega
theorem file_gd {F : Fl} (h : RtF F) : ∀ i ∈ fileI F, Gd 0 i := by
  intro i hi
  unfold fileI at hi
  simp only [List.mem_cons, List.mem_append] at hi
  rcases hi with rfl | hi | hi | hi | hi
  · exact ⟨⟨[115, 121, 110, 116, 97, 120, 32, 61, 32, 34, 112, 114, 111, 116, 111, 51, 34], rfl⟩, by show 10 ∉ _; decide⟩
  · unfold pkgI at hi
    split at hi
    · simp at hi
    · obtain rfl : i = _ := by simpa using hi
      refine ⟨⟨strN sPackage ++ strN F.pkg, by rw [List.append_assoc]⟩, ?_⟩
      show 10 ∉ _
      have e : 10 ∉ strN sPackage := by decide
      have e2 := pkg_no10 h.pk
      simp only [List.mem_append, List.mem_singleton, not_or]
      exact ⟨e, e2, by decide⟩
  · obtain ⟨s, -, rfl⟩ := List.mem_map.1 hi
    refine ⟨⟨strN sImport ++ strN (quoteB s), by rw [List.append_assoc]⟩, ?_⟩
    show 10 ∉ _
    have e : 10 ∉ strN sImport := by decide
    have e2 := quote_no10 s
    simp only [List.mem_append, List.mem_singleton, not_or]
    exact ⟨e, e2, by decide⟩
  · obtain ⟨m, hm, rfl⟩ := List.mem_map.1 hi
    exact ms_gd (h.ms m hm)
  · obtain ⟨e, he, rfl⟩ := List.mem_map.1 hi
    exact en_gd (h.es e he)
theorem file_inj {F G : Fl} (h : RtF F) (h' : RtF G) (e : fileL F = fileL G) : F = G := by
  rw [fileL_eq h, fileL_eq h'] at e
  have key : ∀ {F : Fl}, RtF F → ∀ l ∈ (fileI F).flatMap (It.ls 0), 10 ∉ l := by
    intro F h l hl
    obtain ⟨i, hi, hl⟩ := List.mem_flatMap.1 hl
    exact It.no_ls (file_gd h i hi).2 _ l hl
  have e2 := its_inj 0 _ _ (fun i hi => (file_gd h i hi).1) (fun i hi => (file_gd h' i hi).1) (nl_inj _ _ (key h) (key h') e)
  have e3 := (List.cons.inj e2).2
  have k1 : ∀ p, ∀ i ∈ pkgI p, kf i = 1 := by
    intro p i hi
    unfold pkgI at hi
    split at hi
    · simp at hi
    · obtain rfl : i = _ := by simpa using hi
      rfl
  have k2 : ∀ (l : List ByteArray), ∀ i ∈ l.map impI, kf i = 2 := by
    intro l i hi; obtain ⟨m, -, rfl⟩ := List.mem_map.1 hi; rfl
  have k4 : ∀ (l : List Ms), ∀ i ∈ l.map (msI 32 0), kf i = 4 := by
    intro l i hi; obtain ⟨m, -, rfl⟩ := List.mem_map.1 hi; rfl
  have k5 : ∀ (l : List En), ∀ i ∈ l.map (enI 0), kf i = 5 := by
    intro l i hi; obtain ⟨m, -, rfl⟩ := List.mem_map.1 hi; rfl
  obtain ⟨a1, a2, -, a4, a5⟩ := five kf (a3 := []) (b3 := []) (k1 _) (k2 _) (by simp) (k4 _) (k5 _) (k1 _) (k2 _) (by simp) (k4 _) (k5 _) (by simpa using e3)
  have hp : F.pkg = G.pkg := by
    unfold pkgI at a1
    split at a1 <;> split at a1
    · rename_i z1 z2; exact strN_inj ((empty_eq z1).trans (empty_eq z2).symm)
    · cases a1
    · cases a1
    · injection a1 with a1
      injection a1 with a1
      exact strN_inj (List.append_cancel_right (List.append_cancel_left a1))
  have hi := map_inj_on _ _ (fun x _ y _ e => by
    unfold impI at e
    injection e with e
    exact (quote_inj (List.append_cancel_left e)).1) a2
  have hm := map_inj_on _ _ (fun x hx y hy e => ms_inj 32 0 x y (h.ms x hx) (h'.ms y hy) e) a4
  have he := map_inj_on _ _ (fun x hx y hy e => en_inj (h.es x hx) (h'.es y hy) e) a5
  obtain ⟨p, i, m, s⟩ := F
  obtain ⟨p', i', m', s'⟩ := G
  simp only at hp hi hm he
  subst hp hi hm he
  rfl
end Go.Proofs.YtaadpiimcaabkaaGreatDoor
