import Derived.Test.YthodjkeppobcmaaDoorLH

namespace Go.Proofs.YthodjkeppobcmaaDoor
open Go.RowKit Go.Lib
attribute [local go_sem ↓] Go.wp_at_zero Go.wp_at_succ

theorem Tx.grownO {V : World} {t : Nat} {s : ByteArray} {a er pl : Nat} {w w' : World} {o : Option Nat} (h : Tx V t s a er pl w) (hg : w.grownBy w' o) (ho : ∀ g, o = some g → g ≠ t ∧ V.heap.size ≤ g) : Tx V t s a er pl w' :=
  ⟨(hg.block t (Array.getElem?_eq_some_iff.1 h.blk).1 (fun e => (ho t e.symm).1 rfl)).trans h.blk, ⟨hg.os.trans h.gr.os, hg.tape.trans h.gr.tape, hg.output.trans h.gr.output, Nat.le_trans h.gr.size hg.size, fun k hk hn => (hg.block k (Nat.lt_of_lt_of_le hk h.gr.size) (fun e => by have := (ho k e.symm).2; omega)).trans (h.gr.block k hk hn)⟩, h.le⟩
/-- Where everything lies. -/
structure Geo (V W2 : World) (t r n : Nat) : Prop where
  gt : t < W2.heap.size
  gr : r < W2.heap.size ∧ r ≠ t ∧ V.heap.size ≤ r
  gn : n < W2.heap.size ∧ n ≠ t ∧ V.heap.size ≤ n
  ne : n ≠ r
  gv : V.heap.size ≤ W2.heap.size
/-- What the loop of inside keeps. -/
structure InS (V W2 : World) (t r n : Nat) (s : ByteArray) (kd a0 a er pl : Nat) (vN vI : Value) (lN lI : List NdV) (w : World) : Prop where
  tx : Tx V t s a er pl w
  bs : W2.heap.size ≤ w.heap.size
  rb : w.heap[r]? = some (.cells #[.int .i64 0, .int .i64 0, .int .i64 0, .string ⟨#[]⟩, .slice none 0 0, .slice none 0 0] 43 (0, 0))
  nb : w.heap[n]? = some (.cells #[.int .i64 (kd : Int), .int .i64 (a0 : Int), .int .i64 0, .string ⟨#[]⟩, vN, vI] 43 (0, 0))
  rn : w.ownsRow W2.heap.size 43 6 vN lN.length (ndF lN)
  ri : w.ownsRow W2.heap.size 43 6 vI lI.length (ndF lI)
  dj : ∀ g, vN.ownBlock = some g → vI.ownBlock ≠ some g
def Ch (W2 : World) (L : List Nat) (vN vI : Value) (its : List It) (w : World) : Prop := ∀ i ∈ its, HasNd L (fun g => W2.heap.size ≤ g ∧ vN.ownBlock ≠ some g ∧ vI.ownBlock ≠ some g) w i.v i.b
theorem own_no {B b : Nat} {W : World} {T m : Nat} {v : Value} {xs : List Value} (h : W.ownsRow B T 6 v m xs) (hb : b < B) : v.ownBlock = none ∨ v.ownBlock ≠ some b := by
  cases e : v.ownBlock with
  | none => exact .inl rfl
  | some k =>
    refine .inr (fun q => ?_)
    have := (World.ownsRow.lt h k e).1
    cases q
    omega
theorem own_le {B : Nat} {W : World} {T m : Nat} {v : Value} {xs : List Value} (h : W.ownsRow B T 6 v m xs) {g : Nat} (e : v.ownBlock = some g) : B ≤ g ∧ g < W.heap.size := World.ownsRow.lt h g e
section
variable {V W2 : World} {t r n : Nat} {s : ByteArray} {kd a0 a er pl : Nat} {vN vI : Value} {lN lI : List NdV} {w : World}
theorem InS.call (h : InS V W2 t r n s kd a0 a er pl vN vI lN lI w) (G : Geo V W2 t r n) {a' er' pl' : Nat} {w' : World} (hx : Tx w t s a' er' pl' w') : InS V W2 t r n s kd a0 a' er' pl' vN vI lN lI w' := by
  have hg := hx.gr
  exact ⟨hx.from h.tx.gr, Nat.le_trans h.bs hg.size, (hg.block r (Array.getElem?_eq_some_iff.1 h.rb).1 (by simpa using G.gr.2.1)).trans h.rb, (hg.block n (Array.getElem?_eq_some_iff.1 h.nb).1 (by simpa using G.gn.2.1)).trans h.nb, h.rn.kept hg (own_no h.rn G.gt), h.ri.kept hg (own_no h.ri G.gt), h.dj⟩
theorem Ch.call {its : List It} {L : List Nat} (h : Ch W2 L vN vI its w) (ht : t < W2.heap.size) {w' : World} (hg : w.grownBy w' (some t)) : Ch W2 L vN vI its w' := fun i hi => (h i hi).to hg.size (fun g hP hl => ⟨hP, hg.block g hl (by simp; omega)⟩)
theorem InS.same (h : InS V W2 t r n s kd a0 a er pl vN vI lN lI w) {w' : World} (hb : Below w.heap.size w w') : InS V W2 t r n s kd a0 a er pl vN vI lN lI w' := by
  have hg : w.grownBy w' none := ⟨hb.os, hb.tape, hb.output, hb.size, fun k hk _ => hb.block k hk⟩
  refine ⟨h.tx.up hb, Nat.le_trans h.bs hb.size, (hb.block r (Array.getElem?_eq_some_iff.1 h.rb).1).trans h.rb, (hb.block n (Array.getElem?_eq_some_iff.1 h.nb).1).trans h.nb, h.rn.kept hg ?_, h.ri.kept hg ?_, h.dj⟩
  · cases vN.ownBlock with
    | none => exact .inl rfl
    | some k => exact .inr (by simp)
  · cases vI.ownBlock with
    | none => exact .inl rfl
    | some k => exact .inr (by simp)
theorem Ch.same {its : List It} {L : List Nat} (h : Ch W2 L vN vI its w) {w' : World} (hb : Below w.heap.size w w') : Ch W2 L vN vI its w' := fun i hi => (h i hi).to hb.size (fun g hP hl => ⟨hP, hb.block g hl⟩)
theorem InS.appN (h : InS V W2 t r n s kd a0 a er pl vN vI lN lI w) (G : Geo V W2 t r n) {d : NdV} {v' : Value} {w2 : World} (hown : w2.ownsRow W2.heap.size 43 6 v' (lN.length + 1) (ndF lN ++ d.cells)) (hg : w.grownBy w2 vN.ownBlock) (hat : v'.ownBlock = vN.ownBlock ∨ v'.ownBlock = some w.heap.size) : InS V W2 t r n s kd a0 a er pl v' vI (lN ++ [d]) lI (w2.setCell ⟨n, 4, none⟩ v') := by
  have lo : ∀ g, vN.ownBlock = some g → W2.heap.size ≤ g ∧ g < w.heap.size := fun g e => own_le h.rn e
  have rb := (hg.block r (Array.getElem?_eq_some_iff.1 h.rb).1 (fun e => by have := lo r e.symm; have := G.gr.1; omega)).trans h.rb
  have nb := (hg.block n (Array.getElem?_eq_some_iff.1 h.nb).1 (fun e => by have := lo n e.symm; have := G.gn.1; omega)).trans h.nb
  obtain ⟨k1, k2⟩ := set_block (j := 4) nb v'
  have tx := (h.tx.grownO hg (fun g e => ⟨by have := lo g e; have := G.gt; omega, by have := lo g e; have := G.gv; omega⟩)).other k2 G.gn.2.1 G.gn.2.2
  have ri : w2.ownsRow W2.heap.size 43 6 vI lI.length (ndF lI) := h.ri.kept hg (by
    cases e : vI.ownBlock with
    | none => exact .inl rfl
    | some g => exact .inr (fun q => h.dj g q.symm e))
  refine ⟨tx, Nat.le_trans h.bs (Nat.le_trans hg.size k2.size), (k2.block r (Array.getElem?_eq_some_iff.1 rb).1 (by simpa using G.ne.symm)).trans rb, k1, ?_, ri.kept k2 (own_no ri G.gn.1), fun g e q => ?_⟩
  · rw [ndF_app, List.length_append]
    exact hown.kept k2 (own_no hown G.gn.1)
  · rcases hat with e2 | e2
    · exact h.dj g (e2.symm.trans e) q
    · have := own_le h.ri q
      rw [e2] at e
      cases e
      omega
theorem InS.appI (h : InS V W2 t r n s kd a0 a er pl vN vI lN lI w) (G : Geo V W2 t r n) {d : NdV} {v' : Value} {w2 : World} (hown : w2.ownsRow W2.heap.size 43 6 v' (lI.length + 1) (ndF lI ++ d.cells)) (hg : w.grownBy w2 vI.ownBlock) (hat : v'.ownBlock = vI.ownBlock ∨ v'.ownBlock = some w.heap.size) : InS V W2 t r n s kd a0 a er pl vN v' lN (lI ++ [d]) (w2.setCell ⟨n, 5, none⟩ v') := by
  have lo : ∀ g, vI.ownBlock = some g → W2.heap.size ≤ g ∧ g < w.heap.size := fun g e => own_le h.ri e
  have rb := (hg.block r (Array.getElem?_eq_some_iff.1 h.rb).1 (fun e => by have := lo r e.symm; have := G.gr.1; omega)).trans h.rb
  have nb := (hg.block n (Array.getElem?_eq_some_iff.1 h.nb).1 (fun e => by have := lo n e.symm; have := G.gn.1; omega)).trans h.nb
  obtain ⟨k1, k2⟩ := set_block (j := 5) nb v'
  have tx := (h.tx.grownO hg (fun g e => ⟨by have := lo g e; have := G.gt; omega, by have := lo g e; have := G.gv; omega⟩)).other k2 G.gn.2.1 G.gn.2.2
  have rn : w2.ownsRow W2.heap.size 43 6 vN lN.length (ndF lN) := h.rn.kept hg (by
    cases e : vN.ownBlock with
    | none => exact .inl rfl
    | some g => exact .inr (fun q => h.dj g e q.symm))
  refine ⟨tx, Nat.le_trans h.bs (Nat.le_trans hg.size k2.size), (k2.block r (Array.getElem?_eq_some_iff.1 rb).1 (by simpa using G.ne.symm)).trans rb, k1, rn.kept k2 (own_no rn G.gn.1), ?_, fun g e q => ?_⟩
  · rw [ndF_app, List.length_append]
    exact hown.kept k2 (own_no hown G.gn.1)
  · rcases hat with e2 | e2
    · exact h.dj g e (e2.symm.trans q)
    · have := own_le h.rn e
      rw [e2] at q
      cases q
      omega
theorem Ch.appN {its : List It} {L : List Nat} (h : Ch W2 L vN vI its w) (hn : n < W2.heap.size) {v' : Value} {w2 : World} (hg : w.grownBy w2 vN.ownBlock) (hat : v'.ownBlock = vN.ownBlock ∨ v'.ownBlock = some w.heap.size) (k2 : w2.grownBy (w2.setCell ⟨n, 4, none⟩ v') (some n)) : Ch W2 L v' vI its (w2.setCell ⟨n, 4, none⟩ v') := fun i hi => (h i hi).to (Nat.le_trans hg.size k2.size) (fun g hP hl => ⟨⟨hP.1, (fun e => by
    rcases hat with q | q
    · exact hP.2.1 (q.symm.trans e)
    · rw [q] at e; cases e; omega), hP.2.2⟩, (k2.block g (Nat.lt_of_lt_of_le hl hg.size) (by have := hP.1; simp; omega)).trans (hg.block g hl (fun e => hP.2.1 e.symm))⟩)
theorem Ch.appI {its : List It} {L : List Nat} (h : Ch W2 L vN vI its w) (hn : n < W2.heap.size) {v' : Value} {w2 : World} (hg : w.grownBy w2 vI.ownBlock) (hat : v'.ownBlock = vI.ownBlock ∨ v'.ownBlock = some w.heap.size) (k2 : w2.grownBy (w2.setCell ⟨n, 5, none⟩ v') (some n)) : Ch W2 L vN v' its (w2.setCell ⟨n, 5, none⟩ v') := fun i hi => (h i hi).to (Nat.le_trans hg.size k2.size) (fun g hP hl => ⟨⟨hP.1, hP.2.1, (fun e => by
    rcases hat with q | q
    · exact hP.2.2 (q.symm.trans e)
    · rw [q] at e; cases e; omega)⟩, (k2.block g (Nat.lt_of_lt_of_le hl hg.size) (by have := hP.1; simp; omega)).trans (hg.block g hl (fun e => hP.2.2 e.symm))⟩)
end
theorem step_app_own {P : Program} {w : World} {ops : Array Oper} {o : Oper} {a : Act} {K : Act → World → Prop} {Q : Exit → Act → World → Prop} {E : Prop} (hgd : o.guard = none) (s x : Operand) (t : TypeId)
    (ho : o.op = .call { callee := .builtin .append, args := #[s, x], argTypes := #[t, t] })
    (base : Nat) (e : TypeId) (i : TypeInfo) (z : Value) (size bytes : Nat) (ht : P.underlying t = some (.slice e)) (hi : P.info? e = some i) (hz : i.zero = some z)
    (hsize : i.size = size) (hby : i.bytes = bytes) (hzs : z.cells.size = size) (hsz : 0 < size)
    (v : Value) (n : Nat) (xs : List Value) (hs : a.eval s = v) (hown : w.ownsRow base e size v n xs)
    (ad : Addr) (m c : Nat) (news : List Value) (hx : a.eval x = .slice (some ad) m c) (hl : news.length = m * size) (hnews : ∀ j u, news[j]? = some u → w.cell? (ad.add j) = some u) (h1 : ∀ u ∈ news, u.oneCell' = true)
    (h63 : n + m ≤ maxLen) (hbytes : (n + m) * bytes ≤ 140737488355328) (hbase : base ≤ w.heap.size)
    (h : ∀ v' w', w'.ownsRow base e size v' (n + m) (xs ++ news) → w.grownBy w' v.ownBlock → (v'.ownBlock = v.ownBlock ∨ v'.ownBlock = some w.heap.size) → K (a.put o.dst v') w') :
    if Region.wanted o (yielded ops a.tmps) = true then Oper.wp P o a w K Q else E := by
  have hw : Region.wanted o (yielded ops a.tmps) = true := by simp [Region.wanted, hgd]
  rw [if_pos hw]
  obtain ⟨v', w', hr, h2, h3, h4, h5⟩ := run_append_own_at (P := P) w base t o.type e i z size bytes ht hi hz hsize hby hzs hsz v n xs hown ad m c news hl hnews h1 h63 hbytes hbase
  unfold Oper.wp execOp
  simp only [ho, resolve, invoke, builtin, Sem.run_bind, Sem.run_pure, Result.andThen_ok, List.map_toArray, List.map_cons, List.map_nil, hs, hx, hr]
  exact h v' w' h2 h3 h5
theorem infoNode : (Tryd.prog.info? 43).map (fun i => (i.zero, i.size, i.bytes)) = some (some (.agg #[.int .i64 0, .int .i64 0, .int .i64 0, .string ⟨#[]⟩, .slice none 0 0, .slice none 0 0]), 6, 88) := by kernel_rfl
end Go.Proofs.YthodjkeppobcmaaDoor
