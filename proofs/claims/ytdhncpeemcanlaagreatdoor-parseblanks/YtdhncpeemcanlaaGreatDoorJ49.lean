import Derived.Test.YtdhncpeemcanlaaGreatDoorPdC
import Derived.OrdersHeld
import Derived.Deep.MidRow

namespace Go.Proofs.YtdhncpeemcanlaaGreatDoor
open Go.RowKit
attribute [local go_sem ↓] Go.wp_at_zero Go.wp_at_succ

set_option maxRecDepth 100000 in
set_option maxHeartbeats 4000000 in
theorem sameFile_any {P Q : Nat → Prop} {W : World} {x y : Value} {a : Fl} (h : NF a x P W) (h' : NF a y Q W) : Calls Tryz.prog 7 #[x, y] W (SameP W) := by
  obtain ⟨vi, vm, ve, cm, ce, rfl, h1, h2, h3, h4, h5⟩ := h
  obtain ⟨vi', vm', ve', cm', ce', rfl, h1', h2', h3', h4', h5'⟩ := h'
  have HI := hide h1.rd
  have HI' := hide h1'.rd
  have HMr := hide h2.rd
  have HMr' := hide h2'.rd
  have HM := hide (sameMs_loop h2.rd h3.each Q _ _ h2'.rd h3')
  have HEr := hide h4.rd
  have HEr' := hide h4'.rd
  have HE := hide h5.rd
  have HE' := hide h5'.rd
  obtain ⟨ai, ci, rfl, _, _⟩ := h1.rd
  obtain ⟨ai', ci', rfl, _, _⟩ := h1'.rd
  obtain ⟨am, cm0, rfl, _, _⟩ := h2.rd
  obtain ⟨am', cm0', rfl, _, _⟩ := h2'.rd
  obtain ⟨ae, ce0, rfl, _, _⟩ := h4.rd
  obtain ⟨ae', ce0', rfl, _, _⟩ := h4'.rd
  have HT0 := hide (twoB_new (Below.refl W.heap.size W) #[.string a.pkg, .slice ai a.imps.length ci, .slice am a.ms.length cm0, .slice ae a.es.length ce0] #[.string a.pkg, .slice ai' a.imps.length ci', .slice am' a.ms.length cm0', .slice ae' a.es.length ce0'] 34)
  clear h1 h1' h2 h2' h3 h3' h4 h4' h5 h5'
  go_enter Tryz.func7, Tryz.ntmps7
  go_wp2_with fail
  have H0 := unhide HT0
  refine (sameTexts_any ((unhide HI).up H0.bl) ((unhide HI').up H0.bl)).mono ?_
  rintro e w2 ⟨rfl, hb2⟩
  have HT2 := hide (H0.up hb2)
  have X2 := (unhide HT2).x
  have Y2 := (unhide HT2).y
  clear H0 hb2 HT0
  go_wp2_with fail
  have H2 := unhide HT2
  refine (unhide HM _ H2.bl).mono ?_
  rintro e w3 ⟨rfl, hb3⟩
  have HT3 := hide (H2.up hb3)
  have X3 := (unhide HT3).x
  have Y3 := (unhide HT3).y
  clear H2 hb3 HT2 X2 Y2
  go_wp2_with fail
  have H3 := unhide HT3
  refine (sameEnums_any ((unhide HEr).up H3.bl) ((unhide HE).up H3.bl) ((unhide HEr').up H3.bl) ((unhide HE').up H3.bl)).mono ?_
  rintro e w4 ⟨rfl, hb4⟩
  have HB4 := hide (H3.up hb4).bl
  clear H3 hb4 HT3 X3 Y3
  go_wp2
  go_ret
  exact ⟨rfl, unhide HB4⟩
theorem nf_zero (P : Nat → Prop) (W : World) : NF ⟨⟨#[]⟩, [], [], []⟩ (.agg #[.string ⟨#[]⟩, .slice none 0 0, .slice none 0 0, .slice none 0 0]) P W := by
  have hn : ∀ t sz, RowR P W t sz (.slice none 0 0) 0 [] := fun t sz => ⟨⟨by simp, .inl ⟨rfl, rfl⟩⟩, fun g h => by cases h⟩
  exact ⟨_, _, _, [], [], rfl, hn _ _, hn _ _, .nil, hn _ _, .nil⟩
#print axioms sameFile_any
end Go.Proofs.YtdhncpeemcanlaaGreatDoor

namespace Go.Proofs.YtdhncpeemcanlaaGreatDoor
open Go.RowKit
attribute [local go_sem ↓] Go.wp_at_zero Go.wp_at_succ

def flOf : Except (Int × Int) (Fl × PSt) → Fl
  | .error _ => ⟨⟨#[]⟩, [], [], []⟩
  | .ok (x, _) => x
def erOf : Except (Int × Int) (Fl × PSt) → Int
  | .error y => y.1
  | .ok _ => 0
def spOf : Except (Int × Int) (Fl × PSt) → Int
  | .error y => y.2
  | .ok _ => 0
theorem NF.up {a : Fl} {x : Value} {P : Nat → Prop} {w w' : World} (h : NF a x P w) (hb : Below w.heap.size w w') : NF a x P w' := stable_nf a x P P w w' (fun k hp hk => ⟨hp, hb.block k hk⟩) h
theorem rdp_form {W w : World} {r : Except (Int × Int) (Fl × PSt)} {e : Ending} (h : RdP W r e w) : ∃ ia il ic ma ml mc ea el ec, e = .returned (.tuple #[.agg #[.string (flOf r).pkg, .slice ia il ic, .slice ma ml mc, .slice ea el ec], .agg #[.int .i64 (erOf r), .int .i64 0, .int .i64 (spOf r), .string ⟨#[]⟩]]) ∧ NF (flOf r) (.agg #[.string (flOf r).pkg, .slice ia il ic, .slice ma ml mc, .slice ea el ec]) (fun k => W.heap.size ≤ k) w ∧ Below W.heap.size W w := by
  match r, h with
  | .error y, h =>
    obtain ⟨rfl, hb⟩ := h
    exact ⟨_, _, _, _, _, _, _, _, _, rfl, nf_zero _ _, hb⟩
  | .ok (x, s), h =>
    obtain ⟨fv, rfl, hn, hb⟩ := h
    have hn' := hn
    obtain ⟨vi, vm, ve, cm, ce, rfl, h1, h2, h3, h4, h5⟩ := hn'
    obtain ⟨a1, c1, e1, _⟩ := h1.rd
    obtain ⟨a2, c2, e2, _⟩ := h2.rd
    obtain ⟨a3, c3, e3, _⟩ := h4.rd
    subst e1 e2 e3
    exact ⟨_, _, _, _, _, _, _, _, _, rfl, hn, hb⟩
theorem cell_heap4 {w : World} {g : Nat} {cs : Array Value} {t : TypeId} {fr : Nat × Nat} (h : w.heap[g]? = some (.cells cs t fr)) (j : Nat) : w.cell? ⟨g, j, none⟩ = cs[j]? := cell_of_row _ _ _ _ _ _ h
theorem twoB_new2 {W wr : World} (hb : Below W.heap.size W wr) (xs ys : Array Value) (t t' : TypeId) : TwoB W wr.heap.size (wr.heap.size + 1) xs ys t ((wr.alloc (.cells xs t)).alloc (.cells ys t')) := by
  have h1 := hb.size
  refine ⟨(hb.alloc h1 _).alloc (by rw [World.size_alloc]; omega) _, fun j => ?_, fun j => ?_, by rw [World.size_alloc, World.size_alloc]; omega, by rw [World.size_alloc, World.size_alloc]; omega⟩
  · rw [World.cell?_alloc_past _ _ _ (by rw [World.size_alloc]; omega), World.cell?_alloc_at _ _ _ _ rfl]
  · rw [World.cell?_alloc_at _ _ _ _ (by rw [World.size_alloc])]
end Go.Proofs.YtdhncpeemcanlaaGreatDoor

namespace Go.Proofs.YtdhncpeemcanlaaGreatDoor
open Go.RowKit

def kn1 : ByteArray := ⟨#[115, 121, 110, 116, 97, 120, 32, 61, 32, 34, 112, 114, 111, 116, 111, 51, 34, 59, 32, 112, 97, 99, 107, 97, 103, 101, 32, 97, 46, 98, 59, 32, 105, 109, 112, 111, 114, 116, 32, 34, 120, 46, 112, 114, 111, 116, 111, 34, 59, 32, 109, 101, 115, 115, 97, 103, 101, 32, 77, 32, 123, 32, 105, 110, 116, 51, 50, 32, 97, 32, 61, 32, 49, 59, 32, 125]⟩
def kn2 : ByteArray := ⟨#[115, 121, 110, 116, 97, 120, 32, 61, 32, 34, 112, 114, 111, 116, 111, 51, 34, 59, 32, 115, 101, 114, 118, 105, 99, 101, 32, 83, 32, 123, 125]⟩
def knF : Fl := ⟨⟨#[97, 46, 98]⟩, [⟨#[120, 46, 112, 114, 111, 116, 111]⟩], [.mk ⟨#[77]⟩ [⟨1, ⟨#[]⟩, ⟨#[105, 110, 116, 51, 50]⟩, ⟨#[97]⟩, 1, 0⟩] [] [] [] [] []], []⟩
set_option maxRecDepth 100000 in
theorem kn2_er : erOf (parseF kn2) = 52 := by kernel_rfl
set_option maxRecDepth 100000 in
theorem kn2_sp : spOf (parseF kn2) = 19 := by kernel_rfl
set_option maxRecDepth 100000 in
theorem kn1_er : erOf (parseF kn1) = 0 := by kernel_rfl
set_option maxRecDepth 100000 in
theorem kn1_sp : spOf (parseF kn1) = 0 := by kernel_rfl
set_option maxRecDepth 100000 in
theorem kn1_fl : flOf (parseF kn1) = knF := by kernel_rfl
end Go.Proofs.YtdhncpeemcanlaaGreatDoor

namespace Go.Proofs.YtdhncpeemcanlaaGreatDoor
open Go.RowKit
attribute [local go_sem ↓] Go.wp_at_zero Go.wp_at_succ

theorem alloc6 (w : World) (a b c d e f : Obj) : Below w.heap.size w ((((((w.alloc a).alloc b).alloc c).alloc d).alloc e).alloc f) ∧ ((((((w.alloc a).alloc b).alloc c).alloc d).alloc e).alloc f).heap.size = w.heap.size + 6 ∧
    (((((w.alloc a).alloc b).alloc c).alloc d).alloc e |>.alloc f).heap[w.heap.size]? = some a ∧ (((((w.alloc a).alloc b).alloc c).alloc d).alloc e |>.alloc f).heap[w.heap.size + 1]? = some b ∧ (((((w.alloc a).alloc b).alloc c).alloc d).alloc e |>.alloc f).heap[w.heap.size + 1 + 1]? = some c ∧ (((((w.alloc a).alloc b).alloc c).alloc d).alloc e |>.alloc f).heap[w.heap.size + 1 + 1 + 1]? = some d ∧ (((((w.alloc a).alloc b).alloc c).alloc d).alloc e |>.alloc f).heap[w.heap.size + 1 + 1 + 1 + 1]? = some e ∧ (((((w.alloc a).alloc b).alloc c).alloc d).alloc e |>.alloc f).heap[w.heap.size + 1 + 1 + 1 + 1 + 1]? = some f := by
  have hs : ∀ (x : World) (o : Obj), (x.alloc o).heap.size = x.heap.size + 1 := fun x o => World.size_alloc _ _
  have hn : ∀ (x : World) (o : Obj) (k : Nat), k = x.heap.size → (x.alloc o).heap[k]? = some o := fun x o k h => by rw [h]; exact heap_new x o
  have ho : ∀ (x : World) (o : Obj) (k : Nat), k < x.heap.size → (x.alloc o).heap[k]? = x.heap[k]? := fun x o k h => Below.heap_alloc x o k h
  refine ⟨⟨rfl, rfl, rfl, ?_, fun k hk => ?_⟩, ?_, ?_, ?_, ?_, ?_, ?_, ?_⟩
  · simp only [hs]; omega
  · rw [ho _ _ _ (by simp only [hs]; omega), ho _ _ _ (by simp only [hs]; omega), ho _ _ _ (by simp only [hs]; omega), ho _ _ _ (by simp only [hs]; omega), ho _ _ _ (by simp only [hs]; omega), ho _ _ _ hk]
  · simp only [hs]
  · rw [ho _ _ _ (by simp only [hs]; omega), ho _ _ _ (by simp only [hs]; omega), ho _ _ _ (by simp only [hs]; omega), ho _ _ _ (by simp only [hs]; omega), ho _ _ _ (by simp only [hs]; omega), hn _ _ _ rfl]
  · rw [ho _ _ _ (by simp only [hs]; omega), ho _ _ _ (by simp only [hs]; omega), ho _ _ _ (by simp only [hs]; omega), ho _ _ _ (by simp only [hs]; omega), hn _ _ _ (by simp only [hs])]
  · rw [ho _ _ _ (by simp only [hs]; omega), ho _ _ _ (by simp only [hs]; omega), ho _ _ _ (by simp only [hs]; omega), hn _ _ _ (by simp only [hs])]
  · rw [ho _ _ _ (by simp only [hs]; omega), ho _ _ _ (by simp only [hs]; omega), hn _ _ _ (by simp only [hs])]
  · rw [ho _ _ _ (by simp only [hs]; omega), hn _ _ _ (by simp only [hs])]
  · rw [hn _ _ _ (by simp only [hs])]
theorem row_one {w : World} {g t sz : Nat} {cs : Array Value} (h : w.heap[g]? = some (.cells cs t (0, 0))) (hz : cs.size = 1 * sz) : RowR (fun _ => True) w t sz (.slice (some ⟨g, 0, none⟩) 1 1) 1 cs.toList :=
  ⟨⟨by rw [Array.length_toList]; exact hz, .inr ⟨g, 1, cs, rfl, Nat.zero_le _, h, Nat.le_refl _, by decide, hz, by rw [← hz, ← Array.length_toList, List.take_length]⟩⟩, fun _ _ => trivial⟩
theorem kn_want {A : World} {g1 g2 g3 : Nat} (h2 : A.heap[g1]? = some (.cells #[.string ⟨#[120, 46, 112, 114, 111, 116, 111]⟩] 9 (0, 0))) (h3 : A.heap[g2]? = some (.cells #[.int .i64 1, .string ⟨#[]⟩, .string ⟨#[105, 110, 116, 51, 50]⟩, .string ⟨#[97]⟩, .int .i64 1, .int .i64 0] 47 (0, 0)))
    (h4 : A.heap[g3]? = some (.cells #[.string ⟨#[77]⟩, .slice (some ⟨g2, 0, none⟩) 1 1, .slice none 0 0, .slice none 0 0, .slice none 0 0, .slice none 0 0, .slice none 0 0] 51 (0, 0))) :
    NF knF (.agg #[.string ⟨#[97, 46, 98]⟩, .slice (some ⟨g1, 0, none⟩) 1 1, .slice (some ⟨g3, 0, none⟩) 1 1, .slice none 0 0]) (fun _ => True) A := by
  have hn : ∀ t sz, RowR (fun _ => True) A t sz (.slice none 0 0) 0 [] := fun t sz => ⟨⟨by simp, .inl ⟨rfl, rfl⟩⟩, fun g h => by cases h⟩
  exact ⟨_, _, _, _, [], rfl, row_one h2 rfl, row_one h4 rfl, .cons (row_one h3 rfl) (hn _ _) (hn _ _) .nil (hn _ _) .nil (hn _ _) (hn _ _) .nil, hn _ _, .nil⟩
set_option maxRecDepth 100000 in
set_option maxHeartbeats 4000000 in
theorem known_any {W : World} (hF : HasF W) (hE : HasE W) (hM : HasM W) : Calls Tryz.prog 5 #[] W (SameP W) := by
  have HF := hide hF
  have HE := hide hE
  have HM := hide hM
  clear hF hE hM
  go_enter Tryz.func5, Tryz.ntmps5
  go_wp2_with fail
  refine (parse_any (unhide HF) (unhide HE) (unhide HM) kn1).mono ?_
  intro e w1 hr
  obtain ⟨ia, il, ic, ma, ml, mc, ea, el, ec, rfl, hn, hb1⟩ := rdp_form hr
  rw [kn1_fl] at hn
  rw [kn1_fl, kn1_er, kn1_sp]
  have HN := hide hn
  have HB1 := hide hb1
  clear hr hn hb1
  go_wp2_with fail
  obtain ⟨hA, hs, q0, q1, q2, q3, q4, q5⟩ := alloc6 w1 (.cells #[.string knF.pkg, .slice ia il ic, .slice ma ml mc, .slice ea el ec] 34) (.cells #[.int .i64 0, .int .i64 0, .int .i64 0, .string ⟨#[]⟩] 36) (.cells #[.string ⟨#[120, 46, 112, 114, 111, 116, 111]⟩] 9) (.cells #[.int .i64 1, .string ⟨#[]⟩, .string ⟨#[105, 110, 116, 51, 50]⟩, .string ⟨#[97]⟩, .int .i64 1, .int .i64 0] 47)
    (.cells #[.string ⟨#[77]⟩, .slice (some ⟨w1.heap.size + 1 + 1 + 1, 0, none⟩) 1 1, .slice none 0 0, .slice none 0 0, .slice none 0 0, .slice none 0 0, .slice none 0 0] 51) (.cells #[.string ⟨#[97, 46, 98]⟩, .slice (some ⟨w1.heap.size + 1 + 1, 0, none⟩) 1 1, .slice (some ⟨w1.heap.size + 1 + 1 + 1 + 1, 0, none⟩) 1 1, .slice none 0 0] 34)
  have hWA := (unhide HB1).trans (hA.mono (unhide HB1).size)
  refine (parse_any ((unhide HF).up hWA) ((unhide HE).up hWA) ((unhide HM).up hWA (unhide HM).1) kn2).mono ?_
  intro e w2 hr
  obtain ⟨ia', il', ic', ma', ml', mc', ea', el', ec', rfl, -, hb2⟩ := rdp_form hr
  rw [kn2_er, kn2_sp]
  obtain ⟨pk, hpk⟩ : ∃ pk, (flOf (parseF kn2)).pkg = pk := ⟨_, rfl⟩
  rw [hpk]
  have hsz := hb2.size
  rw [hs] at hsz
  have q0' := (hb2.block _ (by rw [hs]; omega)).trans q0
  have q1' := (hb2.block _ (by rw [hs]; omega)).trans q1
  have q5' := (hb2.block _ (by rw [hs]; omega)).trans q5
  have hw2 := hWA.trans (hb2.mono hWA.size)
  have hnf2 := ((unhide HN).up hA).up hb2
  have hwt2 := (kn_want q2 q3 q4).up hb2
  have HN2 := hide hnf2
  have HW2 := hide hwt2
  have HB2 := hide hw2
  have X0 : ∀ o o' j, ((w2.alloc o).alloc o').cell? ⟨w1.heap.size, j, none⟩ = (#[.string knF.pkg, .slice ia il ic, .slice ma ml mc, .slice ea el ec] : Array Value)[j]? := fun o o' j => (World.cell?_alloc_lt _ _ _ (by rw [World.size_alloc]; show w1.heap.size < _; omega)).trans ((World.cell?_alloc_lt _ _ _ (by show w1.heap.size < _; omega)).trans (cell_heap4 q0' j))
  have X1 : ∀ o o' j, ((w2.alloc o).alloc o').cell? ⟨w1.heap.size + 1, j, none⟩ = (#[.int .i64 0, .int .i64 0, .int .i64 0, .string ⟨#[]⟩] : Array Value)[j]? := fun o o' j => (World.cell?_alloc_lt _ _ _ (by rw [World.size_alloc]; show w1.heap.size + 1 < _; omega)).trans ((World.cell?_alloc_lt _ _ _ (by show w1.heap.size + 1 < _; omega)).trans (cell_heap4 q1' j))
  have X5 : ∀ o o' j, ((w2.alloc o).alloc o').cell? ⟨w1.heap.size + 1 + 1 + 1 + 1 + 1, j, none⟩ = (#[.string ⟨#[97, 46, 98]⟩, .slice (some ⟨w1.heap.size + 1 + 1, 0, none⟩) 1 1, .slice (some ⟨w1.heap.size + 1 + 1 + 1 + 1, 0, none⟩) 1 1, .slice none 0 0] : Array Value)[j]? := fun o o' j => (World.cell?_alloc_lt _ _ _ (by rw [World.size_alloc]; show w1.heap.size + 1 + 1 + 1 + 1 + 1 < _; omega)).trans ((World.cell?_alloc_lt _ _ _ (by show w1.heap.size + 1 + 1 + 1 + 1 + 1 < _; omega)).trans (cell_heap4 q5' j))
  have HT0 := hide (twoB_new2 (unhide HB2) #[.string pk, .slice ia' il' ic', .slice ma' ml' mc', .slice ea' el' ec'] #[.int .i64 52, .int .i64 0, .int .i64 19, .string ⟨#[]⟩] 34 36)
  clear hr hb2 hpk q0 q1 q2 q3 q4 q5 q0' q1' q5' hw2 hnf2 hwt2 hsz hs hA hWA HN HB1
  go_wp2_with fail
  have H0 := unhide HT0
  have hbZ := (twoB_new2 (Below.refl w2.heap.size w2) #[.string pk, .slice ia' il' ic', .slice ma' ml' mc', .slice ea' el' ec'] #[.int .i64 52, .int .i64 0, .int .i64 19, .string ⟨#[]⟩] 34 36).bl
  refine (sameFile_any ((unhide HN2).up hbZ) ((unhide HW2).up hbZ)).mono ?_
  rintro e w3 ⟨rfl, hb3⟩
  have HT3 := hide (H0.up hb3)
  have X3 := (unhide HT3).x
  have Y3 := (unhide HT3).y
  clear H0 hbZ hb3 HT0 X0 X1 X5 HN2 HW2 HB2
  go_wp2
  go_ret
  exact ⟨rfl, (unhide HT3).bl⟩
end Go.Proofs.YtdhncpeemcanlaaGreatDoor

namespace Go.Proofs.YtdhncpeemcanlaaGreatDoor
open Go.RowKit
attribute [local go_sem ↓] Go.wp_at_zero Go.wp_at_succ

theorem step_call {P : Program} {ops : Array Oper} {o : Oper} {a : Act} {w : World} {K : Act → World → Prop} {Q : Exit → Act → World → Prop} {E : Prop} (hgd : o.guard = none) (f : FuncId) (hfn : ∀ vs, (callFunc f vs).run P w = .ok (.enter f vs) w) (args : Array Operand) (tys : Array TypeId)
    (ho : o.op = .call { callee := .value (.func f), args := args, argTypes := tys }) (vs : Array Value) (hv : args.map a.eval = vs) {R : Ending → World → Prop} (hc : Calls P f vs w R) (hK : ∀ e w', R e w' → ∃ v, e = .returned v ∧ K (a.put o.dst v) w') :
    if Region.wanted o (yielded ops a.tmps) = true then Oper.wp P o a w K Q else E := by
  have hw : Region.wanted o (yielded ops a.tmps) = true := by simp [Region.wanted, hgd]
  rw [if_pos hw]
  have h2 : Oper.wp P o a w K Q = o.upon P a K Q (.ok (.enter f vs) w) := by
    unfold Oper.wp
    simp [execOp, ho, resolve, invoke, ← hv, Act.eval, Deferred.ofValue, hfn]
  rw [h2, Oper.upon_enter]
  refine hc.mono ?_
  intro e w' hr
  obtain ⟨v, rfl, hk⟩ := hK e w' hr
  exact hk
section
variable {P : Program} {ops : Array Oper} {Q : Exit → Act → World → Prop} {md : Region.Mode} {T : World → Prop} {z : Nat}
/-- Every order from here on, and T holds behind each operation but number z. -/
def wpAnyZ (P : Program) (md : Region.Mode) (ops : Array Oper) (Q : Exit → Act → World → Prop) (T : World → Prop) (z : Nat) : Nat → Array Bool → Act → World → Prop
  | 0, d, a, w => Region.ready md ops d = [] ∧ Q .normal a w
  | n + 1, d, a, w => (Region.ready md ops d = [] → Q .normal a w) ∧ ∀ i ∈ Region.ready md ops d, wpOp P ops Q i (fun a' w' => (i ≠ z → T w') ∧ wpAnyZ P md ops Q T z n (d.setIfInBounds i true) a' w') a w
theorem wpAny_of_Z : ∀ (n : Nat) (d : Array Bool) (a : Act) (w : World), wpAnyZ P md ops Q T z n d a w → wpAny P md ops Q n d a w
  | 0, _, _, _, h => h
  | n + 1, _, _, _, h => ⟨h.1, fun i hi => wpOp_mono (fun a' w' h' => wpAny_of_Z n _ a' w' h'.2) (h.2 i hi)⟩
/-- Number i comes first: all that z does comes behind it. -/
theorem wpAnyZ_go {i : Nat} {oi oz : Oper} {v : Value} (hi : ops[i]? = some oi) (hz : ops[z]? = some oz) (hw : ∃ e ∈ oz.after, Region.binds md e = true ∧ e.on = i) (hs : ∀ (j : Nat) (o : Oper) cs b, ops[j]? = some o → o.op ≠ .select cs b)
    (hQ : ∀ c a w, Q (.panic c) (a.put oi.dst v) w → Q (.panic c) a w) : ∀ (n : Nat) (d : Array Bool) (a : Act) (w : World),
      (∀ j oj, ops[j]? = some oj → j ≠ i → d.getD j true = false → (∀ e ∈ oj.after, Region.binds md e = true → e.on ≠ i) → oi.apart ops oj = true) → i ∈ Region.ready md ops d → YieldsIf P ops T oi v a → T w →
      wpAnyZ P md ops Q T z n (d.setIfInBounds i true) (a.put oi.dst v) w → wpAnyZ P md ops Q T z (n + 1) d a w := by
  intro n
  induction n with
  | zero =>
    intro d a w _ hr hy hT H
    refine ⟨fun h => (by rw [h] at hr; cases hr), fun j hj => ?_⟩
    by_cases e : j = i
    · rw [e]; exact hy.wpOp hi hT ⟨fun _ => hT, H⟩
    · have q := ready_mono hj e
      rw [H.1] at q
      cases q
  | succ n ih =>
    intro d a w hf hr hy hT H
    refine ⟨fun h => (by rw [h] at hr; cases hr), fun j hj => ?_⟩
    by_cases e : j = i
    · rw [e]; exact hy.wpOp hi hT ⟨fun _ => hT, H⟩
    · obtain ⟨hd, oj, hoj, hall⟩ := mem_ready.1 hj
      have hd0 := (mem_ready.1 hr).1
      have hno : ∀ x ∈ oj.after, Region.binds md x = true → x.on ≠ i := fun x hx hb hxi => by
        have q := hall x hx hb
        rw [hxi] at q
        rcases Nat.lt_or_ge i d.size with q1 | q1
        · simp [q1] at hd0 q
          rw [hd0] at q
          cases q
        · simp [Array.getElem?_eq_none q1] at q
      have hjz : j ≠ z := fun q => by
        subst q
        obtain ⟨x, hx, hb, hxi⟩ := hw
        rw [hz] at hoj
        obtain rfl := Option.some.inj hoj
        exact hno x hx hb hxi
      have h2 := wpOp_putIf hoj (hf j oj hoj e hd hno) (fun cs b => hs i oi cs b hi) (fun cs b => hs j oj cs b hoj) hQ hy (H.2 j (ready_mono hj e))
      refine wpOp_mono (fun a' w' h3 => ⟨h3.2.1, ih (d.setIfInBounds j true) a' w' (fun k ok hk hki hun hn => hf k ok hk hki ?_ hn) (ready_mono hr (Ne.symm e)) h3.1 (h3.2.1 hjz) ?_⟩) h2
      · by_cases hjk : j = k
        · rw [← hjk]; exact hd
        · rwa [getD_set_ne true hjk] at hun
      · rw [Array.setIfInBounds_comm _ _ e]
        exact h3.2.2
/-- The number waits for i. -/
def waits (md : Region.Mode) (ops : Array Oper) (z i : Nat) : Bool := match ops[z]? with
  | none => false
  | some o => o.after.any fun e => Region.binds md e && e.on == i
theorem wpAnyZ_take (i : Nat) {oi : Oper} (v : Value) (x : Tmp) {n : Nat} {d : Array Bool} {a : Act} {w : World} (hi : ops[i]? = some oi) (hx : oi.dst = some x) (hw : waits md ops z i = true) (hs : Region.noSelect ops = true) (hf : Region.free md ops d i = true) (hr : (Region.ready md ops d).contains i = true)
    (hQ : ∀ c a w, Q (.panic c) (a.put (some x) v) w → Q (.panic c) a w) (hy : YieldsIf P ops T oi v a) (hT : T w) (h : wpAnyZ P md ops Q T z n (d.setIfInBounds i true) (a.put (some x) v) w) : wpAnyZ P md ops Q T z (n + 1) d a w := by
  rw [← hx] at hQ h
  unfold waits at hw
  split at hw
  · cases hw
  · rename_i oz hz
    obtain ⟨e, he, hb⟩ := Array.any_eq_true'.1 hw
    simp only [Bool.and_eq_true, beq_iff_eq] at hb
    exact wpAnyZ_go hi hz ⟨e, he, hb.1, hb.2⟩ (Region.noSelect_spec hs) hQ n d a w (Region.free_spec hi hf) (by simpa using hr) hy hT h
/-- One alone may come up. -/
theorem wpAnyZ_one (i : Nat) {o : Oper} {n : Nat} {d : Array Bool} {a : Act} {w : World} (hr : Region.ready md ops d = [i]) (ho : ops[i]? = some o)
    (h : ∀ K : Act → World → Prop, (∀ a' w', ((i ≠ z → T w') ∧ wpAnyZ P md ops Q T z n (d.setIfInBounds i true) a' w') → K a' w') → if Region.wanted o (yielded ops a.tmps) = true then Oper.wp P o a w K Q else K (a.put o.dst undef) w) : wpAnyZ P md ops Q T z (n + 1) d a w := by
  refine ⟨fun h0 => (by rw [h0] at hr; cases hr), fun j hj => ?_⟩
  rw [hr] at hj
  obtain rfl : j = i := by simpa using hj
  exact wpOp_step ho h
theorem step_callD {o : Oper} {a : Act} {w : World} {K : Act → World → Prop} {E : Prop} (x : Tmp) (hx : o.dst = some x) (hgd : o.guard = none) (f : FuncId) (hfn : ∀ vs, (callFunc f vs).run P w = .ok (.enter f vs) w) (args : Array Operand) (tys : Array TypeId)
    (ho : o.op = .call { callee := .value (.func f), args := args, argTypes := tys }) (vs : Array Value) (hv : args.map a.eval = vs) {R : Ending → World → Prop} (hc : Calls P f vs w R) (hK : ∀ e w', R e w' → ∃ v, e = .returned v ∧ K (a.put (some x) v) w') :
    if Region.wanted o (yielded ops a.tmps) = true then Oper.wp P o a w K Q else E :=
  step_call hgd f hfn args tys ho vs hv hc (by rw [hx]; exact hK)
theorem wpAnyZ_done {n : Nat} {d : Array Bool} {a : Act} {w : World} (hr : Region.ready md ops d = []) (h : Q .normal a w) : wpAnyZ P md ops Q T z n d a w := by
  cases n with
  | zero => exact ⟨hr, h⟩
  | succ n => exact ⟨fun _ => h, fun i hi => by rw [hr] at hi; cases hi⟩
end
theorem step_app_own {P : Program} {w : World} {ops : Array Oper} {o : Oper} {a : Act} {K : Act → World → Prop} {Q : Exit → Act → World → Prop} {E : Prop} (hgd : o.guard = none) (s x : Operand) (t : TypeId)
    (ho : o.op = .call { callee := .builtin .append, args := #[s, x], argTypes := #[t, t] })
    (base : Nat) (e : TypeId) (i : TypeInfo) (z : Value) (size bytes : Nat) (ht : P.underlying t = some (.slice e)) (hi : P.info? e = some i) (hz : i.zero = some z)
    (hsize : i.size = size) (hby : i.bytes = bytes) (hzs : z.cells.size = size) (hsz : 0 < size)
    (v : Value) (n : Nat) (xs : List Value) (hs : a.eval s = v) (hown : w.ownsRow base e size v n xs)
    (ad : Addr) (m c : Nat) (news : List Value) (hx : a.eval x = .slice (some ad) m c) (hl : news.length = m * size) (hnews : ∀ j u, news[j]? = some u → w.cell? (ad.add j) = some u) (h1 : ∀ u ∈ news, u.oneCell' = true)
    (h63 : n + m ≤ maxLen) (hbytes : (n + m) * bytes ≤ 140737488355328) (hbase : base ≤ w.heap.size)
    (h : ∀ v' w', w'.ownsRow base e size v' (n + m) (xs ++ news) → w.grownBy w' v.ownBlock → (v'.ownBlock = v.ownBlock ∨ v'.ownBlock = some w.heap.size) → K (a.put o.dst v') w') :
    if Region.wanted o (yielded ops a.tmps) = true then Oper.wp P o a w K Q else E := by
  have hw : Region.wanted o (yielded ops a.tmps) = true := by simp [Region.wanted, hgd]
  rw [if_pos hw]
  obtain ⟨v', w', hr, h2, h3, h4, h5⟩ := run_append_own_at (P := P) w base t o.type e i z size bytes ht hi hz hsize hby hzs hsz v n xs hown ad m c news hl hnews h1 h63 hbytes hbase
  unfold Oper.wp execOp
  simp only [ho, resolve, invoke, builtin, Sem.run_bind, Sem.run_pure, Result.andThen_ok, List.map_toArray, List.map_cons, List.map_nil, hs, hx, hr]
  exact h v' w' h2 h3 h5
theorem slice_form {base : Nat} {w : World} {v : Value} {T n sz : Nat} {xs : List Value} (h : w.ownsRow base T sz v n xs) : ∃ a c, v = .slice a n c := by
  rcases h.2 with ⟨rfl, rfl⟩ | ⟨g, cap, cur, rfl, _⟩
  · exact ⟨_, _, rfl⟩
  · exact ⟨_, _, rfl⟩
end Go.Proofs.YtdhncpeemcanlaaGreatDoor
