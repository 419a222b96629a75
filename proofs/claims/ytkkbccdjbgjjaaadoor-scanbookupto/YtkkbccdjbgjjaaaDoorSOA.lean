import Derived.Test.YtkkbccdjbgjjaaaDoorSKO

namespace Go.Proofs.YtkkbccdjbgjjaaaDoor
open Go.RowKit

theorem tokF_pos (s : ByteArray) : ∀ (f k n : Nat) (ts : List Tok), tokF s f k n = .inl ts → 0 < ts.length := by
  intro f
  induction f with
  | zero => intro k n ts h; cases h
  | succ f ih =>
    intro k n ts h
    rw [tokF] at h
    split at h
    · cases h
    · split at h
      · have := Sum.inl.inj h
        rw [← this]
        simp
      · split at h
        · cases h
        · split at h
          · cases hr : tokF s f (oneF s (passF s s.size k).1).2.1 (n + 1) with
            | inl l =>
              rw [hr] at h
              have := Sum.inl.inj h
              rw [← this, List.length_cons]
              omega
            | inr e => rw [hr] at h; cases h
          · cases h
theorem tokR_pos {s : ByteArray} {ts : List Tok} (h : tokR s = .inl ts) : 0 < ts.length := by
  unfold tokR at h
  split at h
  · cases h
  · split at h
    · cases h
    · exact tokF_pos s _ _ _ ts h
/-- What Tokens answers, and that where it answers no fault there is a token. -/
theorem tokens_two {W : World} (hF : HasF W) (hE : HasE W) (hM : HasM W) (s : ByteArray) : Calls Tryd.prog 5 #[.string s] W fun e w => TkA s W e w ∧ ((tkO s).2.2 = 0 → 0 < (tkO s).1.length) := by
  refine (tokens_any hF hE hM s).mono ?_
  rintro e w ⟨hb, h2⟩
  unfold TkA tkO
  cases ht : tokR s with
  | inl ts =>
    rw [ht] at h2
    obtain ⟨v, rfl, h3⟩ := h2
    refine ⟨⟨v, rfl, ?_, hasTok_of h3, hb⟩, fun _ => tokR_pos ht⟩
    unfold RowT
    rw [← tcells_tk, List.length_map]
    exact h3
  | inr p =>
    obtain ⟨k, c⟩ := p
    rw [ht] at h2
    obtain ⟨hc, rfl⟩ := h2
    exact ⟨⟨_, rfl, World.ownsRow_nil _ _ _ _, hasTok_nil w, hb⟩, fun h => absurd h hc⟩
theorem hasTok_row {B : Nat} {w : World} {v : Value} {ts : List Tok} (h : RowT B w v (ts.map Tok.tk)) : HasTok w v ts := by
  refine hasTok_of (B := B) ?_
  unfold RowT at h
  rw [← tcells_tk, List.length_map] at h
  exact h
def mkA (j n : Nat) : List Tk := (List.range n).map fun k : Nat => ⟨7000 + (j : Int), (k : Int), ⟨#[]⟩⟩
def mkM (j n : Nat) : List Tk := (List.range n).map fun k : Nat => ⟨-1 - (j : Int), (k : Int), ⟨#[]⟩⟩
theorem mkA_len (j n : Nat) : (mkA j n).length = n := by simp [mkA]
theorem mkM_len (j n : Nat) : (mkM j n).length = n := by simp [mkM]
theorem mkA_at {j n k : Nat} (h : k < n) : (mkA j n)[k]? = some ⟨7000 + (j : Int), (k : Int), ⟨#[]⟩⟩ := by simp [mkA, h]
theorem mkM_at {j n k : Nat} (h : k < n) : (mkM j n)[k]? = some ⟨-1 - (j : Int), (k : Int), ⟨#[]⟩⟩ := by simp [mkM, h]
theorem mkM_succ (j k : Nat) : mkM j (k + 1) = mkM j k ++ [⟨-1 - (j : Int), (k : Int), ⟨#[]⟩⟩] := by
  unfold mkM
  rw [List.range_succ, List.map_append]
  rfl
theorem mkA_step {j k : Nat} {xs : List Tk} (hk : k < xs.length) : (mkA j k ++ xs.drop k).set k ⟨7000 + (j : Int), (k : Int), ⟨#[]⟩⟩ = mkA j (k + 1) ++ xs.drop (k + 1) := by
  rw [List.set_append_right _ _ (by rw [mkA_len]; omega), mkA_len, Nat.sub_self, List.drop_eq_getElem_cons hk, List.set_cons_zero]
  unfold mkA
  rw [List.range_succ, List.map_append]
  simp
/-- Own lists of tokens, each with at least one, and the own list that holds them. -/
structure Al (B : Nat) (w : World) (v3 : Value) (zs : List (Value × List Tk)) : Prop where
  row : w.ownsRow B 25 1 v3 zs.length (zs.map (·.1))
  each : ∀ z ∈ zs, RowT B w z.1 z.2 ∧ 0 < z.2.length ∧ z.2.length ≤ 16384
  nd : ∀ (i j : Nat) (z y : Value × List Tk), zs[i]? = some z → zs[j]? = some y → z.1.ownBlock = y.1.ownBlock → i = j
  ne : ∀ z ∈ zs, z.1.ownBlock ≠ v3.ownBlock
theorem Al.nil (B : Nat) (w : World) : Al B w (.slice none 0 0) [] := ⟨World.ownsRow_nil _ _ _ _, fun z h => by simp at h, fun i j z y h => by simp at h, fun z h => by simp at h⟩
theorem Al.up {B : Nat} {w w' : World} {v3 : Value} {zs : List (Value × List Tk)} (h : Al B w v3 zs) (hb : Below w.heap.size w w') : Al B w' v3 zs :=
  ⟨ownsRow_up h.row hb, fun z hz => ⟨(h.each z hz).1.up hb, (h.each z hz).2⟩, h.nd, h.ne⟩
theorem Al.shape {B : Nat} {w : World} {v3 : Value} {zs : List (Value × List Tk)} (h : Al B w v3 zs) {z : Value × List Tk} (hz : z ∈ zs) : ∃ g c, z.1 = .slice (some ⟨g, 0, none⟩) z.2.length c ∧ B ≤ g ∧ g < w.heap.size := by
  obtain ⟨h1, h2, _⟩ := h.each z hz
  obtain ⟨g, c, e⟩ := h1.pos h2
  rw [e] at h1
  exact ⟨g, c, e, h1.lt⟩
theorem Al.form {B : Nat} {w : World} {v3 : Value} {zs : List (Value × List Tk)} (h : Al B w v3 zs) : ∃ a c, v3 = .slice a zs.length c := by
  rcases h.row.2 with ⟨rfl, h0⟩ | ⟨g, cap, _, rfl, _⟩
  · exact ⟨_, _, by rw [h0]⟩
  · exact ⟨_, _, rfl⟩
theorem Al.pos {B : Nat} {w : World} {v3 : Value} {zs : List (Value × List Tk)} (h : Al B w v3 zs) (hp : 0 < zs.length) : ∃ g c, v3 = .slice (some ⟨g, 0, none⟩) zs.length c := by
  rcases h.row.2 with ⟨_, h0⟩ | ⟨g, cap, _, rfl, _⟩
  · omega
  · exact ⟨_, _, rfl⟩
theorem Al.cell {B g n c : Nat} {w : World} {zs : List (Value × List Tk)} (h : Al B w (.slice (some ⟨g, 0, none⟩) n c) zs) {i : Nat} {z : Value × List Tk} (hi : zs[i]? = some z) : w.cell? ⟨g, i, none⟩ = some z.1 := by
  obtain ⟨a, c', e⟩ := h.form
  simp only [Value.slice.injEq] at e
  obtain ⟨_, rfl, _⟩ := e
  exact row1_cell h.row (by rw [List.getElem?_map, hi]; rfl)
theorem Al.push {B : Nat} {w w' : World} {v v3 v3' : Value} {zs : List (Value × List Tk)} {ks : List Tk} {ob : Obj} (h : Al B w v3 zs) (hv : RowT B w v ks) (hp : 0 < ks.length) (hl : ks.length ≤ 16384) (hn : ∀ z ∈ zs, z.1.ownBlock ≠ v.ownBlock) (hne : v.ownBlock ≠ v3.ownBlock)
    (hg : (w.alloc ob).grownBy w' v3.ownBlock) (ho : w'.ownsRow B 25 1 v3' (zs.length + 1) (zs.map (·.1) ++ [v])) (hat : v3'.ownBlock = v3.ownBlock ∨ v3'.ownBlock = some (w.alloc ob).heap.size) : Al B w' v3' (zs ++ [(v, ks)]) := by
  have hgg : w.grownBy w' v3.ownBlock := (World.grownBy_alloc w ob _).trans hg
  have hall : ∀ z ∈ zs ++ [(v, ks)], (RowT B w z.1 z.2 ∧ 0 < z.2.length ∧ z.2.length ≤ 16384) ∧ z.1.ownBlock ≠ v3.ownBlock := by
    intro z hz
    rcases List.mem_append.1 hz with hz | hz
    · exact ⟨h.each z hz, h.ne z hz⟩
    · obtain rfl := List.mem_singleton.1 hz
      exact ⟨⟨hv, hp, hl⟩, hne⟩
  refine ⟨by simpa using ho, fun z hz => ⟨(hall z hz).1.1.kept hgg (.inr (hall z hz).2), (hall z hz).1.2⟩, fun i j z y hi hj e => ?_, fun z hz q => ?_⟩
  · by_cases h1 : i < zs.length
    · rw [List.getElem?_append_left h1] at hi
      by_cases h2 : j < zs.length
      · rw [List.getElem?_append_left h2] at hj
        exact h.nd i j z y hi hj e
      · rw [List.getElem?_append_right (by omega)] at hj
        have hj1 : j - zs.length < 1 := (List.getElem?_eq_some_iff.1 hj).1
        obtain rfl : j = zs.length := by omega
        simp at hj
        subst hj
        exact absurd e (hn z (List.mem_of_getElem? hi))
    · rw [List.getElem?_append_right (by omega)] at hi
      have hi1 : i - zs.length < 1 := (List.getElem?_eq_some_iff.1 hi).1
      obtain rfl : i = zs.length := by omega
      simp at hi
      subst hi
      by_cases h2 : j < zs.length
      · rw [List.getElem?_append_left h2] at hj
        exact absurd e.symm (hn y (List.mem_of_getElem? hj))
      · have hj1 : j < zs.length + 1 := by have := (List.getElem?_eq_some_iff.1 hj).1; simpa using this
        omega
  · rcases hat with he | he
    · exact (hall z hz).2 (q.trans he)
    · obtain ⟨g, c, e⟩ := (hall z hz).1.1.pos (hall z hz).1.2.1
      rw [e, he] at q
      have h1 := (hall z hz).1.1
      rw [e] at h1
      have := h1.lt.2
      rw [World.size_alloc] at q
      simp [Value.ownBlock] at q
      omega
/-- All blocks but those of these lists lie as they lay. -/
structure FarV (vs : List Value) (w w' : World) : Prop where
  os : w'.os = w.os
  tape : w'.tape = w.tape
  output : w'.output = w.output
  size : w.heap.size ≤ w'.heap.size
  block : ∀ b, b < w.heap.size → (∀ v ∈ vs, v.ownBlock ≠ some b) → w'.heap[b]? = w.heap[b]?
theorem FarV.refl (vs : List Value) (w : World) : FarV vs w w := ⟨rfl, rfl, rfl, Nat.le_refl _, fun _ _ _ => rfl⟩
theorem FarV.step {vs : List Value} {a b c : World} (h : FarV vs a b) {v : Value} (hv : v ∈ vs) (k : b.grownBy c v.ownBlock) : FarV vs a c :=
  ⟨k.os.trans h.os, k.tape.trans h.tape, k.output.trans h.output, Nat.le_trans h.size k.size, fun i hi hn => (k.block i (Nat.lt_of_lt_of_le hi h.size) (fun e => hn v hv e.symm)).trans (h.block i hi hn)⟩
theorem FarV.new {vs : List Value} {a b c : World} (h : FarV vs a b) {row : Option Nat} (k : b.grownBy c row) (hr : ∀ j, row = some j → a.heap.size ≤ j) : FarV vs a c :=
  ⟨k.os.trans h.os, k.tape.trans h.tape, k.output.trans h.output, Nat.le_trans h.size k.size, fun i hi hn => (k.block i (Nat.lt_of_lt_of_le hi h.size) (fun e => by have := hr i e.symm; omega)).trans (h.block i hi hn)⟩
theorem FarV.below {vs : List Value} {a b : World} (h : FarV vs a b) {lo : Nat} (hl : lo ≤ a.heap.size) (hg : ∀ v ∈ vs, ∀ k, v.ownBlock = some k → lo ≤ k) : Below lo a b :=
  ⟨h.os, h.tape, h.output, h.size, fun i hi => h.block i (by omega) (fun v hv e => by have := hg v hv i e; omega)⟩
theorem FarV.row {vs : List Value} {a b : World} (h : FarV vs a b) {bs : Nat} {v : Value} {l : List Tk} (hr : RowT bs a v l) (hv : ∀ u ∈ vs, ∀ k, v.ownBlock = some k → u.ownBlock ≠ some k) : RowT bs b v l := by
  unfold RowT at hr ⊢
  refine ⟨hr.1, ?_⟩
  rcases hr.2 with h1 | ⟨g', cap, cur, e, hb1, hc, rest⟩
  · exact .inl h1
  · refine .inr ⟨g', cap, cur, e, hb1, ?_, rest⟩
    rw [h.block g' (Array.getElem?_eq_some_iff.1 hc).1 (fun u hu => hv u hu g' (by rw [e]; rfl))]
    exact hc
theorem Al.set {B i : Nat} {w w' : World} {v3 : Value} {zs : List (Value × List Tk)} {z : Value × List Tk} {ks : List Tk} (h : Al B w v3 zs) (hi : zs[i]? = some z) (hg : w.grownBy w' z.1.ownBlock) (hr : RowT B w' z.1 ks) (hl : ks.length = z.2.length) : Al B w' v3 (zs.set i (z.1, ks)) := by
  have hil : i < zs.length := (List.getElem?_eq_some_iff.1 hi).1
  have hm : z ∈ zs := List.mem_of_getElem? hi
  have hmap : (zs.set i (z.1, ks)).map (·.1) = zs.map (·.1) := by
    rw [List.map_set]
    refine List.ext_getElem? fun j => ?_
    rw [List.getElem?_set]
    split
    · next e =>
      subst e
      rw [if_pos (by simpa using hil), List.getElem?_map, hi]
      rfl
    · rfl
  have hat : ∀ (j : Nat) (y : Value × List Tk), (zs.set i (z.1, ks))[j]? = some y → ∃ x : Value × List Tk, zs[j]? = some x ∧ y.1 = x.1 := by
    intro j y hj
    rw [List.getElem?_set] at hj
    split at hj
    · next e =>
      subst e
      obtain rfl := Option.some.inj hj
      exact ⟨z, hi, rfl⟩
    · exact ⟨y, hj, rfl⟩
  refine ⟨?_, fun y hy => ?_, fun j k y x hj hk e => ?_, fun y hy => ?_⟩
  · rw [hmap, List.length_set]
    exact h.row.kept hg (.inr fun e => h.ne z hm e.symm)
  · obtain ⟨j, hj⟩ := List.mem_iff_getElem?.1 hy
    rw [List.getElem?_set] at hj
    split at hj
    · obtain rfl := Option.some.inj hj
      obtain ⟨_, h2, h3⟩ := h.each z hm
      exact ⟨hr, by simp only; omega, by simp only; omega⟩
    · next e =>
      have hy' := List.mem_of_getElem? hj
      exact ⟨(h.each y hy').1.kept hg (.inr fun q => e (h.nd i j z y hi hj q.symm)), (h.each y hy').2⟩
  · obtain ⟨y', h1, h2⟩ := hat j y hj
    obtain ⟨x', h3, h4⟩ := hat k x hk
    exact h.nd j k y' x' h1 h3 (by rw [← h2, ← h4]; exact e)
  · obtain ⟨j, hj⟩ := List.mem_iff_getElem?.1 hy
    obtain ⟨x, h1, h2⟩ := hat j y hj
    rw [h2]
    exact h.ne x (List.mem_of_getElem? h1)
theorem set_map {i : Nat} {zs : List (Value × List Tk)} {z : Value × List Tk} {ks : List Tk} (hi : zs[i]? = some z) : (zs.set i (z.1, ks)).map (·.1) = zs.map (·.1) := by
  have hil : i < zs.length := (List.getElem?_eq_some_iff.1 hi).1
  rw [List.map_set]
  refine List.ext_getElem? fun j => ?_
  rw [List.getElem?_set]
  split
  · next e =>
    subst e
    rw [if_pos (by simpa using hil), List.getElem?_map, hi]
    rfl
  · rfl
/-- A front of a row in the same block. -/
theorem row_front {B B' : Nat} {w w' : World} {v u : Value} {xs ys : List Tk} (h1 : RowT B w v xs) (h2 : RowT B' w u (xs ++ ys)) (h3 : RowT B' w' u (xs ++ ys)) (hp : 0 < xs.length) (e : u.ownBlock = v.ownBlock) : RowT B w' v xs := by
  obtain ⟨g, c, rfl⟩ := h1.pos hp
  obtain ⟨g', c', rfl⟩ := h2.pos (by rw [List.length_append]; omega)
  obtain rfl : g' = g := by simpa [Value.ownBlock] using e
  rcases h1.2 with ⟨q, _⟩ | ⟨a1, b1, cur1, q, r1, r2, r3, r4, r5, r6⟩
  · cases q
  cases q
  rcases h2.2 with ⟨q, _⟩ | ⟨a2, b2, cur2, q, s1, s2, s3, s4, s5, s6⟩
  · cases q
  cases q
  rcases h3.2 with ⟨q, _⟩ | ⟨a3, b3, cur3, q, t1, t2, t3, t4, t5, t6⟩
  · cases q
  cases q
  rw [r2] at s2
  simp only [Option.some.injEq, Obj.cells.injEq] at s2
  obtain ⟨rfl, _⟩ := s2
  obtain rfl : c = c' := by omega
  refine ⟨h1.1, .inr ⟨g', c, cur3, rfl, r1, t2, r3, r4, t5, ?_⟩⟩
  rw [kcells_app] at t6
  have := congrArg (List.take (xs.length * 3)) t6
  rw [List.take_take, Nat.min_eq_left (by rw [List.length_append]; omega), ← kcells_len, List.take_left] at this
  rw [← kcells_len]
  exact this
end Go.Proofs.YtkkbccdjbgjjaaaDoor

namespace Go.Proofs.YtkkbccdjbgjjaaaDoor
open Go.RowKit
attribute [local go_sem ↓] Go.wp_at_zero Go.wp_at_succ

set_option maxRecDepth 100000 in
theorem frame199 {tm : Array Value} (h : tm.size = 199) : ∃ u : Nat → Value, tm = #[u 0, u 1, u 2, u 3, u 4, u 5, u 6, u 7, u 8, u 9, u 10, u 11, u 12, u 13, u 14, u 15, u 16, u 17, u 18, u 19, u 20, u 21, u 22, u 23, u 24, u 25, u 26, u 27, u 28, u 29, u 30, u 31, u 32, u 33, u 34, u 35, u 36, u 37, u 38, u 39, u 40, u 41, u 42, u 43, u 44, u 45, u 46, u 47, u 48, u 49, u 50, u 51, u 52, u 53, u 54, u 55, u 56, u 57, u 58, u 59, u 60, u 61, u 62, u 63, u 64, u 65, u 66, u 67, u 68, u 69, u 70, u 71, u 72, u 73, u 74, u 75, u 76, u 77, u 78, u 79, u 80, u 81, u 82, u 83, u 84, u 85, u 86, u 87, u 88, u 89, u 90, u 91, u 92, u 93, u 94, u 95, u 96, u 97, u 98, u 99, u 100, u 101, u 102, u 103, u 104, u 105, u 106, u 107, u 108, u 109, u 110, u 111, u 112, u 113, u 114, u 115, u 116, u 117, u 118, u 119, u 120, u 121, u 122, u 123, u 124, u 125, u 126, u 127, u 128, u 129, u 130, u 131, u 132, u 133, u 134, u 135, u 136, u 137, u 138, u 139, u 140, u 141, u 142, u 143, u 144, u 145, u 146, u 147, u 148, u 149, u 150, u 151, u 152, u 153, u 154, u 155, u 156, u 157, u 158, u 159, u 160, u 161, u 162, u 163, u 164, u 165, u 166, u 167, u 168, u 169, u 170, u 171, u 172, u 173, u 174, u 175, u 176, u 177, u 178, u 179, u 180, u 181, u 182, u 183, u 184, u 185, u 186, u 187, u 188, u 189, u 190, u 191, u 192, u 193, u 194, u 195, u 196, u 197, u 198] := by
  refine ⟨fun i => tm.getD i undef, ?_⟩
  have e : tm = ((List.range 199).map fun i => tm.getD i undef).toArray := by
    apply Array.ext
    · simp [h]
    · intro i h1 h2
      simp [Array.getD, h1]
  exact e.trans rfl
noncomputable def owBody : Code := match Tryd.f8.body with
  | some c => c
  | none => .skip
noncomputable def oA : Code := match owBody with
  | .seq _ (.seq _ (.seq _ (.seq _ (.seq x _)))) => x
  | _ => .skip
noncomputable def oB : Code := match owBody with
  | .seq _ (.seq _ (.seq _ (.seq _ (.seq _ (.seq _ (.seq _ (.seq x _))))))) => x
  | _ => .skip
noncomputable def oC : Code := match owBody with
  | .seq _ (.seq _ (.seq _ (.seq _ (.seq _ (.seq _ (.seq _ (.seq _ (.seq _ (.seq x _))))))))) => x
  | _ => .skip
noncomputable def oD : Code := match owBody with
  | .seq _ (.seq _ (.seq _ (.seq _ (.seq _ (.seq _ (.seq _ (.seq _ (.seq _ (.seq _ (.seq x _)))))))))) => x
  | _ => .skip
noncomputable def owWith (a b c d : Code) : Code := match owBody with
  | .seq c0 (.seq c1 (.seq c2 (.seq c3 (.seq _ (.seq c5 (.seq c6 (.seq _ (.seq c8 (.seq _ (.seq _ c11)))))))))) => .seq c0 (.seq c1 (.seq c2 (.seq c3 (.seq a (.seq c5 (.seq c6 (.seq b (.seq c8 (.seq c (.seq d c11))))))))))
  | _ => .skip
theorem ow_split : Tryd.f8.body = some (owWith oA oB oC oD) := rfl
theorem oA_split : oA = ckWith oA (ckOne oA) := rfl
theorem oB_split : oB = ckWith oB (ckOne oB) := rfl
theorem oC_split : oC = ckWith oC (ckOne oC) := rfl
theorem oD_split : oD = ckWith oD (ckOne oD) := rfl
theorem ne_al {B : Nat} {w0 w : World} {v v3 : Value} {zs : List (Value × List Tk)} {ks : List Tk} (h : Al B w0 v3 zs) (hv : RowT w0.heap.size w v ks) (hp : 0 < ks.length) : v.ownBlock ≠ v3.ownBlock := fun e => by
  obtain ⟨g, c, rfl⟩ := hv.pos hp
  have h1 := hv.lt.1
  have h2 := (h.row.lt g e.symm).2
  omega
theorem ne_al2 {B : Nat} {w0 w : World} {v v3 : Value} {zs : List (Value × List Tk)} {ks : List Tk} (h : Al B w0 v3 zs) (hv : RowT w0.heap.size w v ks) (hp : 0 < ks.length) : ∀ z ∈ zs, z.1.ownBlock ≠ v.ownBlock := fun z hz e => by
  obtain ⟨g, c, rfl⟩ := hv.pos hp
  obtain ⟨g', c', e', _, h2⟩ := h.shape hz
  rw [e'] at e
  obtain rfl : g' = g := by simpa [Value.ownBlock] using e
  have h1 := hv.lt.1
  omega
theorem push_al {B n gl cl : Nat} {w0 w w' : World} {v3 v3' : Value} {zs : List (Value × List Tk)} {ts : List Tok} {ob : Obj} (h0 : Al B w0 v3 zs) (h : Al B w v3 zs) (hv : RowT w0.heap.size w (.slice (some ⟨gl, 0, none⟩) n cl) (ts.map Tok.tk)) (hB : B ≤ w0.heap.size) (hp : 0 < ts.length) (hl : ts.length ≤ 16384)
    (hg : (w.alloc ob).grownBy w' v3.ownBlock) (ho : w'.ownsRow B 25 1 v3' (zs.length + 1) (zs.map (·.1) ++ [.slice (some ⟨gl, 0, none⟩) n cl])) (hat : v3'.ownBlock = v3.ownBlock ∨ v3'.ownBlock = some (w.alloc ob).heap.size) : Al B w' v3' (zs ++ [(.slice (some ⟨gl, 0, none⟩) n cl, ts.map Tok.tk)]) :=
  h.push (hv.mono hB) (by rw [List.length_map]; exact hp) (by rw [List.length_map]; exact hl) (ne_al2 h0 hv (by rw [List.length_map]; exact hp)) (ne_al h0 hv (by rw [List.length_map]; exact hp)) hg ho hat
/-- What the first loop keeps. -/
structure Aw (B : Nat) (w : World) (v3 v4 : Value) (sx : ByteArray) (zs : List (Value × List Tk)) : Prop where
  al : Al B w v3 zs
  want : 0 < zs.length → ∃ ts kk, tkO sx = (ts, kk, 0) ∧ 0 < ts.length ∧ RowT B w v4 (ts.map Tok.tk) ∧ (∀ z ∈ zs, z.1.ownBlock ≠ v4.ownBlock) ∧ v4.ownBlock ≠ v3.ownBlock
theorem below_none {lo : Nat} {W w : World} (h : W.grownBy w none) (hl : lo ≤ W.heap.size) : Below lo W w := (Below.refl _ W).grown h hl (fun k e => by cases e)
theorem want_aw {B gl n cl kk : Nat} {w4 w5 : World} {v3 v4 : Value} {s : ByteArray} {zs : List (Value × List Tk)} {ts : List Tok} {ob : Obj} (h : Al B w4 v3 (zs ++ [((.slice (some ⟨gl, 0, none⟩) n cl : Value), ts.map Tok.tk)])) (hO : tkO s = (ts, kk, 0)) (hp : 0 < ts.length)
    (ho : w5.ownsRow (w4.alloc ob).heap.size 31 3 v4 (0 + ts.length) ([] ++ kcells (ts.map Tok.tk))) (hg : (w4.alloc ob).grownBy w5 none) (hB : B ≤ w4.heap.size) : Aw B w5 v3 v4 s (zs ++ [((.slice (some ⟨gl, 0, none⟩) n cl : Value), ts.map Tok.tk)]) := by
  rw [Nat.zero_add, List.nil_append, World.size_alloc] at ho
  have hr : RowT (w4.heap.size + 1) w5 v4 (ts.map Tok.tk) := by
    unfold RowT
    rw [List.length_map]
    exact ho
  obtain ⟨g, c, rfl⟩ := hr.pos (by rw [List.length_map]; exact hp)
  have hlt := hr.lt.1
  refine ⟨h.up (below_none (grown_alloc hg) (Nat.le_refl _)), fun _ => ⟨ts, kk, hO, hp, hr.mono (by omega), fun z hz e => ?_, fun e => ?_⟩⟩
  · obtain ⟨g', c', e', _, h2⟩ := h.shape hz
    rw [e'] at e
    obtain rfl : g' = g := by simpa [Value.ownBlock] using e
    omega
  · have := (h.row.lt g e.symm).2
    omega
theorem Aw.up {B : Nat} {w w' : World} {v3 v4 : Value} {sx : ByteArray} {zs : List (Value × List Tk)} (h : Aw B w v3 v4 sx zs) (hb : Below w.heap.size w w') : Aw B w' v3 v4 sx zs :=
  ⟨h.al.up hb, fun hp => by obtain ⟨ts, kk, h1, h2, h3, h4⟩ := h.want hp; exact ⟨ts, kk, h1, h2, h3.up hb, h4⟩⟩
def AJ (V : World) (v0 : Value) (M q k : Nat) (C : Value → Value → ByteArray → Nat → List (Nat × Value)) (m : Nat) (a : Act) (w : World) : Prop :=
  ∃ (tm : Array Value) (i : Nat) (v3 v4 : Value) (sx : ByteArray) (zs : List (Value × List Tk)), a = ⟨tm, []⟩ ∧ tm.size = 199 ∧ chk tm (C v3 v4 sx i) ∧ m = M - i ∧ i ≤ M ∧ zs.length ≤ q + k * i ∧ Aw V.heap.size w v3 v4 sx zs ∧ Below V.heap.size V w ∧ v0 = v0
set_option maxRecDepth 100000 in
set_option maxHeartbeats 4000000 in
theorem inA_any {V W : World} {a0 : Option Addr} {c0 q : Nat} {v3 v4 : Value} {sx : ByteArray} {zs : List (Value × List Tk)} {l : List ByteArray} (hF : HasF V) (hE : HasE V) (hM : HasM V) (hT : HasS V (.slice a0 l.length c0) l) (hn : l.length ≤ 1048576) (hB : Below V.heap.size V W) (hA : Aw V.heap.size W v3 v4 sx zs) (hz : zs.length ≤ 10 * q) (hq : q ≤ 1)
    {tm : Array Value} (hsz : tm.size = 199) (hchk : chk tm [(0, .slice a0 l.length c0), (3, v3), (4, v4), (5, .string sx), (6, .int .i64 (q : Int))]) {Q : Exit → Act → World → Prop}
    (hQ : ∀ W' v3 v4 sx (zs : List (Value × List Tk)), Aw V.heap.size W' v3 v4 sx zs → zs.length ≤ 10 * (q + 1) → Below V.heap.size V W' → ∀ tm : Array Value, tm.size = 199 → chk tm [(0, .slice a0 l.length c0), (3, v3), (4, v4), (5, .string sx), (6, .int .i64 (q : Int))] → Q .normal { tmps := tm, defers := [] } W') :
    (ckOne oA).wp Tryd.prog Q { tmps := tm, defers := [] } W := by
  obtain ⟨i0, hi0, hz0, hz1, hz2⟩ := info_parts Tryd.infoTok
  obtain ⟨i1, qi, qz0, qz1, qz2⟩ := info_parts Tryd.infoToks
  have HQ := hide hQ
  have HA := hide hA
  have HB := hide hB
  obtain ⟨_, _, ea, hm0, h3⟩ := id hT
  simp only [Value.slice.injEq] at ea
  obtain ⟨rfl, _, rfl⟩ := ea
  have H3 := hide h3
  have HTK : Hid (∀ w1 s, Below V.heap.size V w1 → Calls Tryd.prog 5 #[.string s] w1 fun e w => TkA s w1 e w ∧ ((tkO s).2.2 = 0 → 0 < (tkO s).1.length)) := fun w1 s hb1 => tokens_two (hF.up hb1) (hE.up hb1) (hM.up hb1 hM.1) s
  obtain ⟨x, rfl⟩ := frame199 hsz
  obtain ⟨e0, e3, e4, e5, e6, _⟩ := hchk
  replace e0 : x 0 = .slice a0 l.length c0 := Option.some.inj e0
  replace e3 : x 3 = v3 := Option.some.inj e3
  replace e4 : x 4 = v4 := Option.some.inj e4
  replace e5 : x 5 = .string sx := Option.some.inj e5
  replace e6 : x 6 = .int .i64 (q : Int) := Option.some.inj e6
  rw [e0, e3, e4, e5, e6]
  clear e0 e3 e4 e5 e6
  clear hQ hA hB hT hF hE hM h3 hm0
  unfold ckOne oA owBody
  dsimp only [Tryd.f8]
  go_wp2
  obtain ⟨M, hMe⟩ : ∃ M, M = min l.length 10 := ⟨_, rfl⟩
  refine wp_loop_count (AJ V (.slice a0 l.length c0) M (10 * q) 1 (fun v3 v4 sx i => [(0, .slice a0 l.length c0), (3, v3), (4, v4), (5, .string sx), (6, .int .i64 (q : Int)), (7, .int .i64 (i : Int))])) ?_ M _ _ ⟨_, 0, _, _, _, zs, rfl, rfl, ⟨rfl, rfl, rfl, rfl, rfl, rfl, trivial⟩, rfl, Nat.zero_le _, by omega, unhide HA, unhide HB, rfl⟩
  clear HA HB hz
  rintro m _ wr ⟨tm, i, v3, v4, sx, zs, rfl, hsz, hchk, hm, hi, hz, hA, hB, _⟩
  obtain ⟨a3, c3, rfl⟩ := hA.al.form
  obtain ⟨u, rfl⟩ := frame199 hsz
  obtain ⟨e0, e3, e4, e5, e6, e7, _⟩ := hchk
  replace e0 : u 0 = .slice a0 l.length c0 := Option.some.inj e0
  replace e3 : u 3 = .slice a3 zs.length c3 := Option.some.inj e3
  replace e4 : u 4 = v4 := Option.some.inj e4
  replace e5 : u 5 = .string sx := Option.some.inj e5
  replace e6 : u 6 = .int .i64 (q : Int) := Option.some.inj e6
  replace e7 : u 7 = .int .i64 (i : Int) := Option.some.inj e7
  rw [e0, e3, e4, e5, e6, e7]
  clear e0 e3 e4 e5 e6 e7
  have Hm := hide hm
  have HA := hide hA
  have HB := hide hB
  have HMe := hide hMe
  clear hm hA hB hMe
  by_cases hlt : i < M
  · have hil : i < l.length := by have := unhide HMe; omega
    have hi10 : i < 10 := by have := unhide HMe; omega
    obtain ⟨g, off, rfl, hg, hc⟩ := unhide H3 (by omega)
    obtain ⟨s, hs⟩ : ∃ s, l[i]? = some s := ⟨_, List.getElem?_eq_getElem hil⟩
    have hcell : wr.cell? ⟨g, off + i, none⟩ = some (.string s) := ((unhide HB).cell (p := ⟨g, off + i, none⟩) hg).trans (hc i s hs)
    have Hcell : Hid (∀ w', Below V.heap.size V w' → w'.cell? ⟨g, off + i, none⟩ = some (.string s)) := fun w' hb => (hb.cell (p := ⟨g, off + i, none⟩) hg).trans (hc i s hs)
    have htk := unhide HTK wr s (unhide HB)
    unfold TkA at htk
    obtain ⟨ts, kk, cc, hO⟩ : ∃ ts kk cc, tkO s = (ts, kk, cc) := ⟨_, _, _, rfl⟩
    have hL : ts.length ≤ 16384 := by have := tkO_len s; rw [hO] at this; exact this
    rw [hO] at htk
    have T1 := hide htk
    have HO := hide hO
    have hd1 : decide ((i : Int) < (l.length : Int)) = true := by simp; omega
    have hd2 : decide ((i : Int) < 10) = true := by simp; omega
    have hi0' : (0 : Int) ≤ (i : Int) := Int.natCast_nonneg _
    have hi1' : (i : Int) < (l.length : Int) := by omega
    have hsB := (unhide HB).size
    clear htk hO hc hs
    go_wp2_with fail
    refine (unhide T1).mono ?_
    rintro e w1 ⟨⟨v, rfl, q1, _, hb1⟩, hpos⟩
    have HB1 : Hid (Below V.heap.size V w1) := (unhide HB).trans (hb1.mono (unhide HB).size)
    have HA1 := hide ((unhide HA).up hb1)
    by_cases hcc : cc = 0
    · subst hcc
      have hp := hpos rfl
      obtain ⟨gl, cl, rfl⟩ := q1.pos (by rw [List.length_map]; exact hp)
      rw [List.length_map] at q1 ⊢
      have Q1 := hide q1
      have hcell1 := unhide Hcell w1 (unhide HB1)
      have hs1 := (unhide HB1).size
      have Hb1 := hide hb1
      have hzl : zs.length ≤ 20 := by omega
      clear q1 hb1 hpos hcell T1
      have GO1 : True := trivial
      have GO2 : True := trivial
      go_wp2_with (first
        | (at_builtin; clear GO1; refine wpList_append_own_at _ rfl _ _ 24 rfl V.heap.size 25 i1 (.slice none 0 0) 1 24 Tryd.underlying24 qi qz0 qz1 qz2 rfl (by decide) _ _ _ rfl ((unhide HA1).al.row.alloc _) ⟨w1.heap.size, 0, none⟩ 1 1 [.slice (some ⟨gl, 0, none⟩) ts.length cl] rfl rfl (cell_one_new _ _ _) (by simp [Value.oneCell']) (by unfold maxLen; omega) (by omega) (by rw [World.size_alloc]; omega) ?_; intro v3' w4 hown' hgrow _ hat; have HA4 := hide (push_al (unhide HA).al (unhide HA1).al (unhide Q1) hsB hp hL hgrow hown' hat); have HB4 : Hid (Below V.heap.size V w4) := ((unhide HB1).alloc hs1 _).grown hgrow (by rw [World.size_alloc]; omega) (fun k e => ((unhide HA1).al.row.lt k e).1); have Q4 : Hid (RowT wr.heap.size w4 (.slice (some ⟨gl, 0, none⟩) ts.length cl) (ts.map Tok.tk)) := (unhide Q1).kept (grown_alloc hgrow) (.inr (ne_al (unhide HA).al (unhide Q1) (by rw [List.length_map]; exact hp))); obtain ⟨a3', c3', rfl⟩ := (unhide HA4).form; have hcell4 := unhide Hcell w4 (unhide HB4); clear hown' hgrow hat)
        | (at_builtin; clear GO2; refine wpList_append_grows _ rfl _ _ 25 rfl 31 i0 _ 3 32 Tryd.underlying25 hi0 hz0 hz1 hz2 rfl (by decide) (some ⟨w4.heap.size, 0, none⟩) 0 0 [] rfl (fun e => by cases e) rfl (fun b _ j u h => by simp at h) ⟨gl, 0, none⟩ ts.length cl (kcells (ts.map Tok.tk)) rfl (by rw [kcells_len, List.length_map]) (RowT.news (l := ts.map Tok.tk) (n := ts.length) (c := cl) (World.ownsRow.alloc (unhide Q4) _)) (kcells_one _) (by omega) (by unfold maxLen; omega) (by omega) ?_; intro v4' w5 ho5 hg5; have HW5 := hide (want_aw (unhide HA4) (unhide HO) hp ho5 hg5 (unhide HB4).size); have HB5 : Hid (Below V.heap.size V w5) := (unhide HB4).trans (below_none (grown_alloc hg5) (unhide HB4).size); clear ho5 hg5))
      have hlz : (zs ++ [((.slice (some ⟨gl, 0, none⟩) ts.length cl : Value), ts.map Tok.tk)]).length = zs.length + 1 := by simp
      exact ⟨M - (i + 1), by have := unhide Hm; omega, _, i + 1, _, _, s, zs ++ [(.slice (some ⟨gl, 0, none⟩) ts.length cl, ts.map Tok.tk)], rfl, rfl, ⟨rfl, rfl, rfl, rfl, rfl, rfl, trivial⟩, rfl, by omega, by rw [hlz]; omega, (by have h := unhide HW5; rw [hlz] at h; exact h), unhide HB5, rfl⟩
    · have hcc' : ((cc : Int) == 0) = false := by simp; omega
      obtain ⟨al, cl, rfl⟩ := q1.form
      clear q1 hb1 hpos hcell T1
      go_wp2
      exact ⟨M - (i + 1), by have := unhide Hm; omega, _, i + 1, _, _, sx, zs, rfl, rfl, ⟨rfl, rfl, rfl, rfl, rfl, rfl, trivial⟩, rfl, by omega, by omega, unhide HA1, unhide HB1, rfl⟩
  · obtain rfl : i = M := by omega
    by_cases hil : i < l.length
    · have hi10 : i = 10 := by have := unhide HMe; omega
      have hd1 : decide ((i : Int) < (l.length : Int)) = true := by simp; omega
      have hd2 : decide ((i : Int) < 10) = false := by simp; omega
      have Hi10 := hide hi10
      clear hi10
      go_wp2
      exact unhide HQ _ _ _ sx zs (unhide HA) (by have := unhide HMe; omega) (unhide HB) _ rfl ⟨rfl, rfl, rfl, rfl, rfl, trivial⟩
    · have hd1 : decide ((i : Int) < (l.length : Int)) = false := by simp; omega
      go_wp2
      exact unhide HQ _ _ _ sx zs (unhide HA) (by have := unhide HMe; omega) (unhide HB) _ rfl ⟨rfl, rfl, rfl, rfl, rfl, trivial⟩
/-- Between two turns of the first loop. -/
def AK (V : World) (C : Value → Value → ByteArray → Nat → List (Nat × Value)) (m : Nat) (a : Act) (w : World) : Prop :=
  ∃ (tm : Array Value) (q : Nat) (v3 v4 : Value) (sx : ByteArray) (zs : List (Value × List Tk)), a = ⟨tm, []⟩ ∧ tm.size = 199 ∧ chk tm (C v3 v4 sx q) ∧ m = 2 - q ∧ q ≤ 2 ∧ zs.length ≤ 10 * q ∧ Aw V.heap.size w v3 v4 sx zs ∧ Below V.heap.size V w
set_option maxRecDepth 100000 in
set_option maxHeartbeats 4000000 in
theorem oA_any {V W : World} {a0 : Option Addr} {c0 : Nat} {l : List ByteArray} (hF : HasF V) (hE : HasE V) (hM : HasM V) (hT : HasS V (.slice a0 l.length c0) l) (hn : l.length ≤ 1048576) (hB : Below V.heap.size V W)
    {tm : Array Value} (hsz : tm.size = 199) (hchk : chk tm [(0, .slice a0 l.length c0), (3, .slice none 0 0), (4, .slice none 0 0), (5, .string ⟨#[]⟩)]) {Q : Exit → Act → World → Prop}
    (hQ : ∀ W' v3 v4 sx (zs : List (Value × List Tk)), Aw V.heap.size W' v3 v4 sx zs → zs.length ≤ 20 → Below V.heap.size V W' → ∀ tm : Array Value, tm.size = 199 → chk tm [(0, .slice a0 l.length c0), (3, v3), (4, v4), (5, .string sx)] → Q .normal { tmps := tm, defers := [] } W') :
    oA.wp Tryd.prog Q { tmps := tm, defers := [] } W := by
  have HQ := hide hQ
  have HB := hide hB
  have HIN : Hid (∀ (wr : World) (q : Nat) (v3 v4 : Value) (sx : ByteArray) (zs : List (Value × List Tk)), Below V.heap.size V wr → Aw V.heap.size wr v3 v4 sx zs → zs.length ≤ 10 * q → q ≤ 1 → ∀ (tm : Array Value), tm.size = 199 → chk tm [(0, .slice a0 l.length c0), (3, v3), (4, v4), (5, .string sx), (6, .int .i64 (q : Int))] → ∀ (Q : Exit → Act → World → Prop), (∀ W' v3 v4 sx (zs : List (Value × List Tk)), Aw V.heap.size W' v3 v4 sx zs → zs.length ≤ 10 * (q + 1) → Below V.heap.size V W' → ∀ tm : Array Value, tm.size = 199 → chk tm [(0, .slice a0 l.length c0), (3, v3), (4, v4), (5, .string sx), (6, .int .i64 (q : Int))] → Q .normal { tmps := tm, defers := [] } W') → (ckOne oA).wp Tryd.prog Q { tmps := tm, defers := [] } wr) := fun wr q v3 v4 sx zs h1 h2 h3 h4 tm h5 h6 Q h7 => inA_any hF hE hM hT hn h1 h2 h3 h4 h5 h6 h7
  obtain ⟨x, rfl⟩ := frame199 hsz
  obtain ⟨e0, e3, e4, e5, _⟩ := hchk
  replace e0 : x 0 = .slice a0 l.length c0 := Option.some.inj e0
  replace e3 : x 3 = .slice none 0 0 := Option.some.inj e3
  replace e4 : x 4 = .slice none 0 0 := Option.some.inj e4
  replace e5 : x 5 = .string ⟨#[]⟩ := Option.some.inj e5
  rw [e0, e3, e4, e5]
  clear e0 e3 e4 e5
  clear hQ hB hF hE hM hT
  rw [oA_split]
  obtain ⟨t, ht⟩ : ∃ t, ckOne oA = t := ⟨_, rfl⟩
  rw [ht]
  unfold ckWith oA owBody
  dsimp only [Tryd.f8]
  go_wp2
  refine wp_loop_count (AK V (fun v3 v4 sx q => [(0, .slice a0 l.length c0), (3, v3), (4, v4), (5, .string sx), (6, .int .i64 (q : Int))])) ?_ 2 _ _ ⟨_, 0, _, _, _, [], rfl, rfl, ⟨rfl, rfl, rfl, rfl, rfl, trivial⟩, rfl, by omega, by simp, ⟨Al.nil _ _, fun h => by simp at h⟩, unhide HB⟩
  rintro m _ wr ⟨tm, q, v3, v4, sx, zs, rfl, hsz, hchk, hm, hq, hz, hA, hB⟩
  obtain ⟨u, rfl⟩ := frame199 hsz
  obtain ⟨e0, e3, e4, e5, e6, _⟩ := hchk
  replace e0 : u 0 = .slice a0 l.length c0 := Option.some.inj e0
  replace e3 : u 3 = v3 := Option.some.inj e3
  replace e4 : u 4 = v4 := Option.some.inj e4
  replace e5 : u 5 = .string sx := Option.some.inj e5
  replace e6 : u 6 = .int .i64 (q : Int) := Option.some.inj e6
  rw [e0, e3, e4, e5, e6]
  clear e0 e3 e4 e5 e6
  have Hm := hide hm
  have HA := hide hA
  have HB' := hide hB
  clear hm hA hB
  by_cases hlt : q < 2
  · have hd : decide ((q : Int) < 2) = true := by simp; omega
    go_wp2
    rw [← ht]
    refine unhide HIN wr q v3 v4 sx zs (unhide HB') (unhide HA) hz (by omega) _ rfl ⟨rfl, rfl, rfl, rfl, rfl, trivial⟩ _ ?_
    clear HA HB' hz
    intro W' v3 v4 sx zs h1 h2 h3 tm hsz hchk
    have H1 := hide h1
    have H3 := hide h3
    clear h1 h3
    obtain ⟨z, rfl⟩ := frame199 hsz
    obtain ⟨e0, e3, e4, e5, e6, _⟩ := hchk
    replace e0 : z 0 = .slice a0 l.length c0 := Option.some.inj e0
    replace e3 : z 3 = v3 := Option.some.inj e3
    replace e4 : z 4 = v4 := Option.some.inj e4
    replace e5 : z 5 = .string sx := Option.some.inj e5
    replace e6 : z 6 = .int .i64 (q : Int) := Option.some.inj e6
    rw [e0, e3, e4, e5, e6]
    clear e0 e3 e4 e5 e6
    go_wp2
    exact ⟨2 - (q + 1), by have := unhide Hm; omega, _, q + 1, _, _, sx, zs, rfl, rfl, ⟨rfl, rfl, rfl, rfl, rfl, trivial⟩, rfl, by omega, h2, unhide H1, unhide H3⟩
  · obtain rfl : q = 2 := by omega
    go_wp2
    exact unhide HQ _ _ _ sx zs (unhide HA) (by omega) (unhide HB') _ rfl ⟨rfl, rfl, rfl, rfl, trivial⟩
end Go.Proofs.YtkkbccdjbgjjaaaDoor
