import Derived.Test.YtadmamfekodkaaaDoorHJ
import Derived.Test.YtadmamfekodkaaaDoorNB169
import Derived.Shelf.Strings.Builder1

namespace Go.Proofs.YtadmamfekodkaaaDoor
open Go.RowKit Go.Shelf
attribute [local go_sem ↓] Go.wp_at_zero Go.wp_at_succ

/-- What is no bytes, and no block b, stays. -/
def Kp (b : Nat) (w w' : World) : Prop := ∀ d o, d ≠ b → w.heap[d]? = some o → (∀ c fz, o ≠ .cells c 5 fz) → w'.heap[d]? = some o
theorem Kp.refl (b : Nat) (w : World) : Kp b w w := fun _ _ _ h _ => h
theorem Kp.trans {b : Nat} {u v w : World} (h : Kp b u v) (k : Kp b v w) : Kp b u w := fun d o h1 h2 h3 => k d o h1 (h d o h1 h2 h3) h3
theorem Kp.grown {b : Nat} {w w' : World} (h : w.grownBy w' (some b)) : Kp b w w' := fun d o h1 h2 _ => (h.block d (Array.getElem?_eq_some_iff.1 h2).1 (by simp; omega)).trans h2
theorem copyCheck_kp (B b : Nat) (bs : List Value) (w : World) (h : Lib.IsBuilder 47 5 B b bs w) :
    Calls Tryd.prog 32 #[.pointer (some ⟨b, 0, none⟩)] w fun e w' => e = .returned (.tuple #[]) ∧ (Lib.BuilderAt 47 5 B b (.pointer (some ⟨b, 0, none⟩)) bs w' ∧ Below B w w') ∧ Kp b w w' := by
  rcases h with h | h
  · refine (copyCheck_fresh b w h.cell0 h.shape h.frozen0).mono ?_
    rintro e w' ⟨rfl, rfl⟩
    obtain ⟨_, v, hbk, _⟩ := id h
    exact ⟨rfl, ⟨h.used _, (Below.refl B w).setCell (p := ⟨b, 0, none⟩) h.1 _⟩, Kp.grown (set_block hbk _).2⟩
  · refine (copyCheck_used b w h.cell0).mono ?_
    rintro e w' ⟨rfl, rfl⟩
    exact ⟨rfl, ⟨h, Below.refl B _⟩, Kp.refl _ _⟩
theorem put_kp {B b : Nat} {bs : List Value} {w1 w2 : World} {v v' : Value} (hbk : w1.heap[b]? = some (.cells #[.pointer (some ⟨b, 0, none⟩), v] 47 (0, 0))) (hown : w1.ownsRow B 5 1 v bs.length bs) (hne : v.ownBlock ≠ some b) (hg : w1.grownBy w2 v.ownBlock) : Kp b w1 (w2.setCell ⟨b, 1, none⟩ v') := by
  have hl : b < w1.heap.size := (Array.getElem?_eq_some_iff.1 hbk).1
  have hb2 := (hg.block b hl (fun e => hne e.symm)).trans hbk
  refine Kp.trans (v := w2) ?_ (Kp.grown (set_block (j := 1) hb2 v').2)
  intro d o h1 h2 h3
  refine (hg.block d (Array.getElem?_eq_some_iff.1 h2).1 (fun e => ?_)).trans h2
  rcases hown.2 with ⟨rfl, _⟩ | ⟨g, cap, cur, rfl, _, h4, _⟩
  · cases e
  · obtain rfl : d = g := by simpa [Value.ownBlock] using e
    rw [h4] at h2
    exact h3 _ _ (Option.some.inj h2).symm
set_option maxRecDepth 100000 in
set_option maxHeartbeats 1000000 in
theorem writeString_kp (B b : Nat) (bs : List Value) (s : ByteArray) (w : World) (h : Lib.IsBuilder 47 5 B b bs w) (hlen : bs.length + s.size ≤ 140737488355328) (hBw : B ≤ w.heap.size) :
    Calls Tryd.prog 20 #[.pointer (some ⟨b, 0, none⟩), .string s] w fun e w' => e = .returned (.tuple #[.int .i64 s.size, .nilIface]) ∧ (Lib.BuilderAt 47 5 B b (.pointer (some ⟨b, 0, none⟩)) (bs ++ Lib.strCells s) w' ∧ Below B w w') ∧ Kp b w w' := by
  obtain ⟨i0, hi, hz0, hz1, hz2⟩ := info_parts infoByteB
  have hc := hide (copyCheck_kp B b bs w h)
  clear h
  go_enter Tryd.func20, Tryd.ntmps20
  go_wp2_with fail
  refine (unhide hc).mono ?_
  rintro e w1 ⟨rfl, ⟨⟨hB, v, hbk, hown, hne⟩, hb1⟩, hk1⟩
  have s1 := hb1.size
  have c1 : w1.cell? ⟨b, 1, none⟩ = some v := by rw [cell_of_row _ _ _ _ _ _ hbk]; rfl
  have Hb1 := hide hb1
  have Hown := hide hown
  have Hbk := hide hbk
  have Hne := hide hne
  have Hk1 := hide hk1
  clear hb1 hown hbk hne hc hk1
  go_wp2_with (at_builtin; refine Lib.wpList_append_own_string _ rfl _ _ 30 9 rfl B 5 i0 Tryd.underlying30 Tryd.underlying9 hi hz0 hz1 hz2 _ _ _ rfl (unhide Hown) s rfl (by unfold maxLen; omega) (by omega) (by omega) ?_; intro v' w2 ho hg _; obtain ⟨⟨d0, d1, f1⟩, hput⟩ := put_any (bs' := bs ++ Lib.strCells s) hB (unhide Hbk) (unhide Hown) (unhide Hne) hg (by rw [List.length_append, Lib.strCells_length]; exact ho); have Hput := hide hput; have Hkp := hide (put_kp (v' := v') (unhide Hbk) (unhide Hown) (unhide Hne) hg); obtain ⟨a', l', c', rfl⟩ := sl_form ho; clear ho hg hput)
  go_ret2
  exact ⟨rfl, ⟨(unhide Hput).1, (unhide Hb1).trans (unhide Hput).2⟩, (unhide Hk1).trans (unhide Hkp)⟩
set_option maxRecDepth 100000 in
set_option maxHeartbeats 1000000 in
theorem writeByte_kp (B b : Nat) (bs : List Value) (c : Int) (w : World) (h : Lib.IsBuilder 47 5 B b bs w) (hlen : bs.length + 1 ≤ 140737488355328) (hBw : B ≤ w.heap.size) :
    Calls Tryd.prog 19 #[.pointer (some ⟨b, 0, none⟩), .int .u8 c] w fun e w' => e = .returned .nilIface ∧ (Lib.BuilderAt 47 5 B b (.pointer (some ⟨b, 0, none⟩)) (bs ++ [.int .u8 c]) w' ∧ Below B w w') ∧ Kp b w w' := by
  obtain ⟨i0, hi, hz0, hz1, hz2⟩ := info_parts infoByteB
  have hc := hide (copyCheck_kp B b bs w h)
  clear h
  go_enter Tryd.func19, Tryd.ntmps19
  go_wp2_with fail
  refine (unhide hc).mono ?_
  rintro e w1 ⟨rfl, ⟨⟨hB, v, hbk, hown, hne⟩, hb1⟩, hk1⟩
  have s1 := hb1.size
  have c1 : w1.cell? ⟨b, 1, none⟩ = some v := by rw [cell_of_row _ _ _ _ _ _ hbk]; rfl
  have Hb1 := hide hb1
  have Hown := hide hown
  have Hbk := hide hbk
  have Hne := hide hne
  have Hk1 := hide hk1
  clear hb1 hown hbk hne hc hk1
  go_wp2_with (at_builtin; refine wpList_append_own_at _ rfl _ _ 30 rfl B 5 i0 (.int .u8 0) 1 1 Tryd.underlying30 hi hz0 hz1 hz2 rfl (by decide) _ _ _ rfl ((unhide Hown).alloc _) ⟨w1.heap.size, 0, none⟩ 1 1 [.int .u8 c] rfl rfl (cell_one_new _ _ _) (by simp [Value.oneCell']) (by unfold maxLen; omega) (by omega) (by rw [World.size_alloc]; omega) ?_; intro v' w2 ho hg _ _; obtain ⟨⟨d0, d1, f1⟩, hput⟩ := put_any (bs' := bs ++ [.int .u8 c]) hB (unhide Hbk) (unhide Hown) (unhide Hne) ((World.grownBy_alloc w1 _ _).trans hg) (by rw [List.length_append]; exact ho); have Hput := hide hput; have Hkp := hide (put_kp (v' := v') (unhide Hbk) (unhide Hown) (unhide Hne) ((World.grownBy_alloc w1 _ _).trans hg)); obtain ⟨a', l', c', rfl⟩ := sl_form ho; clear ho hg hput)
  go_ret
  exact ⟨rfl, ⟨(unhide Hput).1, (unhide Hb1).trans (unhide Hput).2⟩, (unhide Hk1).trans (unhide Hkp)⟩
theorem extraB : Builder.Extra Tryd.prog Tryd.laysNB169169_ren := {
  sizeBuilder := by kernel_rfl
  liesBuilder := by kernel_rfl
  t5 := Tryd.underlying5
  a5 := Tryd.isAgg5
  z5 := Tryd.sizeOf5
  v5 := Tryd.zeroValue5
  infoByte := by kernel_rfl
  cellsByte := by kernel_rfl
  sizeByte := by kernel_rfl
  neB5 := by decide }
theorem bstring_any (B b : Nat) (l : List UInt8) (w : World) (h : Lib.IsBuilder 47 5 B b (Lib.byteCells l) w) (hBw : B ≤ w.heap.size) : Calls Tryd.prog 22 #[.pointer (some ⟨b, 0, none⟩)] w fun e w' => e = .returned (.string ⟨l.toArray⟩) ∧ Below B w w' := Any.Builder_String_any Tryd.laysNB169169 extraB B b l w h hBw
/-- Bytes in a builder. -/
def BI (B b : Nat) (L : List Nat) (w : World) : Prop := Lib.IsBuilder 47 5 B b (nb L) w
theorem nb_bytes {L : List Nat} (h : Byt L) : nb L = Lib.byteCells (L.map UInt8.ofNat) := by
  unfold nb Lib.byteCells
  rw [List.map_map]
  apply List.map_congr_left
  intro x hx
  have := h x hx
  simp only [Function.comp, UInt8.toNat_ofNat']
  congr 2
  omega
theorem strCellsJ (s : ByteArray) : Lib.strCells s = nb (strN s) := by
  unfold Lib.strCells nb strN
  simp [List.map_map]
theorem putS {B b : Nat} {L : List Nat} {w : World} (h : BI B b L w) (hl : L.length ≤ 1099511627776) (hBw : B ≤ w.heap.size) (x : ByteArray) (hx : x.size ≤ 1099511627776) : Calls Tryd.prog 20 #[.pointer (some ⟨b, 0, none⟩), .string x] w fun e w' => e = .returned (.tuple #[.int .i64 x.size, .nilIface]) ∧ BI B b (L ++ strN x) w' ∧ Below B w w' ∧ Kp b w w' := by
  refine (writeString_kp B b (nb L) x w h (by rw [nb_len]; omega) hBw).mono ?_
  rintro e w' ⟨rfl, ⟨h1, h2⟩, h3⟩
  refine ⟨rfl, ?_, h2, h3⟩
  unfold BI
  rw [nb_append, ← strCellsJ]
  exact .inr h1
theorem getS {B b : Nat} {L : List Nat} {w : World} (h : BI B b L w) (hb : Byt L) (hBw : B ≤ w.heap.size) : Calls Tryd.prog 22 #[.pointer (some ⟨b, 0, none⟩)] w fun e w' => e = .returned (.string (ofN L)) ∧ Below B w w' := by
  unfold BI at h
  rw [nb_bytes hb] at h
  exact bstring_any B b _ w h hBw
theorem new_bi {W : World} : BI W.heap.size W.heap.size [] (W.alloc (.cells #[.pointer none, .slice none 0 0] 47)) := by
  refine .inl ⟨Nat.le_refl _, _, heap_new _ _, ⟨rfl, .inl ⟨rfl, rfl⟩⟩, by simp [Value.ownBlock]⟩
theorem putB {B b : Nat} {L : List Nat} {w : World} (h : BI B b L w) (hl : L.length ≤ 1099511627776) (hBw : B ≤ w.heap.size) (c : Nat) : Calls Tryd.prog 19 #[.pointer (some ⟨b, 0, none⟩), .int .u8 (c : Int)] w fun e w' => e = .returned .nilIface ∧ BI B b (L ++ [c]) w' ∧ Below B w w' ∧ Kp b w w' := by
  refine (writeByte_kp B b (nb L) (c : Int) w h (by rw [nb_len]; omega) hBw).mono ?_
  rintro e w' ⟨rfl, ⟨h1, h2⟩, h3⟩
  refine ⟨rfl, ?_, h2, h3⟩
  unfold BI
  rw [nb_append]
  exact .inr h1
theorem grown_iter {w : World} {k : Nat} {s : ByteArray} {pos : Nat} : w.grownBy (w.iterAt k s pos) (some k) := ⟨rfl, rfl, rfl, by rw [Lib.iterAt_size]; exact Nat.le_refl _, fun i _ hne => Lib.iterAt_other w k i s pos (fun e => hne (by rw [e]))⟩
/-- The builder stays while the text is gone over. -/
theorem BI.iter {B b k : Nat} {L : List Nat} {w : World} {s t : ByteArray} {pos pos' : Nat} (h : BI B b L w) (hk : w.heap[k]? = some (.stringIter t pos)) (hb : k ≠ b) : BI B b L (w.iterAt k s pos') := by
  have hg : w.grownBy (w.iterAt k s pos') (some k) := grown_iter
  have key : ∀ (P : Value), Lib.BuilderAt 47 5 B b P (nb L) w → Lib.BuilderAt 47 5 B b P (nb L) (w.iterAt k s pos') := fun P hq => by
    obtain ⟨hB, v, hbk, hown, hne⟩ := hq
    refine ⟨hB, v, (hg.block b (Array.getElem?_eq_some_iff.1 hbk).1 (fun e => hb (Option.some.inj e).symm)).trans hbk, hown.kept hg (.inr (fun e => ?_)), hne⟩
    rcases hown.2 with ⟨rfl, _⟩ | ⟨g, cap, cur, rfl, _, h4, _⟩
    · cases e
    · obtain rfl : g = k := by simpa [Value.ownBlock] using e
      rw [h4] at hk
      cases hk
  rcases h with h | h
  · exact .inl (key _ h)
  · exact .inr (key _ h)
theorem Kp.iter {b k : Nat} {w w' : World} {s : ByteArray} {pos : Nat} (h : Kp b w w') (hk : w.heap[k]? = some (.stringIter s pos)) (hb : k ≠ b) : w'.heap[k]? = some (.stringIter s pos) := h k _ hb hk (fun _ _ e => by cases e)
theorem BI.iter0 {B b : Nat} {L : List Nat} {w : World} {s : ByteArray} (h : BI B b L w) : BI B b L (w.alloc (.stringIter s 0)) := by
  have hg : w.grownBy (w.alloc (.stringIter s 0)) none := World.grownBy_alloc w _ _
  have key : ∀ (P : Value), Lib.BuilderAt 47 5 B b P (nb L) w → Lib.BuilderAt 47 5 B b P (nb L) (w.alloc (.stringIter s 0)) := fun P hq => by
    obtain ⟨hB, v, hbk, hown, hne⟩ := hq
    exact ⟨hB, v, (hg.block b (Array.getElem?_eq_some_iff.1 hbk).1 (by simp)).trans hbk, own_up hown ((Below.refl _ _).alloc (Nat.le_refl _) _), hne⟩
  rcases h with h | h
  · exact .inl (key _ h)
  · exact .inr (key _ h)
theorem BI.up {B b : Nat} {L : List Nat} {w w' : World} (h : BI B b L w) (hb : Below w.heap.size w w') : BI B b L w' := by
  have key : ∀ (P : Value), Lib.BuilderAt 47 5 B b P (nb L) w → Lib.BuilderAt 47 5 B b P (nb L) w' := fun P hq => by
    obtain ⟨hB, v, hbk, hown, hne⟩ := hq
    exact ⟨hB, v, (hb.block b (Array.getElem?_eq_some_iff.1 hbk).1).trans hbk, own_up hown hb, hne⟩
  rcases h with h | h
  · exact .inl (key _ h)
  · exact .inr (key _ h)
end Go.Proofs.YtadmamfekodkaaaDoor
