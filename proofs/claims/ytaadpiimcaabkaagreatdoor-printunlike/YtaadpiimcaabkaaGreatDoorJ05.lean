import Derived.Shelf.Strings.Builder1
import Derived.Test.YtaadpiimcaabkaaGreatDoorChecked
import Derived.Test.YtaadpiimcaabkaaGreatDoorJ04
import Derived.Shelf.Strings.Repeat
import Derived.Test.YtaadpiimcaabkaaGreatDoorYB
namespace Go.Proofs
open Go.Shelf
def Tryz.laysNB169169_ren : Go.Shelf.Ren := ⟨fun | 169 => 85 | n => n, fun | 70 => 123 | 9 => 9 | 0 => 0 | 72 => 125 | 37 => 58 | 127 => 162 | 3 => 3 | 5 => 5 | n => n, fun | n => n⟩
theorem Tryz.laysNB169169 : Go.Proofs.Lays.n169 Tryz.prog Tryz.laysNB169169_ren := {
  mixed := by kernel_rfl
  f169 := Tryz.func85.trans (congrArg some (by kernel_rfl))
  t0 := Tryz.underlying0
  a0 := Tryz.isAgg0
  z0 := Tryz.sizeOf0
  v0 := Tryz.zeroValue0
  t3 := Tryz.underlying3
  a3 := Tryz.isAgg3
  z3 := Tryz.sizeOf3
  v3 := Tryz.zeroValue3
  t9 := Tryz.underlying9
  a9 := Tryz.isAgg9
  z9 := Tryz.sizeOf9
  v9 := Tryz.zeroValue9
  t37 := Tryz.underlying58
  a37 := Tryz.isAgg58
  z37 := Tryz.sizeOf58
  v37 := Tryz.zeroValue58
  t70 := Tryz.underlying123
  a70 := Tryz.isAgg123
  z70 := Tryz.sizeOf123
  v70 := Tryz.zeroValue123
  t72 := Tryz.underlying125
  a72 := Tryz.isAgg125
  z72 := Tryz.sizeOf125
  v72 := Tryz.zeroValue125
  t127 := Tryz.underlying162
  a127 := Tryz.isAgg162
  z127 := Tryz.sizeOf162
  v127 := Tryz.zeroValue162 }
end Go.Proofs

namespace Go.Proofs.YtaadpiimcaabkaaGreatDoor
open Go.RowKit Go.Shelf
attribute [local go_sem ↓] Go.wp_at_zero Go.wp_at_succ

/-- What is no bytes, and no block b, stays. -/
def Kp (b : Nat) (w w' : World) : Prop := ∀ d cs ty fr, d ≠ b → w.heap[d]? = some (.cells cs ty fr) → ty ≠ 5 → w'.heap[d]? = some (.cells cs ty fr)
theorem Kp.refl (b : Nat) (w : World) : Kp b w w := fun _ _ _ _ _ h _ => h
theorem Kp.trans {b : Nat} {u v w : World} (h : Kp b u v) (k : Kp b v w) : Kp b u w := fun d cs ty fr h1 h2 h3 => k d cs ty fr h1 (h d cs ty fr h1 h2 h3) h3
theorem Kp.grown {b : Nat} {w w' : World} (h : w.grownBy w' (some b)) : Kp b w w' := fun d cs ty fr h1 h2 _ => (h.block d (Array.getElem?_eq_some_iff.1 h2).1 (by simp; omega)).trans h2
theorem copyCheck_kp (B b : Nat) (bs : List Value) (w : World) (h : Lib.IsBuilder 125 5 B b bs w) :
    Calls Tryz.prog 124 #[.pointer (some ⟨b, 0, none⟩)] w fun e w' => e = .returned (.tuple #[]) ∧ (Lib.BuilderAt 125 5 B b (.pointer (some ⟨b, 0, none⟩)) bs w' ∧ Below B w w') ∧ Kp b w w' := by
  rcases h with h | h
  · refine (copyCheck_fresh b w h.cell0 h.shape h.frozen0).mono ?_
    rintro e w' ⟨rfl, rfl⟩
    obtain ⟨_, v, hbk, _⟩ := id h
    exact ⟨rfl, ⟨h.used _, (Below.refl B w).setCell (p := ⟨b, 0, none⟩) h.1 _⟩, Kp.grown (set_block hbk _).2⟩
  · refine (copyCheck_used b w h.cell0).mono ?_
    rintro e w' ⟨rfl, rfl⟩
    exact ⟨rfl, ⟨h, Below.refl B _⟩, Kp.refl _ _⟩
theorem put_kp {B b : Nat} {bs : List Value} {w1 w2 : World} {v v' : Value} (hbk : w1.heap[b]? = some (.cells #[.pointer (some ⟨b, 0, none⟩), v] 125 (0, 0))) (hown : w1.ownsRow B 5 1 v bs.length bs) (hne : v.ownBlock ≠ some b) (hg : w1.grownBy w2 v.ownBlock) : Kp b w1 (w2.setCell ⟨b, 1, none⟩ v') := by
  have hl : b < w1.heap.size := (Array.getElem?_eq_some_iff.1 hbk).1
  have hb2 := (hg.block b hl (fun e => hne e.symm)).trans hbk
  refine Kp.trans (v := w2) ?_ (Kp.grown (set_block (j := 1) hb2 v').2)
  intro d cs ty fr h1 h2 h3
  refine (hg.block d (Array.getElem?_eq_some_iff.1 h2).1 (fun e => ?_)).trans h2
  rcases hown.2 with ⟨rfl, _⟩ | ⟨g, cap, cur, rfl, _, h4, _⟩
  · cases e
  · obtain rfl : d = g := by simpa [Value.ownBlock] using e
    rw [h4] at h2
    simp at h2
    exact h3 h2.2.1.symm
set_option maxRecDepth 100000 in
set_option maxHeartbeats 1000000 in
theorem writeString_kp (B b : Nat) (bs : List Value) (s : ByteArray) (w : World) (h : Lib.IsBuilder 125 5 B b bs w) (hlen : bs.length + s.size ≤ 140737488355328) (hBw : B ≤ w.heap.size) :
    Calls Tryz.prog 81 #[.pointer (some ⟨b, 0, none⟩), .string s] w fun e w' => e = .returned (.tuple #[.int .i64 s.size, .nilIface]) ∧ (Lib.BuilderAt 125 5 B b (.pointer (some ⟨b, 0, none⟩)) (bs ++ Lib.strCells s) w' ∧ Below B w w') ∧ Kp b w w' := by
  obtain ⟨i0, hi, hz0, hz1, hz2⟩ := info_parts infoByteB
  have hc := hide (copyCheck_kp B b bs w h)
  clear h
  go_enter Tryz.func81, Tryz.ntmps81
  go_wp2_with fail
  refine (unhide hc).mono ?_
  rintro e w1 ⟨rfl, ⟨⟨hB, v, hbk, hown, hne⟩, hb1⟩, hk1⟩
  have s1 := hb1.size
  have c1 : w1.cell? ⟨b, 1, none⟩ = some v := by rw [cell_of_row _ _ _ _ _ _ hbk]; rfl
  have Hb1 := hide hb1
  have Hown := hide hown
  have Hbk := hide hbk
  have Hne := hide hne
  have Hk1 := hide hk1
  clear hb1 hown hbk hne hc hk1
  go_wp2_with (at_builtin; refine Lib.wpList_append_own_string _ rfl _ _ 58 9 rfl B 5 i0 Tryz.underlying58 Tryz.underlying9 hi hz0 hz1 hz2 _ _ _ rfl (unhide Hown) s rfl (by unfold maxLen; omega) (by omega) (by omega) ?_; intro v' w2 ho hg _; obtain ⟨⟨d0, d1, f1⟩, hput⟩ := put_any (bs' := bs ++ Lib.strCells s) hB (unhide Hbk) (unhide Hown) (unhide Hne) hg (by rw [List.length_append, Lib.strCells_length]; exact ho); have Hput := hide hput; have Hkp := hide (put_kp (v' := v') (unhide Hbk) (unhide Hown) (unhide Hne) hg); obtain ⟨a', l', c', rfl⟩ := sl_form ho; clear ho hg hput)
  go_ret2
  exact ⟨rfl, ⟨(unhide Hput).1, (unhide Hb1).trans (unhide Hput).2⟩, (unhide Hk1).trans (unhide Hkp)⟩
theorem extraB : Builder.Extra Tryz.prog Tryz.laysNB169169_ren := {
  sizeBuilder := by kernel_rfl
  liesBuilder := by kernel_rfl
  t5 := Tryz.underlying5
  a5 := Tryz.isAgg5
  z5 := Tryz.sizeOf5
  v5 := Tryz.zeroValue5
  infoByte := by kernel_rfl
  cellsByte := by kernel_rfl
  sizeByte := by kernel_rfl
  neB5 := by decide }
theorem bstring_any (B b : Nat) (l : List UInt8) (w : World) (h : Lib.IsBuilder 125 5 B b (Lib.byteCells l) w) (hBw : B ≤ w.heap.size) : Calls Tryz.prog 85 #[.pointer (some ⟨b, 0, none⟩)] w fun e w' => e = .returned (.string ⟨l.toArray⟩) ∧ Below B w w' := Any.Builder_String_any Tryz.laysNB169169 extraB B b l w h hBw
theorem strN_ofN {l : List Nat} (h : Byt l) : strN (ofN l) = l := by
  unfold strN ofN
  rw [List.map_map]
  conv => rhs; rw [← List.map_id l]
  exact List.map_congr_left fun x hx => u8_back (h x hx)
/-- Bytes in a builder. -/
def BI (B b : Nat) (L : List Nat) (w : World) : Prop := Lib.IsBuilder 125 5 B b (nb L) w
theorem nb_bytes {L : List Nat} (h : Byt L) : nb L = Lib.byteCells (L.map UInt8.ofNat) := by
  unfold nb Lib.byteCells
  rw [List.map_map]
  apply List.map_congr_left
  intro x hx
  have := h x hx
  simp only [Function.comp, UInt8.toNat_ofNat']
  congr 2
  omega
theorem strCellsJ (s : ByteArray) : Lib.strCells s = nb (strN s) := by
  unfold Lib.strCells nb strN
  simp [List.map_map]
theorem putS {B b : Nat} {L : List Nat} {w : World} (h : BI B b L w) (hl : L.length ≤ 1099511627776) (hBw : B ≤ w.heap.size) (x : ByteArray) (hx : x.size ≤ 1099511627776) : Calls Tryz.prog 81 #[.pointer (some ⟨b, 0, none⟩), .string x] w fun e w' => e = .returned (.tuple #[.int .i64 x.size, .nilIface]) ∧ BI B b (L ++ strN x) w' ∧ Below B w w' ∧ Kp b w w' := by
  refine (writeString_kp B b (nb L) x w h (by rw [nb_len]; omega) hBw).mono ?_
  rintro e w' ⟨rfl, ⟨h1, h2⟩, h3⟩
  refine ⟨rfl, ?_, h2, h3⟩
  unfold BI
  rw [nb_append, ← strCellsJ]
  exact .inr h1
theorem getS {B b : Nat} {L : List Nat} {w : World} (h : BI B b L w) (hb : Byt L) (hBw : B ≤ w.heap.size) : Calls Tryz.prog 85 #[.pointer (some ⟨b, 0, none⟩)] w fun e w' => e = .returned (.string (ofN L)) ∧ Below B w w' := by
  unfold BI at h
  rw [nb_bytes hb] at h
  exact bstring_any B b _ w h hBw
theorem new_bi {W : World} : BI W.heap.size W.heap.size [] (W.alloc (.cells #[.pointer none, .slice none 0 0] 125)) := by
  refine .inl ⟨Nat.le_refl _, _, heap_new _ _, ⟨rfl, .inl ⟨rfl, rfl⟩⟩, by simp [Value.ownBlock]⟩
end Go.Proofs.YtaadpiimcaabkaaGreatDoor
namespace Go.Proofs
open Go.Shelf
def Tryz.laysNR105_ren : Go.Shelf.Ren := ⟨fun | 105 => 82 | 212 => 125 | 99 => 126 | 165 => 127 | 166 => 81 | 170 => 128 | 169 => 85 | 263 => 164 | 264 => 165 | 206 => 166 | 240 => 124 | 241 => 167 | 276 => 163 | 277 => 189 | n => n, fun | 9 => 9 | 3 => 3 | 4 => 4 | 20 => 20 | 0 => 0 | 46 => 156 | 109 => 157 | 5 => 5 | 72 => 125 | 76 => 128 | 51 => 186 | 146 => 187 | 53 => 189 | 148 => 190 | 70 => 123 | 37 => 58 | 75 => 127 | 127 => 162 | 164 => 184 | 80 => 87 | n => n, fun | n => n⟩
theorem Tryz.laysNR105 : Go.Proofs.Lays.n105 Tryz.prog Tryz.laysNR105_ren := {
  mixed := by kernel_rfl
  f99 := Tryz.func126.trans (congrArg some (by kernel_rfl))
  f105 := Tryz.func82.trans (congrArg some (by kernel_rfl))
  f165 := Tryz.func127.trans (congrArg some (by kernel_rfl))
  f166 := Tryz.func81.trans (congrArg some (by kernel_rfl))
  f169 := Tryz.func85.trans (congrArg some (by kernel_rfl))
  f170 := Tryz.func128.trans (congrArg some (by kernel_rfl))
  f206 := Tryz.func166.trans (congrArg some (by kernel_rfl))
  f212 := Tryz.func125.trans (congrArg some (by kernel_rfl))
  f240 := Tryz.func124.trans (congrArg some (by kernel_rfl))
  f241 := Tryz.func167.trans (congrArg some (by kernel_rfl))
  f263 := Tryz.func164.trans (congrArg some (by kernel_rfl))
  f264 := Tryz.func165.trans (congrArg some (by kernel_rfl))
  f276 := Tryz.func163.trans (congrArg some (by kernel_rfl))
  f277 := Tryz.func189.trans (congrArg some (by kernel_rfl))
  t0 := Tryz.underlying0
  a0 := Tryz.isAgg0
  z0 := Tryz.sizeOf0
  v0 := Tryz.zeroValue0
  t3 := Tryz.underlying3
  a3 := Tryz.isAgg3
  z3 := Tryz.sizeOf3
  v3 := Tryz.zeroValue3
  t4 := Tryz.underlying4
  a4 := Tryz.isAgg4
  z4 := Tryz.sizeOf4
  v4 := Tryz.zeroValue4
  t5 := Tryz.underlying5
  a5 := Tryz.isAgg5
  z5 := Tryz.sizeOf5
  v5 := Tryz.zeroValue5
  t9 := Tryz.underlying9
  a9 := Tryz.isAgg9
  z9 := Tryz.sizeOf9
  v9 := Tryz.zeroValue9
  t20 := Tryz.underlying20
  a20 := Tryz.isAgg20
  z20 := Tryz.sizeOf20
  v20 := Tryz.zeroValue20
  t37 := Tryz.underlying58
  a37 := Tryz.isAgg58
  z37 := Tryz.sizeOf58
  v37 := Tryz.zeroValue58
  t46 := Tryz.underlying156
  a46 := Tryz.isAgg156
  z46 := Tryz.sizeOf156
  v46 := Tryz.zeroValue156
  t51 := Tryz.underlying186
  a51 := Tryz.isAgg186
  z51 := Tryz.sizeOf186
  v51 := Tryz.zeroValue186
  t53 := Tryz.underlying189
  a53 := Tryz.isAgg189
  z53 := Tryz.sizeOf189
  v53 := Tryz.zeroValue189
  t70 := Tryz.underlying123
  a70 := Tryz.isAgg123
  z70 := Tryz.sizeOf123
  v70 := Tryz.zeroValue123
  t72 := Tryz.underlying125
  a72 := Tryz.isAgg125
  z72 := Tryz.sizeOf125
  v72 := Tryz.zeroValue125
  t75 := Tryz.underlying127
  a75 := Tryz.isAgg127
  z75 := Tryz.sizeOf127
  v75 := Tryz.zeroValue127
  t76 := Tryz.underlying128
  a76 := Tryz.isAgg128
  z76 := Tryz.sizeOf128
  v76 := Tryz.zeroValue128
  t109 := Tryz.underlying157
  a109 := Tryz.isAgg157
  z109 := Tryz.sizeOf157
  v109 := Tryz.zeroValue157
  t127 := Tryz.underlying162
  a127 := Tryz.isAgg162
  z127 := Tryz.sizeOf162
  v127 := Tryz.zeroValue162
  t146 := Tryz.underlying187
  a146 := Tryz.isAgg187
  z146 := Tryz.sizeOf187
  v146 := Tryz.zeroValue187
  t148 := Tryz.underlying190
  a148 := Tryz.isAgg190
  z148 := Tryz.sizeOf190
  v148 := Tryz.zeroValue190
  t164 := Tryz.underlying184
  a164 := Tryz.isAgg184
  z164 := Tryz.sizeOf184
  v164 := Tryz.zeroValue184 }
end Go.Proofs

namespace Go.Proofs.YtaadpiimcaabkaaGreatDoor
open Go.RowKit Go.Shelf
attribute [local go_sem ↓] Go.wp_at_zero Go.wp_at_succ

set_option maxRecDepth 100000 in
set_option maxHeartbeats 1000000 in
theorem writeByte_kp (B b : Nat) (bs : List Value) (c : Int) (w : World) (h : Lib.IsBuilder 125 5 B b bs w) (hlen : bs.length + 1 ≤ 140737488355328) (hBw : B ≤ w.heap.size) :
    Calls Tryz.prog 83 #[.pointer (some ⟨b, 0, none⟩), .int .u8 c] w fun e w' => e = .returned .nilIface ∧ (Lib.BuilderAt 125 5 B b (.pointer (some ⟨b, 0, none⟩)) (bs ++ [.int .u8 c]) w' ∧ Below B w w') ∧ Kp b w w' := by
  obtain ⟨i0, hi, hz0, hz1, hz2⟩ := info_parts infoByteB
  have hc := hide (copyCheck_kp B b bs w h)
  clear h
  go_enter Tryz.func83, Tryz.ntmps83
  go_wp2_with fail
  refine (unhide hc).mono ?_
  rintro e w1 ⟨rfl, ⟨⟨hB, v, hbk, hown, hne⟩, hb1⟩, hk1⟩
  have s1 := hb1.size
  have c1 : w1.cell? ⟨b, 1, none⟩ = some v := by rw [cell_of_row _ _ _ _ _ _ hbk]; rfl
  have Hb1 := hide hb1
  have Hown := hide hown
  have Hbk := hide hbk
  have Hne := hide hne
  have Hk1 := hide hk1
  clear hb1 hown hbk hne hc hk1
  go_wp2_with (at_builtin; refine wpList_append_own_at _ rfl _ _ 58 rfl B 5 i0 (.int .u8 0) 1 1 Tryz.underlying58 hi hz0 hz1 hz2 rfl (by decide) _ _ _ rfl ((unhide Hown).alloc _) ⟨w1.heap.size, 0, none⟩ 1 1 [.int .u8 c] rfl rfl (cell_one_new _ _ _) (by simp [Value.oneCell']) (by unfold maxLen; omega) (by omega) (by rw [World.size_alloc]; omega) ?_; intro v' w2 ho hg _ _; have hg2 := (World.grownBy_alloc w1 _ _).trans hg; obtain ⟨⟨d0, d1, f1⟩, hput⟩ := put_any (bs' := bs ++ [.int .u8 c]) hB (unhide Hbk) (unhide Hown) (unhide Hne) hg2 (by rw [List.length_append]; exact ho); have Hput := hide hput; have Hkp := hide (put_kp (v' := v') (unhide Hbk) (unhide Hown) (unhide Hne) hg2); obtain ⟨a', l', c', rfl⟩ := sl_form ho; clear ho hg hput hg2)
  go_ret
  exact ⟨rfl, ⟨(unhide Hput).1, (unhide Hb1).trans (unhide Hput).2⟩, (unhide Hk1).trans (unhide Hkp)⟩
theorem putB {B b : Nat} {L : List Nat} {w : World} (h : BI B b L w) (hl : L.length ≤ 1099511627776) (hBw : B ≤ w.heap.size) (x : Nat) : Calls Tryz.prog 83 #[.pointer (some ⟨b, 0, none⟩), .int .u8 (x : Int)] w fun e w' => e = .returned .nilIface ∧ BI B b (L ++ [x]) w' ∧ Below B w w' ∧ Kp b w w' := by
  refine (writeByte_kp B b (nb L) (x : Int) w h (by rw [nb_len]; omega) hBw).mono ?_
  rintro e w' ⟨rfl, ⟨h1, h2⟩, h3⟩
  refine ⟨rfl, ?_, h2, h3⟩
  unfold BI
  rw [nb_append]
  exact .inr h1
/-- The two blanks, so often. -/
theorem extraR : Builder.Extra Tryz.prog Tryz.laysNR105_ren := {
  sizeBuilder := by kernel_rfl
  liesBuilder := by kernel_rfl
  t5 := Tryz.underlying5
  a5 := Tryz.isAgg5
  z5 := Tryz.sizeOf5
  v5 := Tryz.zeroValue5
  infoByte := by kernel_rfl
  cellsByte := by kernel_rfl
  sizeByte := by kernel_rfl
  neB5 := by decide }
def twoB : ByteArray := ⟨#[32, 32]⟩
def blanksB (n : Nat) : ByteArray := ⟨(Lib.repeatL [32, 32] n).toArray⟩
theorem blanks_strN : ∀ n, strN (blanksB n) = List.replicate (2 * n) 32
  | 0 => rfl
  | n + 1 => by
    have ih := blanks_strN n
    have e : strN (blanksB (n + 1)) = 32 :: 32 :: strN (blanksB n) := rfl
    rw [e, ih, show 2 * (n + 1) = (2 * n + 1) + 1 by omega]
    rfl
theorem repeat_any (n : Nat) (hn : n ≤ 1000) (w : World) : Calls Tryz.prog 82 #[.string ⟨#[32, 32]⟩, .int .i64 (n : Int)] w fun e w' => e = .returned (.string (blanksB n)) ∧ Below w.heap.size w w' := by
  match n, hn with
  | 0, _ =>
    refine (Any.strings_Repeat_zero Tryz.laysNR105 ⟨#[32, 32]⟩ w).mono ?_
    rintro e w' ⟨rfl, rfl⟩
    exact ⟨rfl, Below.refl _ _⟩
  | 1, _ =>
    refine (Any.strings_Repeat_one Tryz.laysNR105 ⟨#[32, 32]⟩ w).mono ?_
    rintro e w' ⟨rfl, rfl⟩
    exact ⟨rfl, Below.refl _ _⟩
  | k + 2, hn =>
    exact Any.strings_Repeat_main Tryz.laysNR105 extraR ⟨#[32, 32]⟩ (k + 2) w (by omega) (by omega) (by show 2 * (k + 2) ≤ _; omega) (by decide)
end Go.Proofs.YtaadpiimcaabkaaGreatDoor
