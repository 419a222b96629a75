import Derived.Test.YtcmjlpfofcaekaaDoorJA
import Derived.Test.YtcmjlpfofcaekaaDoorJX
import Derived.Test.YtcmjlpfofcaekaaDoorJH
import Derived.Test.YtcmjlpfofcaekaaDoorNB165
import Derived.Test.YtcmjlpfofcaekaaDoorNB169
import Derived.Shelf.Strings.Builder2

namespace Go.Proofs.YtcmjlpfofcaekaaDoor
open Go.RowKit Go.Shelf
attribute [local go_sem ↓] Go.wp_at_zero Go.wp_at_succ

theorem extraB : Builder.Extra Tryd.prog Tryd.laysNB169169_ren := {
  sizeBuilder := by kernel_rfl
  liesBuilder := by kernel_rfl
  t5 := Tryd.underlying5
  a5 := Tryd.isAgg5
  z5 := Tryd.sizeOf5
  v5 := Tryd.zeroValue5
  infoByte := by kernel_rfl
  cellsByte := by kernel_rfl
  sizeByte := by kernel_rfl
  neB5 := by decide }
theorem extraG : Builder.Extra Tryd.prog Tryd.laysNB165165_ren := {
  sizeBuilder := by kernel_rfl
  liesBuilder := by kernel_rfl
  t5 := Tryd.underlying5
  a5 := Tryd.isAgg5
  z5 := Tryd.sizeOf5
  v5 := Tryd.zeroValue5
  infoByte := by kernel_rfl
  cellsByte := by kernel_rfl
  sizeByte := by kernel_rfl
  neB5 := by decide }
theorem bgrow_any (B b n : Nat) (w : World) (hB : B ≤ b) (hbk : w.heap[b]? = some (.cells #[.pointer none, .slice none 0 0] 35 (0, 0))) (hBw : B ≤ w.heap.size) (hn : n ≤ 281474976710656) : Calls Tryd.prog 12 #[.pointer (some ⟨b, 0, none⟩), .int .i64 n] w fun e w' => e = .returned (.tuple #[]) ∧ (Lib.BuilderAt 35 5 B b (.pointer (some ⟨b, 0, none⟩)) [] w' ∧ Below B w w') := Any.Builder_Grow_fresh Tryd.laysNB165165 extraG B b n w hB hbk hBw hn
theorem bstring_any (B b : Nat) (l : List UInt8) (w : World) (h : Lib.IsBuilder 35 5 B b (Lib.byteCells l) w) (hBw : B ≤ w.heap.size) : Calls Tryd.prog 16 #[.pointer (some ⟨b, 0, none⟩)] w fun e w' => e = .returned (.string ⟨l.toArray⟩) ∧ Below B w w' := Any.Builder_String_any Tryd.laysNB169169 extraB B b l w h hBw
theorem strN_ofN {l : List Nat} (h : Byt l) : strN (ofN l) = l := by
  unfold strN ofN
  rw [List.map_map]
  conv => rhs; rw [← List.map_id l]
  exact List.map_congr_left fun x hx => u8_back (h x hx)
/-- Bytes in a builder. -/
def BL (B b : Nat) (L : List Nat) (w : World) : Prop := Lib.BuilderAt 35 5 B b (.pointer (some ⟨b, 0, none⟩)) (nb L) w
theorem BL.is {B b : Nat} {L : List Nat} {w : World} (h : BL B b L w) : Lib.IsBuilder 35 5 B b (nb L) w := .inr h
theorem nb_bytes {L : List Nat} (h : Byt L) : nb L = Lib.byteCells (L.map UInt8.ofNat) := by
  unfold nb Lib.byteCells
  rw [List.map_map]
  apply List.map_congr_left
  intro x hx
  have := h x hx
  simp only [Function.comp, UInt8.toNat_ofNat']
  congr 2
  omega
theorem putB {B b : Nat} {L : List Nat} {w : World} (h : BL B b L w) (hl : L.length ≤ 1099511627776) (hBw : B ≤ w.heap.size) (c : Nat) : Calls Tryd.prog 13 #[.pointer (some ⟨b, 0, none⟩), .int .u8 (c : Int)] w fun e w' => e = .returned .nilIface ∧ BL B b (L ++ [c]) w' ∧ Below B w w' := by
  refine (writeByte_any B b (nb L) (c : Int) w h.is (by rw [nb_len]; omega) hBw).mono ?_
  rintro e w' ⟨rfl, h1, h2⟩
  refine ⟨rfl, ?_, h2⟩
  unfold BL
  rw [nb_append]
  exact h1
theorem putS {B b : Nat} {L : List Nat} {w : World} (h : BL B b L w) (hl : L.length ≤ 1099511627776) (hBw : B ≤ w.heap.size) (x : ByteArray) (hx : x.size ≤ 1099511627776) : Calls Tryd.prog 14 #[.pointer (some ⟨b, 0, none⟩), .string x] w fun e w' => e = .returned (.tuple #[.int .i64 x.size, .nilIface]) ∧ BL B b (L ++ strN x) w' ∧ Below B w w' := by
  refine (writeString_any B b (nb L) x w h.is (by rw [nb_len]; omega) hBw).mono ?_
  rintro e w' ⟨rfl, h1, h2⟩
  refine ⟨rfl, ?_, h2⟩
  unfold BL
  rw [nb_append, ← strCells_nb]
  exact h1
def mean8 : ByteArray := ⟨#[34, 92, 47, 8, 12, 10, 13, 9]⟩
def lett8 : List Nat := [34, 92, 47, 98, 102, 110, 114, 116]
theorem esc_found {c : Nat} (hc : c < 256) (h : c < 32 ∨ c = 34 ∨ c = 92) : (0 ≤ firstIdx mean8 (Nat.toUInt8 c) ∧ ∃ n x : Nat, firstIdx mean8 (Nat.toUInt8 c) = (n : Int) ∧ lett8[n]? = some x ∧ jesc c = [92, x]) ∨ (firstIdx mean8 (Nat.toUInt8 c) < 0 ∧ jesc c = [92, 117, 48, 48, hexd (c / 16), hexd (c % 16)]) := by
  have key : ∀ k : Fin 256, (k.val < 32 ∨ k.val = 34 ∨ k.val = 92) → (0 ≤ firstIdx mean8 (Nat.toUInt8 k.val) ∧ firstIdx mean8 (Nat.toUInt8 k.val) = ((firstIdx mean8 (Nat.toUInt8 k.val)).toNat : Int) ∧ (lett8[(firstIdx mean8 (Nat.toUInt8 k.val)).toNat]?).isSome = true ∧ jesc k.val = [92, (lett8[(firstIdx mean8 (Nat.toUInt8 k.val)).toNat]?).getD 0]) ∨ (firstIdx mean8 (Nat.toUInt8 k.val) < 0 ∧ jesc k.val = [92, 117, 48, 48, hexd (k.val / 16), hexd (k.val % 16)]) := by decide +kernel
  rcases key ⟨c, hc⟩ h with ⟨h1, h2, h3, h4⟩ | h1
  · refine .inl ⟨h1, _, (lett8[(firstIdx mean8 (Nat.toUInt8 c)).toNat]?).getD 0, h2, ?_, h4⟩
    obtain ⟨y, hy⟩ := Option.isSome_iff_exists.1 h3
    rw [hy]
    rfl
  · exact .inr h1
set_option maxRecDepth 100000 in
set_option maxHeartbeats 1000000 in
theorem putEsc_any {B b : Nat} {L : List Nat} {w : World} (h : BL B b L w) (hl : L.length ≤ 1000000000) (hBw : B ≤ w.heap.size) (c : Nat) (hc : c < 256) (hce : c < 32 ∨ c = 34 ∨ c = 92) : Calls Tryd.prog 15 #[.pointer (some ⟨b, 0, none⟩), .int .u8 (c : Int)] w fun e w' => e = .returned (.tuple #[]) ∧ BL B b (L ++ jesc c) w' ∧ Below B w w' := by
  have hb : B ≤ b := h.1
  have H := hide h
  have HI : Hid (Calls Tryd.prog 21 #[.string ⟨#[34, 92, 47, 8, 12, 10, 13, 9]⟩, .int .u8 (c : Int)] w fun e w' => e = .returned (.int .i64 (firstIdx mean8 (Nat.toUInt8 c))) ∧ w' = w) := idx_any w mean8 (c : Int)
  have HF := hide (esc_found hc hce)
  clear h hce
  go_enter Tryd.func15, Tryd.ntmps15
  go_wp2_with fail
  refine (unhide HI).mono ?_
  rintro e w1 ⟨rfl, hw⟩
  subst hw
  rcases unhide HF with ⟨h1, n, x, h2, h3, h4⟩ | ⟨h1, h4⟩
  · rw [h2]
    have hn0 : (0 : Int) ≤ (n : Int) := Int.natCast_nonneg _
    have ix : ∀ w, (Instr.index 9 (.string ⟨#[34, 92, 47, 98, 102, 110, 114, 116]⟩) (.int .i64 (n : Int))).run Tryd.prog w = .ok (.int .u8 (x : Int)) w := fun w => str_at w ⟨#[34, 92, 47, 98, 102, 110, 114, 116]⟩ .i64 n x h3
    have H4 := hide h4
    clear HI HF h1 h2 h3 h4
    go_wp2_with fail
    refine (putB (unhide H) (by omega) hBw 92).mono ?_
    rintro e w2 ⟨rfl, hL2, hb2⟩
    have H2 := hide hL2
    have HB2 := hide hb2
    have hBw2 : B ≤ w2.heap.size := Nat.le_trans hBw hb2.size
    clear hL2 hb2
    go_wp2_with fail
    refine (putB (unhide H2) (by rw [List.length_append]; simp; omega) hBw2 x).mono ?_
    rintro e w3 ⟨rfl, hL3, hb3⟩
    have Hend : Hid (BL B b (L ++ jesc c) w3 ∧ Below B w1 w3) := ⟨by rw [unhide H4]; rw [List.append_assoc] at hL3; exact hL3, (unhide HB2).trans hb3⟩
    clear hL3 hb3
    go_wp2
    refine bodyPost_ret (results_none rfl _ _ _) rfl ?_
    exact ⟨rfl, unhide Hend⟩
  · obtain ⟨z, hz⟩ : ∃ z, z = firstIdx mean8 (Nat.toUInt8 c) := ⟨_, rfl⟩
    rw [← hz] at h1 ⊢
    have e1 : decide (0 ≤ z) = false := by simp; omega
    have H4 := hide h4
    clear HI HF hz h1 h4
    go_wp2_with fail
    refine (putS (unhide H) (by omega) hBw ⟨#[92, 117, 48, 48]⟩ (by decide)).mono ?_
    rintro e w2 ⟨rfl, hL2, hb2⟩
    have H2 := hide hL2
    have HB2 := hide hb2
    have hBw2 : B ≤ w2.heap.size := Nat.le_trans hBw hb2.size
    clear hL2 hb2
    have hH : HasB (w2.alloc (.cells #[.int .u8 (c : Int)] 5)) (.slice (some ⟨w2.heap.size, 0, none⟩) 1 1) [c] := hasB_lit (l := [c]) (t := 5) (fr := (0, 0)) (by rw [heap_new]; simp [nb]) 1 1 rfl (by decide)
    have HX := hide (hex_any hH (fun x hx => by simp at hx; omega) (by simp))
    have hbA : Below B w2 (w2.alloc (.cells #[.int .u8 (c : Int)] 5)) := (Below.refl _ _).alloc hBw2 _
    have HBA := hide hbA
    clear hH hbA
    go_wp2_with fail
    refine (unhide HX).mono ?_
    rintro e w3 ⟨rfl, hb3⟩
    have hb3' : Below B (w2.alloc (.cells #[.int .u8 (c : Int)] 5)) w3 := hb3.mono (by rw [World.size_alloc]; omega)
    have hb23 := (unhide HBA).trans hb3'
    have H3 : Hid (BL B b (L ++ strN ⟨#[92, 117, 48, 48]⟩) w3) := by
      obtain ⟨g1, v, g2, g3, g4⟩ := unhide H2
      have hlt := (Array.getElem?_eq_some_iff.1 g2).1
      have hall : ∀ k, k < w2.heap.size → w3.heap[k]? = w2.heap[k]? := fun k hk => (hb3.block k (by rw [World.size_alloc]; omega)).trans (Below.heap_alloc _ _ _ (by omega))
      refine ⟨g1, v, (hall b hlt).trans g2, ⟨g3.1, ?_⟩, g4⟩
      rcases g3.2 with g5 | ⟨g, cap, cur, e, g6, g7, rest⟩
      · exact .inl g5
      · exact .inr ⟨g, cap, cur, e, g6, (hall g (Array.getElem?_eq_some_iff.1 g7).1).trans g7, rest⟩
    have hBw3 : B ≤ w3.heap.size := Nat.le_trans hBw2 hb23.size
    have HB3 := hide ((unhide HB2).trans hb23)
    clear hb3 hb3' hb23 HX HBA HB2 H2 H
    go_wp2_with fail
    refine (putS (unhide H3) (by rw [List.length_append, strN_len]; show L.length + 4 ≤ _; omega) hBw3 (ofN (hexL [c])) (by rw [ofN_size, hexL_len]; show 2 * 1 ≤ _; decide)).mono ?_
    rintro e w4 ⟨rfl, hL4, hb4⟩
    have Hend : Hid (BL B b (L ++ jesc c) w4 ∧ Below B w1 w4) := by
      refine ⟨?_, (unhide HB3).trans hb4⟩
      rw [unhide H4]
      rw [strN_ofN (hexL_byt (fun x hx => by simp at hx; omega)), List.append_assoc] at hL4
      exact hL4
    clear hL4 hb4
    go_wp2
    go_end0
    exact ⟨rfl, unhide Hend⟩
end Go.Proofs.YtcmjlpfofcaekaaDoor
