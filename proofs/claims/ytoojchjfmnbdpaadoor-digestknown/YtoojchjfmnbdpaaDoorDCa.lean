import Derived.Test.YtoojchjfmnbdpaaDoorDF
import Derived.Test.YtoojchjfmnbdpaaDoorDCm
namespace Go.Proofs.YtoojchjfmnbdpaaDoor
open Go.RowKit
attribute [local go_sem ↓] Go.wp_at_zero Go.wp_at_succ

/-- The table of the program, as it is laid. -/
def HasT (W : World) : Prop := 0 < W.heap.size ∧ ∀ (i t : Nat), tab[i]? = some t → W.cell? ⟨0, i, none⟩ = some (.int .u32 (t : Int))
theorem HasT.up {W w : World} (h : HasT W) (hb : Below W.heap.size W w) : HasT w := ⟨Nat.lt_of_lt_of_le h.1 hb.size, fun i t hi => (hb.cell (p := ⟨0, i, none⟩) h.1).trans (h.2 i t hi)⟩
theorem tab_at (r : Nat) : ∃ t, tab[r % 16]? = some t ∧ t < 4294967296 := by
  have h : ∀ k : Fin 16, ∃ t, tab[k.val]? = some t ∧ t < 4294967296 := by
    intro k
    exact ⟨_, tab_steps k, steps_lt 4 (by have := k.isLt; omega)⟩
  exact h ⟨r % 16, by omega⟩
set_option maxRecDepth 100000 in
set_option maxHeartbeats 4000000 in
theorem crc_any {W : World} {v : Value} {l : List Nat} (hT : HasT W) (h : HasB W v l) (hl : Byt l) (hn : l.length ≤ 281474976710656) :
    Calls Tryd.prog 9 #[v] W fun e W' => e = .returned (.int .i64 ((crc l : Nat) : Int)) ∧ Below W.heap.size W W' := by
  obtain ⟨a, c, rfl, hm, h3⟩ := h
  have H3 := hide h3
  have HT := hide hT
  clear h3 hm hT
  go_enter Tryd.func9, Tryd.ntmps9
  go_wp2
  go_loopg [3, 8] l.length (fun gk v3 v8 wr => ∃ (i r : Nat), v8 = .int .i64 (i : Int) ∧ v3 = .int .u32 (r : Int) ∧ gk = l.length - i ∧ i ≤ l.length ∧ r = reg (l.take i) 4294967295 ∧ Below W.heap.size W wr)
  case atStart => exact ⟨0, 4294967295, rfl, rfl, rfl, by omega, by simp [reg], Below.refl _ _⟩
  case round =>
    obtain ⟨i, r, rfl, rfl, hgk, hk, hr, hB⟩ := hrel
    have Hgk := hide hgk
    clear hgk
    have hrlt : r < 4294967296 := by rw [hr]; exact reg_lt _ (fun x hx => hl x (List.mem_of_mem_take hx)) _ (by decide)
    by_cases hlt : i < l.length
    · obtain ⟨g, off, rfl, hg, hc⟩ := unhide H3 (by omega)
      obtain ⟨x, hx⟩ : ∃ x, l[i]? = some x := ⟨_, List.getElem?_eq_getElem hlt⟩
      have hxb := hl.at hx
      have c0 := (hB.cell (p := ⟨g, off + i, none⟩) hg).trans (hc i x hx)
      obtain ⟨r1, hr1⟩ : ∃ r1, r1 = r ^^^ x := ⟨_, rfl⟩
      have hr1lt : r1 < 4294967296 := by rw [hr1]; exact xor_lt hrlt (by omega)
      obtain ⟨t1, ht1, ht1lt⟩ := tab_at r1
      obtain ⟨r2, hr2⟩ : ∃ r2, r2 = r1 / 16 ^^^ t1 := ⟨_, rfl⟩
      have hr2lt : r2 < 4294967296 := by rw [hr2]; exact xor_lt (by omega) ht1lt
      obtain ⟨t2, ht2, ht2lt⟩ := tab_at r2
      obtain ⟨r3, hr3⟩ : ∃ r3, r3 = r2 / 16 ^^^ t2 := ⟨_, rfl⟩
      have b1 : bits .xor .u32 (r : Int) (x : Int) = (r1 : Int) := by rw [u32_xor_nat r x hrlt (by omega), hr1]
      have b2 : bits .and .u32 (r1 : Int) 15 = ((r1 % 16 : Nat) : Int) := by rw [show (15 : Int) = ((15 : Nat) : Int) from rfl, u32_and_nat r1 15 hr1lt (by decide), nat_mask4]
      have b3 : bits .xor .u32 ((r1 : Int) / 16) (t1 : Int) = (r2 : Int) := by rw [show (r1 : Int) / 16 = ((r1 / 16 : Nat) : Int) by omega, u32_xor_nat _ _ (by omega) ht1lt, hr2]
      have b4 : bits .and .u32 (r2 : Int) 15 = ((r2 % 16 : Nat) : Int) := by rw [show (15 : Int) = ((15 : Nat) : Int) from rfl, u32_and_nat r2 15 hr2lt (by decide), nat_mask4]
      have b5 : bits .xor .u32 ((r2 : Int) / 16) (t2 : Int) = (r3 : Int) := by rw [show (r2 : Int) / 16 = ((r2 / 16 : Nat) : Int) by omega, u32_xor_nat _ _ (by omega) ht2lt, hr3]
      have k1 := ((unhide HT).up hB).2 _ _ ht1
      have k2 := ((unhide HT).up hB).2 _ _ ht2
      have m1 : r1 % 16 < 16 := by omega
      have m2 : r2 % 16 < 16 := by omega
      obtain ⟨n1, hn1⟩ : ∃ n1 : Nat, n1 = r1 % 16 := ⟨_, rfl⟩
      obtain ⟨n2, hn2⟩ : ∃ n2 : Nat, n2 = r2 % 16 := ⟨_, rfl⟩
      have hfin : reg (l.take (i + 1)) 4294967295 = r3 := by
        rw [List.take_add_one, hx, reg_append, ← hr]
        simp only [Option.toList_some, reg]
        rw [← hr1, show (8 : Nat) = 4 + 4 from rfl, steps_add, ← nibble r1 ht1, ← hr2, ← nibble r2 ht2, hr3]
      have Hfin := hide hfin
      rw [← hn1] at b2 k1 m1
      rw [← hn2] at b4 k2 m2
      have hlt' : (i : Int) < (l.length : Int) := by omega
      have hi0' : (0 : Int) ≤ (i : Int) := Int.natCast_nonneg _
      have m1' : (n1 : Int) < 16 := by omega
      have m2' : (n2 : Int) < 16 := by omega
      clear hc hx hr hr1 hr2 hr3 hn1 hn2 ht1 ht2 hfin
      go_wp2
      go_roundg (l.length - (i + 1))
      case measure => have := unhide Hgk; omega
      case rel => exact ⟨i + 1, r3, by go_num, rfl, rfl, by omega, (unhide Hfin).symm, hB⟩
    · obtain rfl : i = l.length := by omega
      rw [List.take_length] at hr
      obtain ⟨z, hz⟩ : ∃ z : Nat, z = crc l := ⟨_, rfl⟩
      have hzl : z < 4294967296 := by rw [hz]; exact crc_lt hl
      have hx : bits .xor .u32 IntKind.u32.max (r : Int) = (z : Int) := by
        rw [show IntKind.u32.max = ((4294967295 : Nat) : Int) from rfl, u32_xor_nat _ _ (by decide) hrlt, hz, crc, ← hr, Nat.xor_comm]
      have hw : wrap64 (z : Int) = (z : Int) := wrap64_small (by omega) (by omega)
      have Hz := hide hz
      clear hr hz
      go_wp2
      go_ret
      rw [← unhide Hz]
      exact ⟨by first | rfl | exact retI hw, hB⟩

end Go.Proofs.YtoojchjfmnbdpaaDoor
