import Derived.Test.YtobomdokdajbaaaDoorJ49
import Derived.Test.YtobomdokdajbaaaDoorJ49
import Derived.Test.YtobomdokdajbaaaDoorJ49
import Derived.Test.YtobomdokdajbaaaDoorJ49
import Derived.Test.YtobomdokdajbaaaDoorJ29
import Derived.Test.YtobomdokdajbaaaDoorJ06
import Derived.Test.YtobomdokdajbaaaDoorRows
import Derived.ProofKit
import Derived.OpenShut
import Derived.ShutString
import Derived.SizedLaws
import Derived.SliceStrings

namespace Go.Proofs.YtobomdokdajbaaaDoor
open Go.RowKit

/-- A list of bytes that is new. -/
def NwB (w w' : World) (v : Value) : Prop := (∃ bs, Bytes w.heap.size w' v bs ∧ bs.length ≤ 1099511627776) ∧ Below w.heap.size w w'
theorem varint_new (w : World) (x : Int) : Calls Tryd.prog 7 #[.int .i64 x] w fun e w' => ∃ a n c, e = .returned (.slice a n c) ∧ NwB w w' (.slice a n c) := by
  have hu : IntKind.u64.wrap x = ((un x : Nat) : Int) := by rw [wrapu_eq]; unfold un; omega
  refine (varint_any w x (un x) hu (un_lt x)).mono fun e w' ⟨v, he, hB, hb⟩ => ?_
  obtain ⟨a, c, rfl, -, -⟩ := bytes_shape hB
  exact ⟨a, _, c, he, ⟨_, hB, by have := (vint_ten (un_lt x)).2; omega⟩, hb⟩
theorem nil_bytes (n : Nat) (w : World) : Bytes n w (.slice none 0 0) [] := World.ownsRow_nil _ _ _ _
theorem fixed_new (w : World) (x : Int) : Calls Tryd.prog 8 #[.int .i64 x, .int .i64 8] w fun e w' => ∃ a n c k, e = .returned (.tuple #[.slice a n c, .int .i64 k]) ∧ NwB w w' (.slice a n c) := by
  refine (fixed_any w x 8 (.inr rfl)).mono fun e w' ⟨v, he, hB, hb⟩ => ?_
  obtain ⟨a, c, rfl, -, -⟩ := bytes_shape hB
  exact ⟨a, _, c, 0, he, ⟨_, hB, by rw [lows_fN x 8 (Nat.le_refl _), byB, List.length_map, fN_len]; omega⟩, hb⟩
theorem tag_new (w : World) (n : Int) (hn : 1 ≤ n ∧ n ≤ 536870911) : Calls Tryd.prog 9 #[.int .i64 n, .int .i64 1] w fun e w' => ∃ a m c k, e = .returned (.tuple #[.slice a m c, .int .i64 k]) ∧ NwB w w' (.slice a m c) := by
  refine (tagU w n 1).mono fun e w' ⟨v, k, he, _, hB, hb⟩ => ?_
  rcases hB with ⟨-, hB⟩ | ⟨-, rfl⟩
  · obtain ⟨a, c, rfl, -, -⟩ := bytes_shape hB
    exact ⟨a, _, c, k, he, ⟨_, hB, by have := (vint_ten (u := 8 * n.toNat + (1 : Int).toNat) (by omega)).2; omega⟩, hb⟩
  · exact ⟨none, 0, 0, k, he, ⟨[], nil_bytes _ _, by simp⟩, hb⟩
theorem text_new (w : World) (s : ByteArray) : Calls Tryd.prog 12 #[.string s] w fun e w' => ∃ a m c k, e = .returned (.tuple #[.slice a m c, .int .i64 k]) ∧ NwB w w' (.slice a m c) := by
  refine (textU w s).mono fun e w' ⟨v, k, he, hB, hb⟩ => ?_
  rcases hB with ⟨hs, -, hB⟩ | ⟨-, -, rfl⟩
  · obtain ⟨a, c, rfl, -, -⟩ := bytes_shape hB
    refine ⟨a, _, c, k, he, ⟨_, hB, ?_⟩, hb⟩
    have := (vint_ten (u := s.size) (by omega)).2
    have e : (strB s).length = s.size := by simp [strB]
    rw [List.length_append, e]
    omega
  · exact ⟨none, 0, 0, k, he, ⟨[], nil_bytes _ _, by simp⟩, hb⟩
theorem join_new {W : World} (x : Int) (hx : RngI x) : Calls Tryd.prog 11 #[.slice (some ⟨W.heap.size, 0, none⟩) 1 1] (W.alloc (.cells #[.int .i64 1, .int .i64 0, .int .i64 x, .string ⟨#[]⟩, .slice none 0 0] 35)) fun e w' => ∃ a m c k, e = .returned (.tuple #[.slice a m c, .int .i64 k]) ∧ NwB W w' (.slice a m c) := by
  refine (join_num x hx).mono fun e w' ⟨v, bs, he, hB, hl, hb⟩ => ?_
  obtain ⟨a, c, rfl, -, -⟩ := bytes_shape hB
  exact ⟨a, _, c, 0, he, ⟨bs, hB, by omega⟩, hb⟩
/-- The lists that are kept. -/
def KMo (W w : World) (vk : Value) (n : Nat) (vs : List Value) : Prop := ∃ bss, KL W w vk n vs bss
theorem KMo.call {W w w' : World} {vk v : Value} {n : Nat} {vs : List Value} (h : KMo W w vk n vs) (hv : NwB w w' v) : KMo W w' vk n (vs ++ [v]) := by
  obtain ⟨bss, h⟩ := h
  obtain ⟨⟨bs, h1, h2⟩, h3⟩ := hv
  exact ⟨_, h.call h3 h1 h2⟩
theorem KMo.be {W w : World} {vk : Value} {n : Nat} {vs : List Value} (h : KMo W w vk n vs) : Below W.heap.size W w := by
  obtain ⟨bss, h⟩ := h
  exact h.be
theorem KMo.row {W w : World} {vk : Value} {n : Nat} {vs : List Value} (h : KMo W w vk n vs) : w.ownsRow W.heap.size 24 1 vk n (vs.take n) := by
  obtain ⟨bss, h⟩ := h
  exact h.row
theorem KMo.app {W w w2 : World} {vk vk' : Value} {n m : Nat} {vs us : List Value} {o1 : Obj} (h : KMo W w vk n (vs ++ us)) (hl : vs.length = n) (hm : us.length = m)
    (r : w2.ownsRow W.heap.size 24 1 vk' (n + m) ((vs ++ us).take n ++ us)) (g1 : (w.alloc o1).grownBy w2 vk.ownBlock) (b : vk'.ownBlock = vk.ownBlock ∨ vk'.ownBlock = some (w.alloc o1).heap.size) : KMo W w2 vk' (n + m) (vs ++ us) ∧ (vs ++ us).length = n + m := by
  obtain ⟨bss, h⟩ := h
  have hd : (vs ++ us).drop n = us := by rw [← hl, List.drop_left]
  have hm2 : (vs ++ us).length = n + m := by rw [List.length_append, hl, hm]
  exact ⟨⟨bss, h.app hm2 (by rw [hd]; exact r) g1 b⟩, hm2⟩
/-- The law's Grown of the kept lists. -/
theorem KMo.grown {W w : World} {vk : Value} {n : Nat} {vs : List Value} (h : KMo W w vk n vs) (hl : vs.length = n) (hn : n ≤ 1099511627776) : Calls Tryd.prog 13 #[vk] w fun e w' => e = .returned (.bool true) ∧ Below W.heap.size W w' := by
  obtain ⟨bss, h⟩ := h
  refine (grown_any (h.hd hl.symm (by omega)) h.lb h.be.size h.ln).mono fun e w' ⟨he, hf⟩ => ⟨he, hf.os.trans h.be.os, hf.tape.trans h.be.tape, hf.output.trans h.be.output, Nat.le_trans h.be.size hf.size, fun q hq => (hf.far q (Nat.lt_of_lt_of_le hq h.be.size) (fun hi => ?_)).trans (h.be.block q hq)⟩
  have := (h.lb.lt hi).1
  omega
end Go.Proofs.YtobomdokdajbaaaDoor

namespace Go.Proofs.YtobomdokdajbaaaDoor
open Go.RowKit
attribute [local go_sem ↓] Go.wp_at_zero Go.wp_at_succ

set_option maxRecDepth 100000 in
set_option maxHeartbeats 4000000 in
/-- A deep copy of records. -/
theorem twin_rt {W : World} {P : Nat → Prop} {v : Value} {ts : List Rt} (h : HasRt W P v ts) : SmT ts → ∀ w0, Below W.heap.size W w0 → Calls Tryd.prog 16 #[v] w0 fun e W' => ∃ a c, e = .returned (.slice a ts.length c) ∧ HasRt W' (fun g => w0.heap.size ≤ g) (.slice a ts.length c) ts ∧ Below w0.heap.size w0 W' := by
  induction h with
  | nil a c =>
    intro _ w0 _
    go_enter Tryd.func16, Tryd.ntmps16
    go_wp2
    refine wp_loop_rounds 1 ?_
    rw [rounds_succ]
    go_wp2
    go_ret
    exact ⟨none, 0, rfl, .nil _ _, Below.refl _ _⟩
  | row g n c ts us hp hn hm hg hc hi ih =>
    intro hsm w0 hw0
    obtain ⟨i0, hi0', hz0, hz1, hz2⟩ := info_parts Tryd.infoRec
    have hnl := hsm.len
    rw [hn] at hnl
    have Hc := hide hc
    have Hih := hide ih
    have Hi := hide hi
    have Hn := hide hn
    have Hw0 := hide hw0
    have Hsm := hide hsm
    have H0 : Hid (OwnL w0 w0.heap.size (PW w0.heap.size (.slice none 0 0)) (.slice none 0 0) (ts.take 0)) := OwnL.nil _ _ _
    clear hc ih hi hn hp hw0 hm hsm
    go_enter Tryd.func16, Tryd.ntmps16
    go_wp2
    go_loopg [3, 4] n (fun gk v3 v4 wr => ∃ (i : Nat) (ya : Option Addr) (yc : Nat), v3 = .slice ya i yc ∧ v4 = .int .i64 (i : Int) ∧ gk = n - i ∧ i ≤ n ∧ Hid (OwnL wr w0.heap.size (PW w0.heap.size (.slice ya i yc)) (.slice ya i yc) (ts.take i)) ∧ Hid (Below w0.heap.size w0 wr))
    case atStart => exact ⟨0, none, 0, rfl, rfl, rfl, Nat.zero_le _, H0, Below.refl _ _⟩
    case round =>
      obtain ⟨i, ya, yc, rfl, rfl, hgk, hin, HO, HB⟩ := hrel
      have Hgk := hide hgk
      clear hgk H0
      by_cases hlt : i < n
      · obtain ⟨r, hr⟩ : ∃ r, ts[i]? = some r := ⟨_, List.getElem?_eq_getElem (by rw [unhide Hn]; exact hlt)⟩
        have hBW : Below W.heap.size W wr := (unhide Hw0).trans ((unhide HB).mono (unhide Hw0).size)
        have hcs := unhide Hc i r hr
        obtain ⟨ia, ic, eu⟩ := (unhide Hi i r hr).form
        have hcall := unhide Hih i r hr ((unhide Hsm).inner hr)
        rw [eu] at hcs hcall
        have hnx : ts.take (i + 1) = ts.take i ++ [r] := by rw [List.take_add_one, hr]; rfl
        obtain ⟨nb, kd, x, t, li⟩ := r
        replace hcall : ∀ w0, Below W.heap.size W w0 → Calls Tryd.prog 16 #[.slice ia li.length ic] w0 fun e W' => ∃ a c, e = .returned (.slice a li.length c) ∧ HasRt W' (fun g => w0.heap.size ≤ g) (.slice a li.length c) li ∧ Below w0.heap.size w0 W' := hcall
        have d0 := (hBW.cell (p := ⟨g, i * 5, none⟩) hg).trans (hcs 0 _ rfl)
        have d1 := (hBW.cell (p := ⟨g, i * 5 + 1, none⟩) hg).trans (hcs 1 _ rfl)
        have d2 := (hBW.cell (p := ⟨g, i * 5 + 2, none⟩) hg).trans (hcs 2 _ rfl)
        have d3 := (hBW.cell (p := ⟨g, i * 5 + 3, none⟩) hg).trans (hcs 3 _ rfl)
        have d4 : wr.cell? ⟨g, i * 5 + 4, none⟩ = some (.slice ia li.length ic) := (hBW.cell (p := ⟨g, i * 5 + 4, none⟩) hg).trans (hcs 4 _ rfl)
        have hgw : g < wr.heap.size := Nat.lt_of_lt_of_le hg hBW.size
        have gf4 : ∀ o, (wr.alloc o).cell? ⟨g, i * 5 + 4, none⟩ = _ := fun o => (World.cell?_alloc_lt _ _ _ hgw).trans d4
        have hj0 : (0 : Int) ≤ (i : Int) := Int.natCast_nonneg _
        have hj1 : (i : Int) < (n : Int) := by omega
        obtain ⟨X, hX⟩ : ∃ X, X = wr.alloc (.cells #[.int .i64 (nb : Int), .int .i64 (kd : Int), .int .i64 x, .string t, .slice ia li.length ic] 35) := ⟨_, rfl⟩
        have hXB : Below wr.heap.size wr X := by rw [hX]; exact (Below.refl _ _).alloc (Nat.le_refl _) _
        have hbx : X.heap[wr.heap.size]? = some (.cells #[.int .i64 (nb : Int), .int .i64 (kd : Int), .int .i64 x, .string t, .slice ia li.length ic] 35 (0, 0)) := by rw [hX]; exact heap_alloc_new _ _
        have hXs : wr.heap.size < X.heap.size := by rw [hX, World.size_alloc]; omega
        have Hcall := hide (hcall X (hBW.trans (hXB.mono hBW.size)))
        have HX := hide hX
        have Hnx := hide hnx
        clear hcs eu hcall hBW hX hnx hr
        go_wp2_with fail
        rw [← unhide HX]
        refine (unhide Hcall).mono ?_
        rintro e w2 ⟨ua, uc, rfl, hT2, hb2⟩
        obtain ⟨b0, b1, b2, b3, b4, bf0, bf1, bf2, bf3, bf4⟩ := cells5_of ((hb2.block _ hXs).trans hbx)
        have hzb2 := hb2.size
        have HY : Hid (Below wr.heap.size wr ((w2.setCell ⟨wr.heap.size, 4, none⟩ (.slice ua li.length uc)).alloc (.cells #[.int .i64 (nb : Int), .int .i64 (kd : Int), .int .i64 x, .string t, .slice ua li.length uc] 35))) := by
          have q := hXB.trans ((hb2.mono (Nat.le_of_lt hXs)).setCell (p := ⟨wr.heap.size, 4, none⟩) (Nat.le_refl _) (.slice ua li.length uc))
          exact q.alloc q.size _
        have HT3 : Hid (HasRt ((w2.setCell ⟨wr.heap.size, 4, none⟩ (.slice ua li.length uc)).alloc (.cells #[.int .i64 (nb : Int), .int .i64 (kd : Int), .int .i64 x, .string t, .slice ua li.length uc] 35)) (fun g => wr.heap.size ≤ g) (.slice ua li.length uc) li) := hT2.mono (fun g hg hp => ⟨by have : X.heap.size ≤ g := hp; omega, (Below.heap_alloc _ _ g (by rw [World.size_setCell]; exact hg)).trans (heap_setCell_other w2 ⟨wr.heap.size, 4, none⟩ g _ (by have : X.heap.size ≤ g := hp; show g ≠ wr.heap.size; omega))⟩) (by rw [World.size_alloc, World.size_setCell]; omega)
        obtain ⟨us2, l1, l2, l3⟩ := unhide HO
        have htl : (ts.take i).length = i := by rw [List.length_take, unhide Hn]; omega
        rw [htl] at l2
        have L1 := hide l1
        have L3 := hide l3
        have Hl2 := hide l2
        have Htl := hide htl
        have O1 : Hid (i + 1 ≤ maxLen) := by show _ ≤ _; unfold maxLen; omega
        have O2 : Hid ((i + 1) * 64 ≤ 140737488355328) := by show _ ≤ _; omega
        have hws : w0.heap.size ≤ wr.heap.size := (unhide HB).size
        have Hsz2 : Hid (((w2.setCell ⟨wr.heap.size, 4, none⟩ (.slice ua li.length uc))).heap.size = w2.heap.size) := World.size_setCell _ _ _
        clear hT2 hb2 hbx Hcall HX l1 l2 l3 htl HO hXB gf4 d0 d1 d2 d3 d4
        go_wp2_with (at_builtin; refine wpList_append_own_at _ rfl _ _ 33 rfl w0.heap.size 35 i0 (.agg #[.int .i64 0, .int .i64 0, .int .i64 0, .string .empty, .slice none 0 0]) 5 64 Tryd.underlying33 hi0' hz0 hz1 hz2 rfl (by decide) _ _ _ rfl (row_keep (unhide Hl2) (fun q hq _ => (unhide HY).block q hq)) ⟨w2.heap.size, 0, none⟩ 1 1 [.int .i64 (nb : Int), .int .i64 (kd : Int), .int .i64 x, .string t, .slice ua li.length uc] rfl rfl (World.news_of_block (cs := #[.int .i64 (nb : Int), .int .i64 (kd : Int), .int .i64 x, .string t, .slice ua li.length uc]) (t := 35) (fr := (0, 0)) (by rw [← unhide Hsz2]; exact heap_alloc_new _ _)) (by simp [Value.oneCell']) (unhide O1) (unhide O2) (by have := (unhide HY).size; omega) ?_; intro v4 w4 hown4 hgrow4 hdrop4 hat4; clear hdrop4; obtain ⟨za, zc, rfl⟩ := row_form hown4; have Hown4 := hide hown4; have Hgr4 := hide hgrow4; have Hat4 := hide hat4; clear hown4 hgrow4 hat4)
        go_roundg (n - (i + 1))
        case measure => have := unhide Hgk; omega
        case rel =>
          have hown := own_push2 (unhide L1) (unhide L3) (unhide Htl) (unhide Hown4) (unhide HY) (unhide Hgr4) (unhide Hat4) (fun q hq => ((unhide Hl2).lt q hq).2) hws (unhide HT3)
          rw [← unhide Hnx] at hown
          exact ⟨i + 1, za, zc, rfl, by go_num, rfl, by omega, hown, (unhide HB).trans ⟨(unhide Hgr4).os.trans (unhide HY).os, (unhide Hgr4).tape.trans (unhide HY).tape, (unhide Hgr4).output.trans (unhide HY).output, Nat.le_trans (unhide HY).size (unhide Hgr4).size, fun q hq => ((unhide Hgr4).block q (Nat.lt_of_lt_of_le (Nat.lt_of_lt_of_le hq hws) (unhide HY).size) (fun e => by have := ((unhide Hl2).lt q e.symm).1; omega)).trans ((unhide HY).block q (Nat.lt_of_lt_of_le hq hws))⟩⟩
      · obtain rfl : i = n := by omega
        have hO := unhide HO
        rw [List.take_of_length_le (by rw [unhide Hn]; exact Nat.le_refl _)] at hO
        have Hd := hide (hO.done (Q := fun g => w0.heap.size ≤ g) (fun g _ hp => hp.1) (fun g _ q2 _ => q2))
        have hnn := unhide Hn
        clear hO HO
        go_wp2
        go_ret
        subst hnn
        exact ⟨ya, yc, rfl, unhide Hd, unhide HB⟩
#print axioms twin_rt
end Go.Proofs.YtobomdokdajbaaaDoor

namespace Go.Proofs.YtobomdokdajbaaaDoor
open Go.ChangeShapes Go.WideShapes Go.ChangeAt Go.RowKit

/-- Texts that can be read. -/
def HasS (W : World) (v : Value) (l : List ByteArray) : Prop := ∃ a c, v = .slice a l.length c ∧ (l.length ≤ c ∧ c ≤ maxLen ∧ (a = none → c = 0)) ∧ (0 < l.length → ∃ g off, a = some ⟨g, off, none⟩ ∧ g < W.heap.size ∧ ∀ i s, l[i]? = some s → W.cell? ⟨g, off + i, none⟩ = some (.string s))
theorem hasS_nil (W : World) : HasS W (.slice none 0 0) [] := ⟨none, 0, rfl, ⟨Nat.le_refl _, Nat.zero_le _, fun _ => rfl⟩, fun h => by simp at h⟩
theorem HasS.up {W w : World} {v : Value} {l : List ByteArray} (h : HasS W v l) (hb : Below W.heap.size W w) : HasS w v l := by
  obtain ⟨a, c, rfl, hm, h3⟩ := h
  refine ⟨a, c, rfl, hm, fun hp => ?_⟩
  obtain ⟨g, off, rfl, h4, h5⟩ := h3 hp
  exact ⟨g, off, rfl, Nat.lt_of_lt_of_le h4 hb.size, fun i k hk => (hb.cell (p := ⟨g, off + i, none⟩) h4).trans (h5 i k hk)⟩

theorem cellsOfStr : Tryd.prog.cellsOf 9 = 1 := by kernel_rfl
theorem bytesOfStr : 1 ≤ Tryd.prog.bytesOf 9 := of_decide_eq_true (by kernel_rfl)

/-- A []string that came in. -/
theorem open_hasS {H : Type} {enc : TypeId × Value → H} {W : World} {base fuel len cap : Nat} {spare : Nat → Bool} {held : Bool} {a : Option Addr} {x : DataW H × List MemPlace}
    (hf : DataW.trod enc Tryd.prog W base spare held fuel 23 (Value.slice a len cap).cells.toList = some x) :
    ∃ l, HasS W (.slice a len cap) l ∧ (l.length = 0 ∨ ∃ e s, x.1 = .slice e s ∧ l.length = e.length) := by
  rcases open_strings Tryd.underlying23 Tryd.underlying9 cellsOfStr hf with ⟨hcs, rfl⟩ | ⟨y, n, c, zs, hcs, _, hl, hm, hz, rfl, hcell, hwf⟩
  · simp [Value.cells] at hcs
    obtain ⟨rfl, rfl, rfl⟩ := hcs
    exact ⟨[], hasS_nil _, .inl rfl⟩
  · simp [Value.cells] at hcs
    obtain ⟨rfl, rfl, rfl⟩ := hcs
    have hlz : len ≤ zs.length := by rw [hz]; split <;> omega
    have hlen : (zs.take len).length = len := by rw [List.length_take]; omega
    refine ⟨zs.take len, ⟨some y, cap, by rw [hlen], ⟨by omega, by omega, nofun⟩, fun hp => ?_⟩, .inr ⟨_, _, rfl, by simp [strs]⟩⟩
    obtain ⟨b, off, spot⟩ := y
    have hspot : spot = none := by simpa [Addr.add] using World.cell?_spot (hcell 0 (by omega))
    subst hspot
    have hc : ∀ j, j < zs.length → W.cell? ⟨b, off + j, none⟩ = some (.string (zs.getD j ByteArray.empty)) := fun j hj => by rw [← Go.WideShapes.add_plain]; exact hcell j hj
    refine ⟨b, off, rfl, World.block_lt_of_cell? W _ (hc 0 (by omega)), fun i k hk => ?_⟩
    rw [List.getElem?_take] at hk
    split at hk
    · have h1 := hc i (by omega)
      rw [List.getD_eq_getElem?_getD, hk] at h1
      exact h1
    · cases hk
theorem sized_hasS {H : Type} {ts : List TypeId} {ds : List (DataW H)} (h : (DataW.weightsEach Tryd.prog ts ds).all (· ≤ reachBytes) = true) {j : Nat} {d : DataW H} {n : Nat} (ht : ts[j]? = some 23) (hd : ds[j]? = some d)
    (hl : n = 0 ∨ ∃ e s, d = .slice e s ∧ n = e.length) : n ≤ 140737488351232 := by
  rcases hl with h0 | ⟨e, s, rfl, hl⟩
  · omega
  · have h1 := sized_slice h ht hd Tryd.underlying23
    have h2 := Nat.mul_le_mul_left (e.length + s.length) bytesOfStr
    rw [reachBytes] at h1
    omega
/-- The same, with the datum itself. -/
theorem open_hasSz {H : Type} {enc : TypeId × Value → H} {W : World} {base fuel len cap : Nat} {spare : Nat → Bool} {held : Bool} {a : Option Addr} {x : DataW H × List MemPlace}
    (hf : DataW.trod enc Tryd.prog W base spare held fuel 23 (Value.slice a len cap).cells.toList = some x) :
    ∃ l, HasS W (.slice a len cap) l ∧ (l = [] ∨ ∃ s, x.1 = .slice (strs l) s) := by
  rcases open_strings Tryd.underlying23 Tryd.underlying9 cellsOfStr hf with ⟨hcs, rfl⟩ | ⟨y, n, c, zs, hcs, _, hl, hm, hz, rfl, hcell, hwf⟩
  · simp [Value.cells] at hcs
    obtain ⟨rfl, rfl, rfl⟩ := hcs
    exact ⟨[], hasS_nil _, .inl rfl⟩
  · simp [Value.cells] at hcs
    obtain ⟨rfl, rfl, rfl⟩ := hcs
    have hlz : len ≤ zs.length := by rw [hz]; split <;> omega
    have hlen : (zs.take len).length = len := by rw [List.length_take]; omega
    refine ⟨zs.take len, ⟨some y, cap, by rw [hlen], ⟨by omega, by omega, nofun⟩, fun hp => ?_⟩, .inr ⟨_, rfl⟩⟩
    obtain ⟨b, off, spot⟩ := y
    have hspot : spot = none := by simpa [Addr.add] using World.cell?_spot (hcell 0 (by omega))
    subst hspot
    have hc : ∀ j, j < zs.length → W.cell? ⟨b, off + j, none⟩ = some (.string (zs.getD j ByteArray.empty)) := fun j hj => by rw [← Go.WideShapes.add_plain]; exact hcell j hj
    refine ⟨b, off, rfl, World.block_lt_of_cell? W _ (hc 0 (by omega)), fun i k hk => ?_⟩
    rw [List.getElem?_take] at hk
    split at hk
    · have h1 := hc i (by omega)
      rw [List.getD_eq_getElem?_getD, hk] at h1
      exact h1
    · cases hk
theorem weightsAll_mem {H : Type} {P : Program} {e : TypeId} {b : List UInt8} : ∀ {l : List (DataW H)}, DataW.lit (.string b) ∈ l → b.length ∈ DataW.weightsAll P e l
  | [], h => by simp at h
  | d :: r, h => by
    simp only [DataW.weightsAll, List.mem_append]
    rcases List.mem_cons.1 h with rfl | h
    · exact .inl (by simp [DataW.weights])
    · exact .inr (weightsAll_mem h)
theorem sized_hasSz {H : Type} {ts : List TypeId} {ds : List (DataW H)} (h : (DataW.weightsEach Tryd.prog ts ds).all (· ≤ reachBytes) = true) {j : Nat} {d : DataW H} {l : List ByteArray} (ht : ts[j]? = some 23) (hd : ds[j]? = some d)
    (hl : l = [] ∨ ∃ s, d = .slice (strs l) s) : l.length ≤ 140737488351232 ∧ ∀ s ∈ l, s.size ≤ 140737488351232 := by
  rcases hl with rfl | ⟨s, rfl⟩
  · exact ⟨by simp, fun s hs => by simp at hs⟩
  · have h1 := sized_slice h ht hd Tryd.underlying23
    have hlen : (strs (H := H) l).length = l.length := by simp [strs]
    rw [hlen] at h1
    have h2 := Nat.mul_le_mul_left (l.length + s.length) bytesOfStr
    rw [reachBytes] at h1
    refine ⟨by omega, fun x hx => ?_⟩
    have hm : (DataW.lit (.string x.data.toList) : DataW H) ∈ strs l := List.mem_map.2 ⟨x, hx, rfl⟩
    have hw := DataW.weights_mem_each (P := Tryd.prog) ht hd x.data.toList.length (by
      simp only [DataW.weights, Tryd.underlying23]
      exact List.mem_cons_of_mem _ (List.mem_append_left _ (weightsAll_mem hm)))
    have h3 := List.all_eq_true.1 h _ hw
    have h4 : x.data.toList.length ≤ reachBytes := by simpa using h3
    rw [reachBytes] at h4
    have h5 : x.data.toList.length = x.size := rfl
    omega
theorem bulk_strs {H : Type} : ∀ (l : List ByteArray), l.length ≤ Rows.uptoBulkAll (strs (H := H) l) ∧ ∀ s ∈ l, s.size ≤ Rows.uptoBulkAll (strs (H := H) l)
  | [] => ⟨Nat.zero_le _, fun s hs => by simp at hs⟩
  | x :: r => by
    obtain ⟨h1, h2⟩ := bulk_strs (H := H) r
    have e : Rows.uptoBulkAll (strs (H := H) (x :: r)) = x.size + 1 + Rows.uptoBulkAll (strs (H := H) r) := rfl
    rw [e]
    refine ⟨by simp only [List.length_cons]; omega, fun s hs => ?_⟩
    rcases List.mem_cons.1 hs with rfl | hs
    · omega
    · have := h2 s hs; omega
theorem upto_hasSz {H : Type} {d : DataW H} {l : List ByteArray} {n : Nat} (h : Rows.uptoBulk d ≤ n) (hl : l = [] ∨ ∃ s, d = .slice (strs l) s) : l.length ≤ n ∧ ∀ s ∈ l, s.size ≤ n := by
  rcases hl with rfl | ⟨s, rfl⟩
  · exact ⟨Nat.zero_le _, fun s hs => by simp at hs⟩
  · obtain ⟨h1, h2⟩ := bulk_strs (H := H) l
    simp only [Rows.uptoBulk] at h
    exact ⟨by omega, fun x hx => by have := h2 x hx; omega⟩
end Go.Proofs.YtobomdokdajbaaaDoor
