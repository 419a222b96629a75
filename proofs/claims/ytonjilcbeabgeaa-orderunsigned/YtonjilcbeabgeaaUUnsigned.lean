import Derived.Test.YtonjilcbeabgeaaUKeys
import Derived.OpenShut
import Derived.Deep.LoopGhost
import Derived.WalkSmall
import Derived.BigQuiet
import Derived.Deep.QuietTactic
namespace Go.Proofs.Ytonjilcbeabgeaa
open Go.RowKit Go.Shelf
attribute [local go_sem ↓] Go.wp_at_zero Go.wp_at_succ

theorem all_any {W : World} {m : Option Addr} {T : BT} (h : IsM W m T) : Calls Try.prog 12 #[.pointer m] W fun o W' => ∃ lb, o = .returned (.func (.func 39) #[] lb) ∧ Below W.heap.size W W' := by
  obtain ⟨bm, p, rfl, h1, h2, h3, h4⟩ := h
  refine (callsIn_wide (n := 4)).1 ((all_in Fence.wide 4 trivial rfl bm p W h2).mono ?_)
  rintro e w' ⟨rfl, rfl⟩
  exact ⟨_, rfl, (Below.refl _ _).alloc (Nat.le_refl _) _⟩

theorem equalIn_func_nil {P : Program} (w : World) (d : Nat) (t : TypeId) (ps rs : Array TypeId) (vr : Bool) (g : Fn) (pa lb : Array Value) (h : P.underlying t = some (.func ps rs vr)) : (Op.equalIn (d + 1) t (.func g pa lb) .nilFunc).run P w = .ok false w := by
  simp [Op.equalIn, run_underlying h]
theorem equal_func_nil {P : Program} (w : World) (t : TypeId) (ps rs : Array TypeId) (vr : Bool) (g : Fn) (pa lb : Array Value) (h : P.underlying t = some (.func ps rs vr)) : (Op.equal t (.func g pa lb) .nilFunc).run P w = .ok false w := equalIn_func_nil w 9999 t ps rs vr g pa lb h
theorem func_not_nil (g : Fn) (lb : Array Value) (w : World) : Sem.run Try.prog (binOp BinOp.eql 29 (.func g #[] lb) .nilFunc) w = .ok (.bool false) w := by
  simp only [binOp]
  simp [equal_func_nil w 29 _ _ _ g #[] lb Try.underlying29]
theorem one_len {l : List Ent} {e : Ent} (hs : Srt l) (hm : ∀ x, x ∈ l ↔ x = e ∨ x ∈ ([] : List Ent) ∧ x.1 ≠ e.1) : l = [e] :=
  hs.ext (by simp [Srt]) fun x => by rw [hm x]; simp
theorem rk_at {l : List Ent} (hs : Srt l) {i : Nat} {x : Ent} (h : l[i]? = some x) : rk x.1 l = i := by
  induction l generalizing i with
  | nil => simp at h
  | cons y r ih =>
    obtain ⟨hr, hy⟩ := srt_cons.1 hs
    cases i with
    | zero =>
      obtain rfl : y = x := by simpa using h
      rw [rk_cons_not (fun e => klt_irrefl e), rk_none fun z hz e => klt_irrefl (klt_trans e (hy z hz))]
    | succ i =>
      have h' : r[i]? = some x := by simpa using h
      rw [rk_cons_lt (hy x (List.mem_of_getElem? h')), ih hr h']
theorem srt_at {l : List Ent} (hs : Srt l) {i : Nat} {x y : Ent} (h : l[i]? = some x) (h' : l[i + 1]? = some y) : x.1 < y.1 := by
  have h1 := List.getElem?_eq_some_iff.1 h
  have h2 := List.getElem?_eq_some_iff.1 h'
  obtain ⟨a, rfl⟩ := h1
  obtain ⟨b, rfl⟩ := h2
  exact List.pairwise_iff_getElem.1 hs i (i + 1) a b (by omega)

/-- The number without a sign that has the same 64 bits. -/
def bits64 (a : Int) : Int := IntKind.u64.wrap a

theorem row_cells {W : World} {base e n : Nat} {v : Value} {l : List Ent} {f : Ent → Value} (h : W.ownsRow base e 1 v n (l.map f)) (hn : 0 < n) :
    ∃ g c, v = .slice (some ⟨g, 0, none⟩) n c ∧ base ≤ g ∧ g < W.heap.size ∧ n ≤ c ∧ c ≤ maxLen ∧ ∀ i x, l[i]? = some x → W.cell? ⟨g, i, none⟩ = some (f x) := by
  obtain ⟨h1, ⟨rfl, h2⟩ | ⟨g, c, cur, rfl, h2, h3, h4, h5, h6, h7⟩⟩ := h
  · omega
  · refine ⟨g, c, rfl, h2, (Array.getElem?_eq_some_iff.1 h3).1, h4, h5, fun i x hx => ?_⟩
    have e1 : (l.map f)[i]? = some (f x) := by simp [hx]
    rw [← h7] at e1
    rw [List.getElem?_take] at e1
    split at e1
    · unfold World.cell?
      rw [h3]
      simpa using e1
    · cases e1

/-- What the map holds when k keys have been put. -/
def Book (zs : List Int) (k : Nat) (l : List Ent) : Prop := (∀ j, j < k → (bits64 (zs[j]?.getD 0), zs[j]?.getD 0) ∈ l) ∧ 1 ≤ l.length ∧ l.length ≤ k + 1
theorem bits64_inj {a b : Int} (ha : (Lit.int .i64 a).wf = true) (hb : (Lit.int .i64 b).wf = true) (h : bits64 a = bits64 b) : a = b := by
  have h1 := bounds_i64 ha
  have h2 := bounds_i64 hb
  unfold bits64 at h
  rw [IntKind.wrap_u64, IntKind.wrap_u64] at h
  omega
theorem wf_at {zs : List Int} (h : ∀ n ∈ zs, (Lit.int .i64 n).wf = true) (j : Nat) : (Lit.int .i64 (zs[j]?.getD 0)).wf = true := by
  cases e : zs[j]? with
  | none => rfl
  | some x => exact h x (List.mem_of_getElem? e)
theorem Book.put {zs : List Int} {k : Nat} {l l' : List Ent} (hwf : ∀ n ∈ zs, (Lit.int .i64 n).wf = true) (h : Book zs k l) (hs : Srt l')
    (hm : ∀ x, x ∈ l' ↔ x = (bits64 (zs[k]?.getD 0), zs[k]?.getD 0) ∨ x ∈ l ∧ x.1 ≠ bits64 (zs[k]?.getD 0)) : Book zs (k + 1) l' := by
  have hlen : l'.length ≤ l.length + 1 := put_len hs hm
  have hmem : (bits64 (zs[k]?.getD 0), zs[k]?.getD 0) ∈ l' := (hm _).2 (.inl rfl)
  refine ⟨fun j hj => ?_, List.length_pos_of_mem hmem, by have := h.2.2; omega⟩
  by_cases e : bits64 (zs[j]?.getD 0) = bits64 (zs[k]?.getD 0)
  · rw [bits64_inj (wf_at hwf j) (wf_at hwf k) e]; exact hmem
  · refine (hm _).2 (.inr ⟨h.1 j ?_, e⟩)
    have : j ≠ k := fun e' => e (by rw [e'])
    omega

set_option maxRecDepth 100000 in
set_option maxHeartbeats 4000000 in
theorem walk_row (sl : Option Addr) (b off len cap : Nat) (zs : List Int) (w : World) (hrow : 0 < len → sl = some ⟨b, off, none⟩ ∧ b < w.heap.size) (hlen : len ≤ cap) (hcell : ∀ i, i < len → w.cell? ⟨b, off + i, none⟩ = some (.int .i64 (zs[i]?.getD 0))) (hwf : ∀ n ∈ zs, (Lit.int .i64 n).wf = true) (hreach : cap * 8 ≤ 140737488351232) :
    Calls Try.prog 3 #[.slice sl len cap] w fun e w' => e = .returned (.bool true) ∧ Below w.heap.size w w' := by
  have Hcell := hide hcell
  have Hrow := hide hrow
  clear hrow
  have Hwf := hide hwf
  clear hcell hwf
  have hnf := func_not_nil
  go_enter Try.func3, Try.ntmps3
  go_wp2_with fail
  refine (new_any w).mono ?_
  rintro o w1 ⟨m1, rfl, hm1, hb1⟩
  have hm1' := hm1
  obtain ⟨bm1, _, rfl, _⟩ := hm1'
  go_wp2_with fail
  refine (mput_any (T := .leaf) ((9223372036854775808 : Int), (1 : Int)) hm1 (by simp [BT.io])).mono ?_
  rintro o w2 ⟨m2, T2, rfl, hm2, hin2, hb2⟩
  have hm2' := hm2
  obtain ⟨bm2, _, rfl, _, _, _, hs2⟩ := hm2'
  have hio2 : T2.io = [((9223372036854775808 : Int), (1 : Int))] := one_len hs2 hin2
  have hl2 : (T2.io.length : Int) = 1 := by rw [hio2]; rfl
  have Hio2 := hide hio2
  clear hio2 hin2 hs2
  have hB2 : Below w.heap.size w w2 := hb1.trans (hb2.mono hb1.size)
  clear hb2 hb1
  go_wp2_with fail
  refine (len_any hm2).mono ?_
  rintro o w' ⟨rfl, he⟩
  obtain rfl : w2 = w' := he.symm
  go_wp2_with fail
  refine (all_any hm2).mono ?_
  rintro o w3 ⟨lb, rfl, hb3⟩
  have hm3 := hm2.up hb3
  have hB3 : Below w.heap.size w w3 := hB2.trans (hb3.mono hB2.size)
  have hbk : Book zs 0 T2.io := by rw [unhide Hio2]; exact ⟨fun j hj => by omega, by simp, by simp⟩
  have Hbk := hide hbk
  clear hbk hm1 hm2 hl2 hb3 hB2
  go_wp2
  go_loopg [3, 5] len (fun gk v3 v5 wr => ∃ (k bm : Nat) (T : BT), v3 = .pointer (some ⟨bm, 0, none⟩) ∧ v5 = .int .i64 (k : Int) ∧ gk = len - k ∧ k ≤ len ∧ IsM wr (some ⟨bm, 0, none⟩) T ∧ Book zs k T.io ∧ Below w.heap.size w wr)
  case atStart => exact ⟨0, bm2, T2, rfl, rfl, rfl, Nat.zero_le _, hm3, unhide Hbk, hB3⟩
  case round =>
    obtain ⟨k, bm, T, rfl, rfl, hgk, hk, hM, hB, hBl⟩ := hrel
    have HB := hide hB
    have hTl := hB.2
    have Hgk := hide hgk
    clear hB hgk
    by_cases hlt : k < len
    · obtain ⟨rfl, hb⟩ := unhide Hrow (by omega)
      have hk0 : (0 : Int) ≤ (k : Int) := Int.natCast_nonneg _
      have hk1 : (k : Int) < (len : Int) := by omega
      have hc : wr.cell? ⟨b, off + k, none⟩ = some (.int .i64 (zs[k]?.getD 0)) := (hBl.cell (p := ⟨b, off + k, none⟩) hb).trans (unhide Hcell k (by omega))
      obtain ⟨z, hz'⟩ : ∃ z, z = zs[k]?.getD 0 := ⟨_, rfl⟩
      rw [← hz'] at hc
      have hu : IntKind.u64.wrap z = bits64 z := rfl
      have Hz' := hide hz'
      clear hz'
      go_wp2
      go_region_held3 (fun w' => w'.cell? ⟨b, off + k, none⟩ = some (.int .i64 z)) (first | go_keep | exact hcc)
        (first
          | (go_at_call 10; refine (mput_any (T := T) (bits64 z, z) (hM.up (Below.refl _ _).drew) (by omega)).mono ?_; rintro o W1 ⟨m', T', rfl, hM', hin', hb'⟩; have hcc := (hb'.cell (p := ⟨b, off + k, none⟩) (by have := hBl.size; show b < wr.heap.size; omega)).trans hc; have hM2 := hM'; obtain ⟨bm', _, rfl, _, _, _, hs'⟩ := hM2; have Hin' := hide hin'; have Hs' := hide hs'; clear hin' hs'))
      go_wp2
      go_roundg (len - (k + 1))
      case measure => have := unhide Hgk; omega
      case rel =>
        refine ⟨k + 1, bm', T', rfl, by go_num, rfl, by omega, hM', ?_, hBl.drew.trans (hb'.mono hBl.size)⟩
        have hin := unhide Hin'
        rw [unhide Hz'] at hin
        exact (unhide HB).put (unhide Hwf) (unhide Hs') hin
    · obtain rfl : k = len := by omega
      clear hlt
      go_wp2_with fail
      refine (keys_any hM (by omega)).mono ?_
      rintro o w4 ⟨v, rfl, hrow, hb4⟩
      obtain ⟨g, c, rfl, hg, hgl, hnc, hcm, hcells⟩ := row_cells hrow (by omega)
      have hM4 := hM.up hb4
      have hB4 : Below w.heap.size w w4 := hBl.trans (hb4.mono hBl.size)
      have Hcells := hide hcells
      clear hrow hcells hM hBl hb4 hB3 hm3
      go_wp2_with fail
      refine (len_any hM4).mono ?_
      rintro o w' ⟨rfl, he⟩
      obtain rfl : w4 = w' := he.symm
      have hne : ((T.io.length : Int) == (T.io.length : Int)) = true := by simp
      go_wp2
      go_loopg [7] T.io.length (fun gk v7 wr => ∃ (j : Nat), v7 = .int .i64 (j : Int) ∧ gk = T.io.length - j ∧ j ≤ T.io.length ∧ Below w4.heap.size w4 wr)
      case atStart => exact ⟨0, rfl, rfl, Nat.zero_le _, Below.refl _ _⟩
      case round =>
        obtain ⟨j, rfl, hgk, hj, hB5⟩ := hrel
        have Hgk2 := hide hgk
        clear hgk
        have hM5 := hM4.up hB5
        by_cases hlt : j < T.io.length
        · obtain ⟨x, hx⟩ : ∃ x, T.io[j]? = some x := ⟨_, List.getElem?_eq_getElem hlt⟩
          have hcj : wr.cell? ⟨g, j, none⟩ = some (.int .u64 x.1) := (hB5.cell (p := ⟨g, j, none⟩) hgl).trans (unhide Hcells j x hx)
          have hrk : rk x.1 T.io = j := by obtain ⟨_, _, _, _, _, _, hs⟩ := hM5; exact rk_at hs hx
          have hj0 : (0 : Int) ≤ (j : Int) := Int.natCast_nonneg _
          have hj1 : (j : Int) < (T.io.length : Int) := by omega
          have Hx := hide hx
          have Hrk := hide hrk
          clear hx hrk
          go_wp2_with fail
          refine (mrank_any x.1 hM5 (by omega)).mono ?_
          rintro o w' ⟨f, rfl, hf, he⟩
          obtain rfl : wr = w' := he.symm
          rw [unhide Hrk]
          obtain rfl : f = true := hf.2 ⟨x, List.mem_of_getElem? (unhide Hx), rfl⟩
          clear hf
          cases j with
          | zero =>
            go_wp2
            go_quiet (fail)
            go_wp2
            go_roundg (T.io.length - 1)
            case measure => have := unhide Hgk2; omega
            case rel => exact ⟨1, by go_num, rfl, by omega, below_drewN hB5 _⟩
          | succ i =>
            obtain ⟨y, hy⟩ : ∃ y, T.io[i]? = some y := ⟨_, List.getElem?_eq_getElem (by omega)⟩
            have hci : wr.cell? ⟨g, i, none⟩ = some (.int .u64 y.1) := (hB5.cell (p := ⟨g, i, none⟩) hgl).trans (unhide Hcells i y hy)
            have hyx : y.1 < x.1 := by obtain ⟨_, _, _, _, _, _, hs⟩ := hM5; exact srt_at hs hy (unhide Hx)
            have hge : decide ((x.1 : Int) ≤ (y.1 : Int)) = false := decide_eq_false (Int.not_le.2 hyx)
            clear hy
            have hi0 : (0 : Int) ≤ (i : Int) := Int.natCast_nonneg _
            have hi1 : (i : Int) < (T.io.length : Int) := by omega
            have hw1 : IntKind.i64.wrap ((i : Int) + 1 - 1) = (i : Int) := by rw [wrapId (by omega) (by omega)]; omega
            have hw2 : IntKind.i64.wrap (i : Int) = (i : Int) := wrapId (by omega) (by omega)
            have hi2 : (0 : Int) ≤ (i : Int) + 1 := by omega
            have hi3 : (i : Int) + 1 < (T.io.length : Int) := by omega
            go_wp2
            go_quiet (fail)
            go_wp2
            go_roundg (T.io.length - (i + 1 + 1))
            case measure => have := unhide Hgk2; omega
            case rel => exact ⟨i + 1 + 1, by go_num, rfl, by omega, below_drewN hB5 _⟩
        · obtain rfl : j = T.io.length := by omega
          go_wp2
          obtain ⟨wo, rfl⟩ : ∃ wo : World, wo = wr := ⟨_, rfl⟩
          have hB6 : Below w.heap.size w wo := hB4.trans (hB5.mono hB4.size)
          go_loopg [10] k (fun gk v10 wr => ∃ (j : Nat), v10 = .int .i64 (j : Int) ∧ gk = k - j ∧ j ≤ k ∧ Below wo.heap.size wo wr)
          case atStart => exact ⟨0, rfl, rfl, Nat.zero_le _, Below.refl _ _⟩
          case round =>
            obtain ⟨j, rfl, hgk, hj, hB7⟩ := hrel
            have Hgk3 := hide hgk
            clear hgk
            have hB8 : Below w.heap.size w wr := hB6.trans (hB7.mono hB6.size)
            have hM8 := hM5.up hB7
            by_cases hlt3 : j < k
            · obtain ⟨rfl, hb⟩ := unhide Hrow (by omega)
              have hj0 : (0 : Int) ≤ (j : Int) := Int.natCast_nonneg _
              have hj1 : (j : Int) < (k : Int) := by omega
              have hc : wr.cell? ⟨b, off + j, none⟩ = some (.int .i64 (zs[j]?.getD 0)) := (hB8.cell (p := ⟨b, off + j, none⟩) hb).trans (unhide Hcell j (by omega))
              have hin : (bits64 (zs[j]?.getD 0), zs[j]?.getD 0) ∈ T.io := (unhide HB).1 j hlt3
              obtain ⟨z, hz'⟩ : ∃ z, z = zs[j]?.getD 0 := ⟨_, rfl⟩
              rw [← hz'] at hc hin
              have hu : IntKind.u64.wrap z = bits64 z := rfl
              have Hin := hide hin
              clear hz' hin
              go_wp2_with fail
              refine (get_any (bits64 z) hM8).mono ?_
              rintro o w' ⟨v, f, rfl, hgs, he⟩
              obtain rfl : wr = w' := he.symm
              obtain ⟨rfl, rfl⟩ : f = true ∧ v = z := by
                obtain ⟨_, _, _, _, _, _, hs⟩ := hM8
                rcases hgs with ⟨hf, hv⟩ | ⟨hf, _, hno⟩
                · exact ⟨hf, congrArg Prod.snd (hs.inj hv (unhide Hin) rfl)⟩
                · exact (hno ⟨_, unhide Hin, rfl⟩).elim
              clear hgs
              go_wp2
              go_roundg (k - (j + 1))
              case measure => have := unhide Hgk3; omega
              case rel => exact ⟨j + 1, by go_num, rfl, by omega, hB7⟩
            · obtain rfl : j = k := by omega
              go_wp2
              go_ret
              exact ⟨rfl, hB8⟩

theorem lt_of_cell {w : World} {a : Addr} {v : Value} (h : w.cell? a = some v) : a.block < w.heap.size := by
  by_cases hl : a.block < w.heap.size
  · exact hl
  · have e : w.heap[a.block]? = none := Array.getElem?_eq_none (by omega)
    simp [World.cell?, e] at h
/-- What the walk is told of a slice of integers that came in. -/
def IsRow (k : IntKind) (w : World) (a : Option Addr) (len cap : Nat) (zs : List Int) : Prop :=
  (a = none ∧ len = 0 ∧ cap = 0 ∧ zs = []) ∨
  ∃ x, a = some x ∧ len ≤ cap ∧ cap ≤ maxLen ∧ zs.length = cap ∧ (∀ i, i < zs.length → w.cell? (x.add i) = some (.int k (zs.getD i 0))) ∧ ∀ n ∈ zs, (Lit.int k n).wf = true
theorem IsRow.form {w : World} {a : Option Addr} {len cap : Nat} {zs : List Int} (h : IsRow .i64 w a len cap zs) :
    len ≤ cap ∧ (∀ n ∈ zs, (Lit.int .i64 n).wf = true) ∧ ∃ b off, (0 < len → a = some ⟨b, off, none⟩ ∧ b < w.heap.size) ∧ ∀ i, i < len → w.cell? ⟨b, off + i, none⟩ = some (.int .i64 (zs[i]?.getD 0)) := by
  rcases h with ⟨rfl, rfl, rfl, rfl⟩ | ⟨x, rfl, h1, h2, h3, h4, h5⟩
  · exact ⟨Nat.le_refl _, fun n hn => by simp at hn, 0, 0, fun h => by omega, fun i hi => by omega⟩
  · by_cases hp : 0 < zs.length
    · obtain ⟨b, off, rfl, hc⟩ := ints_at h4 hp
      refine ⟨h1, h5, b, off, fun _ => ⟨rfl, ?_⟩, fun i hi => ?_⟩
      · have h0 := hc 0 hp
        exact lt_of_cell h0
      · rw [← List.getD_eq_getElem?_getD]
        exact hc i (by omega)
    · exact ⟨h1, h5, 0, 0, fun h => by omega, fun i hi => by omega⟩
theorem walk (a0 : Option Addr) (len0 cap0 : Nat) (z0 : List Int) (w : World) (w0 : IsRow .i64 w a0 len0 cap0 z0) (hreach : cap0 * 8 ≤ 140737488351232) :
    Calls Try.prog 3 #[.slice a0 len0 cap0] w fun e w' => e = .returned (.bool true) ∧ Below w.heap.size w w' := by
  obtain ⟨h1, h2, b, off, h3, h4⟩ := w0.form
  exact walk_row a0 b off len0 cap0 z0 w h3 h1 h4 h2 hreach
end Go.Proofs.Ytonjilcbeabgeaa
