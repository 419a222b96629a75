import Derived.Test.YtmapmegecdgcpaaDoorZMJ
import Derived.Test.YtmapmegecdgcpaaDoorSOi
namespace Go.Proofs.YtmapmegecdgcpaaDoor
open Go.RowKit
attribute [local go_sem ↓] Go.wp_at_zero Go.wp_at_succ

/-- What is written behind the token of a number. -/
def fiF (zs : List Int) (i : Nat) : List Nat := if zs = [] then [32] else fillF (zs.getD (i % zs.length) 0)
theorem fiF_mem (zs : List Int) (i : Nat) : fiF zs i ∈ fills := by
  unfold fiF
  split
  · decide
  · exact fillF_mem _
theorem tokF_place {s : ByteArray} : ∀ (f k n q c : Nat), k ≤ s.size → tokF s f k n = .inr (q, c) → q ≤ s.size := by
  intro f
  induction f with
  | zero => intro k n q c _ h; cases h; exact Nat.zero_le _
  | succ f ih =>
    intro k n q c hk h
    have hp := passF_le s s.size k hk
    rw [tokF] at h
    split at h
    · rw [← (Prod.mk.inj (Sum.inr.inj h)).1]; exact hp.2
    · split at h
      · cases h
      · split at h
        · rw [← (Prod.mk.inj (Sum.inr.inj h)).1]; exact hp.2
        · split at h
          · rename_i h1 h2 h3 h4
            have hol := oneF_le (by omega) h4
            cases hr : tokF s f (oneF s (passF s s.size k).1).2.1 (n + 1) with
            | inl l => rw [hr] at h; cases h
            | inr e =>
              obtain ⟨a, b⟩ := e
              rw [hr] at h
              obtain ⟨rfl, rfl⟩ := Prod.mk.inj (Sum.inr.inj h)
              exact ih _ _ _ _ hol.2 hr
          · rw [← (Prod.mk.inj (Sum.inr.inj h)).1]; exact hp.2
theorem utf_le {s : ByteArray} : ∀ (m k : Nat), s.size - k ≤ m → utfAt s k ≤ (s.size : Int) := by
  intro m
  induction m with
  | zero => intro k hm; rw [utf_end (by omega)]; omega
  | succ m ih =>
    intro k hm
    by_cases hk : k < s.size
    · by_cases h0 : chAt s k = 0
      · rw [utf_bad hk h0]; omega
      · rw [utf_step hk h0]; exact ih _ (by omega)
    · rw [utf_end hk]; omega
theorem tokR_place {s : ByteArray} {q c : Nat} (h : tokR s = .inr (q, c)) : q ≤ s.size := by
  unfold tokR at h
  split at h
  · rw [← (Prod.mk.inj (Sum.inr.inj h)).1]; exact Nat.zero_le _
  · split at h
    · have := utf_le (s := s) _ 0 (Nat.le_refl _)
      rw [← (Prod.mk.inj (Sum.inr.inj h)).1]
      omega
    · exact tokF_place _ 0 0 q c (by omega) h
theorem tokR_struct {s : ByteArray} {ts : List Tok} (h : tokR s = .inl ts) : s.size ≤ 65536 ∧ utfAt s 0 = -1 ∧ ∃ pre, ts = pre ++ [endT s] ∧ (∀ t ∈ pre, ∃ e, GoodT s t e) ∧ pre.length ≤ 16383 ∧ Rise s 0 ts := by
  unfold tokR at h
  split at h
  · cases h
  · split at h
    · cases h
    · rename_i h1 h2
      obtain ⟨pre, e1, e2, e3, e4⟩ := tok_struct _ 0 0 ts (by omega) (by omega) h
      refine ⟨by omega, ?_, pre, e1, e2, by omega, e4⟩
      have h3 : ∀ (m k : Nat), s.size - k ≤ m → -1 ≤ utfAt s k := by
        intro m
        induction m with
        | zero => intro k hm; rw [utf_end (by omega)]; decide
        | succ m ih =>
          intro k hm
          by_cases hk : k < s.size
          · by_cases h0 : chAt s k = 0
            · rw [utf_bad hk h0]; omega
            · rw [utf_step hk h0]; exact ih _ (by omega)
          · rw [utf_end hk]; decide
      have := h3 _ 0 (Nat.le_refl _)
      omega
theorem Rise.head {s : ByteArray} {k i : Nat} {ts : List Tok} {t : Tok} (h : Rise s k (ts.drop i)) (ht : ts[i]? = some t) : k ≤ t.place ∧ t.place + t.text.size ≤ s.size ∧ s.extract t.place (t.place + t.text.size) = t.text ∧ 1 ≤ t.kind ∧ t.kind ≤ 5 ∧ (t.text.size = 0 ↔ i + 1 = ts.length) ∧ Rise s (t.place + t.text.size) (ts.drop (i + 1)) := by
  have hi := (List.getElem?_eq_some_iff.1 ht).1
  have hg : ts[i] = t := by rw [List.getElem?_eq_getElem hi] at ht; exact Option.some.inj ht
  rw [List.drop_eq_getElem_cons hi, hg] at h
  obtain ⟨h1, h2, h3, h4, h5, h6, h7⟩ := h
  refine ⟨h1, h2, h3, h4, h5, ?_, h7⟩
  rw [h6, List.drop_eq_nil_iff]
  omega
theorem flat_step {fi : Nat → List Nat} {ts : List Tok} {i : Nat} {t : Tok} (ht : ts[i]? = some t) : flatB fi i (ts.drop i) = strN t.text ++ fi i ++ flatB fi (i + 1) (ts.drop (i + 1)) := by
  have hi := (List.getElem?_eq_some_iff.1 ht).1
  have hg : ts[i] = t := by rw [List.getElem?_eq_getElem hi] at ht; exact Option.some.inj ht
  rw [List.drop_eq_getElem_cons hi, hg]
  rfl
set_option maxRecDepth 100000 in
set_option maxHeartbeats 8000000 in
theorem scanPlaces_any {W : World} {s : ByteArray} {v : Value} {zs : List Int} (hF : HasF W) (hE : HasE W) (hM : HasM W) (hs0 : s.size ≤ 140737488351232) (h : HasI W v zs) (hzb : ∀ z ∈ zs, -9223372036854775808 ≤ z ∧ z ≤ 9223372036854775807) (hzl : zs.length ≤ 140737488351232) :
    Calls Tryd.prog 3 #[.string s, v] W fun e W' => e = .returned (.bool true) ∧ Below W.heap.size W W' := by
  obtain ⟨i0, hi, hz0, hz1, hz2⟩ := info_parts Tryd.infoByte
  obtain ⟨za, zc, rfl, -, hz3⟩ := id h
  have HZ3 := hide hz3
  have HF := hide hF
  have HE := hide hE
  have HM := hide hM
  have Hzb := hide hzb
  clear hz3 h hzb
  go_enter Tryd.func3, Tryd.ntmps3
  go_wp2_with fail
  refine (head_any hF hE hM).mono ?_
  rintro e w1 ⟨rfl, hb1⟩
  have Hb1 := hide hb1
  clear hb1 hF hE hM
  go_wp2_with fail
  refine (tokens_any ((unhide HF).up (unhide Hb1)) ((unhide HE).up (unhide Hb1)) ((unhide HM).up (unhide Hb1) (unhide HM).1) s).mono ?_
  intro e w2 h2
  have hb2 := h2.1
  obtain ⟨v, k, c, ts, rfl, ht, hr⟩ := h2.ret
  have Hb2 : Hid (Below W.heap.size W w2) := (unhide Hb1).trans (hb2.mono (unhide Hb1).size)
  clear h2 hb2 Hb1
  rcases hr with ⟨rfl, rfl, hr⟩ | ⟨hc, rfl, rfl, hr⟩
  · obtain ⟨hs, hu, pre, hts, hgood, hpl, hrise⟩ := tokR_struct hr
    have htl : ts.length = pre.length + 1 := by rw [hts]; simp
    have hlast : ts[ts.length - 1]? = some (endT s) := by rw [htl, hts]; simp
    have Ht := hide ht
    obtain ⟨ta, tc, rfl, -, hx⟩ := id ht
    obtain ⟨tg, rfl, htg, hx⟩ := hx (by omega)
    obtain ⟨l1, l2, l3⟩ := hx _ _ hlast
    have Hx := hide hx
    have Hu := hide hu
    have Hts := hide hts
    have Hgood := hide hgood
    have HR0 := hide hrise
    have z1 : (1 : Int) ≤ (ts.length : Int) := by omega
    have z2 : decide ((ts.length : Int) < 1) = false := by simp; omega
    have z3 : (0 : Int) ≤ (ts.length : Int) - 1 := by omega
    have z4 : (ts.length : Int) - 1 < (ts.length : Int) := by omega
    have z5 : ((ts.length : Int) - 1).toNat = ts.length - 1 := by omega
    have Hb0 : Hid (Bytes w2.heap.size w2 (.slice none 0 0) []) := bytes_nil _ _
    have Hb00 : Hid (Below w2.heap.size w2 w2) := Below.refl _ _
    have hl1 : w2.cell? ⟨tg, (ts.length - 1) * 3, none⟩ = some (.int .i64 5) := l1
    have hl2 : w2.cell? ⟨tg, (ts.length - 1) * 3 + 1, none⟩ = some (.int .i64 (s.size : Int)) := l2
    have hl3 : w2.cell? ⟨tg, (ts.length - 1) * 3 + 2, none⟩ = some (.string ⟨#[]⟩) := l3
    have Htl := hide htl
    have htlb : ts.length ≤ 16384 := by omega
    clear ht hx hu hts hgood hrise hlast l1 l2 l3 hr htl hpl
    go_wp2
    go_loopg [8, 9, 10, 11] ts.length (fun gk v8 v9 v10 _ wr => ∃ (i la : Nat) (bs : List Nat) (va : Option Addr) (vc : Nat), v8 = .int .i64 (la : Int) ∧ v9 = .slice va bs.length vc ∧ v10 = .int .i64 (i : Int) ∧ gk = ts.length - i ∧ i ≤ ts.length ∧ bs.length ≤ i * 65549 ∧ Hid (Rise s la (ts.drop i)) ∧ Hid (Bytes w2.heap.size wr (.slice va bs.length vc) bs) ∧ Hid (Byt bs) ∧ Hid (flatB (fiF zs) 0 ts = bs ++ flatB (fiF zs) i (ts.drop i)) ∧ Hid (Below w2.heap.size w2 wr))
    case atStart => exact ⟨0, 0, [], none, 0, rfl, rfl, rfl, rfl, by omega, by simp, HR0, Hb0, fun x hx => by simp at hx, rfl, Hb00⟩
    case round =>
      obtain ⟨i, la, bs, va, vc, rfl, rfl, rfl, hgk, hi2, hbl, HRi, HY, HBy, Hfl, HB⟩ := hrel
      have Hgk := hide hgk
      clear hgk HR0 Hb0 Hb00 hl1 hl2 hl3
      by_cases hlt : i < ts.length
      · obtain ⟨t, ht⟩ : ∃ t, ts[i]? = some t := ⟨_, List.getElem?_eq_getElem hlt⟩
        obtain ⟨r1, r2, r3, r4, r5, r6, r7⟩ := (unhide HRi).head ht
        have hfs := flat_step (fi := fiF zs) ht
        obtain ⟨y1, y2, y3⟩ := unhide Hx i t ht
        have x1 := ((unhide HB).cell (p := ⟨tg, i * 3, none⟩) htg).trans y1
        have x2 := ((unhide HB).cell (p := ⟨tg, i * 3 + 1, none⟩) htg).trans y2
        have x3 := ((unhide HB).cell (p := ⟨tg, i * 3 + 2, none⟩) htg).trans y3
        clear y1 y2 y3
        obtain ⟨K, P, T⟩ := t
        simp only at r1 r2 r3 r4 r5 r6 r7 x1 x2 x3 hfs
        have HR7 := hide r7
        have Hfs := hide hfs
        have hx : s.extract P (P + T.size) = T := r3
        have i0' : (0 : Int) ≤ (i : Int) := Int.natCast_nonneg _
        have i1' : (i : Int) < (ts.length : Int) := by omega
        have p0 : (0 : Int) ≤ (P : Int) := Int.natCast_nonneg _
        have d1 : decide (P < la) = false := by simp; omega
        have d2 : decide ((s.size : Int) - (T.size : Int) < (P : Int)) = false := by simp; omega
        have d3 : decide ((K : Int) < 1) = false := by simp; omega
        have d4 : decide ((5 : Int) < (K : Int)) = false := by simp; omega
        have p1 : (P : Int) ≤ (P : Int) + (T.size : Int) := by omega
        have p2 : (P : Int) + (T.size : Int) ≤ (s.size : Int) := by omega
        clear r3 r7 hfs ht
        have hTs : T.size ≤ 65536 := by omega
        obtain ⟨eb, e0, d5⟩ : ∃ eb, T.toList.isEmpty = eb ∧ ((i : Int) == (ts.length : Int) - 1) = eb := by
          by_cases hlast : i + 1 = ts.length
          · obtain rfl := isEmptyT (r6.2 hlast)
            exact ⟨true, by rw [ByteArray.toList_eq]; rfl, by simp; omega⟩
          · exact ⟨false, isEmptyF (fun q => hlast (r6.1 q)), beq_eq_false_iff_ne.2 (by omega)⟩
        have eb2 : (eb != eb) = false := by simp
        clear r6
        go_wp2
        go_quiet (fail)
        have cX1 : ((wr.alloc (.cells #[.int .i64 (K : Int), .int .i64 (P : Int), .string T] 29)).drewN nq).cell? ⟨wr.heap.size, 1, none⟩ = some (.int .i64 (P : Int)) := cell_of_row _ _ _ _ _ _ (heap_new wr _)
        have cX2 : ((wr.alloc (.cells #[.int .i64 (K : Int), .int .i64 (P : Int), .string T] 29)).drewN nq).cell? ⟨wr.heap.size, 2, none⟩ = some (.string T) := cell_of_row _ _ _ _ _ _ (heap_new wr _)
        have HBX : Hid (Below w2.heap.size w2 ((wr.alloc (.cells #[.int .i64 (K : Int), .int .i64 (P : Int), .string T] 29)).drewN nq)) := below_drewN ((unhide HB).alloc (unhide HB).size _) nq
        have HBw : Below wr.heap.size wr ((wr.alloc (.cells #[.int .i64 (K : Int), .int .i64 (P : Int), .string T] 29)).drewN nq) := below_drewN ((Below.refl _ _).alloc (Nat.le_refl _) _) nq
        have HYX := hide ((unhide HY).up HBw)
        clear HBw HY HB x1 x2 x3
        generalize (wr.alloc (.cells #[.int .i64 (K : Int), .int .i64 (P : Int), .string T] 29)).drewN nq = X at *
        generalize wr.heap.size = xb at *
        have hsz : w2.heap.size ≤ X.heap.size := (unhide HBX).size
        have O1 : Hid (bs.length + T.size ≤ maxLen) := by show _ ≤ _; unfold maxLen; omega
        have O2 : Hid (bs.length + T.size ≤ 140737488355328) := by show _ ≤ _; omega
        obtain ⟨bs4, hbs4⟩ : ∃ l, l = bs ++ strN T := ⟨_, rfl⟩
        have hbt : bs4.length ≤ i * 65549 + 65536 := by rw [hbs4, List.length_append, strN_len]; omega
        have HBy4 : Hid (Byt bs4) := by show Byt _; rw [hbs4]; exact (unhide HBy).append (strN_byt T)
        have Hb4 := hide hbs4
        clear hbs4
        clear d1 d2 d3 d4 d5 e0 eb2
        by_cases hzn : zs.length = 0
        · have hzs : zs = [] := List.eq_nil_of_length_eq_zero hzn
          have hfi : fiF zs i = [32] := by unfold fiF; rw [if_pos hzs]
          have Hfi := hide hfi
          have q0 : decide (0 < zs.length) = false := by simp; omega
          have GO1 : True := trivial
          have GO2 : True := trivial
          have O3 : Hid (bs4.length + 1 ≤ maxLen) := by show _ ≤ _; unfold maxLen; omega
          have O4 : Hid ((bs4.length + 1) * 1 ≤ 140737488355328) := by show _ ≤ _; omega
          clear hfi hzs hzn
          go_wp2_with (first | (at_builtin; clear GO1; refine wpList_append_str_at rfl _ _ 30 9 rfl w2.heap.size 5 i0 Tryd.underlying30 Tryd.underlying9 hi hz0 hz1 hz2 _ _ _ rfl (unhide HYX) T rfl (unhide O1) (unhide O2) hsz ?_; intro v4 w4 hown4 hgrow4 hat4; have hput4 := putE_str (ys := strN T) hown4 (by rw [strN_len]) (strCells_nb _) hgrow4 hat4; obtain ⟨v5, hv5, hby, hext⟩ := hput4; obtain rfl : v4 = v5 := (by simpa using hv5); have HB4 : Hid (Below w2.heap.size w2 w4) := (unhide HBX).trans (hext.below hsz (unhide HYX).base_le); rw [← unhide Hb4] at hby; obtain ⟨a4, c4, rfl⟩ : ∃ a c, v4 = .slice a bs4.length c := (by obtain ⟨a, c, e, _⟩ := hby.has; exact ⟨a, c, e⟩); have HY4 := hide hby; have hsz4 : w2.heap.size ≤ w4.heap.size := (unhide HB4).size; clear hby hext hown4 hgrow4 hat4 hv5) | (at_builtin; clear GO2; refine wpList_append_own_at _ rfl _ _ 30 rfl w2.heap.size 5 i0 (.int .u8 0) 1 1 Tryd.underlying30 hi hz0 hz1 hz2 rfl (by decide) _ _ _ rfl ((unhide HY4).alloc _) ⟨w4.heap.size, 0, none⟩ 1 1 [.int .u8 32] rfl rfl (cells_lit _ _ _) (by simp [Value.oneCell']) (unhide O3) (unhide O4) (by rw [World.size_alloc]; omega) ?_; intro v6 w6 hown6 hgrow6 _ hat6; obtain ⟨v7, hv7, hby6, hext6⟩ := putE_lit (ys := [32]) hown6 rfl rfl hgrow6 hat6; obtain rfl : v6 = v7 := (by simpa using hv7); have HB6 : Hid (Below w2.heap.size w2 w6) := (unhide HB4).trans (hext6.below hsz4 (unhide HY4).base_le); obtain ⟨a6, c6, rfl⟩ : ∃ a c, v6 = .slice a (bs4 ++ [32]).length c := (by obtain ⟨a, c, e, _⟩ := hby6.has; exact ⟨a, c, e⟩); have HY6 := hide hby6; clear hby6 hext6 hown6 hgrow6 hat6 hv7))
          have Hfl6 : Hid (flatB (fiF zs) 0 ts = (bs4 ++ [32]) ++ flatB (fiF zs) (i + 1) (ts.drop (i + 1))) := by show _ = _; rw [unhide Hfl, unhide Hfs, unhide Hfi, unhide Hb4]; simp
          go_roundg (ts.length - (i + 1))
          case measure => have := unhide Hgk; omega
          case rel => exact ⟨i + 1, P + T.size, bs4 ++ [32], a6, c6, by go_num, by first | rfl | simp, by go_num, rfl, by omega, by rw [List.length_append]; simp only [List.length_singleton]; omega, HR7, HY6, (unhide HBy4).append (fill_byt (f := [32]) (by decide)), Hfl6, HB6⟩
        · have hzp : 0 < zs.length := by omega
          have q0 : decide (0 < zs.length) = true := by simp; omega
          obtain ⟨gz, oz, rfl, hgz, hzc⟩ := unhide HZ3 hzp
          have hmod : i % zs.length < zs.length := Nat.mod_lt _ hzp
          obtain ⟨j, hj⟩ : ∃ j, i % zs.length = j := ⟨_, rfl⟩
          rw [hj] at hmod
          obtain ⟨z, hz⟩ : ∃ z, zs[j]? = some z := ⟨_, List.getElem?_eq_getElem hmod⟩
          have hzW : w2.cell? ⟨gz, oz + j, none⟩ = some (.int .i64 z) := ((unhide Hb2).cell (p := ⟨gz, oz + j, none⟩) hgz).trans (hzc j z hz)
          have hgz2 : gz < w2.heap.size := Nat.lt_of_lt_of_le hgz (unhide Hb2).size
          have htm : (i : Int).tmod (zs.length : Int) = (j : Int) := by rw [Int.tmod_eq_emod_of_nonneg (Int.natCast_nonneg _), ← hj]; exact (Int.natCast_emod _ _).symm
          have hzz := unhide Hzb z (List.mem_of_getElem? hz)
          have hfi : fiF zs i = fillF z := by unfold fiF; rw [if_neg (fun q => by rw [q] at hzp; simp at hzp), hj, List.getD_eq_getElem?_getD, hz]; rfl
          have Hfi := hide hfi
          have Hzz := hide hzz
          clear hzc hz hfi hj hzz
          go_wp2_with (at_builtin; refine wpList_append_str_at rfl _ _ 30 9 rfl w2.heap.size 5 i0 Tryd.underlying30 Tryd.underlying9 hi hz0 hz1 hz2 _ _ _ rfl (unhide HYX) T rfl (unhide O1) (unhide O2) hsz ?_; intro v4 w4 hown4 hgrow4 hat4; have hput4 := putE_str (ys := strN T) hown4 (by rw [strN_len]) (strCells_nb _) hgrow4 hat4; obtain ⟨v5, hv5, hby, hext⟩ := hput4; obtain rfl : v4 = v5 := (by simpa using hv5); have HB4 : Hid (Below w2.heap.size w2 w4) := (unhide HBX).trans (hext.below hsz (unhide HYX).base_le); rw [← unhide Hb4] at hby; obtain ⟨a4, c4, rfl⟩ : ∃ a c, v4 = .slice a bs4.length c := (by obtain ⟨a, c, e, _⟩ := hby.has; exact ⟨a, c, e⟩); have HY4 := hide hby; have hz4 : w4.cell? ⟨gz, oz + j, none⟩ = some (.int .i64 z) := ((unhide HB4).cell (p := ⟨gz, oz + j, none⟩) hgz2).trans hzW; clear hby hext hown4 hgrow4 hat4 hv5)
          refine (fill_any w4 z (unhide Hzz)).mono ?_
          rintro e w5 ⟨rfl, hb5⟩
          have HY5 := hide ((unhide HY4).up hb5)
          have HB5 : Hid (Below w2.heap.size w2 w5) := (unhide HB4).trans (hb5.mono (unhide HB4).size)
          have hsz5 : w2.heap.size ≤ w5.heap.size := (unhide HB5).size
          have hfm := fillF_mem z
          have hfl13 := fill_len _ hfm
          have Hfb := hide (fill_byt hfm)
          have hofz : (ofN (fillF z)).size = (fillF z).length := ofN_size _
          have O3 : Hid (bs4.length + (ofN (fillF z)).size ≤ maxLen) := by show _ ≤ _; rw [hofz]; unfold maxLen; omega
          have O4 : Hid (bs4.length + (ofN (fillF z)).size ≤ 140737488355328) := by show _ ≤ _; rw [hofz]; omega
          have Hso := hide (strN_of (fill_byt hfm))
          have Hofz := hide hofz
          clear hb5 hfm hofz hz4 HY4 HB4
          generalize fillF z = ff at *
          go_wp2_with (at_builtin; refine wpList_append_str_at rfl _ _ 30 9 rfl w2.heap.size 5 i0 Tryd.underlying30 Tryd.underlying9 hi hz0 hz1 hz2 _ _ _ rfl (unhide HY5) (ofN ff) rfl (unhide O3) (unhide O4) hsz5 ?_; intro v6 w6 hown6 hgrow6 hat6; have hput6 := putE_str (ys := ff) hown6 (by rw [unhide Hofz]) ((strCells_nb _).trans (by rw [unhide Hso])) hgrow6 hat6; obtain ⟨v7, hv7, hby6, hext6⟩ := hput6; obtain rfl : v6 = v7 := (by simpa using hv7); have HB6 : Hid (Below w2.heap.size w2 w6) := (unhide HB5).trans (hext6.below hsz5 (unhide HY5).base_le); obtain ⟨a6, c6, rfl⟩ : ∃ a c, v6 = .slice a (bs4 ++ ff).length c := (by obtain ⟨a, c, e, _⟩ := hby6.has; exact ⟨a, c, e⟩); have HY6 := hide hby6; clear hby6 hext6 hown6 hgrow6 hat6 hv7)
          have Hfl6 : Hid (flatB (fiF zs) 0 ts = (bs4 ++ ff) ++ flatB (fiF zs) (i + 1) (ts.drop (i + 1))) := by show _ = _; rw [unhide Hfl, unhide Hfs, unhide Hfi, unhide Hb4]; simp
          go_roundg (ts.length - (i + 1))
          case measure => have := unhide Hgk; omega
          case rel => exact ⟨i + 1, P + T.size, bs4 ++ ff, a6, c6, by go_num, by first | rfl | simp, by go_num, rfl, by omega, by rw [List.length_append]; omega, HR7, HY6, (unhide HBy4).append (unhide Hfb), Hfl6, HB6⟩
      · obtain rfl : i = ts.length := by omega
        have hbs : flatB (fiF zs) 0 ts = bs := by
          have := unhide Hfl
          rw [List.drop_eq_nil_of_le (Nat.le_refl _)] at this
          simpa [flatB] using this
        have hstr := strN_of (unhide HBy)
        obtain ⟨pre2, hts2, hgood2, hpl2⟩ : ∃ pre, ts = pre ++ [endT s] ∧ (∀ t ∈ pre, ∃ e, GoodT s t e) ∧ pre.length ≤ 16383 := ⟨pre, unhide Hts, unhide Hgood, by have := unhide Htl; omega⟩
        obtain ⟨⟨ts', t1, t2⟩, t3⟩ := retok (s := s) (B := ofN bs) (fi := fiF zs) (fiF_mem zs) (unhide Hu) pre2 0 0 0 hgood2 (by rw [List.drop_zero, hstr, ← hts2]; exact hbs.symm) (by omega)
        rw [← hts2] at t2
        have hcv := conv_any (unhide HY).has (unhide HBy)
        have HB2 : Hid (Below W.heap.size W wr) := (unhide Hb2).trans ((unhide HB).mono (unhide Hb2).size)
        have htok := tokens_any ((unhide HF).up (unhide HB2)) ((unhide HE).up (unhide HB2)) ((unhide HM).up (unhide HB2) (unhide HM).1) (ofN bs)
        have HTw := hide ((unhide Ht).up (unhide HB))
        have T1 := hide t1
        have T2 := hide t2
        have T3 := hide t3
        have Htok := hide htok
        clear hbs hstr hts2 hgood2 hpl2 t1 t2 t3 htok hlt
        go_wp2_with fail
        refine (unhide Htok).mono ?_
        rintro e w3 ⟨hb3, hq⟩
        have HB3 : Hid (Below W.heap.size W w3) := (unhide HB2).trans (hb3.mono (unhide HB2).size)
        by_cases hlong : 65536 < (ofN bs).size
        · rw [tokR_long hlong] at hq
          obtain ⟨-, rfl⟩ := hq
          have el2 := ltT (a := (ofN bs).size) (k := 65536) (by omega)
          clear hb3 hlong
          go_wp2
          go_ret
          exact ⟨rfl, unhide HB3⟩
        · rw [tokR_ok hlong (by rw [unhide T3]; decide), unhide T1] at hq
          obtain ⟨v', rfl, h3⟩ := hq
          have el2 := ltF (a := (ofN bs).size) (k := 65536) (by omega)
          have hkk := hide (kinds_any ((unhide HTw).up hb3) (hasTok_of h3) (unhide T2) (by omega))
          obtain ⟨av, cv, rfl⟩ := rowShape h3
          clear hb3 hlong h3 T1 T2 T3
          go_wp2_with fail
          refine (unhide hkk).mono ?_
          rintro e w4 ⟨rfl, n4, rfl⟩
          go_wp2
          go_ret
          exact ⟨rfl, below_drewN (unhide HB3) _⟩
  · have hk := tokR_place hr
    have c0 : ((c : Int) != 0) = true := by simp; omega
    have k1 : decide (k ≤ s.size) = true := by simp; omega
    have k2 : decide (0 ≤ (k : Int)) = true := by simp
    clear ht hr hc hk
    go_wp2
    go_ret
    exact ⟨rfl, unhide Hb2⟩
end Go.Proofs.YtmapmegecdgcpaaDoor
