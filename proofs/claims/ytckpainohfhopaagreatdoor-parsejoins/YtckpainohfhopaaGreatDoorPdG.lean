import Derived.Test.YtckpainohfhopaaGreatDoorJ46

namespace Go.Proofs.YtckpainohfhopaaGreatDoor
open Go.RowKit
attribute [local go_sem ↓] Go.wp_at_zero Go.wp_at_succ

set_option maxRecDepth 100000 in
set_option maxHeartbeats 2000000 in
theorem joins_core {W : World} (hF : HasF W) (hE : HasE W) (hM : HasM W) {v : Value} {l : List ByteArray} (h : HasS W v l) (hl : l.length ≤ 140737488351232) (hkn : Calls Tryz.prog 7 #[] W (SameP W)) : Calls Tryz.prog 6 #[v] W (SameP W) := by
  obtain ⟨a, c, rfl, hm, h3⟩ := id h
  have H3 := hide h3
  have HF := hide hF
  have HE := hide hE
  have HM := hide hM
  have HK := hide hkn
  clear hm h3 h hF hE hM hkn
  go_enter Tryz.func6, Tryz.ntmps6
  go_wp2_with fail
  refine (unhide HK).mono ?_
  rintro e w1 ⟨rfl, hb1⟩
  have Hb1 := hide hb1
  clear hb1 HK
  go_wp2
  go_loopg [3] l.length (fun gk v3 wr => ∃ (k : Nat), v3 = .int .i64 (k : Int) ∧ gk = l.length - k ∧ k ≤ l.length ∧ Hid (Below W.heap.size W wr))
  case atStart => exact ⟨0, rfl, rfl, by omega, Hb1⟩
  case round =>
    obtain ⟨k, rfl, hgk, hk, HB⟩ := hrel
    have Hgk := hide hgk
    clear hgk
    by_cases hlt : k < l.length
    · obtain ⟨g, off, rfl, hg, hc⟩ := unhide H3 (by omega)
      obtain ⟨s, hs⟩ : ∃ s, l[k]? = some s := ⟨_, List.getElem?_eq_getElem hlt⟩
      have hcW := hc k s hs
      have HcW := hide hcW
      have hcell : wr.cell? ⟨g, off + k, none⟩ = some (.string s) := ((unhide HB).cell (p := ⟨g, off + k, none⟩) hg).trans hcW
      clear hc hs hcW
      go_wp2_with fail
      refine (parse_any ((unhide HF).up (unhide HB)) ((unhide HE).up (unhide HB)) ((unhide HM).up (unhide HB) (unhide HM).1) s).mono ?_
      intro e w2 hr
      obtain ⟨ia, il, ic, ma, ml, mc, ea, el, ec, rfl, hn, hb2⟩ := rdp_form hr
      obtain ⟨fl, hfl⟩ : ∃ x, flOf (parseF s) = x := ⟨_, rfl⟩
      obtain ⟨er, her⟩ : ∃ x, erOf (parseF s) = x := ⟨_, rfl⟩
      obtain ⟨sp, hsp⟩ : ∃ x, spOf (parseF s) = x := ⟨_, rfl⟩
      rw [hfl] at hn
      rw [hfl, her, hsp]
      have HFl := hide hfl
      have HEr := hide her
      have HSp := hide hsp
      have hB2 := (unhide HB).trans (hb2.mono (unhide HB).size)
      have hT := twoB_new2 hB2 #[.string fl.pkg, .slice ia il ic, .slice ma ml mc, .slice ea el ec] #[.int .i64 er, .int .i64 0, .int .i64 sp, .string ⟨#[]⟩] 27 30
      have hbS := (twoB_new2 (Below.refl w2.heap.size w2) #[.string fl.pkg, .slice ia il ic, .slice ma ml mc, .slice ea el ec] #[.int .i64 er, .int .i64 0, .int .i64 sp, .string ⟨#[]⟩] 27 30).bl
      have HN := hide (hn.up hbS)
      have HT := hide hT
      have hcell2 : ∀ o o', ((w2.alloc o).alloc o').cell? ⟨g, off + k, none⟩ = some (.string s) := fun o o' => (World.cell?_alloc_lt _ _ _ (by rw [World.size_alloc]; show g < _; have := hB2.size; omega)).trans ((World.cell?_alloc_lt _ _ _ (by show g < _; have := hB2.size; omega)).trans ((hB2.cell (p := ⟨g, off + k, none⟩) hg).trans (unhide HcW)))
      clear hr hn hb2 hB2 hT hbS hcell hfl her hsp
      go_wp2_with fail
      have hZ := (unhide HT).bl
      refine (tokens_any ((unhide HF).up hZ) ((unhide HE).up hZ) ((unhide HM).up hZ (unhide HM).1) s).mono ?_
      rintro e w3 ⟨hb3, htk⟩
      have HN3 := hide ((unhide HN).up hb3)
      have HT3 := hide ((unhide HT).up hb3)
      have X3 := (unhide HT3).x
      have Y3 := (unhide HT3).y
      cases ht : tokR s with
      | inr p =>
        obtain ⟨kk, cc⟩ := p
        rw [ht] at htk
        obtain ⟨hc, rfl⟩ := htk
        have hp : parseF s = .error ((cc : Int), (kk : Int)) := by unfold parseF; rw [ht]
        obtain rfl : ⟨⟨#[]⟩, [], [], []⟩ = fl := by rw [← unhide HFl, hp]; rfl
        obtain rfl : (cc : Int) = er := by rw [← unhide HEr, hp]; rfl
        obtain rfl : (kk : Int) = sp := by rw [← unhide HSp, hp]; rfl
        have hcz : ((cc : Int) != 0) = true := by simp; omega
        clear hZ hb3 ht hp HN HT hcell2 hc HFl HEr HSp
        go_wp2_with fail
        refine (sameFile_any (unhide HN3) (nf_zero (fun _ => True) w3)).mono ?_
        rintro e w4 ⟨rfl, hb4⟩
        have HB4 := hide ((unhide HT3).up hb4).bl
        clear hb4 X3 Y3 HT3 HN3
        go_wp2
        go_roundg (l.length - (k + 1))
        case measure => have := unhide Hgk; omega
        case rel => exact ⟨k + 1, by go_num, rfl, by omega, HB4⟩
      | inl ts =>
        rw [ht] at htk
        obtain ⟨v, rfl, hrow⟩ := htk
        have hp : parseF s = toksF (ts.map Tok.tk) := by unfold parseF; rw [ht]
        have htx : ∀ t ∈ ts.map Tok.tk, t.text.size ≤ 1099511627776 := fun t h => by
          obtain ⟨t0, h0, rfl⟩ := List.mem_map.1 h
          have := tokR_text ht t0 h0
          show t0.text.size ≤ _
          omega
        have hW3 := (unhide HT3).bl
        have HTk := hide (ptokens_any ((unhide HF).up hW3) ((unhide HE).up hW3) ((unhide HM).up hW3 (unhide HM).1) (tok_has hrow (Nat.le_refl _) (Nat.le_refl _)) htx (by have := tokR_len ht; simp; omega))
        have HP := hide hp
        obtain ⟨va, vn, vc, hv⟩ := row_shape hrow
        subst hv
        clear hZ hb3 ht hp HN HT hcell2 hrow htx hW3
        go_wp2_with fail
        refine (unhide HTk).mono ?_
        intro e w4 hr
        rw [← unhide HP] at hr
        obtain ⟨ia', il', ic', ma', ml', mc', ea', el', ec', rfl, hn', hb4⟩ := rdp_form hr
        rw [unhide HFl] at hn'
        rw [unhide HFl, unhide HEr, unhide HSp]
        have hT4 := (unhide HT3).up hb4
        have HN4 := hide ((unhide HN3).up hb4)
        have HN4' := hide hn'
        have X4 : ∀ o o' j, ((w4.alloc o).alloc o').cell? ⟨w2.heap.size, j, none⟩ = (#[.string fl.pkg, .slice ia il ic, .slice ma ml mc, .slice ea el ec] : Array Value)[j]? := fun o o' j => (World.cell?_alloc_lt _ _ _ (by rw [World.size_alloc]; have := hT4.lx; show w2.heap.size < _; omega)).trans ((World.cell?_alloc_lt _ _ _ hT4.lx).trans (hT4.x j))
        have Y4 : ∀ o o' j, ((w4.alloc o).alloc o').cell? ⟨w2.heap.size + 1, j, none⟩ = (#[.int .i64 er, .int .i64 0, .int .i64 sp, .string ⟨#[]⟩] : Array Value)[j]? := fun o o' j => (World.cell?_alloc_lt _ _ _ (by rw [World.size_alloc]; have := hT4.ly; show w2.heap.size + 1 < _; omega)).trans ((World.cell?_alloc_lt _ _ _ hT4.ly).trans (hT4.y j))
        have HT5 := hide (twoB_new2 hT4.bl #[.string fl.pkg, .slice ia' il' ic', .slice ma' ml' mc', .slice ea' el' ec'] #[.int .i64 er, .int .i64 0, .int .i64 sp, .string ⟨#[]⟩] 27 30)
        clear hr hn' hb4 hT4 HT3 HN3 X3 Y3 HTk HP
        go_wp2_with fail
        have hbZ := (twoB_new2 (Below.refl w4.heap.size w4) #[.string fl.pkg, .slice ia' il' ic', .slice ma' ml' mc', .slice ea' el' ec'] #[.int .i64 er, .int .i64 0, .int .i64 sp, .string ⟨#[]⟩] 27 30).bl
        refine (sameFile_any ((unhide HN4).up hbZ) ((unhide HN4').up hbZ)).mono ?_
        rintro e w5 ⟨rfl, hb5⟩
        have HB5 := hide ((unhide HT5).up hb5).bl
        clear hb5 hbZ X4 Y4 HT5 HN4 HN4'
        go_wp2
        go_roundg (l.length - (k + 1))
        case measure => have := unhide Hgk; omega
        case rel => exact ⟨k + 1, by go_num, rfl, by omega, HB5⟩
    · obtain rfl : k = l.length := by omega
      go_wp2
      go_ret
      exact ⟨rfl, unhide HB⟩
end Go.Proofs.YtckpainohfhopaaGreatDoor
