import Derived.Test.YtoclbmdnndaccaaDX
namespace Go.Proofs.Ytoclbmdnndaccaa
open Go.RowKit
attribute [local go_sem ↓] Go.wp_at_zero Go.wp_at_succ

def unh : List Nat → Option (List Nat)
  | [] => some []
  | [_] => none
  | a :: b :: r => match dig a, dig b with
    | some x, some y => (unh r).map fun l => (16 * x + y) :: l
    | _, _ => none
theorem unh_odd : ∀ (l : List Nat), l.length % 2 = 1 → unh l = none
  | [], h => by simp at h
  | [_], _ => rfl
  | a :: b :: r, h => by
    have := unh_odd r (by simp at h; omega)
    simp only [unh, this]
    split <;> simp_all
theorem unh_byt : ∀ (l r : List Nat), unh l = some r → Byt r ∧ 2 * r.length = l.length
  | [], r, h => by
    obtain rfl : [] = r := by simpa [unh] using h
    exact ⟨fun x hx => by simp at hx, rfl⟩
  | [_], r, h => by simp [unh] at h
  | a :: b :: l, r, h => by
    simp only [unh] at h
    split at h
    · rename_i x y hx hy
      obtain ⟨t, ht, rfl⟩ := Option.map_eq_some_iff.1 h
      obtain ⟨h1, h2⟩ := unh_byt l t ht
      have := dig_lt hx
      have := dig_lt hy
      refine ⟨fun z hz => ?_, by simp; omega⟩
      rcases List.mem_cons.1 hz with rfl | hz
      · omega
      · exact h1 z hz
    · cases h
theorem dig_hexd {n : Nat} (h : n < 16) : dig (hexd n) = some n := by
  have key : ∀ k : Fin 16, dig (hexd k.val) = some k.val := by decide
  exact key ⟨n, h⟩
theorem hexd_dig {c d : Nat} (h : dig c = some d) : hexd d = c := by
  unfold dig at h
  split at h
  · have := Option.some.inj h; unfold hexd; split <;> omega
  · split at h
    · have := Option.some.inj h; unfold hexd; split <;> omega
    · cases h
theorem unh_hex : ∀ (l : List Nat), Byt l → unh (hexL l) = some l
  | [], _ => rfl
  | b :: l, h => by
    have hb := h b (List.mem_cons_self)
    have ih := unh_hex l (fun x hx => h x (List.mem_cons_of_mem _ hx))
    have e : hexL (b :: l) = hexd (b / 16) :: hexd (b % 16) :: hexL l := rfl
    rw [e]
    simp only [unh, dig_hexd (show b / 16 < 16 by omega), dig_hexd (show b % 16 < 16 by omega), ih, Option.map_some]
    congr 2
    omega
theorem hex_unh : ∀ (l r : List Nat), unh l = some r → hexL r = l
  | [], r, h => by
    obtain rfl : [] = r := by simpa [unh] using h
    rfl
  | [_], r, h => by simp [unh] at h
  | a :: b :: l, r, h => by
    simp only [unh] at h
    split at h
    · rename_i x y hx hy
      obtain ⟨t, ht, rfl⟩ := Option.map_eq_some_iff.1 h
      have ih := hex_unh l t ht
      have l1 := dig_lt hx
      have l2 := dig_lt hy
      have e : hexL ((16 * x + y) :: t) = hexd ((16 * x + y) / 16) :: hexd ((16 * x + y) % 16) :: hexL t := rfl
      rw [e, ih, show (16 * x + y) / 16 = x by omega, show (16 * x + y) % 16 = y by omega, hexd_dig hx, hexd_dig hy]
    · cases h

theorem str_get (s : ByteArray) (n x : Nat) (h : (strN s)[n]? = some x) (hn : n < s.size) : (s[n]'hn).toNat = x := by
  unfold strN at h
  rw [List.getElem?_map] at h
  obtain ⟨b, hb, rfl⟩ := Option.map_eq_some_iff.1 h
  have hd : n < s.data.toList.length := by simpa using hn
  rw [List.getElem?_eq_getElem hd] at hb
  rw [← Option.some.inj hb]
  simp
  rfl
/-- What Unhex answers. -/
def UnhU (W : World) (s : ByteArray) (e : Ending) (W' : World) : Prop := ∃ v' c l, e = .returned (.tuple #[v', .int .i64 c]) ∧ HasB W' v' l ∧ (unh (strN s) = some l ∧ c = 0 ∨ unh (strN s) = none ∧ c = 31 ∧ l = []) ∧ Below W.heap.size W W'

set_option maxRecDepth 100000 in
set_option maxHeartbeats 4000000 in
theorem unhex_any (W : World) (s : ByteArray) (hn : s.size ≤ 281474976702464) : Calls Try.prog 7 #[.string s] W (UnhU W s) := by
  obtain ⟨i0, hi, hz0, hz1, hz2⟩ := info_parts Try.infoByte
  by_cases hpar : s.size % 2 = 1
  · have ht : (s.size : Int).tmod 2 = 1 := by rw [Int.tmod_eq_emod_of_nonneg (by omega)]; omega
    have hu := unh_odd (strN s) (by rw [strN_len]; exact hpar)
    have Hu := hide hu
    clear hu hpar
    go_enter Try.func7, Try.ntmps7
    go_wp2
    go_ret2
    exact ⟨_, _, [], rfl, hasB_nil _, .inr ⟨unhide Hu, rfl, rfl⟩, Below.refl _ _⟩
  · obtain ⟨n, hsn⟩ : ∃ n, s.size = 2 * n := ⟨s.size / 2, by omega⟩
    have ht : (s.size : Int).tmod 2 = 0 := by rw [Int.tmod_eq_emod_of_nonneg (by omega)]; omega
    have htd : (s.size : Int).tdiv 2 = (n : Int) := by rw [Int.tdiv_eq_ediv_of_nonneg (by omega)]; omega
    clear hpar
    go_enter Try.func7, Try.ntmps7
    go_wp2_with (at_make; refine wpList_make_own _ rfl _ _ 22 rfl W.heap.size 5 i0 (.int .u8 0) 1 Try.underlying22 hi hz0 hz1 .i64 .i64 _ n rfl rfl (by first | rfl | simp) (by rw [hz2]; omega) (by unfold maxLen; omega) (Nat.le_refl _) ?_; intro w5 hown5 hgrow5; have Hr := hide hown5; have Hb : Hid (Below W.heap.size W w5) := ⟨hgrow5.os, hgrow5.tape, hgrow5.output, hgrow5.size, fun b hb => hgrow5.block b hb (by simp)⟩; clear hown5 hgrow5)
    go_loopg [4, 5] n (fun gk v4 v5 wr => ∃ (k : Nat) (ys : List Nat), v5 = .int .i64 ((2 * k : Nat) : Int) ∧ v4 = .slice (some ⟨W.heap.size, 0, none⟩) k n ∧ gk = n - k ∧ k ≤ n ∧ ys.length = k ∧ unh (strN s) = (unh ((strN s).drop (2 * k))).map (ys ++ ·) ∧ wr.ownsRow W.heap.size 5 1 (.slice (some ⟨W.heap.size, 0, none⟩) k n) k (nb ys) ∧ Below W.heap.size W wr)
    case atStart => exact ⟨0, [], rfl, rfl, rfl, by omega, rfl, by simp, unhide Hr, unhide Hb⟩
    case round =>
      clear Hr Hb
      obtain ⟨k, ys, rfl, rfl, hgk, hk, hys, hun, hY, hB⟩ := hrel
      have Hgk := hide hgk
      clear hgk
      by_cases hlt : k < n
      · have hl1 : 2 * k < (strN s).length := by rw [strN_len]; omega
        have hl2 : 2 * k + 1 < (strN s).length := by rw [strN_len]; omega
        obtain ⟨x, hx⟩ : ∃ x, (strN s)[2 * k]? = some x := ⟨_, List.getElem?_eq_getElem hl1⟩
        obtain ⟨y, hy⟩ : ∃ x, (strN s)[2 * k + 1]? = some x := ⟨_, List.getElem?_eq_getElem hl2⟩
        have hdr : (strN s).drop (2 * k) = x :: y :: (strN s).drop (2 * (k + 1)) := by
          rw [List.drop_eq_getElem_cons hl1, List.drop_eq_getElem_cons hl2]
          rw [List.getElem?_eq_getElem hl1] at hx
          rw [List.getElem?_eq_getElem hl2] at hy
          rw [Option.some.inj hx, Option.some.inj hy]
          rfl
        have hxb := (strN_byt s).at hx
        have hyb := (strN_byt s).at hy
        have gx : (s[2 * k]'(by omega)).toNat = x := str_get s _ _ hx _
        have gy : (s[2 * k + 1]'(by omega)).toNat = y := str_get s _ _ hy _
        have hk2 : 2 * (k : Int) + 1 < 2 * (n : Int) := by omega
        have Hun := hide hun
        have Hdr := hide hdr
        have HY := hide hY
        clear hx hy hun hdr hY hl1 hl2
        go_wp2_with fail
        refine (digitOf_any wr x hxb).mono ?_
        rintro e w' ⟨rfl, he⟩
        obtain rfl : wr = w' := he.symm
        go_wp2_with fail
        refine (digitOf_any wr y hyb).mono ?_
        rintro e w' ⟨rfl, he⟩
        obtain rfl : wr = w' := he.symm
        have hcase : unh (x :: y :: (strN s).drop (2 * (k + 1))) = match dig x, dig y with
          | some a, some b => (unh ((strN s).drop (2 * (k + 1)))).map fun l => (16 * a + b) :: l
          | _, _ => none := rfl
        cases hdx : dig x with
        | none =>
          rw [hdx] at hcase
          have hnone : unh (strN s) = none := by rw [unhide Hun, unhide Hdr, hcase]; rfl
          have Hn := hide hnone
          clear hnone hcase hdx
          go_wp2
          go_ret2
          exact ⟨_, _, [], rfl, hasB_nil _, .inr ⟨unhide Hn, rfl, rfl⟩, hB⟩
        | some a =>
          cases hdy : dig y with
          | none =>
            rw [hdx, hdy] at hcase
            have hnone : unh (strN s) = none := by rw [unhide Hun, unhide Hdr, hcase]; rfl
            have Hn := hide hnone
            clear hnone hcase hdx hdy
            go_wp2
            go_ret2
            exact ⟨_, _, [], rfl, hasB_nil _, .inr ⟨unhide Hn, rfl, rfl⟩, hB⟩
          | some b =>
            rw [hdx, hdy] at hcase
            have la := dig_lt hdx
            have lb := dig_lt hdy
            have hnx : unh (strN s) = (unh ((strN s).drop (2 * (k + 1)))).map ((ys ++ [16 * a + b]) ++ ·) := by
              rw [unhide Hun, unhide Hdr, hcase]
              simp only [Option.map_map]
              congr 1
              funext l
              simp
            have Hn := hide hnx
            have hor : bits .or .u8 ((a : Int) * 16) (b : Int) = ((16 * a + b : Nat) : Int) := by
              rw [show (a : Int) * 16 = ((a * 16 : Nat) : Int) by omega, u8_or_nat _ _ (by omega) (by omega), nat_join 4 (a * 16) b (by omega) (by omega)]
              congr 1
              omega
            clear hnx hcase hdx hdy
            go_wp2_with (at_builtin; refine wpList_append_fits _ rfl _ _ 22 rfl W.heap.size 5 i0 1 Try.underlying22 hi hz1 W.heap.size k n (nb ys) rfl ((unhide HY).alloc _) ⟨wr.heap.size, 0, none⟩ 1 1 [.int .u8 ((16 * a + b : Nat) : Int)] rfl rfl (cell_one_new _ _ _) (by simp [Value.oneCell']) (by omega) ?_; intro w4 hown4 hgrow4; have Hown := hide hown4; have Hgrow := hide hgrow4; clear hown4 hgrow4)
            go_roundg (n - (k + 1))
            case measure => have := unhide Hgk; omega
            case rel =>
              refine ⟨k + 1, ys ++ [16 * a + b], by go_num, rfl, rfl, by omega, by simp [hys], unhide Hn, ?_, below_grow0 (u := .slice (some ⟨W.heap.size, 0, none⟩) 0 0) hB hB.size (unhide Hgrow) (fun b hb => by have e : W.heap.size = b := Option.some.inj hb; omega)⟩
              rw [nb_append]
              exact unhide Hown
      · have hi' : n = k := by omega
        subst hi'
        have hd0 : (strN s).drop (2 * n) = [] := List.drop_eq_nil_of_le (by rw [strN_len]; omega)
        rw [hd0] at hun
        have hun' : unh (strN s) = some ys := by rw [hun]; simp [unh]
        have Hn := hide hun'
        have hb : Bytes W.heap.size wr (.slice (some ⟨W.heap.size, 0, none⟩) n n) ys := by unfold Bytes; rw [hys]; exact hY
        have Hh := hide hb.has
        clear hun hun' hd0 hb hY
        go_wp2
        go_ret2
        exact ⟨_, _, ys, rfl, unhide Hh, .inl ⟨unhide Hn, rfl⟩, hB⟩
end Go.Proofs.Ytoclbmdnndaccaa
