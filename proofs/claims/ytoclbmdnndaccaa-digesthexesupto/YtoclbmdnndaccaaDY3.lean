import Derived.Test.YtoclbmdnndaccaaDY2
namespace Go.Proofs.Ytoclbmdnndaccaa
open Go.RowKit
attribute [local go_sem ↓] Go.wp_at_zero Go.wp_at_succ

set_option maxRecDepth 100000 in
set_option maxHeartbeats 400000 in
theorem xunhex_any (W : World) (s : ByteArray) (hn : s.size ≤ 17592186044416) : Calls Try.prog 11 #[.string s] W (UnhU W s) := by
  obtain ⟨i0, hi, hz0, hz1, hz2⟩ := info_parts Try.infoByte
  by_cases hpar : s.size % 2 = 1
  · have ht : (s.size : Int).tmod 2 = 1 := by rw [Int.tmod_eq_emod_of_nonneg (by omega)]; omega
    have hu := unh_odd (strN s) (by rw [strN_len]; exact hpar)
    have Hu := hide hu
    clear hu hpar
    go_enter Try.func11, Try.ntmps11
    go_wp2
    go_ret2
    exact ⟨_, _, [], rfl, hasB_nil _, .inr ⟨unhide Hu, rfl, rfl⟩, Below.refl _ _⟩
  · obtain ⟨n, hsn⟩ : ∃ n, s.size = 2 * n := ⟨s.size / 2, by omega⟩
    have ht : (s.size : Int).tmod 2 = 0 := by rw [Int.tmod_eq_emod_of_nonneg (by omega)]; omega
    clear hpar
    go_enter Try.func11, Try.ntmps11
    go_wp2
    go_loopg [4, 5] n (fun gk v4 v5 wr => ∃ (k : Nat) (ys : List Nat), v5 = .int .i64 ((2 * k : Nat) : Int) ∧ gk = n - k ∧ k ≤ n ∧ ys.length = k ∧ unh (strN s) = (unh ((strN s).drop (2 * k))).map (ys ++ ·) ∧ wr.ownsRow W.heap.size 5 1 v4 k (nb ys) ∧ Below W.heap.size W wr)
    case atStart => exact ⟨0, [], rfl, rfl, by omega, rfl, by simp, ⟨rfl, .inl ⟨rfl, rfl⟩⟩, Below.refl _ _⟩
    case round =>
      obtain ⟨k, ys, rfl, hgk, hk, hys, hun, hY, hB⟩ := hrel
      have Hgk := hide hgk
      have hsz := hB.size
      clear hgk
      by_cases hlt : k < n
      · have hl1 : 2 * k < (strN s).length := by rw [strN_len]; omega
        have hl2 : 2 * k + 1 < (strN s).length := by rw [strN_len]; omega
        obtain ⟨x, hx⟩ : ∃ x, (strN s)[2 * k]? = some x := ⟨_, List.getElem?_eq_getElem hl1⟩
        obtain ⟨y, hy⟩ : ∃ x, (strN s)[2 * k + 1]? = some x := ⟨_, List.getElem?_eq_getElem hl2⟩
        have hdr : (strN s).drop (2 * k) = x :: y :: (strN s).drop (2 * (k + 1)) := by
          rw [List.drop_eq_getElem_cons hl1, List.drop_eq_getElem_cons hl2]
          rw [List.getElem?_eq_getElem hl1] at hx
          rw [List.getElem?_eq_getElem hl2] at hy
          rw [Option.some.inj hx, Option.some.inj hy]
          rfl
        have gx : (s[2 * k]'(by omega)).toNat = x := str_get s _ _ hx _
        have gy : (s[2 * k + 1]'(by omega)).toNat = y := str_get s _ _ hy _
        have hk2 : 2 * (k : Int) + 1 < 2 * (n : Int) := by omega
        have Hun := hide hun
        have Hdr := hide hdr
        have HY := hide hY
        clear hx hy hun hdr hY hl1 hl2
        go_wp2_with fail
        refine (xdigit_any wr x).mono ?_
        rintro e w' ⟨rfl, he⟩
        obtain rfl : wr = w' := he.symm
        go_wp2_with fail
        refine (xdigit_any wr y).mono ?_
        rintro e w' ⟨rfl, he⟩
        obtain rfl : wr = w' := he.symm
        have hcase : unh (x :: y :: (strN s).drop (2 * (k + 1))) = match dig x, dig y with
          | some a, some b => (unh ((strN s).drop (2 * (k + 1)))).map fun l => (16 * a + b) :: l
          | _, _ => none := rfl
        cases hdx : dig x with
        | none =>
          rw [hdx] at hcase
          rw [digI_none hdx]
          have hnone : unh (strN s) = none := by rw [unhide Hun, unhide Hdr, hcase]; rfl
          have Hn := hide hnone
          clear hnone hcase hdx
          go_wp2
          go_ret2
          exact ⟨_, _, [], rfl, hasB_nil _, .inr ⟨unhide Hn, rfl, rfl⟩, hB⟩
        | some a =>
          rw [digI_some hdx]
          cases hdy : dig y with
          | none =>
            rw [hdx, hdy] at hcase
            rw [digI_none hdy]
            have hnone : unh (strN s) = none := by rw [unhide Hun, unhide Hdr, hcase]; rfl
            have Hn := hide hnone
            clear hnone hcase hdx hdy
            go_wp2
            go_ret2
            exact ⟨_, _, [], rfl, hasB_nil _, .inr ⟨unhide Hn, rfl, rfl⟩, hB⟩
          | some b =>
            rw [hdx, hdy] at hcase
            rw [digI_some hdy]
            have la := dig_lt hdx
            have lb := dig_lt hdy
            have hnx : unh (strN s) = (unh ((strN s).drop (2 * (k + 1)))).map ((ys ++ [16 * a + b]) ++ ·) := by
              rw [unhide Hun, unhide Hdr, hcase]
              simp only [Option.map_map]
              congr 1
              funext l
              simp
            have Hn := hide hnx
            have o1 : k + 1 ≤ maxLen := by unfold maxLen; omega
            have o2 : (k + 1) * 1 ≤ 140737488355328 := by omega
            have hm3 : (16 * (a : Int) + (b : Int)) % 256 = ((16 * a + b : Nat) : Int) := by omega
            clear hnx hcase hdx hdy
            go_wp2_with (at_builtin; refine wpList_append_own_at _ rfl _ _ 22 rfl W.heap.size 5 i0 (.int .u8 0) 1 1 Try.underlying22 hi hz0 hz1 hz2 rfl (by decide) _ _ _ rfl ((unhide HY).alloc _) ⟨wr.heap.size, 0, none⟩ 1 1 [.int .u8 ((16 * a + b : Nat) : Int)] rfl rfl (cell_one_new _ _ _) (by simp [Value.oneCell']) o1 o2 (by rw [World.size_alloc]; exact Nat.le_succ_of_le hsz) ?_; intro v4 w4 hown4 hgrow4 _ hat4; have Hown := hide hown4; have Hgrow := hide hgrow4; clear hown4 hgrow4 hat4)
            clear hm3
            go_roundg (n - (k + 1))
            case measure => have := unhide Hgk; omega
            case rel =>
              refine ⟨k + 1, ys ++ [16 * a + b], by go_num, rfl, by omega, by simp [hys], unhide Hn, ?_, below_grow0 hB hsz (unhide Hgrow) (fun b hb => ((unhide HY).lt b hb).1)⟩
              rw [nb_append]
              exact unhide Hown
      · have hi' : n = k := by omega
        subst hi'
        have hd0 : (strN s).drop (2 * n) = [] := List.drop_eq_nil_of_le (by rw [strN_len]; omega)
        rw [hd0] at hun
        have hun' : unh (strN s) = some ys := by rw [hun]; simp [unh]
        have Hn := hide hun'
        have hb : Bytes W.heap.size wr u4 ys := by unfold Bytes; rw [hys]; exact hY
        have Hh := hide hb.has
        clear hun hun' hd0 hb hY
        go_wp2
        go_ret2
        exact ⟨_, _, ys, rfl, unhide Hh, .inl ⟨unhide Hn, rfl⟩, hB⟩
end Go.Proofs.Ytoclbmdnndaccaa
