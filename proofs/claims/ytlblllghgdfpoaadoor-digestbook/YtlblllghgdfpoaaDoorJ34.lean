import Derived.Test.YtlblllghgdfpoaaDoorJ01
import Derived.Lib.BufferMore
import Derived.Test.YtlblllghgdfpoaaDoorJ18

namespace Go.Proofs.YtlblllghgdfpoaaDoor
open Go.RowKit
attribute [local go_sem ↓] Go.wp_at_zero Go.wp_at_succ

def leN (l : List Nat) : Nat := l.getD 0 0 + 256 * l.getD 1 0 + 65536 * l.getD 2 0 + 16777216 * l.getD 3 0
theorem HasB.past {W : World} {a : Option Addr} {n c : Nat} {l : List Nat} (h : HasB W (.slice a n c) l) (i : Nat) (hi : i ≤ l.length) (a' : Option Addr) (c' : Nat) (hc : l.length - i ≤ c' ∧ c' ≤ maxLen ∧ (a' = none → c' = 0)) (ha : 0 < l.length - i → ∀ g off, a = some ⟨g, off, none⟩ → a' = some ⟨g, off + i, none⟩) : HasB W (.slice a' (l.length - i) c') (l.drop i) := by
  obtain ⟨a2, c2, e, hm, h3⟩ := h
  injection e with e1 e2 e3
  subst e1
  have hl : (l.drop i).length = l.length - i := List.length_drop
  refine ⟨a', c', by rw [hl], by rw [hl]; exact hc, fun hp => ?_⟩
  rw [hl] at hp
  obtain ⟨g, off, q1, q2, q3⟩ := h3 (by omega)
  refine ⟨g, off + i, ha hp g off q1, q2, fun j b hb => ?_⟩
  rw [List.getElem?_drop] at hb
  rw [Nat.add_assoc]
  exact q3 (i + j) b hb
theorem i64_wrapN (n : Int) (h0 : 0 ≤ n) (h : n < 2 ^ 63) : IntKind.i64.wrap n = n := by rw [IntKind.wrap_i64]; omega
theorem i64_joinN (k a b : Nat) (ha : a < 2 ^ k) (hb : 2 ^ k ∣ b) (hk : a < 9223372036854775808) (hb2 : b < 9223372036854775808) : bits .or .i64 (a : Int) (b : Int) = ((a + b : Nat) : Int) := by
  rw [(bits_nat .i64 63 (by decide) i64_wrapN a b (by omega) (by omega)).2]
  obtain ⟨q, rfl⟩ := hb
  congr 1
  rw [Nat.or_comm, ← Nat.two_pow_add_eq_or_of_lt ha]
  omega
set_option maxRecDepth 100000 in
set_option maxHeartbeats 1000000 in
theorem takeNumber_ok {W : World} {v : Value} {l : List Nat} (h : HasB W v l) (hl : Byt l) (hn : 4 ≤ l.length) :
    Calls Tryd.prog 25 #[v] W fun e W' => ∃ v' m, e = .returned (.tuple #[.int .i64 ((leN l : Nat) : Int), v', .bool true]) ∧ (∀ X, HasB X v l → HasB X v' (l.drop 4)) ∧ W' = W.drewN m := by
  obtain ⟨a, c, rfl, hm, h3⟩ := h
  obtain ⟨g, off, rfl, hg, hc⟩ := h3 (by omega)
  obtain ⟨x0, hx0⟩ : ∃ x, l[0]? = some x := ⟨_, List.getElem?_eq_getElem (by omega)⟩
  obtain ⟨x1, hx1⟩ : ∃ x, l[1]? = some x := ⟨_, List.getElem?_eq_getElem (by omega)⟩
  obtain ⟨x2, hx2⟩ : ∃ x, l[2]? = some x := ⟨_, List.getElem?_eq_getElem (by omega)⟩
  obtain ⟨x3, hx3⟩ : ∃ x, l[3]? = some x := ⟨_, List.getElem?_eq_getElem (by omega)⟩
  have c0 : W.cell? ⟨g, off, none⟩ = some (.int .u8 (x0 : Int)) := hc 0 x0 hx0
  have c1 := hc 1 x1 hx1
  have c2 := hc 2 x2 hx2
  have c3 := hc 3 x3 hx3
  have b0 := hl.at hx0
  have b1 := hl.at hx1
  have b2 := hl.at hx2
  have b3 := hl.at hx3
  have hcm : c ≤ 9223372036854775807 := by have := hm.2.1; unfold maxLen at this; omega
  have hcl := hm.1
  have m1 : bits .or .i64 (x0 : Int) ((x1 : Int) * 256) = ((x0 + 256 * x1 : Nat) : Int) := by
    rw [show (x1 : Int) * 256 = ((256 * x1 : Nat) : Int) by omega]
    exact i64_joinN 8 _ _ (by omega) ⟨x1, by omega⟩ (by omega) (by omega)
  have m2 : bits .or .i64 ((x0 + 256 * x1 : Nat) : Int) ((x2 : Int) * 65536) = ((x0 + 256 * x1 + 65536 * x2 : Nat) : Int) := by
    rw [show (x2 : Int) * 65536 = ((65536 * x2 : Nat) : Int) by omega]
    exact i64_joinN 16 _ _ (by omega) ⟨x2, by omega⟩ (by omega) (by omega)
  have m3 : bits .or .i64 ((x0 + 256 * x1 + 65536 * x2 : Nat) : Int) ((x3 : Int) * 16777216) = ((x0 + 256 * x1 + 65536 * x2 + 16777216 * x3 : Nat) : Int) := by
    rw [show (x3 : Int) * 16777216 = ((16777216 * x3 : Nat) : Int) by omega]
    exact i64_joinN 24 _ _ (by omega) ⟨x3, by omega⟩ (by omega) (by omega)
  have hle : x0 + 256 * x1 + 65536 * x2 + 16777216 * x3 = leN l := by
    unfold leN
    rw [List.getD_eq_getElem?_getD, List.getD_eq_getElem?_getD, List.getD_eq_getElem?_getD, List.getD_eq_getElem?_getD, hx0, hx1, hx2, hx3]
    rfl
  rw [hle] at m3
  generalize x0 + 256 * x1 + 65536 * x2 = y2 at *
  generalize x0 + 256 * x1 = y1 at *
  have hh : HasB W (.slice (some ⟨g, off, none⟩) l.length c) l := ⟨_, _, rfl, hm, h3⟩
  have Hh := hide hh
  have Hm := hide hm
  have q0 : decide ((l.length : Int) < 4) = false := by simp; omega
  clear hh hm h3 hc hx0 hx1 hx2 hx3 hle
  go_enter Tryd.func25, Tryd.ntmps25
  go_wp2_with fail
  go_quiet (fail)
  go_wp2
  all_goals go_ret3
  · have hcl' : l.length = 4 := by omega
    have hd : l.drop 4 = [] := List.drop_eq_nil_of_le (by omega)
    rw [hd]
    first
      | exact ⟨_, rfl, fun _ _ => ⟨_, _, by rw [hcl']; rfl, ⟨Nat.le_refl _, Nat.zero_le _, fun _ => rfl⟩, fun hp => by simp at hp⟩, _, rfl⟩
      | exact ⟨_, _, rfl, fun _ _ => ⟨_, _, by rw [hcl']; rfl, ⟨Nat.le_refl _, Nat.zero_le _, fun _ => rfl⟩, fun hp => by simp at hp⟩, rfl⟩
  · have hp : ∀ X, HasB X (.slice (some ⟨g, off, none⟩) l.length c) l → _ := fun X hX => hX.past 4 hn (some ⟨g, off + 4, none⟩) (c - 4) ⟨by omega, by have := (unhide Hm).2.1; omega, nofun⟩ (fun _ g' off' e => by cases e; rfl)
    first
      | exact ⟨_, rfl, hp, _, rfl⟩
      | exact ⟨_, _, rfl, hp, rfl⟩
set_option maxRecDepth 100000 in
set_option maxHeartbeats 1000000 in
theorem takeNumber_short {W : World} {v : Value} {l : List Nat} (h : HasB W v l) (hn : l.length < 4) :
    Calls Tryd.prog 25 #[v] W fun e W' => e = .returned (.tuple #[.int .i64 0, .slice none 0 0, .bool false]) ∧ W' = W := by
  obtain ⟨a, c, rfl, _, _⟩ := h
  have q0 : decide ((l.length : Int) < 4) = true := by simp; omega
  go_enter Tryd.func25, Tryd.ntmps25
  go_wp2
  go_ret3
  exact ⟨rfl, rfl⟩
/-- The part at the begin, and what is behind it. -/
def partOf (l : List Nat) : Option (List Nat × List Nat) := if l.length < 4 ∨ l.length - 4 < leN l then none else some ((l.drop 4).take (leN l), (l.drop 4).drop (leN l))
set_option maxRecDepth 100000 in
set_option maxHeartbeats 1000000 in
theorem takePart_none {W : World} {v : Value} {l : List Nat} (h : HasB W v l) (hl : Byt l) (hn : partOf l = none) :
    Calls Tryd.prog 26 #[v] W fun e W' => ∃ m, e = .returned (.tuple #[.slice none 0 0, .slice none 0 0, .bool false]) ∧ W' = W.drewN m := by
  unfold partOf at hn
  by_cases h4 : l.length < 4
  · have hs := takeNumber_short h h4
    have Hs := hide hs
    clear hs hn
    go_enter Tryd.func26, Tryd.ntmps26
    go_wp2_with fail
    refine (unhide Hs).mono ?_
    rintro e w' ⟨rfl, he⟩
    obtain rfl : W = w' := he.symm
    go_wp2
    go_ret3
    exact ⟨0, rfl, rfl⟩
  · have h5 : l.length - 4 < leN l := by
      by_cases q : l.length - 4 < leN l
      · exact q
      · rw [if_neg (by omega)] at hn; cases hn
    have hs := takeNumber_ok h hl (by omega)
    have Hs := hide hs
    clear hs hn
    go_enter Tryd.func26, Tryd.ntmps26
    go_wp2_with fail
    refine (unhide Hs).mono ?_
    rintro e w' ⟨v1, m, rfl, hB, rfl⟩
    obtain ⟨a1, c1, rfl, hm1, _⟩ := hB W h
    have hdl : (l.drop 4).length = l.length - 4 := List.length_drop
    rw [hdl]
    have q1 : decide (((l.length - 4 : Nat) : Int) < ((leN l : Nat) : Int)) = true := by simp; omega
    generalize l.length - 4 = N at *
    generalize leN l = M at *
    go_wp2
    go_ret3
    exact ⟨_, rfl, rfl⟩
set_option maxRecDepth 100000 in
set_option maxHeartbeats 1000000 in
theorem takePart_some {W : World} {v : Value} {l p r : List Nat} (h : HasB W v l) (hl : Byt l) (hn : partOf l = some (p, r)) :
    Calls Tryd.prog 26 #[v] W fun e W' => ∃ v1 v2 m, e = .returned (.tuple #[v1, v2, .bool true]) ∧ (∀ X, HasB X v l → HasB X v1 p ∧ HasB X v2 r) ∧ W' = W.drewN m := by
  unfold partOf at hn
  split at hn
  · cases hn
  · rename_i hno
    injection hn with hn
    injection hn with hp hr
    have hs := takeNumber_ok h hl (by omega)
    have Hs := hide hs
    have hM : leN l ≤ (l.drop 4).length := by rw [List.length_drop]; omega
    have Hv : Hid (HasB W v l) := h
    clear hs hno h hl
    generalize leN l = M at *
    generalize l.drop 4 = d at *
    subst hp hr
    go_enter Tryd.func26, Tryd.ntmps26
    go_wp2_with fail
    refine (unhide Hs).mono ?_
    rintro e w' ⟨v1, m, rfl, hBX, rfl⟩
    have HX := hide hBX
    have hB := hBX W (unhide Hv)
    clear hBX
    have hBB := hB
    obtain ⟨a1, c1, rfl, hm1, h31⟩ := hB
    have hc1 : c1 ≤ 9223372036854775807 := by have := hm1.2.1; unfold maxLen at this; omega
    have hc2 := hm1.1
    have HB := hide hBB
    have Hm := hide hm1
    have q1 : decide ((d.length : Int) < (M : Int)) = false := by simp; omega
    have m0 : (0 : Int) ≤ (M : Int) := Int.natCast_nonneg _
    have m1 : (M : Int) ≤ (d.length : Int) := by omega
    have H31 := hide h31
    clear hBB hm1 h31 Hs
    go_wp2_with fail
    have f1 : ∀ (X : World) (x : Option Addr), HasB X (.slice a1 d.length c1) d → a1 = x → HasB X (.slice x M c1) (d.take M) := fun X x hX hx => by
      obtain ⟨a2, c2, e, h2⟩ := hX.take M hM
      injection e with e1 e2 e3
      subst hx e1 e3
      exact h2
    have F1 := hide f1
    clear f1
    rcases a1 with _ | ⟨g, off, sp⟩
    · have hc0 : c1 = 0 := (unhide Hm).2.2 rfl
      have hd0 : d = [] := List.eq_nil_of_length_eq_zero (by omega)
      subst hc0 hd0
      obtain rfl : M = 0 := by simpa using hM
      go_quiet (fail)
      go_wp2
      go_ret3
      first
        | exact ⟨_, _, rfl, fun _ _ => ⟨hasB_nil _, hasB_nil _⟩, _, rfl⟩
        | exact ⟨_, _, _, rfl, fun _ _ => ⟨hasB_nil _, hasB_nil _⟩, rfl⟩
    · by_cases hcM : c1 = M
      · have hdM : d.length - M = 0 := by omega
        have hd2 : d.drop M = [] := List.drop_eq_nil_of_le (by omega)
        have g1 := fun X hX => unhide F1 X _ hX rfl
        rw [hcM] at g1
        have hXc := unhide HX
        rw [hcM] at hXc
        have G1 := hide g1
        have HX2 := hide hXc
        clear hXc
        have G2 : Hid (∀ X, HasB X (.slice (some ⟨g, off, sp⟩) (d.length - M) 0) (d.drop M)) := by
          intro X
          rw [hdM, hd2]
          exact ⟨_, _, rfl, ⟨Nat.le_refl _, Nat.zero_le _, fun _ => rfl⟩, fun hp => by simp at hp⟩
        clear g1 hdM hd2
        go_quiet (fail)
        go_wp2
        go_ret3
        exact ⟨_, _, m + nq, rfl, fun X hX => ⟨unhide G1 X (unhide HX2 X hX), unhide G2 X⟩, World.drewN_drewN _ _ _⟩
      · have G1 : Hid (∀ X, HasB X (.slice (some ⟨g, off, sp⟩) d.length c1) d → HasB X (.slice (some ⟨g, off, sp⟩) M c1) (d.take M)) := fun X hX => unhide F1 X _ hX rfl
        have G2 : Hid (∀ X, HasB X (.slice (some ⟨g, off, sp⟩) d.length c1) d → _) := fun X hX => (hX.past M hM (some ((⟨g, off, sp⟩ : Addr).add M)) (c1 - M) ⟨by omega, by have := (unhide Hm).2.1; omega, nofun⟩ (fun _ g' off' e => by cases e; rw [Go.WideShapes.add_plain]))
        go_quiet (fail)
        go_wp2
        go_ret3
        exact ⟨_, _, m + nq, rfl, fun X hX => ⟨unhide G1 X (unhide HX X hX), unhide G2 X (unhide HX X hX)⟩, World.drewN_drewN _ _ _⟩
end Go.Proofs.YtlblllghgdfpoaaDoor

namespace Go.Proofs.YtlblllghgdfpoaaDoor
open Go.RowKit
attribute [local go_sem ↓] Go.wp_at_zero Go.wp_at_succ

set_option maxRecDepth 100000 in
set_option maxHeartbeats 1000000 in
theorem clone_any {W : World} {v : Value} {l : List Nat} (h : HasB W v l) (hn : l.length ≤ 140737488355328) :
    Calls Tryd.prog 27 #[v] W fun e W' => ∃ v', e = .returned v' ∧ Bytes W.heap.size W' v' l ∧ Below W.heap.size W W' := by
  obtain ⟨i0, hi, hz0, hz1, hz2⟩ := info_parts Tryd.infoByte
  obtain ⟨a, c, rfl, hm, h3⟩ := h
  have H3 := hide h3
  rcases a with _ | ad
  · have hc0 : c = 0 := hm.2.2 rfl
    have hl0 : l = [] := List.eq_nil_of_length_eq_zero (by have := hm.1; omega)
    subst hc0 hl0
    clear h3 hm
    have qn := Go.Lib.run_eql_slice_nil_nil (P := Tryd.prog) W 0 0 Tryd.underlying29
    go_enter Tryd.func27, Tryd.ntmps27
    go_wp2
    go_ret
    exact ⟨_, rfl, bytes_nil _ _, Below.refl _ _⟩
  · have how : (W.alloc (.cells #[] 5)).ownsRow W.heap.size 5 1 (.slice (some ⟨W.heap.size, 0, none⟩) 0 0) 0 [] := ⟨rfl, .inr ⟨W.heap.size, 0, #[], rfl, Nat.le_refl _, heap_new _ _, Nat.le_refl _, Nat.zero_le _, rfl, rfl⟩⟩
    have hbel : Below W.heap.size W (W.alloc (.cells #[] 5)) := (Below.refl _ _).alloc (Nat.le_refl _) _
    have hnews : ∀ j u, (nb l)[j]? = some u → (W.alloc (.cells #[] 5)).cell? (ad.add j) = some u := fun j u hu => by
      obtain ⟨ad', e1, hcc⟩ := src_of h3 hbel (by have := (List.getElem?_eq_some_iff.1 hu).1; omega)
      obtain rfl : ad = ad' := Option.some.inj e1
      exact hcc j u hu
    have Hnews := hide hnews
    have o1 : 0 + l.length ≤ maxLen := by unfold maxLen; omega
    have hcm : c ≤ 9223372036854775807 := by have := hm.2.1; unfold maxLen at this; omega
    clear hnews h3 hm
    have qn := Go.Lib.run_eql_slice_some_nil (P := Tryd.prog) W ad l.length c Tryd.underlying29
    go_enter Tryd.func27, Tryd.ntmps27
    go_wp2_with (at_builtin; refine wpList_append_own_at _ rfl _ _ 29 rfl W.heap.size 5 i0 (.int .u8 0) 1 1 Tryd.underlying29 hi hz0 hz1 hz2 rfl (by decide) _ _ _ rfl how ad l.length c (nb l) rfl (by rw [nb_len]; omega) (unhide Hnews) (nb_one _) o1 (by omega) hbel.size ?_; intro v4 w4 hown4 hgrow4 hdrop4 hat4; clear hdrop4 hat4; have Hown := hide hown4; have Hb4 : Hid (Below W.heap.size W w4) := below_grow0 (u := .slice (some ⟨W.heap.size, 0, none⟩) 0 0) (Below.refl _ _) (Nat.le_refl _) hgrow4 (fun b hb => by have e : W.heap.size = b := Option.some.inj hb; omega); clear hown4 hgrow4)
    go_ret
    refine ⟨_, rfl, ?_, unhide Hb4⟩
    have e := unhide Hown
    rw [Nat.zero_add, List.nil_append] at e
    exact e
end Go.Proofs.YtlblllghgdfpoaaDoor

namespace Go.Proofs.YtlblllghgdfpoaaDoor

/-- The first so many parts, and what is behind them. -/
def takeParts : Nat → List Nat → Option (List (List Nat) × List Nat)
  | 0, r => some ([], r)
  | n + 1, r => match partOf r with
    | none => none
    | some (p, r') => (takeParts n r').map fun x => (p :: x.1, x.2)
/-- What Parts answers of bytes that are not too long. -/
def partsL (l : List Nat) : Option (List (List Nat)) :=
  if l.length < 4 ∨ 65536 < leN l then none else match takeParts (leN l) (l.drop 4) with
    | some (ps, []) => some ps
    | _ => none
theorem leN_front (n : Nat) (hn : n < 4294967296) (r : List Nat) : leN (le4 n ++ r) = n := by
  simp [leN, le4]
  omega
theorem le4_back {l : List Nat} (hl : Byt l) (h4 : 4 ≤ l.length) : le4 (leN l) ++ l.drop 4 = l := by
  match l, h4 with
  | a :: b :: c :: d :: r, _ =>
    have ha := hl a (by simp)
    have hb := hl b (by simp)
    have hc := hl c (by simp)
    have hd := hl d (by simp)
    simp [leN, le4]
    omega
theorem partOf_front (p r : List Nat) (hp : p.length < 4294967296) : partOf (le4 p.length ++ p ++ r) = some (p, r) := by
  unfold partOf
  have e1 : leN (le4 p.length ++ p ++ r) = p.length := by rw [List.append_assoc]; exact leN_front _ hp _
  have e2 : (le4 p.length ++ p ++ r).drop 4 = p ++ r := by rw [List.append_assoc]; exact List.drop_left' (le4_len _)
  have e3 : (le4 p.length ++ p ++ r).length = 4 + p.length + r.length := by rw [List.length_append, List.length_append, le4_len]
  rw [if_neg (by rw [e1, e3]; omega), e1, e2]
  simp
theorem takeParts_flat (r : List Nat) : ∀ ls : List (List Nat), (∀ l ∈ ls, l.length < 4294967296) → takeParts ls.length ((ls.flatMap fun l => le4 l.length ++ l) ++ r) = some (ls, r)
  | [], _ => rfl
  | l :: ls, h => by
    rw [List.flatMap_cons, List.append_assoc, List.length_cons, takeParts, partOf_front _ _ (h l (by simp))]
    show (takeParts ls.length _).map _ = _
    rw [takeParts_flat r ls (fun x hx => h x (by simp [hx]))]
    rfl
theorem parts_frame {ls : List (List Nat)} (h : ∀ l ∈ ls, l.length < 4294967296) (hn : ls.length ≤ 65536) : partsL (frameL ls) = some ls := by
  unfold partsL frameL
  have e1 := leN_front ls.length (by omega) (ls.flatMap fun l => le4 l.length ++ l)
  have e2 : (le4 ls.length ++ ls.flatMap fun l => le4 l.length ++ l).drop 4 = ls.flatMap fun l => le4 l.length ++ l := List.drop_left' (le4_len _)
  have e3 := takeParts_flat [] ls h
  rw [List.append_nil] at e3
  rw [if_neg (by rw [e1, List.length_append, le4_len]; omega), e1, e2, e3]
theorem Byt.drop {l : List Nat} (h : Byt l) (n : Nat) : Byt (l.drop n) := fun x hx => h x (List.mem_of_mem_drop hx)
theorem Byt.take {l : List Nat} (h : Byt l) (n : Nat) : Byt (l.take n) := fun x hx => h x (List.mem_of_mem_take hx)
theorem partOf_byt {l p r : List Nat} (h : Byt l) (hp : partOf l = some (p, r)) : Byt p ∧ Byt r ∧ l = le4 p.length ++ p ++ r := by
  unfold partOf at hp
  split at hp
  · cases hp
  · rename_i hno
    injection hp with hp
    injection hp with h1 h2
    subst h1 h2
    refine ⟨(h.drop 4).take _, (h.drop 4).drop _, ?_⟩
    have e : ((l.drop 4).take (leN l)).length = leN l := by rw [List.length_take, List.length_drop]; omega
    rw [e, List.append_assoc, List.take_append_drop]
    exact (le4_back h (by omega)).symm
theorem takeParts_back : ∀ (n : Nat) {r : List Nat} {ps : List (List Nat)} {z : List Nat}, Byt r → takeParts n r = some (ps, z) → ps.length = n ∧ r = (ps.flatMap fun l => le4 l.length ++ l) ++ z ∧ (∀ p ∈ ps, Byt p) ∧ Byt z
  | 0, r, ps, z, h, e => by
    injection e with e
    injection e with e1 e2
    subst e1 e2
    exact ⟨rfl, rfl, fun p hp => by simp at hp, h⟩
  | n + 1, r, ps, z, h, e => by
    rw [takeParts] at e
    split at e
    · cases e
    · rename_i p r' hp
      obtain ⟨x, hx, e2⟩ := Option.map_eq_some_iff.1 e
      injection e2 with e3 e4
      obtain ⟨h1, h2, h3⟩ := partOf_byt h hp
      obtain ⟨g1, g2, g3, g4⟩ := takeParts_back n (z := x.2) h2 (ps := x.1) hx
      subst e3 e4
      refine ⟨by simp [g1], ?_, ?_, g4⟩
      · rw [List.flatMap_cons, List.append_assoc, ← g2, h3]
      · intro q hq
        rcases List.mem_cons.1 hq with rfl | hq
        · exact h1
        · exact g3 q hq
theorem frame_parts {l : List Nat} {ps : List (List Nat)} (h : Byt l) (hp : partsL l = some ps) : frameL ps = l ∧ ps.length ≤ 65536 ∧ ∀ p ∈ ps, Byt p := by
  unfold partsL at hp
  split at hp
  · cases hp
  · rename_i hno
    split at hp
    · rename_i qs hq
      injection hp with hp
      subst hp
      obtain ⟨g1, g2, g3, _⟩ := takeParts_back _ (h.drop 4) hq
      refine ⟨?_, by omega, g3⟩
      unfold frameL
      rw [List.append_nil] at g2
      rw [g1, ← g2]
      exact le4_back h (by omega)
    · cases hp
theorem frame_inj {a b : List (List Nat)} (ha : ∀ l ∈ a, l.length < 4294967296) (hb : ∀ l ∈ b, l.length < 4294967296) (na : a.length ≤ 65536) (nb : b.length ≤ 65536) (h : frameL a = frameL b) : a = b := by
  have h1 := parts_frame ha na
  rw [h, parts_frame hb nb] at h1
  exact (Option.some.inj h1).symm
end Go.Proofs.YtlblllghgdfpoaaDoor
