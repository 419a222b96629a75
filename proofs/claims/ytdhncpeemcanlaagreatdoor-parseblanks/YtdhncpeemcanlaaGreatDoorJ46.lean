import Derived.Test.YtdhncpeemcanlaaGreatDoorSZo
import Derived.Test.YtdhncpeemcanlaaGreatDoorPhA

namespace Go.Proofs.YtdhncpeemcanlaaGreatDoor
open Go.RowKit

def endT (s : ByteArray) : Tok := ⟨5, s.size, ⟨#[]⟩⟩
/-- Tokens that stand one behind the other, from k on. -/
def Rise (s : ByteArray) : Nat → List Tok → Prop
  | _, [] => True
  | k, t :: r => k ≤ t.place ∧ t.place + t.text.size ≤ s.size ∧ s.extract t.place (t.place + t.text.size) = t.text ∧ 1 ≤ t.kind ∧ t.kind ≤ 5 ∧ (t.text.size = 0 ↔ r = []) ∧ Rise s (t.place + t.text.size) r
theorem tok_struct {s : ByteArray} : ∀ (f k n : Nat) (ts : List Tok), k ≤ s.size → n ≤ 16383 → tokF s f k n = .inl ts → ∃ pre, ts = pre ++ [endT s] ∧ (∀ t ∈ pre, ∃ e, GoodT s t e) ∧ n + pre.length ≤ 16383 ∧ Rise s k ts := by
  intro f
  induction f with
  | zero => intro k n ts _ _ h; cases h
  | succ f ih =>
    intro k n ts hk hn h
    have hp := passF_le s s.size k hk
    rw [tokF] at h
    split at h
    · cases h
    · split at h
      · rename_i h1 h2
        refine ⟨[], ?_, fun t ht => by simp at ht, by simpa using hn, ?_⟩
        · rw [← Sum.inl.inj h, h2]; rfl
        · rw [← Sum.inl.inj h, h2]
          refine ⟨by show k ≤ s.size; exact hk, by show s.size + 0 ≤ s.size; omega, ?_, by show 1 ≤ 5; decide, by show 5 ≤ 5; decide, ⟨fun _ => rfl, fun _ => rfl⟩, trivial⟩
          show s.extract s.size (s.size + 0) = ⟨#[]⟩
          exact isEmptyT (by rw [ByteArray.size_extract]; omega)
      · split at h
        · cases h
        · split at h
          · rename_i h1 h2 h3 h4
            have hlt : (passF s s.size k).1 < s.size := by omega
            have hol := oneF_le hlt h4
            generalize hq : (passF s s.size k).1 = q at h hp hlt hol h4
            cases hr : tokF s f (oneF s q).2.1 (n + 1) with
            | inr e => rw [hr] at h; cases h
            | inl l =>
              rw [hr] at h
              obtain ⟨pre, e1, e2, e3, e4⟩ := ih (oneF s q).2.1 (n + 1) l hol.2 (by omega) hr
              have hts := Sum.inl.inj h
              have hg : GoodT s ⟨(oneF s q).1, q, s.extract q (oneF s q).2.1⟩ (oneF s q).2.1 := by
                refine ⟨hlt, ?_, rfl, hol.2, hol.1⟩
                show oneF s q = ((oneF s q).1, (oneF s q).2.1, 0)
                rw [← h4]
              have hsz : (s.extract q (oneF s q).2.1).size = (oneF s q).2.1 - q := extract_size s _ _ hol.2
              refine ⟨⟨(oneF s q).1, q, s.extract q (oneF s q).2.1⟩ :: pre, ?_, ?_, by rw [List.length_cons]; omega, ?_⟩
              · rw [← hts, e1]; rfl
              · intro t ht
                rcases List.mem_cons.1 ht with rfl | ht
                · exact ⟨_, hg⟩
                · exact e2 t ht
              · rw [← hts]
                have hkind : 1 ≤ (oneF s q).1 ∧ (oneF s q).1 ≤ 5 := by
                  unfold oneF at h4 ⊢
                  by_cases g1 : isLet (byteAt s q)
                  · rw [if_pos g1]; simp
                  · rw [if_neg g1] at h4 ⊢
                    by_cases g2 : isDig (byteAt s q)
                    · rw [if_pos g2] at h4 ⊢
                      split at h4
                      · cases h4
                      · rename_i g; rw [if_neg g]; simp
                    · rw [if_neg g2] at h4 ⊢
                      by_cases g3 : byteAt s q = 39 ∨ byteAt s q = 34
                      · rw [if_pos g3] at h4 ⊢
                        split at h4
                        · cases h4
                        · show 1 ≤ 3 ∧ 3 ≤ 5; decide
                      · rw [if_neg g3] at h4 ⊢
                        split at h4
                        · rename_i g; rw [if_pos g]; simp
                        · cases h4
                have hend : q + (s.extract q (oneF s q).2.1).size = (oneF s q).2.1 := by rw [hsz]; omega
                refine ⟨hp.1, ?_, ?_, hkind.1, hkind.2, ?_, ?_⟩
                · show q + (s.extract q (oneF s q).2.1).size ≤ s.size; omega
                · show s.extract q (q + (s.extract q (oneF s q).2.1).size) = _; rw [hend]
                · show (s.extract q (oneF s q).2.1).size = 0 ↔ l = []
                  constructor
                  · intro z; omega
                  · intro z; rw [e1] at z; simp at z
                · show Rise s (q + (s.extract q (oneF s q).2.1).size) l
                  rw [hend]
                  exact e4
          · cases h
theorem utf_hit {s : ByteArray} : ∀ (m k a : Nat), a - k ≤ m → k ≤ a → a < s.size → byteAt s a < 128 → utfAt s k = -1 → utfAt s a = -1 := by
  intro m
  induction m with
  | zero => intro k a hm hk ha hb hu; obtain rfl : k = a := by omega
            exact hu
  | succ m ih =>
    intro k a hm hk ha hb hu
    by_cases e : k = a
    · subst e; exact hu
    · have hks : k < s.size := by omega
      by_cases h0 : chAt s k = 0
      · rw [utf_bad hks h0] at hu; omega
      · rw [utf_step hks h0] at hu
        have hle : k + chAt s k ≤ a := by
          obtain ⟨c, d, e', f1, f2, f3⟩ := chAt_is rfl h0
          by_cases hq : a < k + chAt s k
          · have := (f2.2 (a - k) (by omega) (by omega)).1
            rw [show k + (a - k) = a by omega] at this
            have hx : 128 ≤ byteAt s k := by
              by_cases hx : 128 ≤ byteAt s k
              · exact hx
              · have := chAt_low hks (by omega); omega
            have hd := frm_d f1 hx
            split at this <;> omega
          · omega
        exact ih _ a (by omega) hle ha hb hu
theorem utf_copy {s B : ByteArray} : ∀ (m a e p : Nat) (R : List Nat), e - a ≤ m → a ≤ e → e ≤ s.size → (a < e → byteAt s (e - 1) < 128) → utfAt s a = -1 → (strN B).drop p = sub s a (e - a) ++ R → utfAt B p = utfAt B (p + (e - a)) := by
  intro m
  induction m with
  | zero => intro a e p R hm ha he _ _ _; rw [show e - a = 0 by omega]; rfl
  | succ m ih =>
    intro a e p R hm ha he hl hu h
    by_cases hae : a < e
    · have has : a < s.size := by omega
      by_cases h0 : chAt s a = 0
      · rw [utf_bad has h0] at hu; omega
      · have hn := chAt_le s a (by omega)
        have hle : a + chAt s a ≤ e := by
          obtain ⟨c, d, e', f1, f2, f3⟩ := chAt_is rfl h0
          by_cases hq : e < a + chAt s a
          · have hb := hl hae
            by_cases h1 : e - 1 = a
            · rw [h1] at hb
              have := chAt_low has hb; omega
            · have := (f2.2 (e - 1 - a) (by omega) (by omega)).1
              rw [show a + (e - 1 - a) = e - 1 by omega] at this
              have hx : 128 ≤ byteAt s a := by
                by_cases hx : 128 ≤ byteAt s a
                · exact hx
                · have := chAt_low has (by omega); omega
              have hd := frm_d f1 hx
              split at this <;> omega
          · omega
        rw [utf_step has h0] at hu
        have hsplit : sub s a (e - a) = sub s a (chAt s a) ++ sub s (a + chAt s a) (e - (a + chAt s a)) := by
          unfold sub
          rw [← List.drop_drop, show e - a = chAt s a + (e - (a + chAt s a)) by omega, List.take_add]
        rw [hsplit, List.append_assoc] at h
        have hsl : (sub s a (chAt s a)).length = chAt s a := sub_len hn.1
        have hnx := at_next h
        rw [hsl] at hnx
        rw [utf_char h hn.1 rfl h0, ih (a + chAt s a) e (p + chAt s a) R (by omega) hle he (fun _ => hl hae) hu hnx]
        congr 1
        omega
    · rw [show e - a = 0 by omega]; rfl
theorem GoodT.ends {s : ByteArray} {t : Tok} {e : Nat} (g : GoodT s t e) : byteAt s t.place < 128 ∧ byteAt s (e - 1) < 128 := by
  have hone := g.one
  have hgt := g.gt
  unfold oneF at hone
  have hlow : ∀ j, t.place ≤ j → j < endRow s t.place → byteAt s j < 128 := fun j h1 h2 => by
    have := endRow_all s t.place j h1 h2
    unfold isLet isDig at this
    omega
  by_cases h1 : isLet (byteAt s t.place)
  · rw [if_pos h1] at hone
    have e3 := (Prod.mk.inj (Prod.mk.inj hone).2).1
    exact ⟨hlow _ (Nat.le_refl _) (by omega), hlow _ (by omega) (by omega)⟩
  · rw [if_neg h1] at hone
    by_cases h2 : isDig (byteAt s t.place)
    · rw [if_pos h2] at hone
      split at hone
      · cases (Prod.mk.inj (Prod.mk.inj hone).2).2
      · have e3 := (Prod.mk.inj (Prod.mk.inj hone).2).1
        exact ⟨hlow _ (Nat.le_refl _) (by omega), hlow _ (by omega) (by omega)⟩
    · rw [if_neg h2] at hone
      by_cases h3 : byteAt s t.place = 39 ∨ byteAt s t.place = 34
      · rw [if_pos h3] at hone
        split at hone
        · cases (Prod.mk.inj (Prod.mk.inj hone).2).2
        · rename_i l e' hu
          have e3 : e' = e := (Prod.mk.inj (Prod.mk.inj hone).2).1
          subst e3
          have := uq_last hu
          omega
      · rw [if_neg h3] at hone
        split at hone
        · rename_i h4
          have e3 := (Prod.mk.inj (Prod.mk.inj hone).2).1
          unfold isSgn at h4
          simp only [List.mem_cons, List.mem_nil_iff, or_false] at h4
          rw [← e3, Nat.add_sub_cancel]
          omega
        · cases (Prod.mk.inj (Prod.mk.inj hone).2).2
/-- The tokens' texts, with something behind each. -/
def flatB (fi : Nat → List Nat) : Nat → List Tok → List Nat
  | _, [] => []
  | i, t :: r => strN t.text ++ fi i ++ flatB fi (i + 1) r
def kinds (ts : List Tok) : List (Nat × ByteArray) := ts.map fun t => (t.kind, t.text)
theorem retok {s B : ByteArray} {fi : Nat → List Nat} (hfi : ∀ i, fi i ∈ fills) (hu : utfAt s 0 = -1) : ∀ (pre : List Tok) (i p n : Nat), (∀ t ∈ pre, ∃ e, GoodT s t e) → (strN B).drop p = flatB fi i (pre ++ [endT s]) → n + pre.length ≤ 16383 → (∃ ts', tk B p n = .inl ts' ∧ kinds ts' = kinds (pre ++ [endT s])) ∧ utfAt B p = -1 := by
  intro pre
  induction pre with
  | nil =>
    intro i p n _ h hn
    have h2 : (strN B).drop p = fi i ++ [] := by rw [h]; show strN ⟨#[]⟩ ++ fi i ++ [] = _; rfl
    have hl : p + (fi i).length = B.size := by
      obtain ⟨c, r, hc, _⟩ := fill_head _ (hfi i)
      have := congrArg List.length h2
      rw [List.length_drop, strN_len, List.append_nil] at this
      have h3 : 0 < (fi i).length := by rw [hc]; simp
      omega
    have hp := fill_pass (hfi i) h2
    rw [hl, pass_end] at hp
    refine ⟨⟨[endT B], tkG_end hp, rfl⟩, ?_⟩
    rw [utf_asc _ _ p h2 (fill_low _ (hfi i)), hl, utf_end (by omega)]
  | cons t r ih =>
    intro i p n hg h hn
    obtain ⟨e, g⟩ := hg t List.mem_cons_self
    obtain ⟨c, fr, hfc, hcb⟩ := fill_head _ (hfi i)
    have h2 : (strN B).drop p = strN t.text ++ (fi i ++ flatB fi (i + 1) (r ++ [endT s])) := by rw [h, ← List.append_assoc]; rfl
    have h3 : (strN B).drop p = strN t.text ++ c :: (fr ++ flatB fi (i + 1) (r ++ [endT s])) := by rw [h2, hfc]; rfl
    obtain ⟨o1, o2, o3, o4⟩ := one_copy g h3 hcb
    have h4 := at_next h2
    rw [strN_len] at h4
    have h5 := at_next h4
    rw [List.length_cons] at hn
    obtain ⟨⟨ts', i1, i2⟩, i3⟩ := ih (i + 1) _ (n + 1) (fun x hx => hg x (List.mem_cons_of_mem _ hx)) h5 (by omega)
    have hgs := g.size
    have hend := g.ends
    have hgt := g.gt
    refine ⟨⟨⟨t.kind, p, t.text⟩ :: ts', ?_, ?_⟩, ?_⟩
    · rw [tk_tok o3 o2 (by omega) o1, o4, tk_pass (n + 1) (fill_pass (hfi i) h4), i1]
      rfl
    · show (t.kind, t.text) :: kinds ts' = (t.kind, t.text) :: kinds (r ++ [endT s])
      rw [i2]
    · have hua := utf_hit (s := s) _ 0 t.place (Nat.le_refl _) (by omega) g.lt hend.1 hu
      have hcp := utf_copy (s := s) (B := B) _ t.place e p _ (Nat.le_refl _) (by omega) g.le (fun _ => hend.2) hua (by rw [← g.str]; exact h2)
      rw [hcp, ← hgs, utf_asc _ _ _ h4 (fill_low _ (hfi i)), i3]
end Go.Proofs.YtdhncpeemcanlaaGreatDoor

namespace Go.Proofs.YtdhncpeemcanlaaGreatDoor
open Go.RowKit

/-- The tokens laid anew, from p on, each with two bytes behind it. -/
def layT : Nat → List Tok → List Tok
  | _, [] => []
  | p, t :: r => ⟨t.kind, p, t.text⟩ :: layT (p + t.text.size + 2) r
def two : List Nat := [32, 10]
theorem two_pass {s : ByteArray} {p : Nat} {R : List Nat} (h : (strN s).drop p = two ++ R) : passF s s.size p = passF s s.size (p + two.length) := (pb h (by decide)).trans (pb (at_next (A := [32]) h) (by decide))
theorem two_low : ∀ c ∈ two, c < 128 := by decide
theorem relay {s B : ByteArray} (hu : utfAt s 0 = -1) : ∀ (pre : List Tok) (i p n : Nat), (∀ t ∈ pre, ∃ e, GoodT s t e) → (strN B).drop p = flatB (fun _ => two) i (pre ++ [endT s]) → n + pre.length ≤ 16383 → tk B p n = .inl (layT p pre ++ [endT B]) ∧ utfAt B p = -1 := by
  intro pre
  induction pre with
  | nil =>
    intro i p n _ h hn
    have h2 : (strN B).drop p = two ++ [] := by rw [h]; show strN ⟨#[]⟩ ++ two ++ [] = _; rfl
    have hl : p + two.length = B.size := by
      have := congrArg List.length h2
      rw [List.length_drop, strN_len, List.append_nil] at this
      have h3 : two.length = 2 := rfl
      omega
    have hp := two_pass h2
    rw [hl, pass_end] at hp
    refine ⟨tkG_end hp, ?_⟩
    rw [utf_asc _ _ p h2 two_low, hl, utf_end (by omega)]
  | cons t r ih =>
    intro i p n hg h hn
    obtain ⟨e, g⟩ := hg t List.mem_cons_self
    have h2 : (strN B).drop p = strN t.text ++ (two ++ flatB (fun _ => two) (i + 1) (r ++ [endT s])) := by rw [h, ← List.append_assoc]; rfl
    have h3 : (strN B).drop p = strN t.text ++ 32 :: ([10] ++ flatB (fun _ => two) (i + 1) (r ++ [endT s])) := h2
    obtain ⟨o1, o2, o3, o4⟩ := one_copy g h3 (by decide)
    have h4 := at_next h2
    rw [strN_len] at h4
    have h5 := at_next h4
    rw [List.length_cons] at hn
    obtain ⟨i1, i3⟩ := ih (i + 1) _ (n + 1) (fun x hx => hg x (List.mem_cons_of_mem _ hx)) h5 (by omega)
    have hgs := g.size
    have hend := g.ends
    have hgt := g.gt
    refine ⟨?_, ?_⟩
    · rw [tk_tok o3 o2 (by omega) o1, o4, tk_pass (n + 1) (two_pass h4), i1]
      rfl
    · have hua := utf_hit (s := s) _ 0 t.place (Nat.le_refl _) (by omega) g.lt hend.1 hu
      have hcp := utf_copy (s := s) (B := B) _ t.place e p _ (Nat.le_refl _) (by omega) g.le (fun _ => hend.2) hua (by rw [← g.str]; exact h2)
      rw [hcp, ← hgs, utf_asc _ _ _ h4 two_low, i3]
/-- From the one tokens' places to the others'. -/
def phi : List Tok → List Tok → Int → Int
  | t :: r, u :: q, x => if x = (t.place : Int) then (u.place : Int) else phi r q x
  | _, _, _ => 0
def Alike : List Tok → List Tok → Prop
  | [], [] => True
  | t :: r, u :: q => t.kind = u.kind ∧ t.text = u.text ∧ Alike r q
  | _, _ => False
/-- The places rise. -/
def Up : List Tok → Prop
  | [] => True
  | t :: r => (∀ u ∈ r, t.place < u.place) ∧ Up r
theorem phi_map : ∀ (ts ts' : List Tok), Up ts → Alike ts ts' → (ts.map Tok.tk).map (reT (phi ts ts')) = ts'.map Tok.tk
  | [], [], _, _ => rfl
  | [], _ :: _, _, h => h.elim
  | _ :: _, [], _, h => h.elim
  | t :: r, u :: q, hu, ha => by
    obtain ⟨h1, h2, h3⟩ := ha
    have ih := phi_map r q hu.2 h3
    have hr : (r.map Tok.tk).map (reT (phi (t :: r) (u :: q))) = (r.map Tok.tk).map (reT (phi r q)) := by
      rw [List.map_map, List.map_map]
      refine List.map_congr_left fun x hx => ?_
      have hlt := hu.1 x hx
      show (⟨_, (if (x.place : Int) = (t.place : Int) then _ else phi r q (x.place : Int)), _⟩ : Tk) = _
      rw [if_neg (by omega)]
      rfl
    show reT (phi (t :: r) (u :: q)) t.tk :: (r.map Tok.tk).map (reT (phi (t :: r) (u :: q))) = _
    rw [hr, ih]
    have hh : reT (phi (t :: r) (u :: q)) t.tk = u.tk := by
      show (⟨(t.kind : Int), (if (t.place : Int) = (t.place : Int) then (u.place : Int) else _), t.text⟩ : Tk) = ⟨(u.kind : Int), (u.place : Int), u.text⟩
      rw [if_pos rfl, h1, h2]
    rw [hh]
    rfl
theorem rise_up {s : ByteArray} : ∀ (k : Nat) (ts : List Tok), Rise s k ts → Up ts ∧ ∀ t ∈ ts, k ≤ t.place
  | _, [], _ => ⟨trivial, fun t h => by cases h⟩
  | k, t :: r, h => by
    obtain ⟨h1, h2, h3, h4, h5, h6, h7⟩ := h
    obtain ⟨i1, i2⟩ := rise_up _ r h7
    have hp : ∀ u ∈ r, t.place < u.place := fun u hu => by
      have hne : ¬ t.text.size = 0 := fun e => by
        have := h6.1 e
        subst this
        cases hu
      have := i2 u hu
      omega
    refine ⟨⟨hp, i1⟩, fun u hu => ?_⟩
    rcases List.mem_cons.1 hu with rfl | hu
    · exact h1
    · have := hp u hu; omega
theorem lay_alike {s B : ByteArray} : ∀ (p : Nat) (pre : List Tok), Alike (pre ++ [endT s]) (layT p pre ++ [endT B])
  | _, [] => ⟨rfl, rfl, trivial⟩
  | _, _ :: r => ⟨rfl, rfl, lay_alike _ r⟩
theorem endAt_re (f : Int → Int) (ts : List Tk) : ∀ (n k : Nat), endAt (ts.map (reT f)) n k = endAt ts n k
  | 0, _ => rfl
  | n + 1, k => by
    unfold endAt
    rw [List.getElem?_map]
    cases ts[k]? with
    | none => rfl
    | some t =>
      show (if (t.kind == 5) = true then some k else endAt (ts.map (reT f)) n (k + 1)) = _
      rw [endAt_re f ts n (k + 1)]
theorem start_re (f : Int → Int) {ts : List Tk} {k : Nat} (h : endAt ts (ts.length + 1) 0 = some k) (hk : k < ts.length) : startF (ts.map (reT f)) = reS f (startF ts) := by
  unfold startF
  rw [List.length_map, endAt_re, h]
  simp only
  obtain ⟨t, ht⟩ : ∃ t, ts[k]? = some t := ⟨_, List.getElem?_eq_getElem hk⟩
  rw [List.getD_eq_getElem?_getD, List.getD_eq_getElem?_getD, List.getElem?_map, ht]
  show (⟨(ts.map (reT f)).take k, reT f t, false, 0, 0⟩ : PSt) = ⟨(ts.take k).map (reT f), reT f t, false, 0, 0⟩
  rw [List.map_take]
theorem toks_re (f : Int → Int) {ts : List Tk} {k : Nat} (h : endAt ts (ts.length + 1) 0 = some k) (hk : k < ts.length) (hn : ts.length ≤ 16384) : toksF (ts.map (reT f)) = reX f (toksF ts) := by
  unfold toksF
  rw [List.length_map, if_neg (by omega), if_neg (by omega), start_re f h hk]
  exact re_file f _
theorem tokR_struct2 {s : ByteArray} {ts : List Tok} (h : tokR s = .inl ts) : s.size ≤ 65536 ∧ utfAt s 0 = -1 ∧ ∃ pre, ts = pre ++ [endT s] ∧ (∀ t ∈ pre, ∃ e, GoodT s t e) ∧ pre.length ≤ 16383 ∧ Rise s 0 ts := by
  unfold tokR at h
  split at h
  · cases h
  · split at h
    · cases h
    · rename_i h1 h2
      obtain ⟨pre, e1, e2, e3, e4⟩ := tok_struct _ 0 0 ts (by omega) (by omega) h
      refine ⟨by omega, ?_, pre, e1, e2, by omega, e4⟩
      have h3 : ∀ (m k : Nat), s.size - k ≤ m → -1 ≤ utfAt s k := by
        intro m
        induction m with
        | zero => intro k hm; rw [utf_end (by omega)]; decide
        | succ m ih =>
          intro k hm
          by_cases hk : k < s.size
          · by_cases h0 : chAt s k = 0
            · rw [utf_bad hk h0]; omega
            · rw [utf_step hk h0]; exact ih _ (by omega)
          · rw [utf_end hk]; decide
      have := h3 _ 0 (Nat.le_refl _)
      omega
theorem flat_step2 {fi : Nat → List Nat} {ts : List Tok} {i : Nat} {t : Tok} (ht : ts[i]? = some t) : flatB fi i (ts.drop i) = strN t.text ++ fi i ++ flatB fi (i + 1) (ts.drop (i + 1)) := by
  have hi := (List.getElem?_eq_some_iff.1 ht).1
  have hg : ts[i] = t := by rw [List.getElem?_eq_getElem hi] at ht; exact Option.some.inj ht
  rw [List.drop_eq_getElem_cons hi, hg]
  rfl
theorem lay_step {ts : List Tok} {i p : Nat} {t : Tok} (ht : ts[i]? = some t) : layT p (ts.drop i) = ⟨t.kind, p, t.text⟩ :: layT (p + t.text.size + 2) (ts.drop (i + 1)) := by
  have hi := (List.getElem?_eq_some_iff.1 ht).1
  have hg : ts[i] = t := by rw [List.getElem?_eq_getElem hi] at ht; exact Option.some.inj ht
  rw [List.drop_eq_getElem_cons hi, hg]
  rfl
theorem lay_len : ∀ (p : Nat) (l : List Tok), (layT p l).length = l.length
  | _, [] => rfl
  | p, t :: r => by
    show (layT _ r).length + 1 = r.length + 1
    rw [lay_len _ r]
theorem lay_end {s : ByteArray} : ∀ (p : Nat) (pre : List Tok), ∃ q, layT p (pre ++ [endT s]) = layT p pre ++ [⟨5, q, ⟨#[]⟩⟩]
  | p, [] => ⟨p, rfl⟩
  | p, t :: r => by
    obtain ⟨q, hq⟩ := lay_end (s := s) (p + t.text.size + 2) r
    exact ⟨q, by show _ :: layT _ (r ++ [endT s]) = _ :: (layT _ r ++ _); rw [hq]⟩
theorem endAt_some {ts : List Tk} : ∀ (n k j : Nat) (t : Tk), k ≤ j → j < k + n → ts[j]? = some t → t.kind = 5 → ∃ m, endAt ts n k = some m ∧ m < ts.length
  | 0, k, j, t, h1, h2, _, _ => absurd h2 (by omega)
  | n + 1, k, j, t, h1, h2, h3, h4 => by
    have hj := (List.getElem?_eq_some_iff.1 h3).1
    obtain ⟨u, hu⟩ : ∃ u, ts[k]? = some u := ⟨_, List.getElem?_eq_getElem (by omega)⟩
    have e : endAt ts (n + 1) k = (if (u.kind == 5) = true then some k else endAt ts n (k + 1)) := by
      show (match ts[k]? with | none => none | some t => if (t.kind == 5) = true then some k else endAt ts n (k + 1)) = _
      rw [hu]
    by_cases hk : (u.kind == 5) = true
    · exact ⟨k, by rw [e, if_pos hk], by omega⟩
    · have hne : k ≠ j := fun q => by
        subst q
        rw [h3] at hu
        obtain rfl := Option.some.inj hu
        exact hk (by simpa using h4)
      obtain ⟨m, hm, hl⟩ := endAt_some n (k + 1) j t (by omega) (by omega) h3 h4
      exact ⟨m, by rw [e, if_neg hk]; exact hm, hl⟩
/-- The places of a text's tokens, else one more. -/
noncomputable def stayF (ts : List Tk) (x : Int) : Int := if ∃ t ∈ ts, t.spot = x then x else x + 1
theorem stay_map (ts : List Tk) : ts.map (reT (stayF ts)) = ts := by
  have h : ∀ t ∈ ts, reT (stayF ts) t = t := fun t ht => by
    show (⟨t.kind, (if ∃ u ∈ ts, u.spot = t.spot then t.spot else t.spot + 1), t.text⟩ : Tk) = t
    rw [if_pos ⟨t, ht, rfl⟩]
  exact (List.map_congr_left h).trans (List.map_id _)
theorem spot_in {ts : List Tk} {k : Nat} (h : endAt ts (ts.length + 1) 0 = some k) (hk : k < ts.length) (hn : ts.length ≤ 16384) {y : Int × Int} (he : toksF ts = .error y) (hy : y.1 ≠ 0) : ∃ t ∈ ts, t.spot = y.2 := by
  have h1 := toks_re (stayF ts) h hk hn
  rw [stay_map, he] at h1
  have h2 : y = if y.1 = 0 then y else (y.1, stayF ts y.2) := Except.error.inj h1
  rw [if_neg hy] at h2
  have h3 : y.2 = stayF ts y.2 := congrArg Prod.snd h2
  unfold stayF at h3
  by_cases q : ∃ t ∈ ts, t.spot = y.2
  · exact q
  · rw [if_neg q] at h3
    omega
/-- A text, and the same with two blanks behind every token. -/
theorem blanks_pure {s B : ByteArray} {ts : List Tok} (h : tokR s = .inl ts) (hB : strN B = flatB (fun _ => two) 0 ts) (hn : B.size ≤ 65536) : ∃ pre, ts = pre ++ [endT s] ∧ Up ts ∧ Alike ts (layT 0 pre ++ [endT B]) ∧ parseF B = reX (phi ts (layT 0 pre ++ [endT B])) (parseF s) ∧ ∀ y, parseF s = .error y → y.1 ≠ 0 → ∃ t ∈ ts, (t.place : Int) = y.2 := by
  obtain ⟨h1, h2, pre, rfl, h4, h5, h6⟩ := tokR_struct2 h
  have hu := (rise_up 0 _ h6).1
  obtain ⟨r1, r2⟩ := relay (B := B) h2 pre 0 0 0 h4 (by rw [List.drop_zero]; exact hB) (by omega)
  have hal := lay_alike (s := s) (B := B) 0 pre
  have hB2 : tokR B = .inl (layT 0 pre ++ [endT B]) := by rw [tokR_ok (by omega) (by rw [r2]; decide)]; exact r1
  obtain ⟨k, hk, hkl⟩ := endAt_some (ts := (pre ++ [endT s]).map Tok.tk) (((pre ++ [endT s]).map Tok.tk).length + 1) 0 pre.length (endT s).tk (by omega) (by simp; omega) (by simp) rfl
  have hl : ((pre ++ [endT s]).map Tok.tk).length ≤ 16384 := by simp; omega
  have hp : parseF s = toksF ((pre ++ [endT s]).map Tok.tk) := by unfold parseF; rw [h]
  refine ⟨pre, rfl, hu, hal, ?_, fun y hy hy0 => ?_⟩
  · rw [hp, ← toks_re _ hk hkl hl, phi_map _ _ hu hal]
    unfold parseF
    rw [hB2]
  · rw [hp] at hy
    obtain ⟨t, ht, e⟩ := spot_in hk hkl hl hy hy0
    obtain ⟨u, hu2, rfl⟩ := List.mem_map.1 ht
    exact ⟨u, hu2, e⟩
theorem phi_at : ∀ (ts ts' : List Tok), Up ts → ∀ (i : Nat) (t u : Tok), ts[i]? = some t → ts'[i]? = some u → phi ts ts' (t.place : Int) = (u.place : Int)
  | [], _, _, i, t, u, h, _ => by cases h
  | _ :: _, [], _, i, t, u, _, h => by cases h
  | a :: r, b :: q, hu, 0, t, u, h1, h2 => by
    obtain rfl := Option.some.inj h1
    obtain rfl := Option.some.inj h2
    show (if (a.place : Int) = (a.place : Int) then _ else _) = _
    rw [if_pos rfl]
  | a :: r, b :: q, hu, i + 1, t, u, h1, h2 => by
    have hm : t ∈ r := List.mem_of_getElem? h1
    have := hu.1 t hm
    show (if (t.place : Int) = (a.place : Int) then _ else phi r q (t.place : Int)) = _
    rw [if_neg (by omega)]
    exact phi_at r q hu.2 i t u h1 h2
end Go.Proofs.YtdhncpeemcanlaaGreatDoor
