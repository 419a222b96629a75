import Derived.Test.YtdhncpeemcanlaaGreatDoorJ42

namespace Go.Proofs.YtdhncpeemcanlaaGreatDoor
open Go.RowKit

def reT (f : Int → Int) (t : Tk) : Tk := ⟨t.kind, f t.spot, t.text⟩
def reS (f : Int → Int) (s : PSt) : PSt := ⟨s.ts.map (reT f), reT f s.en, s.bg, s.dc, s.op⟩
/-- A fault's place turned (a fault without a number is none). -/
def reE (f : Int → Int) (y : Int × Int) : Int × Int := if y.1 = 0 then y else (y.1, f y.2)
def reX {α : Type} (f : Int → Int) : Except (Int × Int) (α × PSt) → Except (Int × Int) (α × PSt)
  | .error y => .error (reE f y)
  | .ok p => .ok (p.1, reS f p.2)
def Eqv {α : Type} (f : Int → Int) (F : PSt → Except (Int × Int) (α × PSt)) : Prop := ∀ s, F (reS f s) = reX f (F s)
theorem re_here (f : Int → Int) (s : PSt) : (reS f s).here = reT f s.here := by
  obtain ⟨ts, en, bg, dc, op⟩ := s
  cases ts with
  | nil => rfl
  | cons t r => rfl
theorem re_ahead (f : Int → Int) (s : PSt) (n : Nat) : (reS f s).ahead n = reT f (s.ahead n) := by
  obtain ⟨ts, en, bg, dc, op⟩ := s
  show (ts.map (reT f)).getD n (reT f en) = reT f (ts.getD n en)
  rw [List.getD_eq_getElem?_getD, List.getD_eq_getElem?_getD, List.getElem?_map]
  cases ts[n]? with
  | none => rfl
  | some t => rfl
theorem re_is (f : Int → Int) (t : Tk) (k : Int) (x : ByteArray) : pisB (reT f t) k x = pisB t k x := rfl
theorem re_len (f : Int → Int) (s : PSt) : (reS f s).ts.length = s.ts.length := List.length_map _
theorem re_wrong (f : Int → Int) (s : PSt) : wrongE (reS f s) = reE f (wrongE s) := by
  unfold wrongE reE
  rw [re_here]
  show (if s.here.kind = 5 then _ else _, _) = _
  by_cases h : s.here.kind = 5
  · rw [if_pos h]; rfl
  · rw [if_neg h]; rfl
theorem re_tail (f : Int → Int) (s : PSt) (b : Bool) (d : Nat) : ({ reS f s with ts := (reS f s).ts.tail, bg := b, dc := d } : PSt) = reS f { s with ts := s.ts.tail, bg := b, dc := d } := by
  obtain ⟨ts, en, bg, dc, op⟩ := s
  show (⟨(ts.map (reT f)).tail, _, _, _, _⟩ : PSt) = ⟨ts.tail.map (reT f), _, _, _, _⟩
  rw [List.map_tail]
  rfl
theorem re_next (f : Int → Int) : Eqv f pnextF := fun s => by
  unfold pnextF
  rw [show (reS f s).bg = s.bg from rfl, show (reS f s).dc = s.dc from rfl, re_here]
  by_cases h : s.bg = true ∧ s.dc = 4096
  · rw [if_pos h, if_pos h]; rfl
  · rw [if_neg h, if_neg h]
    show _ = Except.ok ((), reS f _)
    rw [← re_tail]
theorem re_begun (f : Int → Int) (s : PSt) : (reS f s).begun = reS f s.begun := rfl
theorem re_take (f : Int → Int) (k : Int) (x : ByteArray) : Eqv f (ptakeF k x) := fun s => by
  unfold ptakeF
  rw [re_here, re_is, re_next]
  by_cases h : pisB s.here k x = true
  · rw [if_pos h, if_pos h]
    cases pnextF s with
    | error y => rfl
    | ok p => rfl
  · rw [if_neg h, if_neg h]; rfl
theorem re_need (f : Int → Int) (x : ByteArray) : Eqv f (pneedSignF x) := fun s => by
  unfold pneedSignF
  rw [re_take]
  cases ptakeF 4 x s with
  | error y => rfl
  | ok p =>
    obtain ⟨b, s1⟩ := p
    cases b with
    | true => rfl
    | false =>
      show Except.error (wrongE (reS f s1)) = _
      rw [re_wrong]
      rfl
theorem re_name (f : Int → Int) : Eqv f pnameF := fun s => by
  unfold pnameF
  rw [re_here, re_next, re_wrong]
  show (if s.here.kind = 1 then (if nameFaultF s.here.text = 0 then _ else Except.error (nameFaultF s.here.text, f s.here.spot)) else _) = _
  by_cases h1 : s.here.kind = 1
  · rw [if_pos h1, if_pos h1]
    by_cases h2 : nameFaultF s.here.text = 0
    · rw [if_pos h2, if_pos h2]
      cases pnextF s with
      | error y => rfl
      | ok p => rfl
    · rw [if_neg h2, if_neg h2]
      show _ = Except.error (if nameFaultF s.here.text = 0 then _ else _)
      rw [if_neg h2]
  · rw [if_neg h1, if_neg h1]; rfl
theorem re_mean (f : Int → Int) (ff : ByteArray → Int) : Eqv f (meaningF ff) := fun s => by
  unfold meaningF
  rw [re_here, re_next, re_wrong]
  show (if s.here.kind = 3 then (if (unqR s.here.text).2 = 0 then (if ff (unqR s.here.text).1 = 0 then _ else Except.error (ff (unqR s.here.text).1, f s.here.spot)) else Except.error ((unqR s.here.text).2, f s.here.spot)) else _) = _
  by_cases h1 : s.here.kind = 3
  · rw [if_pos h1, if_pos h1]
    by_cases h2 : (unqR s.here.text).2 = 0
    · rw [if_pos h2, if_pos h2]
      by_cases h3 : ff (unqR s.here.text).1 = 0
      · rw [if_pos h3, if_pos h3]
        cases pnextF s with
        | error y => rfl
        | ok p => rfl
      · rw [if_neg h3, if_neg h3]
        show _ = Except.error (if ff (unqR s.here.text).1 = 0 then _ else _)
        rw [if_neg h3]
    · rw [if_neg h2, if_neg h2]
      show _ = Except.error (if (unqR s.here.text).2 = 0 then _ else _)
      rw [if_neg h2]
  · rw [if_neg h1, if_neg h1]; rfl
theorem re_tailF (f : Int → Int) (lo hi : Int) (m : Bool) : Eqv f (tailF lo hi m) := fun s => by
  unfold tailF
  rw [re_here, re_next, re_wrong]
  show (if s.here.kind = 2 then (if (numR s.here.text).2 = 0 then (if (if m = true then -(numR s.here.text).1 else (numR s.here.text).1) < lo ∨ hi < (if m = true then -(numR s.here.text).1 else (numR s.here.text).1) then Except.error (55, f s.here.spot) else _) else Except.error ((numR s.here.text).2, f s.here.spot)) else _) = _
  by_cases h1 : s.here.kind = 2
  · rw [if_pos h1, if_pos h1]
    by_cases h2 : (numR s.here.text).2 = 0
    · rw [if_pos h2, if_pos h2]
      by_cases h3 : (if m = true then -(numR s.here.text).1 else (numR s.here.text).1) < lo ∨ hi < (if m = true then -(numR s.here.text).1 else (numR s.here.text).1)
      · rw [if_pos h3, if_pos h3]; rfl
      · rw [if_neg h3, if_neg h3]
        cases pnextF s with
        | error y => rfl
        | ok p => rfl
    · rw [if_neg h2, if_neg h2]
      show _ = Except.error (if (numR s.here.text).2 = 0 then _ else _)
      rw [if_neg h2]
  · rw [if_neg h1, if_neg h1]; rfl
theorem re_number (f : Int → Int) (lo hi : Int) (mi : Bool) : Eqv f (numberF lo hi mi) := fun s => by
  unfold numberF
  cases mi with
  | true =>
    rw [if_pos rfl, if_pos rfl, re_take]
    cases ptakeF 4 ⟨#[45]⟩ s with
    | error y => rfl
    | ok p => exact re_tailF f lo hi p.1 p.2
  | false =>
    rw [if_neg (by decide), if_neg (by decide)]
    exact re_tailF f lo hi false s
theorem re_dotLoop (f : Int → Int) : ∀ (n : Nat) (acc : List UInt8), Eqv f (dotLoop n acc)
  | 0, acc => fun s => by
    rfl
  | n + 1, acc => fun s => by
    unfold dotLoop
    rw [re_take]
    cases ptakeF 4 ⟨#[46]⟩ s with
    | error y => rfl
    | ok p =>
      obtain ⟨b, s1⟩ := p
      cases b with
      | false => rfl
      | true =>
        show (match pnameF (reS f s1) with | .error e => .error e | .ok (x, s2) => dotLoop n ((acc ++ [46]) ++ x.data.toList) s2) = reX f (match pnameF s1 with | .error e => .error e | .ok (x, s2) => dotLoop n ((acc ++ [46]) ++ x.data.toList) s2)
        rw [re_name]
        cases pnameF s1 with
        | error y => rfl
        | ok p => exact re_dotLoop f n _ p.2
theorem re_dtail (f : Int → Int) (first : Int) (acc : List UInt8) (s : PSt) : dtailF (f first) acc (reS f s) = reX f (dtailF first acc s) := by
  unfold dtailF
  rw [re_name]
  cases pnameF s with
  | error y => rfl
  | ok p =>
    obtain ⟨x, s1⟩ := p
    show dotEnd (f first) (dotLoop ((reS f s1).ts.length + 1) (acc ++ x.data.toList) (reS f s1)) = reX f (dotEnd first (dotLoop (s1.ts.length + 1) (acc ++ x.data.toList) s1))
    rw [re_len, re_dotLoop]
    cases dotLoop (s1.ts.length + 1) (acc ++ x.data.toList) s1 with
    | error y => rfl
    | ok p =>
      show (if 255 < p.1.length then _ else _) = reX f (if 255 < p.1.length then _ else _)
      by_cases h : 255 < p.1.length
      · rw [if_pos h, if_pos h]; rfl
      · rw [if_neg h, if_neg h]; rfl
theorem re_dotted (f : Int → Int) (da : Bool) : Eqv f (dottedF da) := fun s => by
  unfold dottedF
  rw [re_here]
  cases da with
  | true =>
    rw [if_pos rfl, if_pos rfl, re_take]
    cases ptakeF 4 ⟨#[46]⟩ s with
    | error y => rfl
    | ok p => exact re_dtail f _ _ p.2
  | false =>
    rw [if_neg (by decide), if_neg (by decide)]
    exact re_dtail f _ _ s
theorem re_assigned (f : Int → Int) (lo hi : Int) (mi : Bool) : Eqv f (assignedF lo hi mi) := fun s => by
  unfold assignedF
  rw [re_need]
  cases pneedSignF ⟨#[61]⟩ s with
  | error y => rfl
  | ok p0 =>
    obtain ⟨a1, s1⟩ := p0
    dsimp only [reX]
    rw [re_number]
    cases numberF lo hi mi s1 with
    | error y => rfl
    | ok p1 =>
      obtain ⟨n, s2⟩ := p1
      dsimp only [reX]
      rw [re_here, re_is]
      by_cases hc : pisB s2.here 4 ⟨#[91]⟩ = true
      · rw [if_pos hc, if_pos hc]; rfl
      rw [if_neg hc, if_neg hc, re_need]
      cases pneedSignF ⟨#[59]⟩ s2 with
      | error y => rfl
      | ok p => rfl
theorem re_nn (f : Int → Int) (d : Fd) : Eqv f (nnF d) := fun s => by
  unfold nnF
  rw [re_name]
  cases pnameF s with
  | error y => rfl
  | ok p0 =>
    obtain ⟨x, s1⟩ := p0
    dsimp only [reX]
    rw [re_assigned]
    cases assignedF 0 2147483647 false s1 with
    | error y => rfl
    | ok p1 =>
      obtain ⟨n, s2⟩ := p1
      rfl
theorem re_field (f : Int → Int) (d : Fd) : Eqv f (fieldF d) := fun s => by
  unfold fieldF
  rw [re_dotted]
  cases dottedF true s with
  | error y => rfl
  | ok p0 =>
    obtain ⟨x, s1⟩ := p0
    exact re_nn f _ s1
theorem re_plain (f : Int → Int) (o : Int) : Eqv f (plainF o) := fun s => by
  unfold plainF
  rw [re_begun]
  exact re_field f _ _
theorem re_labelled (f : Int → Int) (c : Int) : Eqv f (labelledF c) := fun s => by
  unfold labelledF
  rw [re_begun, re_next]
  cases pnextF s.begun with
  | error y => rfl
  | ok p0 =>
    obtain ⟨u, s1⟩ := p0
    dsimp only [reX]
    rw [re_here, re_is]
    by_cases hc : pisB s1.here 1 ⟨#[103, 114, 111, 117, 112]⟩ = true
    · rw [if_pos hc, if_pos hc]; rfl
    rw [if_neg hc, if_neg hc]
    exact re_field f _ s1
theorem re_gone (f : Int → Int) : Eqv f goneF := fun s => by
  unfold goneF
  rw [re_begun]
  exact re_mean f _ _
theorem re_value (f : Int → Int) : Eqv f (valueF) := fun s => by
  unfold valueF
  rw [re_begun, re_name]
  cases pnameF s.begun with
  | error y => rfl
  | ok p0 =>
    obtain ⟨x, s1⟩ := p0
    dsimp only [reX]
    rw [re_assigned]
    cases assignedF (-2147483648) 2147483647 true s1 with
    | error y => rfl
    | ok p1 =>
      obtain ⟨n, s2⟩ := p1
      rfl
theorem re_row (f : Int → Int) (lo hi : Int) (mi : Bool) : Eqv f (rowF lo hi mi) := fun s => by
  unfold rowF
  rw [re_begun, re_number]
  cases numberF lo hi mi s.begun with
  | error y => rfl
  | ok p0 =>
    obtain ⟨n, s1⟩ := p0
    dsimp only [reX]
    rw [re_take]
    cases ptakeF 1 ⟨#[116, 111]⟩ s1 with
    | error y => rfl
    | ok p1 =>
      obtain ⟨b, s2⟩ := p1
      cases b with
      | false => rfl
      | true =>
        dsimp only [reX]
        rw [re_take]
        cases ptakeF 1 ⟨#[109, 97, 120]⟩ s2 with
        | error y => rfl
        | ok p =>
          obtain ⟨b, s3⟩ := p
          cases b with
          | true => rfl
          | false =>
            dsimp only [reX]
            rw [re_number]
            cases numberF n hi mi s3 with
            | error y => rfl
            | ok p => rfl
theorem re_map (f : Int → Int) : Eqv f (mapF) := fun s => by
  unfold mapF
  rw [re_begun, re_next]
  cases pnextF s.begun with
  | error y => rfl
  | ok p0 =>
    obtain ⟨u1, s1⟩ := p0
    dsimp only [reX]
    rw [re_need]
    cases pneedSignF ⟨#[60]⟩ s1 with
    | error y => rfl
    | ok p1 =>
      obtain ⟨u2, s2⟩ := p1
      dsimp only [reX]
      rw [re_dotted]
      cases dottedF true s2 with
      | error y => rfl
      | ok p2 =>
        obtain ⟨k, s3⟩ := p2
        dsimp only [reX]
        rw [re_need]
        cases pneedSignF ⟨#[44]⟩ s3 with
        | error y => rfl
        | ok p3 =>
          obtain ⟨u4, s4⟩ := p3
          dsimp only [reX]
          rw [re_dotted]
          cases dottedF true s4 with
          | error y => rfl
          | ok p4 =>
            obtain ⟨t, s5⟩ := p4
            dsimp only [reX]
            rw [re_need]
            cases pneedSignF ⟨#[62]⟩ s5 with
            | error y => rfl
            | ok p5 =>
              obtain ⟨u6, s6⟩ := p5
              exact re_nn f _ s6
theorem re_mapOr (f : Int → Int) : Eqv f mapOrFieldF := fun s => by
  unfold mapOrFieldF
  rw [re_ahead, re_is]
  by_cases hc : pisB (s.ahead 1) 4 ⟨#[60]⟩ = true
  · rw [if_pos hc, if_pos hc]; exact re_map f s
  · rw [if_neg hc, if_neg hc]; exact re_plain f 0 s
theorem re_imported (f : Int → Int) : Eqv f (importedF) := fun s => by
  unfold importedF
  rw [re_begun, re_next]
  cases pnextF s.begun with
  | error y => rfl
  | ok p0 =>
    obtain ⟨u, s1⟩ := p0
    dsimp only [reX]
    rw [re_here, re_is, re_is]
    by_cases hc : (pisB s1.here 1 ⟨#[112, 117, 98, 108, 105, 99]⟩ || pisB s1.here 1 ⟨#[119, 101, 97, 107]⟩) = true
    · rw [if_pos hc, if_pos hc]; rfl
    rw [if_neg hc, if_neg hc, re_mean]
    cases meaningF importF s1 with
    | error y => rfl
    | ok p =>
      obtain ⟨x, s2⟩ := p
      dsimp only [reX]
      rw [re_need]
      cases pneedSignF ⟨#[59]⟩ s2 with
      | error y => rfl
      | ok p => rfl
theorem re_rows {α : Type} (f : Int → Int) {one : PSt → Except (Int × Int) (α × PSt)} (ho : Eqv f one) : ∀ (n : Nat) (acc : List α), Eqv f (rowsLF one n acc)
  | 0, acc => fun s => by
    rfl
  | n + 1, acc => fun s => by
    unfold rowsLF
    rw [re_take]
    cases ptakeF 4 ⟨#[44]⟩ s with
    | error y => rfl
    | ok p =>
      obtain ⟨b, s1⟩ := p
      cases b with
      | false => rfl
      | true =>
        dsimp only [reX]
        rw [ho]
        cases one s1 with
        | error y => rfl
        | ok p => exact re_rows f ho n _ p.2
theorem re_many {α : Type} (f : Int → Int) {one : PSt → Except (Int × Int) (α × PSt)} (ho : Eqv f one) (acc : List α) : Eqv f (manyF one acc) := fun s => by
  unfold manyF
  rw [ho]
  cases one s with
  | error y => rfl
  | ok p =>
    obtain ⟨a, s1⟩ := p
    dsimp only [reX]
    rw [re_len, re_rows f ho]
    cases rowsLF one (s1.ts.length + 1) (acc ++ [a]) s1 with
    | error y => rfl
    | ok p =>
      obtain ⟨l, s2⟩ := p
      dsimp only [reX]
      rw [re_need]
      cases pneedSignF ⟨#[59]⟩ s2 with
      | error y => rfl
      | ok p => rfl
theorem re_res (f : Int → Int) (bl bh : Int) (bm : Bool) (rs : List (Int × Int)) (gs : List ByteArray) : Eqv f (resF bl bh bm rs gs) := fun s => by
  unfold resF
  rw [re_next]
  cases pnextF s with
  | error y => rfl
  | ok p =>
    obtain ⟨u, s1⟩ := p
    dsimp only [reX]
    rw [re_here]
    show (if s1.here.kind = 3 then _ else _) = _
    by_cases hc : s1.here.kind = 3
    · rw [if_pos hc, if_pos hc, re_many f (re_gone f)]
      cases manyF goneF gs s1 with
      | error y => rfl
      | ok p => rfl
    · rw [if_neg hc, if_neg hc, re_many f (re_row f bl bh bm)]
      cases manyF (rowF bl bh bm) rs s1 with
      | error y => rfl
      | ok p => rfl
theorem re_refuse {σ : Type} (f : Int → Int) (x : σ) : Eqv f ((refuseF : Stp σ) x) := fun s => by
  show Except.error (52, (reS f s).here.spot) = _
  rw [re_here]
  rfl
theorem re_stmt {σ : Type} {F : ByteArray → Option (Stp σ)} {O : Stp σ} (f : Int → Int) (hF : ∀ k g, F k = some g → ∀ x, Eqv f (g x)) (hO : ∀ x, Eqv f (O x)) (x : σ) : Eqv f (stmtF F O x) := fun s => by
  unfold stmtF
  rw [re_take]
  cases ptakeF 4 ⟨#[59]⟩ s with
  | error y => rfl
  | ok p =>
    obtain ⟨b, s1⟩ := p
    cases b with
    | true => rfl
    | false =>
      dsimp only [reX]
      rw [re_here]
      show (match F s.here.text with | some g => if s.here.kind = 1 then g x (reS f s) else O x (reS f s) | none => O x (reS f s)) = _
      cases hg : F s.here.text with
      | none => exact hO x s
      | some g =>
        dsimp only
        by_cases hk : s.here.kind = 1
        · rw [if_pos hk, if_pos hk]; exact hF _ g hg x s
        · rw [if_neg hk, if_neg hk]; exact hO x s
theorem re_bodyL {σ : Type} {st : Stp σ} (f : Int → Int) (hs : ∀ x, Eqv f (st x)) : ∀ (n : Nat) (x : σ), Eqv f (bodyLF st n x)
  | 0, x => fun s => by
    rfl
  | n + 1, x => fun s => by
    unfold bodyLF
    rw [re_here, re_is]
    by_cases hc : pisB s.here 4 ⟨#[125]⟩ = true
    · rw [if_pos hc, if_pos hc]; rfl
    · rw [if_neg hc, if_neg hc, hs]
      cases st x s with
      | error y => rfl
      | ok p => exact re_bodyL f hs n _ p.2
theorem re_body {σ : Type} {st : Stp σ} (f : Int → Int) (hs : ∀ x, Eqv f (st x)) (x : σ) : Eqv f (bodyF st x) := fun s => by
  unfold bodyF
  rw [re_need]
  cases pneedSignF ⟨#[123]⟩ s with
  | error y => rfl
  | ok p =>
    obtain ⟨u, s1⟩ := p
    dsimp only [reX]
    rw [re_len]
    exact re_bodyL f hs _ x s1
theorem re_enO (f : Int → Int) (x : En) : Eqv f (enO x) := fun s => by
  unfold enO
  rw [re_value]
  cases valueF s with
  | error y => rfl
  | ok p => rfl
theorem re_enR (f : Int → Int) (x : En) : Eqv f (enR x) := fun s => by
  unfold enR
  rw [re_res f]
  cases resF (-2147483648) 2147483647 true x.res x.gone s with
  | error y => rfl
  | ok p => rfl
theorem re_enW (f : Int → Int) (k : ByteArray) (g : Stp En) (hg : enW k = some g) (x : En) : Eqv f (g x) := by
  unfold enW at hg
  by_cases q0 : (k == ⟨#[114, 101, 115, 101, 114, 118, 101, 100]⟩) = true
  · rw [if_pos q0] at hg
    obtain rfl := Option.some.inj hg
    exact re_enR f x
  rw [if_neg q0] at hg
  by_cases q1 : (k == ⟨#[111, 112, 116, 105, 111, 110]⟩) = true
  · rw [if_pos q1] at hg
    obtain rfl := Option.some.inj hg
    exact re_refuse f x
  rw [if_neg q1] at hg
  cases hg
theorem re_enum (f : Int → Int) : Eqv f enumF := fun s => by
  unfold enumF
  rw [re_begun, re_next]
  cases pnextF s.begun with
  | error y => rfl
  | ok p =>
    obtain ⟨u, s1⟩ := p
    dsimp only [reX]
    rw [re_name]
    cases pnameF s1 with
    | error y => rfl
    | ok p =>
      obtain ⟨nm, s2⟩ := p
      dsimp only [reX]
      rw [re_body f (re_stmt f (re_enW f) (re_enO f))]
      cases bodyF (stmtF enW enO) ⟨nm, [], [], []⟩ s2 with
      | error y => rfl
      | ok p =>
        obtain ⟨x, s3⟩ := p
        dsimp only [reX]
        rw [re_wrong, re_next]
        by_cases hc : x.vals.length = 0
        · rw [if_pos hc, if_pos hc]
        · rw [if_neg hc, if_neg hc]
          cases pnextF s3 with
          | error y => rfl
          | ok p => rfl
theorem re_oneO (f : Int → Int) (x : Mp) : Eqv f (oneO x) := fun s => by
  unfold oneO
  rw [re_plain]
  cases plainF (x.os.length : Int) s with
  | error y => rfl
  | ok p => rfl
theorem re_choW (f : Int → Int) (k : ByteArray) (g : Stp Mp) (hg : choW k = some g) (x : Mp) : Eqv f (g x) := by
  unfold choW at hg
  by_cases q0 : (k == ⟨#[111, 112, 116, 105, 111, 110]⟩) = true
  · rw [if_pos q0] at hg
    obtain rfl := Option.some.inj hg
    exact re_refuse f x
  rw [if_neg q0] at hg
  by_cases q1 : (k == ⟨#[103, 114, 111, 117, 112]⟩) = true
  · rw [if_pos q1] at hg
    obtain rfl := Option.some.inj hg
    exact re_refuse f x
  rw [if_neg q1] at hg
  by_cases q2 : (k == ⟨#[111, 112, 116, 105, 111, 110, 97, 108]⟩) = true
  · rw [if_pos q2] at hg
    obtain rfl := Option.some.inj hg
    exact re_refuse f x
  rw [if_neg q2] at hg
  by_cases q3 : (k == ⟨#[114, 101, 112, 101, 97, 116, 101, 100]⟩) = true
  · rw [if_pos q3] at hg
    obtain rfl := Option.some.inj hg
    exact re_refuse f x
  rw [if_neg q3] at hg
  by_cases q4 : (k == ⟨#[114, 101, 113, 117, 105, 114, 101, 100]⟩) = true
  · rw [if_pos q4] at hg
    obtain rfl := Option.some.inj hg
    exact re_refuse f x
  rw [if_neg q4] at hg
  by_cases q5 : (k == ⟨#[111, 110, 101, 111, 102]⟩) = true
  · rw [if_pos q5] at hg
    obtain rfl := Option.some.inj hg
    exact re_refuse f x
  rw [if_neg q5] at hg
  by_cases q6 : (k == ⟨#[109, 101, 115, 115, 97, 103, 101]⟩) = true
  · rw [if_pos q6] at hg
    obtain rfl := Option.some.inj hg
    exact re_refuse f x
  rw [if_neg q6] at hg
  by_cases q7 : (k == ⟨#[101, 110, 117, 109]⟩) = true
  · rw [if_pos q7] at hg
    obtain rfl := Option.some.inj hg
    exact re_refuse f x
  rw [if_neg q7] at hg
  by_cases q8 : (k == ⟨#[114, 101, 115, 101, 114, 118, 101, 100]⟩) = true
  · rw [if_pos q8] at hg
    obtain rfl := Option.some.inj hg
    exact re_refuse f x
  rw [if_neg q8] at hg
  cases hg
theorem re_oneof (f : Int → Int) (x : Mp) : Eqv f (oneofF x) := fun s => by
  unfold oneofF
  rw [re_begun, re_next]
  cases pnextF s.begun with
  | error y => rfl
  | ok p =>
    obtain ⟨u, s1⟩ := p
    dsimp only [reX]
    rw [re_name]
    cases pnameF s1 with
    | error y => rfl
    | ok p =>
      obtain ⟨nm, s2⟩ := p
      dsimp only [reX]
      unfold oneBody
      rw [re_body f (re_stmt f (re_choW f) (re_oneO f))]
      cases bodyF (stmtF choW oneO) { x with os := x.os ++ [nm] } s2 with
      | error y => rfl
      | ok p =>
        obtain ⟨x2, s3⟩ := p
        dsimp only [reX]
        unfold oneEnd
        rw [re_wrong, re_next]
        by_cases hc : x2.fs.length = x.fs.length
        · rw [if_pos hc, if_pos hc]
        · rw [if_neg hc, if_neg hc]
          cases pnextF s3 with
          | error y => rfl
          | ok p => rfl
theorem re_msO (f : Int → Int) (x : Mp) : Eqv f (msO x) := fun s => by
  unfold msO
  rw [re_plain]
  cases plainF 0 s with
  | error y => rfl
  | ok p => rfl
theorem re_msW (f : Int → Int) {mf : PSt → Except (Int × Int) (Ms × PSt)} (hm : Eqv f mf) (k : ByteArray) (g : Stp Mp) (hg : msW mf k = some g) (x : Mp) : Eqv f (g x) := by
  unfold msW at hg
  by_cases q0 : (k == ⟨#[109, 101, 115, 115, 97, 103, 101]⟩) = true
  · rw [if_pos q0] at hg
    obtain rfl := Option.some.inj hg
    intro s
    unfold msM
    rw [hm]
    cases mf s with
    | error y => rfl
    | ok p => rfl
  rw [if_neg q0] at hg
  by_cases q1 : (k == ⟨#[101, 110, 117, 109]⟩) = true
  · rw [if_pos q1] at hg
    obtain rfl := Option.some.inj hg
    intro s
    unfold msE
    rw [re_enum f]
    cases enumF s with
    | error y => rfl
    | ok p => rfl
  rw [if_neg q1] at hg
  by_cases q2 : (k == ⟨#[111, 110, 101, 111, 102]⟩) = true
  · rw [if_pos q2] at hg
    obtain rfl := Option.some.inj hg
    exact re_oneof f x
  rw [if_neg q2] at hg
  by_cases q3 : (k == ⟨#[114, 101, 115, 101, 114, 118, 101, 100]⟩) = true
  · rw [if_pos q3] at hg
    obtain rfl := Option.some.inj hg
    intro s
    unfold msR
    rw [re_res f]
    cases resF 1 536870911 false x.rs x.gs s with
    | error y => rfl
    | ok p => rfl
  rw [if_neg q3] at hg
  by_cases q4 : (k == ⟨#[111, 112, 116, 105, 111, 110, 97, 108]⟩) = true
  · rw [if_pos q4] at hg
    obtain rfl := Option.some.inj hg
    intro s
    unfold msL
    rw [re_labelled]
    cases labelledF 2 s with
    | error y => rfl
    | ok p => rfl
  rw [if_neg q4] at hg
  by_cases q5 : (k == ⟨#[114, 101, 112, 101, 97, 116, 101, 100]⟩) = true
  · rw [if_pos q5] at hg
    obtain rfl := Option.some.inj hg
    intro s
    unfold msL
    rw [re_labelled]
    cases labelledF 3 s with
    | error y => rfl
    | ok p => rfl
  rw [if_neg q5] at hg
  by_cases q6 : (k == ⟨#[109, 97, 112]⟩) = true
  · rw [if_pos q6] at hg
    obtain rfl := Option.some.inj hg
    intro s
    unfold msMap
    rw [re_mapOr]
    cases mapOrFieldF s with
    | error y => rfl
    | ok p => rfl
  rw [if_neg q6] at hg
  by_cases q7 : (k == ⟨#[111, 112, 116, 105, 111, 110]⟩) = true
  · rw [if_pos q7] at hg
    obtain rfl := Option.some.inj hg
    exact re_refuse f x
  rw [if_neg q7] at hg
  by_cases q8 : (k == ⟨#[101, 120, 116, 101, 110, 100]⟩) = true
  · rw [if_pos q8] at hg
    obtain rfl := Option.some.inj hg
    exact re_refuse f x
  rw [if_neg q8] at hg
  by_cases q9 : (k == ⟨#[101, 120, 116, 101, 110, 115, 105, 111, 110, 115]⟩) = true
  · rw [if_pos q9] at hg
    obtain rfl := Option.some.inj hg
    exact re_refuse f x
  rw [if_neg q9] at hg
  by_cases q10 : (k == ⟨#[103, 114, 111, 117, 112]⟩) = true
  · rw [if_pos q10] at hg
    obtain rfl := Option.some.inj hg
    exact re_refuse f x
  rw [if_neg q10] at hg
  by_cases q11 : (k == ⟨#[114, 101, 113, 117, 105, 114, 101, 100]⟩) = true
  · rw [if_pos q11] at hg
    obtain rfl := Option.some.inj hg
    exact re_refuse f x
  rw [if_neg q11] at hg
  cases hg
theorem re_up (f : Int → Int) (s : PSt) : (reS f s).up1 = reS f s.up1 := rfl
theorem re_down (f : Int → Int) (s : PSt) : (reS f s).down1 = reS f s.down1 := rfl
theorem re_message (f : Int → Int) : ∀ n, Eqv f (messageF n)
  | 0 => fun s => by
    rfl
  | n + 1 => fun s => by
    unfold messageF
    rw [show (reS f s).op = s.op from rfl]
    by_cases hc : s.op = 32
    · rw [if_pos hc, if_pos hc, re_here]; rfl
    · rw [if_neg hc, if_neg hc, re_begun, re_next]
      cases pnextF s.begun with
      | error y => rfl
      | ok p =>
        obtain ⟨u, s1⟩ := p
        dsimp only [reX]
        rw [re_name]
        cases pnameF s1 with
        | error y => rfl
        | ok p =>
          obtain ⟨nm, s2⟩ := p
          dsimp only [reX]
          unfold msBody
          rw [re_up, re_body f (re_stmt f (re_msW f (re_message f n)) (re_msO f))]
          cases bodyF (stmtF (msW (messageF n)) msO) ⟨nm, [], [], [], [], [], []⟩ s2.up1 with
          | error y => rfl
          | ok p =>
            obtain ⟨x, s3⟩ := p
            dsimp only [reX]
            unfold msEnd
            rw [re_next]
            cases pnextF s3 with
            | error y => rfl
            | ok p => rfl
theorem re_flW (f : Int → Int) (k : ByteArray) (g : Stp Fl) (hg : flW k = some g) (x : Fl) : Eqv f (g x) := by
  unfold flW at hg
  by_cases q0 : (k == ⟨#[112, 97, 99, 107, 97, 103, 101]⟩) = true
  · rw [if_pos q0] at hg
    obtain rfl := Option.some.inj hg
    intro s
    unfold pkgF
    by_cases hc : (x.pkg.toList == []) = true
    · rw [if_pos hc, if_pos hc, re_next]
      cases pnextF s with
      | error y => rfl
      | ok p =>
        obtain ⟨u, s1⟩ := p
        dsimp only [reX]
        rw [re_dotted]
        cases dottedF false s1 with
        | error y => rfl
        | ok p =>
          obtain ⟨q, s2⟩ := p
          dsimp only [reX]
          rw [re_need]
          cases pneedSignF ⟨#[59]⟩ s2 with
          | error y => rfl
          | ok p => rfl
    · rw [if_neg hc, if_neg hc, re_wrong]; rfl
  rw [if_neg q0] at hg
  by_cases q1 : (k == ⟨#[105, 109, 112, 111, 114, 116]⟩) = true
  · rw [if_pos q1] at hg
    obtain rfl := Option.some.inj hg
    intro s
    unfold impS
    rw [re_imported]
    cases importedF s with
    | error y => rfl
    | ok p => rfl
  rw [if_neg q1] at hg
  by_cases q2 : (k == ⟨#[109, 101, 115, 115, 97, 103, 101]⟩) = true
  · rw [if_pos q2] at hg
    obtain rfl := Option.some.inj hg
    intro s
    unfold fmS
    rw [re_message f]
    cases messageF 16384 s with
    | error y => rfl
    | ok p => rfl
  rw [if_neg q2] at hg
  by_cases q3 : (k == ⟨#[101, 110, 117, 109]⟩) = true
  · rw [if_pos q3] at hg
    obtain rfl := Option.some.inj hg
    intro s
    unfold feS
    rw [re_enum f]
    cases enumF s with
    | error y => rfl
    | ok p => rfl
  rw [if_neg q3] at hg
  by_cases q4 : (k == ⟨#[111, 112, 116, 105, 111, 110]⟩) = true
  · rw [if_pos q4] at hg
    obtain rfl := Option.some.inj hg
    exact re_refuse f x
  rw [if_neg q4] at hg
  by_cases q5 : (k == ⟨#[115, 101, 114, 118, 105, 99, 101]⟩) = true
  · rw [if_pos q5] at hg
    obtain rfl := Option.some.inj hg
    exact re_refuse f x
  rw [if_neg q5] at hg
  by_cases q6 : (k == ⟨#[101, 120, 116, 101, 110, 100]⟩) = true
  · rw [if_pos q6] at hg
    obtain rfl := Option.some.inj hg
    exact re_refuse f x
  rw [if_neg q6] at hg
  cases hg
theorem re_flO (f : Int → Int) (x : Fl) : Eqv f (flO x) := fun s => by
  show Except.error (wrongE (reS f s)) = _
  rw [re_wrong]
  rfl
theorem re_fileL (f : Int → Int) : ∀ (n : Nat) (x : Fl), Eqv f (fileLF (stmtF flW flO) n x)
  | 0, x => fun s => by
    rfl
  | n + 1, x => fun s => by
    unfold fileLF
    rw [re_here]
    show (if s.here.kind = 5 then _ else _) = _
    by_cases hc : s.here.kind = 5
    · rw [if_pos hc, if_pos hc]; rfl
    · rw [if_neg hc, if_neg hc, re_stmt f (re_flW f) (re_flO f)]
      cases stmtF flW flO x s with
      | error y => rfl
      | ok p => exact re_fileL f n _ p.2
theorem re_file (f : Int → Int) : Eqv f fileF := fun s => by
  unfold fileF
  rw [re_take]
  cases ptakeF 1 ⟨#[115, 121, 110, 116, 97, 120]⟩ s with
  | error y => rfl
  | ok p =>
    obtain ⟨b, s1⟩ := p
    cases b with
    | false =>
      show Except.error (wrongE (reS f s1)) = _
      rw [re_wrong]
      rfl
    | true =>
      dsimp only [reX]
      rw [re_need]
      cases pneedSignF ⟨#[61]⟩ s1 with
      | error y => rfl
      | ok p =>
        obtain ⟨u, s2⟩ := p
        dsimp only [reX]
        rw [re_mean]
        cases meaningF syntaxF s2 with
        | error y => rfl
        | ok p =>
          obtain ⟨v, s3⟩ := p
          dsimp only [reX]
          rw [re_need]
          cases pneedSignF ⟨#[59]⟩ s3 with
          | error y => rfl
          | ok p =>
            obtain ⟨u4, s4⟩ := p
            dsimp only [reX]
            unfold fileBody
            rw [re_len]
            exact re_fileL f _ _ s4
end Go.Proofs.YtdhncpeemcanlaaGreatDoor
