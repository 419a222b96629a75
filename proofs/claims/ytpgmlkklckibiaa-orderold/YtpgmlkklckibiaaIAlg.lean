import Derived.Test.YtpgmlkklckibiaaIMade
namespace Go.Proofs.Ytpgmlkklckibiaa
open Go.RowKit Go.Shelf
attribute [local go_sem ↓] Go.wp_at_zero Go.wp_at_succ

theorem Srt.nodup {l : List Ent} (h : Srt l) : l.Nodup := h.imp fun {a b} hab e => by subst e; exact klt_irrefl hab
/-- As many as two lists together that have nothing in common. -/
theorem len_two {l a b : List Ent} (hl : Srt l) (ha : Srt a) (hb : Srt b) (hab : ∀ x ∈ a, x ∉ b) (h : ∀ x, x ∈ l ↔ x ∈ a ∨ x ∈ b) : l.length = a.length + b.length := by
  have hn : (a ++ b).Nodup := List.nodup_append.2 ⟨ha.nodup, hb.nodup, fun x hx y hy e => hab x hx (e ▸ hy)⟩
  have := ((List.perm_ext_iff_of_nodup hl.nodup hn).2 (fun x => by rw [h x, List.mem_append])).length_eq
  rw [this, List.length_append]
theorem hasKey_dec (l : List Ent) (k : KT) : HasKey l k ∨ ¬ HasKey l k := Classical.em _
theorem IsM.srt {W : World} {m : Option Addr} {T : BT} (h : IsM W m T) : Srt T.io := by obtain ⟨_, _, _, _, _, _, q⟩ := h; exact q

/-- Two maps, and what joining, keeping and leaving out make of them. -/
structure Five (W : World) (a b j o w : Nat) (A B J O V : BT) : Prop where
  a : IsM W (some ⟨a, 0, none⟩) A
  b : IsM W (some ⟨b, 0, none⟩) B
  j : IsM W (some ⟨j, 0, none⟩) J
  o : IsM W (some ⟨o, 0, none⟩) O
  w : IsM W (some ⟨w, 0, none⟩) V
  mj : ∀ x, x ∈ J.io ↔ InU A.io B.io x
  mo : ∀ x, x ∈ O.io ↔ InS A.io B.io true x
  mw : ∀ x, x ∈ V.io ↔ InS A.io B.io false x
theorem Five.up {W w' : World} {a b j o w : Nat} {A B J O V : BT} (h : Five W a b j o w A B J O V) (hb : Below W.heap.size W w') : Five w' a b j o w A B J O V :=
  ⟨h.a.up hb, h.b.up hb, h.j.up hb, h.o.up hb, h.w.up hb, h.mj, h.mo, h.mw⟩
theorem Five.lens {W : World} {a b j o w : Nat} {A B J O V : BT} (h : Five W a b j o w A B J O V) : J.io.length = B.io.length + V.io.length ∧ A.io.length = O.io.length + V.io.length := by
  refine ⟨len_two h.j.srt h.b.srt h.w.srt (fun x hx hv => ?_) fun x => ?_, len_two h.a.srt h.o.srt h.w.srt (fun x hx hv => ?_) fun x => ?_⟩
  · have := ((h.mw x).1 hv).2
    simp at this
    exact this ⟨x, hx, rfl⟩
  · rw [h.mj x, h.mw x]
    simp [InU, InS]
  · have h1 := ((h.mw x).1 hv).2
    have h2 := ((h.mo x).1 hx).2
    simp at h1 h2
    exact h1 h2
  · rw [h.mo x, h.mw x]
    simp only [InS, iff_true, Bool.false_eq_true, iff_false]
    rcases hasKey_dec B.io x.1 with k | k <;> simp [k]

/-- What the law asks of them. -/
theorem Five.wo {W : World} {a b j o w : Nat} {A B J O V U : BT} {m : Option Addr} (h : Five W a b j o w A B J O V) (hm : IsM W m U) (hU : ∀ x, x ∈ U.io ↔ InU V.io O.io x) : U.io = A.io := by
  refine Srt.ext hm.srt h.a.srt fun x => ?_
  rw [hU x]
  unfold InU
  rw [h.mo x, h.mw x]
  simp only [InS, iff_true, Bool.false_eq_true, iff_false]
  constructor
  · rintro (k | k)
    · exact k.1
    · exact k.1.1
  · intro hx
    rcases hasKey_dec B.io x.1 with k | k
    · exact .inl ⟨hx, k⟩
    · refine .inr ⟨⟨hx, k⟩, fun hk => ?_⟩
      obtain ⟨y, hy, e⟩ := hk
      have := ((h.mo y).1 hy).2
      simp at this
      exact k (e ▸ this)
theorem Five.wb {W : World} {a b j o w : Nat} {A B J O V U : BT} {m : Option Addr} (h : Five W a b j o w A B J O V) (hm : IsM W m U) (hU : ∀ x, x ∈ U.io ↔ InU V.io B.io x) : U.io = J.io := by
  refine Srt.ext hm.srt h.j.srt fun x => ?_
  rw [hU x, h.mj x]
  unfold InU
  rw [h.mw x]
  simp only [InS, Bool.false_eq_true, iff_false]
  exact ⟨fun k => k.imp id fun q => ⟨q.1.1, q.2⟩, fun k => k.imp id fun q => ⟨⟨q.1, q.2⟩, q.2⟩⟩
theorem Five.aa {W : World} {a b j o w : Nat} {A B J O V U : BT} {m : Option Addr} (h : Five W a b j o w A B J O V) (hm : IsM W m U) (hU : ∀ x, x ∈ U.io ↔ InU A.io A.io x) : U.io = A.io := by
  refine Srt.ext hm.srt h.a.srt fun x => ?_
  rw [hU x]
  exact ⟨fun k => k.elim id fun q => q.1, .inl⟩
theorem Five.ao {W : World} {a b j o w : Nat} {A B J O V U : BT} {m : Option Addr} (h : Five W a b j o w A B J O V) (hm : IsM W m U) (hU : ∀ x, x ∈ U.io ↔ InS A.io A.io true x) : U.io = A.io := by
  refine Srt.ext hm.srt h.a.srt fun x => ?_
  rw [hU x]
  simp only [InS, iff_true]
  exact ⟨fun k => k.1, fun k => ⟨k, x, k, rfl⟩⟩
theorem Five.jb {W : World} {a b j o w : Nat} {A B J O V U : BT} {m : Option Addr} (h : Five W a b j o w A B J O V) (hm : IsM W m U) (hU : ∀ x, x ∈ U.io ↔ InS J.io B.io false x) : U.io = V.io := by
  refine Srt.ext hm.srt h.w.srt fun x => ?_
  rw [hU x, h.mw x]
  unfold InS
  rw [h.mj x]
  simp only [InU, Bool.false_eq_true, iff_false]
  exact ⟨fun k => k.1.elim (fun q => (k.2 ⟨x, q, rfl⟩).elim) fun q => q, fun k => ⟨.inr k, k.2⟩⟩
theorem Five.ob {W : World} {a b j o w : Nat} {A B J O V U : BT} {m : Option Addr} (h : Five W a b j o w A B J O V) (hm : IsM W m U) (hU : ∀ x, x ∈ U.io ↔ InS O.io B.io true x) : U.io = O.io := by
  refine Srt.ext hm.srt h.o.srt fun x => ?_
  rw [hU x]
  unfold InS
  rw [h.mo x]
  simp only [InS, iff_true]
  exact ⟨fun k => k.1, fun k => ⟨k, k.2⟩⟩
theorem len_none {l : List Ent} (h : ∀ x, x ∈ l ↔ False) : l.length = 0 := by
  cases l with
  | nil => rfl
  | cons a l => exact ((h a).1 (by simp)).elim
theorem get_three {W : World} {a b j o w : Nat} {A B J O V : BT} (h : Five W a b j o w A B J O V) {k : KT} (hk : HasKey A.io k) {v u x : Int} {f g i : Bool} (h1 : GetSays A.io k v f) (h2 : GetSays B.io k u g) (h3 : GetSays J.io k x i) :
    f = true ∧ i = true ∧ (g = true → x = u) ∧ (g = false → x = v) := by
  have hA : f = true ∧ (k, v) ∈ A.io := by
    rcases h1 with h | h
    · exact h
    · exact (h.2.2 hk).elim
  have hJ : HasKey J.io k := by
    rcases hasKey_dec B.io k with q | q
    · obtain ⟨y, hy, e⟩ := q
      exact ⟨y, (h.mj y).2 (.inl hy), e⟩
    · exact ⟨(k, v), (h.mj _).2 (.inr ⟨hA.2, q⟩), rfl⟩
  have hJ' : i = true ∧ (k, x) ∈ J.io := by
    rcases h3 with h | h
    · exact h
    · exact (h.2.2 hJ).elim
  refine ⟨hA.1, hJ'.1, fun hg => ?_, fun hg => ?_⟩
  · rcases h2 with q | q
    · have := h.j.srt.inj hJ'.2 ((h.mj (k, u)).2 (.inl q.2)) rfl
      exact congrArg Prod.snd this
    · rw [hg] at q; exact absurd q.1 (by decide)
  · rcases h2 with q | q
    · rw [hg] at q; exact absurd q.1 (by decide)
    · have := h.j.srt.inj hJ'.2 ((h.mj (k, v)).2 (.inr ⟨hA.2, q.2.2⟩)) rfl
      exact congrArg Prod.snd this
end Go.Proofs.Ytpgmlkklckibiaa
