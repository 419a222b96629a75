import Derived.Shelf.Pu.ToError
import Derived.Shelf.Pu.ToErrorRange
import Derived.Test.YthodjkeppobcmaaDoorChecked
import Derived.Test.YthodjkeppobcmaaDoorSP16x16
namespace Go.Proofs
open Go.Shelf
def Tryd.laysPu17_ren : Go.Shelf.Ren := ⟨fun | 17 => 66 | 21 => 69 | 22 => 70 | 23 => 71 | 24 => 72 | 25 => 73 | 27 => 75 | 26 => 74 | 28 => 76 | 29 => 77 | 30 => 78 | 31 => 79 | 32 => 80 | 33 => 81 | 35 => 83 | 34 => 82 | 36 => 84 | 37 => 85 | 38 => 86 | 39 => 87 | 40 => 88 | n => n, fun | 9 => 9 | 3 => 3 | 24 => 36 | 34 => 95 | 4 => 4 | 39 => 97 | 44 => 102 | 37 => 31 | 0 => 0 | 47 => 52 | 50 => 107 | 48 => 105 | 2 => 2 | 52 => 109 | 22 => 91 | 5 => 5 | 55 => 112 | 59 => 115 | 60 => 116 | 20 => 20 | 61 => 117 | 36 => 90 | 65 => 121 | 66 => 122 | 67 => 40 | n => n, fun | 0 => 2 | 1 => 3 | 2 => 4 | 3 => 5 | 4 => 6 | n => n⟩
theorem Tryd.laysPu17 : Go.Proofs.LaysPu.n17 Tryd.prog Tryd.laysPu17_ren := {
  mixed := by kernel_rfl
  f17 := Tryd.func66.trans (congrArg some (by kernel_rfl))
  f21 := Tryd.func69.trans (congrArg some (by kernel_rfl))
  f22 := Tryd.func70.trans (congrArg some (by kernel_rfl))
  f23 := Tryd.func71.trans (congrArg some (by kernel_rfl))
  f24 := Tryd.func72.trans (congrArg some (by kernel_rfl))
  f25 := Tryd.func73.trans (congrArg some (by kernel_rfl))
  f26 := Tryd.func74.trans (congrArg some (by kernel_rfl))
  f27 := Tryd.func75.trans (congrArg some (by kernel_rfl))
  f28 := Tryd.func76.trans (congrArg some (by kernel_rfl))
  f29 := Tryd.func77.trans (congrArg some (by kernel_rfl))
  f30 := Tryd.func78.trans (congrArg some (by kernel_rfl))
  f31 := Tryd.func79.trans (congrArg some (by kernel_rfl))
  f32 := Tryd.func80.trans (congrArg some (by kernel_rfl))
  f33 := Tryd.func81.trans (congrArg some (by kernel_rfl))
  f34 := Tryd.func82.trans (congrArg some (by kernel_rfl))
  f35 := Tryd.func83.trans (congrArg some (by kernel_rfl))
  f36 := Tryd.func84.trans (congrArg some (by kernel_rfl))
  f37 := Tryd.func85.trans (congrArg some (by kernel_rfl))
  f38 := Tryd.func86.trans (congrArg some (by kernel_rfl))
  f39 := Tryd.func87.trans (congrArg some (by kernel_rfl))
  f40 := Tryd.func88.trans (congrArg some (by kernel_rfl))
  t0 := Tryd.underlying0
  a0 := Tryd.isAgg0
  z0 := Tryd.sizeOf0
  v0 := Tryd.zeroValue0
  i0 := by kernel_rfl
  t2 := Tryd.underlying2
  a2 := Tryd.isAgg2
  z2 := Tryd.sizeOf2
  v2 := Tryd.zeroValue2
  i2 := by kernel_rfl
  t3 := Tryd.underlying3
  a3 := Tryd.isAgg3
  z3 := Tryd.sizeOf3
  v3 := Tryd.zeroValue3
  i3 := by kernel_rfl
  t4 := Tryd.underlying4
  a4 := Tryd.isAgg4
  z4 := Tryd.sizeOf4
  v4 := Tryd.zeroValue4
  i4 := by kernel_rfl
  t5 := Tryd.underlying5
  a5 := Tryd.isAgg5
  z5 := Tryd.sizeOf5
  v5 := Tryd.zeroValue5
  i5 := by kernel_rfl
  t9 := Tryd.underlying9
  a9 := Tryd.isAgg9
  z9 := Tryd.sizeOf9
  v9 := Tryd.zeroValue9
  i9 := by kernel_rfl
  t20 := Tryd.underlying20
  a20 := Tryd.isAgg20
  z20 := Tryd.sizeOf20
  v20 := Tryd.zeroValue20
  i20 := by kernel_rfl
  t22 := Tryd.underlying91
  a22 := Tryd.isAgg91
  z22 := Tryd.sizeOf91
  v22 := Tryd.zeroValue91
  i22 := by kernel_rfl
  t24 := Tryd.underlying36
  a24 := Tryd.isAgg36
  z24 := Tryd.sizeOf36
  v24 := Tryd.zeroValue36
  i24 := by kernel_rfl
  t34 := Tryd.underlying95
  a34 := Tryd.isAgg95
  z34 := Tryd.sizeOf95
  v34 := Tryd.zeroValue95
  i34 := by kernel_rfl
  c34 := by kernel_rfl
  t36 := Tryd.underlying90
  a36 := Tryd.isAgg90
  z36 := Tryd.sizeOf90
  v36 := Tryd.zeroValue90
  i36 := by kernel_rfl
  t37 := Tryd.underlying31
  a37 := Tryd.isAgg31
  z37 := Tryd.sizeOf31
  v37 := Tryd.zeroValue31
  i37 := by kernel_rfl
  t39 := Tryd.underlying97
  a39 := Tryd.isAgg97
  z39 := Tryd.sizeOf97
  v39 := Tryd.zeroValue97
  i39 := by kernel_rfl
  t44 := Tryd.underlying102
  a44 := Tryd.isAgg102
  z44 := Tryd.sizeOf102
  v44 := Tryd.zeroValue102
  i44 := by kernel_rfl
  t47 := Tryd.underlying52
  a47 := Tryd.isAgg52
  z47 := Tryd.sizeOf52
  v47 := Tryd.zeroValue52
  i47 := by kernel_rfl
  t48 := Tryd.underlying105
  a48 := Tryd.isAgg105
  z48 := Tryd.sizeOf105
  v48 := Tryd.zeroValue105
  i48 := by kernel_rfl
  t50 := Tryd.underlying107
  a50 := Tryd.isAgg107
  z50 := Tryd.sizeOf107
  v50 := Tryd.zeroValue107
  i50 := by kernel_rfl
  t52 := Tryd.underlying109
  a52 := Tryd.isAgg109
  z52 := Tryd.sizeOf109
  v52 := Tryd.zeroValue109
  i52 := by kernel_rfl
  t55 := Tryd.underlying112
  a55 := Tryd.isAgg112
  z55 := Tryd.sizeOf112
  v55 := Tryd.zeroValue112
  i55 := by kernel_rfl
  t59 := Tryd.underlying115
  a59 := Tryd.isAgg115
  z59 := Tryd.sizeOf115
  v59 := Tryd.zeroValue115
  i59 := by kernel_rfl
  t60 := Tryd.underlying116
  a60 := Tryd.isAgg116
  z60 := Tryd.sizeOf116
  v60 := Tryd.zeroValue116
  i60 := by kernel_rfl
  t61 := Tryd.underlying117
  a61 := Tryd.isAgg117
  z61 := Tryd.sizeOf117
  t65 := Tryd.underlying121
  a65 := Tryd.isAgg121
  z65 := Tryd.sizeOf121
  v65 := Tryd.zeroValue121
  i65 := by kernel_rfl
  t66 := Tryd.underlying122
  a66 := Tryd.isAgg122
  z66 := Tryd.sizeOf122
  v66 := Tryd.zeroValue122
  i66 := by kernel_rfl
  t67 := Tryd.underlying40
  a67 := Tryd.isAgg40
  z67 := Tryd.sizeOf40
  v67 := Tryd.zeroValue40
  i67 := by kernel_rfl
  g0 := by kernel_rfl
  m0 := by kernel_rfl
  g1 := by kernel_rfl
  m1 := by kernel_rfl
  g2 := by kernel_rfl
  m2 := by kernel_rfl
  g3 := by kernel_rfl
  m3 := by kernel_rfl
  g4 := by kernel_rfl
  m4 := by kernel_rfl }
end Go.Proofs

namespace Go.Proofs.YthodjkeppobcmaaDoor
open Go.RowKit
attribute [local go_sem ↓] Go.wp_at_zero Go.wp_at_succ

/-- What the two variables of strconv hold can be read. -/
def HasV (W : World) (g : Nat) : Prop := g < W.heap.size ∧ ∃ ev, W.cell? ⟨g, 0, none⟩ = some ev ∧ (ev = .nilIface ∨ ∃ te pe, ev = .iface te pe)
def HasE (W : World) : Prop := HasV W 2 ∧ HasV W 3
theorem HasV.up {W w : World} {g : Nat} (h : HasV W g) (hb : Below W.heap.size W w) : HasV w g := by
  obtain ⟨h1, ev, h2, h3⟩ := h
  exact ⟨Nat.lt_of_lt_of_le h1 hb.size, ev, (hb.cell (p := ⟨g, 0, none⟩) h1).trans h2, h3⟩
theorem HasE.up {W w : World} (h : HasE W) (hb : Below W.heap.size W w) : HasE w := ⟨h.1.up hb, h.2.up hb⟩

/-- What strconv.ParseUint answers. -/
def SPU (W : World) (B M : Nat) (s : ByteArray) (e : Ending) (w : World) : Prop := Below W.heap.size W w ∧
  ((∃ u : Nat, e = .returned (.tuple #[.int .u64 (u : Int), .nilIface]) ∧ 0 < s.size ∧ nval B M (strN s) 0 = some u) ∨
   (∃ (u : Int) (p : Value), e = .returned (.tuple #[.int .u64 u, .iface 97 p]) ∧ (s.size = 0 ∨ nval B M (strN s) 0 = none)))
theorem toErr_any {W : World} (h : HasE W) (s : ByteArray) (hs : s.size ≤ 65536) (b t c : Int) (hc : c = 1 ∨ c = 2) (fn : ByteArray) :
    Calls Tryd.prog 66 #[.string fn, .string s, .int .i64 b, .int .i64 t, .iface 95 (.int .i64 c)] W fun e w => ∃ p, e = .returned (.iface 97 p) ∧ Below W.heap.size W w := by
  rcases hc with rfl | rfl
  · obtain ⟨_, ev, h2, h3⟩ := h.2
    refine (AnyPu.strconv_toError_range Tryd.laysPu17 fn s b t ev W (by omega) h2 h3).mono ?_
    rintro e w ⟨n, he, _, _, hb⟩
    exact ⟨_, he, hb⟩
  · obtain ⟨_, ev, h2, h3⟩ := h.1
    refine (AnyPu.strconv_toError_syntax Tryd.laysPu17 fn s b t ev W (by omega) h2 h3).mono ?_
    rintro e w ⟨n, he, _, _, hb⟩
    exact ⟨_, he, hb⟩
set_option maxRecDepth 100000 in
set_option maxHeartbeats 1000000 in
theorem sparse_any {W : World} (h : HasE W) (s : ByteArray) (hs : s.size ≤ 65536) (B M : Nat) (b t : Int)
    (hin : Calls Tryd.prog 65 #[.string s, .int .i64 b, .int .i64 t] W (PU W B M s)) :
    Calls Tryd.prog 64 #[.string s, .int .i64 b, .int .i64 t] W (SPU W B M s) := by
  have hb0 := Below.refl W.heap.size W
  go_enter Tryd.func64, Tryd.ntmps64
  go_wp2_with fail
  refine hin.mono ?_
  rintro e w1 ⟨hb1, ⟨u, rfl, hu⟩ | ⟨u, c, rfl, hc, hu⟩⟩
  · have Hb := hide hb1
    have Hu := hide hu
    clear hb1 hu hin
    go_wp2
    go_ret2
    exact ⟨unhide Hb, .inl ⟨u, rfl, unhide Hu⟩⟩
  · have Hb := hide hb1
    have Hu := hide hu
    have Hc := hide hc
    clear hb1 hu hin hc
    go_wp2_with fail
    refine (toErr_any (h.up (unhide Hb)) s hs b t c (unhide Hc) _).mono ?_
    rintro e w2 ⟨p, rfl, hb2⟩
    have hb02 : Below W.heap.size W w2 := (unhide Hb).trans (hb2.mono (unhide Hb).size)
    have Hb2 := hide hb02
    clear hb2 hb02
    go_wp2
    go_ret2
    exact ⟨unhide Hb2, .inr ⟨u, p, rfl, unhide Hu⟩⟩
end Go.Proofs.YthodjkeppobcmaaDoor
