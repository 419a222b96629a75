import Derived.Shelf.Pu.Clone
import Derived.Test.YtadmamfekodkaaaDoorChecked
namespace Go.Proofs
open Go.Shelf
def Tryd.laysNC25_ren : Go.Shelf.Ren := ⟨fun | 25 => 40 | n => n, fun | 9 => 9 | 3 => 3 | 4 => 4 | 37 => 30 | 0 => 0 | 47 => 59 | 5 => 5 | n => n, fun | n => n⟩
theorem Tryd.laysNC25 : Go.Proofs.LaysPu.n25 Tryd.prog Tryd.laysNC25_ren := {
  mixed := by kernel_rfl
  f25 := Tryd.func40.trans (congrArg some (by kernel_rfl))
  t0 := Tryd.underlying0
  a0 := Tryd.isAgg0
  z0 := Tryd.sizeOf0
  v0 := Tryd.zeroValue0
  i0 := by kernel_rfl
  t3 := Tryd.underlying3
  a3 := Tryd.isAgg3
  z3 := Tryd.sizeOf3
  v3 := Tryd.zeroValue3
  i3 := by kernel_rfl
  t4 := Tryd.underlying4
  a4 := Tryd.isAgg4
  z4 := Tryd.sizeOf4
  v4 := Tryd.zeroValue4
  i4 := by kernel_rfl
  t5 := Tryd.underlying5
  a5 := Tryd.isAgg5
  z5 := Tryd.sizeOf5
  v5 := Tryd.zeroValue5
  i5 := by kernel_rfl
  t9 := Tryd.underlying9
  a9 := Tryd.isAgg9
  z9 := Tryd.sizeOf9
  v9 := Tryd.zeroValue9
  i9 := by kernel_rfl
  t37 := Tryd.underlying30
  a37 := Tryd.isAgg30
  z37 := Tryd.sizeOf30
  v37 := Tryd.zeroValue30
  i37 := by kernel_rfl
  t47 := Tryd.underlying59
  a47 := Tryd.isAgg59
  z47 := Tryd.sizeOf59
  v47 := Tryd.zeroValue59
  i47 := by kernel_rfl }
end Go.Proofs
