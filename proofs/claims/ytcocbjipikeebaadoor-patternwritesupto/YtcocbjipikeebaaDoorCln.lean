/-
  The library's strings.Clone, laid at this program's numbers: the same text.
-/
import Derived.Test.YtcocbjipikeebaaDoorProg
import Derived.Shelf.Strconv.Clone
import Derived.KernelRfl
namespace Go.Proofs.YtcocbjipikeebaaDoor.Utf
open Go Go.Shelf Go.RowKit Go.Lib Go.Proofs

def cloneRen : Go.Shelf.Ren := ⟨fun | 316 => 46 | n => n, fun | 37 => 50 | 127 => 81 | n => n, fun | n => n⟩
theorem cloneLays : LaysM.n316 Tryd.prog cloneRen := {
  mixed := by kernel_rfl
  f316 := Tryd.func46.trans (congrArg some (by kernel_rfl))
  t0 := Tryd.underlying0
  a0 := Tryd.isAgg0
  z0 := Tryd.sizeOf0
  v0 := Tryd.zeroValue0
  t3 := Tryd.underlying3
  a3 := Tryd.isAgg3
  z3 := Tryd.sizeOf3
  v3 := Tryd.zeroValue3
  t4 := Tryd.underlying4
  a4 := Tryd.isAgg4
  z4 := Tryd.sizeOf4
  v4 := Tryd.zeroValue4
  t5 := Tryd.underlying5
  a5 := Tryd.isAgg5
  z5 := Tryd.sizeOf5
  v5 := Tryd.zeroValue5
  t9 := Tryd.underlying9
  a9 := Tryd.isAgg9
  z9 := Tryd.sizeOf9
  v9 := Tryd.zeroValue9
  t37 := Tryd.underlying50
  a37 := Tryd.isAgg50
  z37 := Tryd.sizeOf50
  v37 := Tryd.zeroValue50
  t127 := Tryd.underlying81
  a127 := Tryd.isAgg81
  z127 := Tryd.sizeOf81
  v127 := Tryd.zeroValue81
  i0 := by kernel_rfl
  i3 := by kernel_rfl
  i4 := by kernel_rfl
  i5 := by kernel_rfl
  i9 := by kernel_rfl
  i37 := by kernel_rfl
  i127 := by kernel_rfl }
theorem liteClone_any (s : ByteArray) (w : World) (h : s.size ≤ 281474976710656) :
    Calls Tryd.prog 46 #[.string s] w fun e w' => e = .returned (.string s) ∧ Below w.heap.size w w' := Any.stringslite_Clone cloneLays s w h
theorem clone_any (s : ByteArray) (w : World) (h : s.size ≤ 281474976710656) :
    Calls Tryd.prog 23 #[.string s] w fun e w' => e = .returned (.string s) ∧ Below w.heap.size w w' := by
  have cL := liteClone_any s w h
  go_enter Tryd.func23, Tryd.ntmps23
  go_wp2_with fail
  refine cL.mono ?_
  rintro e w' ⟨rfl, hb⟩
  clear cL
  go_wp2
  go_ret
  exact ⟨rfl, hb⟩
end Go.Proofs.YtcocbjipikeebaaDoor.Utf
