/-
  The library's strings.Clone, laid at this program's numbers: the same text.
-/
import Derived.Test.YthjgldjjplcncaaProg
import Derived.Shelf.Strconv.Clone
import Derived.KernelRfl
namespace Go.Proofs.Ythjgldjjplcncaa.Utf
open Go Go.Shelf Go.RowKit Go.Lib Go.Proofs

def cloneRen : Go.Shelf.Ren := ⟨fun | 316 => 33 | n => n, fun | 37 => 94 | 127 => 95 | n => n, fun | n => n⟩
theorem cloneLays : LaysM.n316 Try.prog cloneRen := {
  mixed := by kernel_rfl
  f316 := Try.func33.trans (congrArg some (by kernel_rfl))
  t0 := Try.underlying0
  a0 := Try.isAgg0
  z0 := Try.sizeOf0
  v0 := Try.zeroValue0
  t3 := Try.underlying3
  a3 := Try.isAgg3
  z3 := Try.sizeOf3
  v3 := Try.zeroValue3
  t4 := Try.underlying4
  a4 := Try.isAgg4
  z4 := Try.sizeOf4
  v4 := Try.zeroValue4
  t5 := Try.underlying5
  a5 := Try.isAgg5
  z5 := Try.sizeOf5
  v5 := Try.zeroValue5
  t9 := Try.underlying9
  a9 := Try.isAgg9
  z9 := Try.sizeOf9
  v9 := Try.zeroValue9
  t37 := Try.underlying94
  a37 := Try.isAgg94
  z37 := Try.sizeOf94
  v37 := Try.zeroValue94
  t127 := Try.underlying95
  a127 := Try.isAgg95
  z127 := Try.sizeOf95
  v127 := Try.zeroValue95
  i0 := by kernel_rfl
  i3 := by kernel_rfl
  i4 := by kernel_rfl
  i5 := by kernel_rfl
  i9 := by kernel_rfl
  i37 := by kernel_rfl
  i127 := by kernel_rfl }
theorem liteClone_any (s : ByteArray) (w : World) (h : s.size ≤ 281474976710656) :
    Calls Try.prog 33 #[.string s] w fun e w' => e = .returned (.string s) ∧ Below w.heap.size w w' := Any.stringslite_Clone cloneLays s w h
theorem clone_any (s : ByteArray) (w : World) (h : s.size ≤ 281474976710656) :
    Calls Try.prog 16 #[.string s] w fun e w' => e = .returned (.string s) ∧ Below w.heap.size w w' := by
  have cL := liteClone_any s w h
  go_enter Try.func16, Try.ntmps16
  go_wp2_with fail
  refine cL.mono ?_
  rintro e w' ⟨rfl, hb⟩
  clear cL
  go_wp2
  go_ret
  exact ⟨rfl, hb⟩
end Go.Proofs.Ythjgldjjplcncaa.Utf
