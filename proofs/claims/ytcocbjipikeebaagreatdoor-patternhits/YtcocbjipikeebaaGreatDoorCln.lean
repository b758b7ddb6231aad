/-
  The library's strings.Clone, laid at this program's numbers: the same text.
-/
import Derived.Test.YtcocbjipikeebaaGreatDoorProg
import Derived.Shelf.Strconv.Clone
import Derived.KernelRfl
namespace Go.Proofs.YtcocbjipikeebaaGreatDoor.Utf
open Go Go.Shelf Go.RowKit Go.Lib Go.Proofs

def cloneRen : Go.Shelf.Ren := ⟨fun | 316 => 61 | n => n, fun | 37 => 98 | 127 => 140 | n => n, fun | n => n⟩
theorem cloneLays : LaysM.n316 Tryz.prog cloneRen := {
  mixed := by kernel_rfl
  f316 := Tryz.func61.trans (congrArg some (by kernel_rfl))
  t0 := Tryz.underlying0
  a0 := Tryz.isAgg0
  z0 := Tryz.sizeOf0
  v0 := Tryz.zeroValue0
  t3 := Tryz.underlying3
  a3 := Tryz.isAgg3
  z3 := Tryz.sizeOf3
  v3 := Tryz.zeroValue3
  t4 := Tryz.underlying4
  a4 := Tryz.isAgg4
  z4 := Tryz.sizeOf4
  v4 := Tryz.zeroValue4
  t5 := Tryz.underlying5
  a5 := Tryz.isAgg5
  z5 := Tryz.sizeOf5
  v5 := Tryz.zeroValue5
  t9 := Tryz.underlying9
  a9 := Tryz.isAgg9
  z9 := Tryz.sizeOf9
  v9 := Tryz.zeroValue9
  t37 := Tryz.underlying98
  a37 := Tryz.isAgg98
  z37 := Tryz.sizeOf98
  v37 := Tryz.zeroValue98
  t127 := Tryz.underlying140
  a127 := Tryz.isAgg140
  z127 := Tryz.sizeOf140
  v127 := Tryz.zeroValue140
  i0 := by kernel_rfl
  i3 := by kernel_rfl
  i4 := by kernel_rfl
  i5 := by kernel_rfl
  i9 := by kernel_rfl
  i37 := by kernel_rfl
  i127 := by kernel_rfl }
theorem liteClone_any (s : ByteArray) (w : World) (h : s.size ≤ 281474976710656) :
    Calls Tryz.prog 61 #[.string s] w fun e w' => e = .returned (.string s) ∧ Below w.heap.size w w' := Any.stringslite_Clone cloneLays s w h
theorem clone_any (s : ByteArray) (w : World) (h : s.size ≤ 281474976710656) :
    Calls Tryz.prog 32 #[.string s] w fun e w' => e = .returned (.string s) ∧ Below w.heap.size w w' := by
  have cL := liteClone_any s w h
  go_enter Tryz.func32, Tryz.ntmps32
  go_wp2_with fail
  refine cL.mono ?_
  rintro e w' ⟨rfl, hb⟩
  clear cL
  go_wp2
  go_ret
  exact ⟨rfl, hb⟩
end Go.Proofs.YtcocbjipikeebaaGreatDoor.Utf
