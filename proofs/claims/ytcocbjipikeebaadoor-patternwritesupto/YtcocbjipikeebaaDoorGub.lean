/-
  What the program's calls on texts come to: Valid and the document's Encode, for every text, place and number, in every world that holds the two tables of unicode/utf8.
-/
import Derived.Test.YtcocbjipikeebaaDoorUtfaq
import Derived.WalkKit
import Derived.Lib.Walk
import Derived.Lib.RuneCountTail
import Derived.Laws.RangeString
import Derived.Laws.RangeAny
import Derived.LoopTactic
import Derived.Lib.OthersKept
import Derived.WalkSmall
import Derived.Laws.BytesArg
import Derived.Laws.IdiomStrings
import Derived.Deep.DeepFit
import Derived.Test.YtcocbjipikeebaaDoorSeqq
import Derived.Test.YtcocbjipikeebaaDoorGbl
namespace Go.Proofs.YtcocbjipikeebaaDoor.Utf
open Go Go.Lib Go.RowKit


theorem enc_bad {r : Int} (h : ¬ ((0 ≤ r ∧ r < 55296) ∨ (57344 ≤ r ∧ r ≤ 1114111))) : Utf8.encode r = ⟨#[239, 191, 189]⟩ := by
  have e := wr_bad h
  rw [enc3 (by omega) (by omega), e]
  rfl

theorem ret_str {a b : ByteArray} (h : a = b) : Ending.returned (.string a) = .returned (.string b) := by rw [h]
theorem encZ1 {r : Int} (h0 : 0 ≤ r) (h : r < 128) : Utf8.encode r = ⟨#[UInt8.ofNat r.toNat]⟩ := by
  have e := wr_valid (r := r) (by omega)
  rw [enc1 (by omega), e]
theorem encZ2 {r : Int} (h0 : 128 ≤ r) (h : r < 2048) : Utf8.encode r = ⟨#[UInt8.ofNat (192 + r / 64).toNat, UInt8.ofNat (128 + r % 64).toNat]⟩ := by
  have e := wr_valid (r := r) (by omega)
  rw [enc2 (by omega) (by omega), e, show (192 + r / 64).toNat = 192 + r.toNat / 64 by omega, show (128 + r % 64).toNat = 128 + r.toNat % 64 by omega]
theorem encZ3 {r : Int} (h0 : (2048 ≤ r ∧ r < 55296) ∨ (57344 ≤ r ∧ r < 65536)) : Utf8.encode r = ⟨#[UInt8.ofNat (224 + r / 4096).toNat, UInt8.ofNat (128 + r / 64 % 64).toNat, UInt8.ofNat (128 + r % 64).toNat]⟩ := by
  have e := wr_valid (r := r) (by omega)
  rw [enc3 (by omega) (by omega), e, show (224 + r / 4096).toNat = 224 + r.toNat / 4096 by omega, show (128 + r / 64 % 64).toNat = 128 + r.toNat / 64 % 64 by omega, show (128 + r % 64).toNat = 128 + r.toNat % 64 by omega]
theorem encZ4 {r : Int} (h0 : 65536 ≤ r) (h : r ≤ 1114111) : Utf8.encode r = ⟨#[UInt8.ofNat (240 + r / 262144).toNat, UInt8.ofNat (128 + r / 4096 % 64).toNat, UInt8.ofNat (128 + r / 64 % 64).toNat, UInt8.ofNat (128 + r % 64).toNat]⟩ := by
  have e := wr_valid (r := r) (by omega)
  rw [enc4 (by omega), e, show (240 + r / 262144).toNat = 240 + r.toNat / 262144 by omega, show (128 + r / 4096 % 64).toNat = 128 + r.toNat / 4096 % 64 by omega, show (128 + r / 64 % 64).toNat = 128 + r.toNat / 64 % 64 by omega, show (128 + r % 64).toNat = 128 + r.toNat % 64 by omega]
/-- A new slice of bytes, as a string. -/
theorem cv_new (w : World) (n : Nat) (xs : List Int) (hn : xs.length = n) :
    (convert 50 9 (.slice (some ⟨w.heap.size, 0, none⟩) n n)).run Tryd.prog (w.alloc (.cells (xs.map (Value.int .u8)).toArray 5)) = .ok (.string ⟨(xs.map fun n => UInt8.ofNat n.toNat).toArray⟩) (w.alloc (.cells (xs.map (Value.int .u8)).toArray 5)) := by
  refine run_convert_bytes_arg _ 50 5 Tryd.underlying50 Tryd.underlying5 w.heap.size 0 n n xs hn (fun i hi => ?_) 9 Tryd.underlying9
  rw [Nat.zero_add, World.cell?_alloc_mark w (xs.map (Value.int .u8)).toArray 5 (0, 0) i]
  simp [List.getElem?_eq_getElem (show i < xs.length by omega)]

end Go.Proofs.YtcocbjipikeebaaDoor.Utf
/-
  The program's Fix: what is written for the runes at the text's places, one behind the other, for every text short enough for a builder.
-/
namespace Go.Proofs.YtcocbjipikeebaaDoor.Utf
open Go Go.Lib Go.RowKit Go.Shelf
attribute [local go_sem] Oper.semAt_some

/-- A builder that the call has made stands where only what is no cells turns. -/
theorem builderAtF_kept {T e : TypeId} {B b : Nat} {p : Value} {bs : List Value} {W W' : World} {row : Option Nat} (h : Lib.BuilderAtF T e B b p bs W) (hg : W.grownBy W' row)
    (hr : ∀ r, row = some r → ∃ o : Obj, W.heap[r]? = some o ∧ o.isCells = false) : Lib.BuilderAtF T e B b p bs W' := by
  obtain ⟨hB, v, hbk, hown, hne⟩ := h
  have hlt : b < W.heap.size := (Array.getElem?_eq_some_iff.1 hbk).1
  refine ⟨hB, v, ?_, hown.kept hg ?_, hne⟩
  · rw [hg.block b hlt (fun e => by obtain ⟨o, ho, hc⟩ := hr b e.symm; rw [hbk] at ho; cases ho; cases hc)]
    exact hbk
  · cases hv : v.ownBlock with
    | none => exact .inl rfl
    | some g =>
      refine .inr (fun e => ?_)
      obtain ⟨o, ho, hc⟩ := hr g e.symm
      obtain ⟨c, fz, hcc⟩ := Lib.ownsRowF_kind hown g hv
      rw [hcc] at ho; cases ho; cases hc
theorem isBuilderF_kept {T e : TypeId} {B b : Nat} {bs : List Value} {W W' : World} {row : Option Nat} (h : Lib.IsBuilderF T e B b bs W) (hg : W.grownBy W' row)
    (hr : ∀ r, row = some r → ∃ o : Obj, W.heap[r]? = some o ∧ o.isCells = false) : Lib.IsBuilderF T e B b bs W' :=
  h.elim (fun x => .inl (builderAtF_kept x hg hr)) (fun x => .inr (builderAtF_kept x hg hr))
theorem builder_own {α : Type} (T e : TypeId) (B b : Nat) (f : List α → List Value) : Own (fun pre W => Lib.IsBuilderF T e B b (f pre) W) := fun _ _ _ _ hs hg hr => isBuilderF_kept hs hg hr
theorem isBuilderF_new (T e : TypeId) (w : World) : Lib.IsBuilderF T e w.heap.size w.heap.size [] (w.alloc (.cells #[.pointer none, .slice none 0 0] T)) :=
  .inl ⟨Nat.le_refl _, .slice none 0 0, World.alloc_heap_new w _, World.ownsRowF_nil _ _ _ _, by simp [Value.ownBlock]⟩
theorem strCells_bytes (s : ByteArray) : Lib.strCells s = Lib.byteCells s.data.toList := by
  simp [Lib.strCells, Lib.byteCells]
theorem byteCells_append (a b : List UInt8) : Lib.byteCells (a ++ b) = Lib.byteCells a ++ Lib.byteCells b := by simp [Lib.byteCells]
end Go.Proofs.YtcocbjipikeebaaDoor.Utf
