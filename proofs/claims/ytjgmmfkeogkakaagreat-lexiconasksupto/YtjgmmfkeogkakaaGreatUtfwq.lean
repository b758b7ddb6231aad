/-
  What the program's calls on texts come to: Valid and the document's Encode, for every text, place and number, in every world that holds the two tables of unicode/utf8.
-/
import Derived.Test.YtjgmmfkeogkakaaGreatUtfaq
import Derived.WalkKit
import Derived.Lib.Walk
import Derived.Lib.RuneCountTail
import Derived.Laws.RangeString
import Derived.Laws.RangeAny
import Derived.LoopTactic
import Derived.Lib.OthersKept
import Derived.WalkSmall
import Derived.Laws.BytesArg
import Derived.Laws.IdiomStrings
import Derived.Deep.DeepFit
namespace Go.Proofs.YtjgmmfkeogkakaaGreat.Utf
open Go Go.Lib Go.RowKit


theorem enc_bad {r : Int} (h : ¬ ((0 ≤ r ∧ r < 55296) ∨ (57344 ≤ r ∧ r ≤ 1114111))) : Utf8.encode r = ⟨#[239, 191, 189]⟩ := by
  have e := wr_bad h
  rw [enc3 (by omega) (by omega), e]
  rfl

theorem ret_str {a b : ByteArray} (h : a = b) : Ending.returned (.string a) = .returned (.string b) := by rw [h]
theorem encZ1 {r : Int} (h0 : 0 ≤ r) (h : r < 128) : Utf8.encode r = ⟨#[UInt8.ofNat r.toNat]⟩ := by
  have e := wr_valid (r := r) (by omega)
  rw [enc1 (by omega), e]
theorem encZ2 {r : Int} (h0 : 128 ≤ r) (h : r < 2048) : Utf8.encode r = ⟨#[UInt8.ofNat (192 + r / 64).toNat, UInt8.ofNat (128 + r % 64).toNat]⟩ := by
  have e := wr_valid (r := r) (by omega)
  rw [enc2 (by omega) (by omega), e, show (192 + r / 64).toNat = 192 + r.toNat / 64 by omega, show (128 + r % 64).toNat = 128 + r.toNat % 64 by omega]
theorem encZ3 {r : Int} (h0 : (2048 ≤ r ∧ r < 55296) ∨ (57344 ≤ r ∧ r < 65536)) : Utf8.encode r = ⟨#[UInt8.ofNat (224 + r / 4096).toNat, UInt8.ofNat (128 + r / 64 % 64).toNat, UInt8.ofNat (128 + r % 64).toNat]⟩ := by
  have e := wr_valid (r := r) (by omega)
  rw [enc3 (by omega) (by omega), e, show (224 + r / 4096).toNat = 224 + r.toNat / 4096 by omega, show (128 + r / 64 % 64).toNat = 128 + r.toNat / 64 % 64 by omega, show (128 + r % 64).toNat = 128 + r.toNat % 64 by omega]
theorem encZ4 {r : Int} (h0 : 65536 ≤ r) (h : r ≤ 1114111) : Utf8.encode r = ⟨#[UInt8.ofNat (240 + r / 262144).toNat, UInt8.ofNat (128 + r / 4096 % 64).toNat, UInt8.ofNat (128 + r / 64 % 64).toNat, UInt8.ofNat (128 + r % 64).toNat]⟩ := by
  have e := wr_valid (r := r) (by omega)
  rw [enc4 (by omega), e, show (240 + r / 262144).toNat = 240 + r.toNat / 262144 by omega, show (128 + r / 4096 % 64).toNat = 128 + r.toNat / 4096 % 64 by omega, show (128 + r / 64 % 64).toNat = 128 + r.toNat / 64 % 64 by omega, show (128 + r % 64).toNat = 128 + r.toNat % 64 by omega]
/-- A new slice of bytes, as a string. -/
theorem cv_new (w : World) (n : Nat) (xs : List Int) (hn : xs.length = n) :
    (convert 96 9 (.slice (some ⟨w.heap.size, 0, none⟩) n n)).run Tryz.prog (w.alloc (.cells (xs.map (Value.int .u8)).toArray 5)) = .ok (.string ⟨(xs.map fun n => UInt8.ofNat n.toNat).toArray⟩) (w.alloc (.cells (xs.map (Value.int .u8)).toArray 5)) := by
  refine run_convert_bytes_arg _ 96 5 Tryz.underlying96 Tryz.underlying5 w.heap.size 0 n n xs hn (fun i hi => ?_) 9 Tryz.underlying9
  rw [Nat.zero_add, World.cell?_alloc_mark w (xs.map (Value.int .u8)).toArray 5 (0, 0) i]
  simp [List.getElem?_eq_getElem (show i < xs.length by omega)]

end Go.Proofs.YtjgmmfkeogkakaaGreat.Utf
