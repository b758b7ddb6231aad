/-
  What the program's calls on texts come to: Next, Encode, Count, for every text, place and number, in every world that holds the two tables of unicode/utf8.
-/
import Derived.Test.YtcocbjipikeebaaDoorDec
import Derived.Test.YtcocbjipikeebaaDoorProg
import Derived.Test.YtcocbjipikeebaaDoorGutf
import Derived.WalkKit
import Derived.Lib.Walk
import Derived.Lib.RuneCountTail
import Derived.Laws.RangeString
import Derived.Laws.RangeAny
import Derived.LoopTactic
import Derived.Lib.OthersKept
import Derived.WalkSmall
import Derived.Laws.BytesArg
import Derived.Laws.IdiomStrings
import Derived.Deep.DeepFit
namespace Go.Proofs.YtcocbjipikeebaaDoor.Utf
open Go Go.Lib Go.RowKit

theorem decodeGo_tail {s : ByteArray} {n : Nat} (h : n < s.size) : Lib.decodeGo (s.extract n s.size) = Utf8.decode s n := by
  unfold Lib.decodeGo
  rw [if_neg (by rw [Lib.tail_size]; omega), Lib.tail_decode, Nat.add_zero]
/-- The two tables stand where nothing below has turned. -/
theorem tabs_below {B : Nat} {w w' : World} (h : Below B w w') (hB : 2 < B) (hT : Lib.Utf8Tabs 1 2 w) : Lib.Utf8Tabs 1 2 w' :=
  ⟨fun c hc => (h.cell (p := ⟨1, c, none⟩) (by show 1 < B; omega)).trans (hT.1 c hc),
   fun i hi => ⟨(h.cell (p := ⟨2, 2 * i, none⟩) (by show 2 < B; omega)).trans (hT.2 i hi).1, (h.cell (p := ⟨2, 2 * i + 1, none⟩) (by show 2 < B; omega)).trans (hT.2 i hi).2⟩⟩
theorem tabs_size {w : World} (hT : Lib.Utf8Tabs 1 2 w) : 2 < w.heap.size := by
  by_cases h : 2 < w.heap.size
  · omega
  · have := (hT.2 0 (by omega)).1
    have e : w.heap[2]? = none := Array.getElem?_eq_none (by omega)
    simp [World.cell?, e] at this

set_option maxHeartbeats 400000 in
theorem next_any (s : ByteArray) (p : Int) (w : World) (hT : Lib.Utf8Tabs 1 2 w) :
    Calls Tryd.prog 69 #[.string s, .int .i64 p] w fun e w' => e = .returned (.tuple #[.int .i32 (nextR s p), .int .i64 (nextW s p)]) ∧ Below w.heap.size w w' := by
  by_cases h0 : p < 0
  · rw [nextR_out (by omega), nextW_out (by omega)]
    go_enter Tryd.func69, Tryd.ntmps69
    go_wp2
    go_ret2
    exact ⟨rfl, Below.refl _ _⟩
  · by_cases h1 : (s.size : Int) ≤ p
    · rw [nextR_out (by omega), nextW_out (by omega)]
      go_enter Tryd.func69, Tryd.ntmps69
      go_wp2
      go_ret2
      exact ⟨rfl, Below.refl _ _⟩
    · obtain ⟨n, rfl⟩ := Int.eq_ofNat_of_zero_le (by omega : 0 ≤ p)
      rw [nextR_in (by omega), nextW_in (by omega)]
      go_enter Tryd.func69, Tryd.ntmps69
      go_wp2_with fail
      refine (Tryd.utf8_DecodeRuneInString _ _ hT).mono ?_
      rintro e w' ⟨rfl, hb⟩
      rw [decodeGo_tail (by omega)]
      go_wp2
      go_ret2
      exact ⟨rfl, hb⟩

set_option maxHeartbeats 400000 in
theorem count_any (s : ByteArray) (w : World) (hs : s.size ≤ maxLen) :
    Calls Tryd.prog 36 #[.string s] w fun e w' => e = .returned (.int .i64 (Lib.runeCount s)) ∧ Below w.heap.size w w' := by
  unfold maxLen at hs
  go_enter Tryd.func36, Tryd.ntmps36
  go_wp2
  go_loopw [3] (fun n w' => ∃ (pos b acc : Nat), w' = w.iter s pos ∧ n = .int .i64 acc ∧ acc + Lib.runeCountFrom s b pos = Lib.runeCount s ∧ s.size ≤ pos + b ∧ acc ≤ pos ∧ acc ≤ s.size) (fun _ w' => s.size - w'.iterPos w.heap.size)
  case atStart => exact ⟨0, s.size, 0, rfl, rfl, by simp [Lib.runeCount], by omega, Nat.le_refl _, Nat.zero_le _⟩
  case round =>
    obtain ⟨pos, b, acc, rfl, rfl, hc, hb, ha, hl⟩ := hrel
    by_cases hp : pos < s.size
    · have hnx : ∀ ty, (Instr.next (.pointer (some ⟨w.heap.size, 0, none⟩)) true ty).run Tryd.prog (w.iter s pos) = _ := fun ty => run_next_any w s pos ty hp
      have hwd := Lib.decode_width_pos s pos hp
      go_wp2
      go_roundw
      case rel =>
        cases b with
        | zero => omega
        | succ b =>
          refine ⟨pos + (Utf8.decode s pos).2, b, acc + 1, rfl, by go_num, ?_, by omega, by omega, by omega⟩
          rw [← hc]
          simp [Lib.runeCountFrom, hp]
          omega
      case measure =>
        simp
        omega
    · have hnx : ∀ ty, (Instr.next (.pointer (some ⟨w.heap.size, 0, none⟩)) true ty).run Tryd.prog (w.iter s pos) = _ := fun ty => run_next_end w s pos ty hp
      go_wp2
      go_ret
      rw [Lib.runeCountFrom_end s b pos hp, Nat.add_zero] at hc
      subst hc
      exact ⟨rfl, (Below.refl _ _).alloc (Nat.le_refl _) _⟩

theorem awake_next1 : nextR ⟨#[233, 195, 169]⟩ 1 = 233 := by decide
theorem awake_next2 : nextW ⟨#[233, 195, 169]⟩ 1 = 2 := by decide
theorem awake_enc : Utf8.encode 8364 = ⟨#[226, 130, 172]⟩ := by decide
theorem awake_count : Lib.runeCount ⟨#[97, 255, 98]⟩ = 3 := by decide

end Go.Proofs.YtcocbjipikeebaaDoor.Utf
