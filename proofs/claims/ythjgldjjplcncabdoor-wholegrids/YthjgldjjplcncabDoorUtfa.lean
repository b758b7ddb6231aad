/-
  What the program's calls on texts come to: Next, Encode, Count, for every text, place and number, in every world that holds the two tables of unicode/utf8.
-/
import Derived.Test.YthjgldjjplcncabDoorDec
import Derived.Test.YthjgldjjplcncabDoorProg
import Derived.Test.YthjgldjjplcncabDoorUtfm
import Derived.WalkKit
import Derived.Lib.Walk
import Derived.Lib.RuneCountTail
import Derived.Laws.RangeString
import Derived.Laws.RangeAny
import Derived.LoopTactic
import Derived.Lib.OthersKept
import Derived.WalkSmall
import Derived.Laws.BytesArg
import Derived.Laws.IdiomStrings
import Derived.Deep.DeepFit
namespace Go.Proofs.YthjgldjjplcncabDoor.Utf
open Go Go.Lib Go.RowKit

theorem decodeGo_tail {s : ByteArray} {n : Nat} (h : n < s.size) : Lib.decodeGo (s.extract n s.size) = Utf8.decode s n := by
  unfold Lib.decodeGo
  rw [if_neg (by rw [Lib.tail_size]; omega), Lib.tail_decode, Nat.add_zero]
/-- The two tables stand where nothing below has turned. -/
theorem tabs_below {B : Nat} {w w' : World} (h : Below B w w') (hB : 2 < B) (hT : Lib.Utf8Tabs 1 2 w) : Lib.Utf8Tabs 1 2 w' :=
  ⟨fun c hc => (h.cell (p := ⟨1, c, none⟩) (by show 1 < B; omega)).trans (hT.1 c hc),
   fun i hi => ⟨(h.cell (p := ⟨2, 2 * i, none⟩) (by show 2 < B; omega)).trans (hT.2 i hi).1, (h.cell (p := ⟨2, 2 * i + 1, none⟩) (by show 2 < B; omega)).trans (hT.2 i hi).2⟩⟩
theorem tabs_size {w : World} (hT : Lib.Utf8Tabs 1 2 w) : 2 < w.heap.size := by
  by_cases h : 2 < w.heap.size
  · omega
  · have := (hT.2 0 (by omega)).1
    have e : w.heap[2]? = none := Array.getElem?_eq_none (by omega)
    simp [World.cell?, e] at this

set_option maxHeartbeats 400000 in
theorem next_any (s : ByteArray) (p : Int) (w : World) (hT : Lib.Utf8Tabs 1 2 w) :
    Calls Tryd.prog 52 #[.string s, .int .i64 p] w fun e w' => e = .returned (.tuple #[.int .i32 (nextR s p), .int .i64 (nextW s p)]) ∧ Below w.heap.size w w' := by
  by_cases h0 : p < 0
  · rw [nextR_out (by omega), nextW_out (by omega)]
    go_enter Tryd.func52, Tryd.ntmps52
    go_wp2
    go_ret2
    exact ⟨rfl, Below.refl _ _⟩
  · by_cases h1 : (s.size : Int) ≤ p
    · rw [nextR_out (by omega), nextW_out (by omega)]
      go_enter Tryd.func52, Tryd.ntmps52
      go_wp2
      go_ret2
      exact ⟨rfl, Below.refl _ _⟩
    · obtain ⟨n, rfl⟩ := Int.eq_ofNat_of_zero_le (by omega : 0 ≤ p)
      rw [nextR_in (by omega), nextW_in (by omega)]
      go_enter Tryd.func52, Tryd.ntmps52
      go_wp2_with fail
      refine (Tryd.utf8_DecodeRuneInString _ _ hT).mono ?_
      rintro e w' ⟨rfl, hb⟩
      rw [decodeGo_tail (by omega)]
      go_wp2
      go_ret2
      exact ⟨rfl, hb⟩

theorem awake_next1 : nextR ⟨#[233, 195, 169]⟩ 1 = 233 := by decide
theorem awake_next2 : nextW ⟨#[233, 195, 169]⟩ 1 = 2 := by decide
theorem awake_enc : Utf8.encode 8364 = ⟨#[226, 130, 172]⟩ := by decide
theorem awake_count : Lib.runeCount ⟨#[97, 255, 98]⟩ = 3 := by decide

end Go.Proofs.YthjgldjjplcncabDoor.Utf
