/-
  The document's comparisons of lists walked: of two lists that hold the same they tell true, wherever these lie.
-/
import Derived.Test.YtjfkihljgicijaaRds
import Derived.WalkKit
import Derived.Lib.Walk
import Derived.LoopTactic
import Derived.BigQuiet
import Derived.Deep.QuietTactic
import Derived.WalkSmall
namespace Go.Proofs.Ytjfkihljgicijaa.Utf
open Go Go.Lib Go.RowKit

set_option maxHeartbeats 1000000 in
theorem sameTexts_eq (zs : List ByteArray) (a1 a2 : Option Addr) (c1 c2 : Nat) (w : World) (hl : zs.length ≤ 16777216) (h1 : Reads w a1 (zs.map Value.string)) (h2 : Reads w a2 (zs.map Value.string)) :
    Calls Try.prog 18 #[.slice a1 zs.length c1, .slice a2 zs.length c2] w fun e w' => e = .returned (.bool true) ∧ Below w.heap.size w w' := by
  go_enter Try.func18, Try.ntmps18
  go_wp2
  go_loopw [5] (fun iv wr => ∃ k : Nat, iv = .int .i64 (k : Int) ∧ k ≤ zs.length ∧ Below w.heap.size w wr) (fun iv _ => zs.length - (RowKit.intOf iv).toNat)
  case atStart => exact ⟨0, rfl, Nat.zero_le _, Below.refl _ _⟩
  case round =>
    obtain ⟨k, rfl, hk, hB⟩ := hrel
    by_cases hlt : k < zs.length
    · obtain ⟨g1, rfl, _, e1⟩ := (h1.below hB) k (by simpa using hlt)
      obtain ⟨g2, rfl, _, e2⟩ := (h2.below hB) k (by simpa using hlt)
      rw [List.getElem_map] at e1 e2
      clear h1 h2
      generalize zs[k] = z at *
      go_wp2
      go_quiet (fail)
      go_wp2
      go_roundw
      case rel => exact ⟨k + 1, by go_num, by omega, below_drewN hB _⟩
      case measure => simp [RowKit.intOf]; omega
    · go_wp2
      go_ret
      exact ⟨rfl, hB⟩

end Go.Proofs.Ytjfkihljgicijaa.Utf
