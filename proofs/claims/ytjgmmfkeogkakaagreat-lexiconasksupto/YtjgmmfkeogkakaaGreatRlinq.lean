/-
  The document's Lines walked: the same lines, in a new list, for every text of up to 16777216 bytes.
-/
import Derived.Test.YtjgmmfkeogkakaaGreatGli
import Derived.Shelf.Unicode.DecodeSlow
namespace Go.Proofs.YtjgmmfkeogkakaaGreat.Utf
open Go Go.Lib Go.RowKit
set_option maxRecDepth 100000

theorem mid_list (s : ByteArray) (a b : Nat) : (s.extract a b).data.toList = (s.data.toList.drop a).take (b - a) := by
  rw [← Lib.toList_data, Lib.extract_toList]
theorem byte_at (s : ByteArray) (i : Nat) (h : i < s.size) : s.data.toList[i]? = some (s[i]'h) := by
  rw [List.getElem?_eq_getElem (by rw [← Lib.size_eq]; exact h)]; rfl
theorem u8_ne {x : UInt8} {n : Nat} (hn : n < 256) (h : ¬ x.toNat = n) : x ≠ UInt8.ofNat n := by
  intro e
  apply h
  rw [e, UInt8.toNat_ofNat']; omega
theorem u8_eq {x : UInt8} {n : Nat} (h : x.toNat = n) : x = UInt8.ofNat n := by
  rw [← h]; simp

theorem slice_mid (w : World) (s : ByteArray) (a b : Nat) (z : Int) (hz : z = (b : Int)) (h1 : a ≤ b) (h2 : b ≤ s.size) :
    (Instr.slice 9 (.string s) (some (.int .i64 (a : Int))) (some (.int .i64 z)) none).run Tryz.prog w = .ok (.string (s.extract a b)) w := by
  subst hz
  have := run_slice_string (P := Tryz.prog) w 9 s .i64 .i64 (a : Int) (b : Int) Tryz.underlying9 (by omega) (by omega) (by omega)
  rw [Int.toNat_natCast, Int.toNat_natCast] at this
  exact this

end Go.Proofs.YtjgmmfkeogkakaaGreat.Utf
