/-
  The program's Cut: the bytes ahead of the place behind n runes, for every text and number.
-/
import Derived.Test.YtjfkihljgicijaaProg
import Derived.Test.YtjfkihljgicijaaCutm
import Derived.WalkKit
import Derived.Lib.Walk
import Derived.Laws.RangeString
import Derived.Laws.RangeAny
import Derived.LoopTactic
namespace Go.Proofs.Ytjfkihljgicijaa.Utf
open Go Go.Lib Go.RowKit

theorem extract_all (s : ByteArray) : s.extract 0 s.size = s := by
  apply ByteArray.ext
  rw [ByteArray.data_extract]
  exact Array.extract_size
theorem ret_b {a b : Bool} (h : a = b) : Ending.returned (.bool a) = .returned (.bool b) := by rw [h]
theorem ret_s {a b : ByteArray} (h : a = b) : Ending.returned (.string a) = .returned (.string b) := by rw [h]

set_option maxHeartbeats 1000000 in
theorem cut_any (s : ByteArray) (n : Int) (w : World) (h0 : -9223372036854775808 ≤ n) (h1 : n ≤ 9223372036854775807) :
    Calls Try.prog 34 #[.string s, .int .i64 n] w fun e w' => e = .returned (.string (s.extract 0 (cutPos s n))) ∧ Below w.heap.size w w' := by
  go_enter Try.func34, Try.ntmps34
  go_wp2
  go_loopw [1] (fun v w' => ∃ (pos b : Nat) (m : Int), w' = w.iter s pos ∧ v = .int .i64 m ∧ Hid (cutFrom s b pos m = cutPos s n) ∧ s.size ≤ pos + b ∧ pos ≤ s.size ∧ -9223372036854775808 ≤ m ∧ m ≤ 9223372036854775807) (fun _ w' => s.size - w'.iterPos w.heap.size)
  case atStart => exact ⟨0, s.size, n, rfl, rfl, rfl, by omega, Nat.zero_le _, h0, h1⟩
  case round =>
    obtain ⟨pos, b, m, rfl, rfl, HC, hb, hps, hm0, hm1⟩ := hrel
    by_cases hp : pos < s.size
    · have hnx : ∀ ty, (Instr.next (.pointer (some ⟨w.heap.size, 0, none⟩)) true ty).run Try.prog (w.iter s pos) = _ := fun ty => run_next_any w s pos ty hp
      have hwd := decode_fits s pos hp
      obtain ⟨b, rfl⟩ : ∃ f', b = f' + 1 := ⟨b - 1, by omega⟩
      by_cases hm : m < 1
      · have HE : Hid (cutPos s n = pos) := HC.out.symm.trans (cutFrom_stop hp hm)
        clear HC
        go_wp2
        go_ret
        refine ⟨ret_s ?_, (Below.refl _ _).alloc (Nat.le_refl _) _⟩
        rw [HE.out]
      · have HE : Hid (cutFrom s b (pos + (Utf8.decode s pos).2) (m - 1) = cutPos s n) := (cutFrom_step hp hm).symm.trans HC.out
        clear HC
        go_wp2
        go_roundw
        case rel => exact ⟨_, b, m - 1, rfl, rfl, HE, by omega, by omega, by omega, by omega⟩
        case measure => simp; omega
    · have hnx : ∀ ty, (Instr.next (.pointer (some ⟨w.heap.size, 0, none⟩)) true ty).run Try.prog (w.iter s pos) = _ := fun ty => run_next_end w s pos ty hp
      have HE : Hid (cutPos s n = s.size) := HC.out.symm.trans (cutFrom_end hp)
      clear HC
      go_wp2
      go_ret
      refine ⟨ret_s ?_, (Below.refl _ _).alloc (Nat.le_refl _) _⟩
      rw [HE.out, extract_all]
end Go.Proofs.Ytjfkihljgicijaa.Utf
