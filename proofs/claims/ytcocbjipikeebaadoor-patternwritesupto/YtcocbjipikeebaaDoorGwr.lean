/-
  Plain facts on the words of a text: the longest pieces without a blank, by their two ends.
-/
import Derived.Test.YtcocbjipikeebaaDoorGutf
import Derived.Test.YtcocbjipikeebaaDoorFldwq
import Derived.Maps.AppendAt
import Derived.RangeFuncBox
namespace Go.Proofs.YtcocbjipikeebaaDoor.Utf
open Go Go.Lib

/-- What a word under way becomes at the text's end, and at a blank. -/
def wEnd (s : ByteArray) (st : Option Nat) : List (Nat × Nat) := match st with | none => [] | some a => [(a, s.size)]
def wCut (st : Option Nat) (pos : Nat) : List (Nat × Nat) := match st with | none => [] | some a => [(a, pos)]
/-- The words' ends from a place on; st: where the word under way begins. -/
def wordsFrom (s : ByteArray) : Nat → Nat → Option Nat → List (Nat × Nat)
  | 0, _, st => wEnd s st
  | f + 1, pos, st => if pos < s.size then
      (if isB ((Utf8.decode s pos).1 : Int) then wCut st pos ++ wordsFrom s f (pos + (Utf8.decode s pos).2) none
       else wordsFrom s f (pos + (Utf8.decode s pos).2) (some (st.getD pos)))
    else wEnd s st
def wordsP (s : ByteArray) : List (Nat × Nat) := wordsFrom s s.size 0 none
theorem wordsFrom_end (s : ByteArray) (f pos : Nat) (st : Option Nat) (h : ¬ pos < s.size) : wordsFrom s f pos st = wEnd s st := by
  cases f with
  | zero => rfl
  | succ f => rw [wordsFrom, if_neg h]
theorem wordsFrom_blank {s : ByteArray} {f pos : Nat} {st : Option Nat} (h : pos < s.size) (hb : isB ((Utf8.decode s pos).1 : Int)) : wordsFrom s (f + 1) pos st = wCut st pos ++ wordsFrom s f (pos + (Utf8.decode s pos).2) none := by
  rw [wordsFrom, if_pos h, if_pos hb]
theorem wordsFrom_step {s : ByteArray} {f pos : Nat} {st : Option Nat} (h : pos < s.size) (hb : ¬ isB ((Utf8.decode s pos).1 : Int)) : wordsFrom s (f + 1) pos st = wordsFrom s f (pos + (Utf8.decode s pos).2) (some (st.getD pos)) := by
  rw [wordsFrom, if_pos h, if_neg hb]
/-- The words as texts. -/
def wtx (s : ByteArray) (l : List (Nat × Nat)) : List ByteArray := l.map fun x => s.extract x.1 x.2
theorem wtx_append (s : ByteArray) (a b : List (Nat × Nat)) : wtx s (a ++ b) = wtx s a ++ wtx s b := by simp [wtx]
theorem wtx_length (s : ByteArray) (a : List (Nat × Nat)) : (wtx s a).length = a.length := by simp [wtx]
def wordsT (s : ByteArray) : List ByteArray := wtx s (wordsP s)
theorem wtx_snoc (s : ByteArray) (a : List (Nat × Nat)) (x y : Nat) : (wtx s (a ++ [(x, y)])).map Value.string = (wtx s a).map Value.string ++ [.string (s.extract x y)] := by simp [wtx]
/-- Where a word begins, as the program keeps it. -/
def stI (st : Option Nat) : Int := match st with | none => -1 | some a => (a : Int)
end Go.Proofs.YtcocbjipikeebaaDoor.Utf
/-
  The program's Words: the words of the text, from the left, in a new list, for every text of up to 16777216 bytes.
-/
namespace Go.Proofs.YtcocbjipikeebaaDoor.Utf
open Go Go.Lib Go.RowKit

theorem infoStr : (Tryd.prog.info? 9).map (fun i => (i.zero, i.size, i.bytes)) = some (some (.string ⟨#[]⟩), 1, 16) := by kernel_rfl
theorem slice_mid (w : World) (s : ByteArray) (a b : Nat) (z : Int) (hz : z = (b : Int)) (h1 : a ≤ b) (h2 : b ≤ s.size) :
    (Instr.slice 9 (.string s) (some (.int .i64 (a : Int))) (some (.int .i64 z)) none).run Tryd.prog w = .ok (.string (s.extract a b)) w := by
  subst hz
  have := run_slice_string (P := Tryd.prog) w 9 s .i64 .i64 (a : Int) (b : Int) Tryd.underlying9 (by omega) (by omega) (by omega)
  rw [Int.toNat_natCast, Int.toNat_natCast] at this
  exact this

end Go.Proofs.YtcocbjipikeebaaDoor.Utf
