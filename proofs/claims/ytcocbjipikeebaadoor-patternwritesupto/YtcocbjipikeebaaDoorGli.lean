/-
  Plain facts on the lines of a text: cut at each byte 10, one byte 13 at the end of such a line let go.
-/
import Derived.Lib.IndexLaws
import Derived.Lib.Strings
import Derived.Lib.Bytealg
import Derived.Test.YtcocbjipikeebaaDoorRds
import Derived.WalkKit
import Derived.Lib.Walk
import Derived.LoopTactic
import Derived.BigQuiet
import Derived.Deep.QuietTactic
import Derived.WalkSmall
import Derived.Shelf.Strings.Search2
import Derived.Maps.AppendAt
import Derived.RangeFuncBox
namespace Go.Proofs.YtcocbjipikeebaaDoor.Utf
open Go Go.Lib

/-- The lines of a text. -/
def linesL : Nat → List UInt8 → List (List UInt8)
  | 0, _ => []
  | f + 1, l => if l = [] then [] else if Lib.indexByte l 10 < 0 then [l] else Lib.trimSuffix (l.take (Lib.indexByte l 10).toNat) [13] :: linesL f (l.drop ((Lib.indexByte l 10).toNat + 1))
def lines (l : List UInt8) : List (List UInt8) := linesL l.length l
theorem linesL_nil (f : Nat) : linesL f [] = [] := by cases f <;> simp [linesL]
theorem linesL_last {f : Nat} {l : List UInt8} (h : l ≠ []) (hi : Lib.indexByte l 10 = -1) : linesL (f + 1) l = [l] := by
  rw [linesL, if_neg h, if_pos (by omega)]
theorem linesL_step {f i : Nat} {l : List UInt8} (h : l ≠ []) (hi : Lib.indexByte l 10 = (i : Int)) : linesL (f + 1) l = Lib.trimSuffix (l.take i) [13] :: linesL f (l.drop (i + 1)) := by
  rw [linesL, if_neg h, if_neg (by omega), hi, Int.toNat_natCast]
theorem index_cases (l : List UInt8) : Lib.indexByte l 10 = -1 ∨ ∃ i : Nat, Lib.indexByte l 10 = (i : Int) ∧ i < l.length := by
  have h := Lib.indexByte_ge l 10
  by_cases h1 : Lib.indexByte l 10 = -1
  · exact .inl h1
  · obtain ⟨i, hi⟩ := Int.eq_ofNat_of_zero_le (by omega : 0 ≤ Lib.indexByte l 10)
    have h2 := (Lib.indexByte_some hi).1
    exact .inr ⟨i, hi, (List.getElem?_eq_some_iff.1 h2).1⟩
theorem index_first {l : List UInt8} {k : Nat} (h : ∀ j, j < k → l[j]? ≠ some 10) (hk : l[k]? = some 10) : Lib.indexByte l 10 = (k : Int) := by
  rcases index_cases l with h1 | ⟨i, hi, _⟩
  · exact absurd hk (Lib.indexByte_none h1 k)
  · have h2 := Lib.indexByte_some hi
    have : i = k := by
      rcases Nat.lt_trichotomy i k with q | q | q
      · exact absurd h2.1 (h i q)
      · exact q
      · exact absurd hk (h2.2 k q)
    rw [hi, this]
theorem index_never {l : List UInt8} (h : ∀ j, j < l.length → l[j]? ≠ some 10) : Lib.indexByte l 10 = -1 := by
  rcases index_cases l with h1 | ⟨i, hi, hl⟩
  · exact h1
  · exact absurd (Lib.indexByte_some hi).1 (h i hl)
theorem trim_yes {l : List UInt8} {m : Nat} (hl : l.length = m + 1) (h : l[m]? = some 13) : Lib.trimSuffix l [13] = l.take m := by
  have hs : Lib.hasSuffix l [13] = true := by
    unfold Lib.hasSuffix
    rw [List.isSuffixOf_iff_suffix]
    refine ⟨l.take m, ?_⟩
    apply List.ext_getElem?
    intro i
    rcases Nat.lt_trichotomy i m with q | q | q
    · rw [List.getElem?_append_left (by rw [List.length_take]; omega), List.getElem?_take, if_pos q]
    · subst q
      rw [List.getElem?_append_right (by rw [List.length_take]; omega), List.length_take, h]
      simp [hl]
    · rw [List.getElem?_eq_none (by simp; omega), List.getElem?_eq_none (by omega)]
  unfold Lib.trimSuffix
  rw [if_pos hs, hl]; rfl
theorem trim_no {l : List UInt8} (h : ∀ m, l.length = m + 1 → l[m]? ≠ some 13) : Lib.trimSuffix l [13] = l := by
  have hs : ¬ Lib.hasSuffix l [13] = true := by
    unfold Lib.hasSuffix
    rw [List.isSuffixOf_iff_suffix]
    rintro ⟨t, rfl⟩
    refine h t.length (by simp) ?_
    rw [List.getElem?_append_right (Nat.le_refl _)]; simp
  unfold Lib.trimSuffix
  rw [if_neg hs]
theorem linesL_fuel : ∀ (f g : Nat) (l : List UInt8), l.length ≤ f → l.length ≤ g → linesL f l = linesL g l
  | 0, g, l, h, _ => by
    have : l = [] := List.eq_nil_of_length_eq_zero (by omega)
    subst this; rw [linesL_nil, linesL_nil]
  | f + 1, 0, l, _, h => by
    have : l = [] := List.eq_nil_of_length_eq_zero (by omega)
    subst this; rw [linesL_nil, linesL_nil]
  | f + 1, g + 1, l, h1, h2 => by
    by_cases hn : l = []
    · subst hn; rw [linesL_nil, linesL_nil]
    · rcases index_cases l with h3 | ⟨i, hi, hl⟩
      · rw [linesL_last hn h3, linesL_last hn h3]
      · rw [linesL_step hn hi, linesL_step hn hi, linesL_fuel f g _ (by rw [List.length_drop]; omega) (by rw [List.length_drop]; omega)]
theorem linesL_len : ∀ (f : Nat) (l : List UInt8), (linesL f l).length ≤ l.length
  | 0, l => by simp [linesL]
  | f + 1, l => by
    by_cases hn : l = []
    · subst hn; rw [linesL_nil]; simp
    · have hl0 : 0 < l.length := List.length_pos_iff.2 hn
      rcases index_cases l with h3 | ⟨i, hi, hl⟩
      · rw [linesL_last hn h3, List.length_singleton]; omega
      · have ih := linesL_len f (l.drop (i + 1))
        rw [List.length_drop] at ih
        rw [linesL_step hn hi, List.length_cons]
        omega
theorem lines_len (l : List UInt8) : (lines l).length ≤ l.length := linesL_len _ _
/-- Lists of bytes as texts. -/
def txt (l : List UInt8) : ByteArray := ⟨l.toArray⟩
def txts (ls : List (List UInt8)) : List ByteArray := ls.map txt
theorem txts_snoc (ls : List (List UInt8)) (l : List UInt8) : txts (ls ++ [l]) = txts ls ++ [txt l] := by simp [txts]
theorem txts_length (ls : List (List UInt8)) : (txts ls).length = ls.length := by simp [txts]
theorem txt_self (s : ByteArray) : txt s.data.toList = s := by cases s; simp [txt]
theorem txt_list (l : List UInt8) : (txt l).data.toList = l := by simp [txt]
theorem txt_size (l : List UInt8) : (txt l).size = l.length := by simp [txt, ByteArray.size]
end Go.Proofs.YtcocbjipikeebaaDoor.Utf
/-
  The document's comparisons of lists walked: of two lists that hold the same they tell true, wherever these lie.
-/
namespace Go.Proofs.YtcocbjipikeebaaDoor.Utf
open Go Go.Lib Go.RowKit

end Go.Proofs.YtcocbjipikeebaaDoor.Utf
/-
  The program's Lines walked: the lines of the text, in a new list, for every text of up to 16777216 bytes.
-/
namespace Go.Proofs.YtcocbjipikeebaaDoor.Utf
open Go Go.Lib Go.RowKit Go.Shelf

theorem infoStr : (Tryd.prog.info? 9).map (fun i => (i.zero, i.size, i.bytes)) = some (some (.string ⟨#[]⟩), 1, 16) := by kernel_rfl

theorem empty_size : (⟨#[]⟩ : ByteArray).size = 0 := rfl
theorem head_list (s : ByteArray) (i : Nat) : (s.extract 0 i).data.toList = s.data.toList.take i := by
  rw [← Lib.toList_data, Lib.extract_toList]; simp
theorem tail_list (s : ByteArray) (i : Nat) : (s.extract i s.size).data.toList = s.data.toList.drop i := by
  rw [← Lib.toList_data, Lib.extract_toList]
  rw [List.take_of_length_le (by rw [List.length_drop, ← Lib.size_eq]; omega)]
theorem txts_map (ls : List (List UInt8)) (l : List UInt8) : (txts (ls ++ [l])).map Value.string = (txts ls).map Value.string ++ [.string (txt l)] := by rw [txts_snoc]; simp
theorem ownsRow_under {W W' : World} {B : Nat} {e : TypeId} {sz : Nat} {v : Value} {n : Nat} {xs : List Value} (h : W.ownsRow B e sz v n xs) (hb : Below W.heap.size W W') : W'.ownsRow B e sz v n xs := by
  refine ⟨h.1, ?_⟩
  rcases h.2 with hn | ⟨g, cap, cur, hv, hbg, hg, rest⟩
  · exact .inl hn
  · exact .inr ⟨g, cap, cur, hv, hbg, (hb.block g (Array.getElem?_eq_some_iff.1 hg).1).trans hg, rest⟩

end Go.Proofs.YtcocbjipikeebaaDoor.Utf
