/-
  The program's Plain: the plain form of every number that an int32 can be.
-/
import Derived.Test.YtcocbjipikeebaaDoorFldwq
import Derived.Test.YtcocbjipikeebaaDoorGub
namespace Go.Proofs.YtcocbjipikeebaaDoor.Utf
open Go Go.Lib Go.RowKit

def plKeys : List Int := [192, 193, 194, 195, 196, 197, 256, 258, 260, 198, 199, 262, 264, 266, 268, 270, 272, 200, 201, 202, 203, 274, 276, 278, 280, 282, 284, 286, 288, 290, 292, 294, 204, 205, 206, 207, 296, 298, 300, 302, 304, 308, 310, 313, 315, 317, 319, 321, 209, 323, 325, 327, 210, 211, 212, 213, 214, 216, 332, 334, 336, 338, 340, 342, 344, 346, 348, 350, 352, 223, 354, 356, 358, 217, 218, 219, 220, 360, 362, 364, 366, 368, 370, 372, 221, 374, 376, 377, 379, 381]
theorem plT_keys {r : Int} (h : r ∉ plKeys) : plT r = [] := by
  simp only [plKeys, List.mem_cons, List.not_mem_nil, or_false, not_or] at h
  unfold plT
  repeat (first | rw [if_neg (by omega)] | rfl)
theorem pl_hit {n : Int} (l : List Nat) (h : plT n = l) (hl : l ≠ []) : pl n = ⟨(encR l).toArray⟩ := by
  subst h
  unfold pl plR
  rw [if_neg hl]
theorem pl_miss {n : Int} (h : plT n = []) : pl n = Utf8.encode n := by
  unfold pl plR
  rw [if_pos h, encR_cons]
  have e : encB (wr n) = (Utf8.encode n).data.toList := by rw [encB, enc_of_wr (wr_wr n)]
  rw [e]
  generalize Utf8.encode n = E
  cases E
  simp [encR]
theorem plKeys_not {r : Int} (h : ∀ k ∈ plKeys, (r == k) = false) : r ∉ plKeys := fun hm => by
  have := h r hm
  simp at this
theorem ret_str' {a b : ByteArray} (h : a = b) : Ending.returned (.string a) = .returned (.string b) := by rw [h]

end Go.Proofs.YtcocbjipikeebaaDoor.Utf
/-
  The program's Fold: what folding makes of the text's runes, one behind the other, for every text short enough for a builder.
-/
namespace Go.Proofs.YtcocbjipikeebaaDoor.Utf
open Go Go.Lib Go.RowKit Go.Shelf
attribute [local go_sem] Oper.semAt_some

/-- The bytes of what folding makes of the runes of a list of pairs. -/
def fl (p : Bool) (l : List (Nat × Nat)) : List UInt8 := encR (foldRs p (l.map fun x => x.2))
theorem fl_nil (p : Bool) : fl p [] = [] := rfl
theorem fl_snoc (p : Bool) (l : List (Nat × Nat)) (x : Nat × Nat) : fl p (l ++ [x]) = fl p l ++ encR (foldR p x.2) := by
  unfold fl
  rw [List.map_append, foldRs_append, encR_append]
  simp [foldRs]
theorem fl_le (p : Bool) (l : List (Nat × Nat)) : (fl p l).length ≤ 8 * l.length := by
  have h1 := encR_le (foldRs p (l.map fun x => x.2))
  have h2 := foldRs_len p (l.map fun x => x.2)
  rw [List.length_map] at h2
  unfold fl
  omega
theorem pl_list (n : Int) : (pl n).data.toList = encR (plR n) := by simp [pl]
theorem pl_size (n : Int) : (pl n).size ≤ 8 := by
  have h1 := encR_le (plR n)
  have h2 := plR_len n
  rw [← ba_len, pl_list]
  omega
theorem encR_one (n : Int) : encR [wr n] = (Utf8.encode n).data.toList := by
  rw [encR_cons, encB, enc_of_wr (wr_wr n)]
  simp [encR]

end Go.Proofs.YtcocbjipikeebaaDoor.Utf
