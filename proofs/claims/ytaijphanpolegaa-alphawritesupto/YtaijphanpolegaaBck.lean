/-
  The program's Back: what is written for the runes at the text's places, the last one first, for every text of up to 16777216 bytes.
-/
import Derived.Test.YtaijphanpolegaaPlc
import Derived.Test.YtaijphanpolegaaFix
namespace Go.Proofs.Ytaijphanpolegaa.Utf
open Go Go.Lib Go.RowKit Go.Shelf

theorem pairs_mem (s : ByteArray) : ∀ fuel pos, ∀ x ∈ pairsFrom s fuel pos, x.1 < s.size ∧ x.2 = (Utf8.decode s x.1).1
  | 0, _, _, h => by simp [pairsFrom] at h
  | f + 1, pos, x, h => by
    by_cases hp : pos < s.size
    · rw [pairsFrom_step hp] at h
      rcases List.mem_cons.1 h with rfl | h
      · exact ⟨hp, rfl⟩
      · exact pairs_mem s f _ x h
    · rw [pairsFrom_end s _ pos hp] at h; cases h
/-- A builder that the call has made stands where all that lay has stood. -/
theorem builderAtF_below {T e : TypeId} {B b : Nat} {p : Value} {bs : List Value} {W W' : World} (h : Lib.BuilderAtF T e B b p bs W) (hb : Below W.heap.size W W') : Lib.BuilderAtF T e B b p bs W' := by
  obtain ⟨hB, v, hbk, hown, hne⟩ := h
  refine ⟨hB, v, (hb.block b (Array.getElem?_eq_some_iff.1 hbk).1).trans hbk, ⟨hown.1, ?_⟩, hne⟩
  rcases hown.2 with hn | ⟨g, cap, cur, fz, hv, hbg, hg, rest⟩
  · exact .inl hn
  · exact .inr ⟨g, cap, cur, fz, hv, hbg, (hb.block g (Array.getElem?_eq_some_iff.1 hg).1).trans hg, rest⟩
theorem isBuilderF_below {T e : TypeId} {B b : Nat} {bs : List Value} {W W' : World} (h : Lib.IsBuilderF T e B b bs W) (hb : Below W.heap.size W W') : Lib.IsBuilderF T e B b bs W' :=
  h.elim (fun x => .inl (builderAtF_below x hb)) (fun x => .inr (builderAtF_below x hb))
theorem drop_rev {α : Type} (l : List α) (j : Nat) (h : j < l.length) : (l.drop j).reverse = (l.drop (j + 1)).reverse ++ [l[j]] := by
  rw [List.drop_eq_getElem_cons h, List.reverse_cons]

end Go.Proofs.Ytaijphanpolegaa.Utf
