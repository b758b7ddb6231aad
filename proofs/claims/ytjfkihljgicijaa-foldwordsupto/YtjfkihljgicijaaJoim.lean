/-
  Plain facts on joined texts: behind what was written for runes the other text's runes follow; folding goes piece by piece.
-/
import Derived.Test.YtjfkihljgicijaaFldm
namespace Go.Proofs.Ytjfkihljgicijaa.Utf
open Go Go.Lib

theorem written_on (s : ByteArray) : ∀ (l : List Nat) (a t : List UInt8) (fuel : Nat), s.data.toList = a ++ (encR l ++ t) → s.size ≤ a.length + fuel →
    (pairsFrom s fuel a.length).map (fun x => x.2) = l.map (fun r : Nat => wr (r : Int)) ++ (pairsFrom s fuel (a.length + (encR l).length)).map (fun x => x.2)
  | [], a, t, fuel, _, _ => by simp [encR]
  | r :: l, a, t, fuel, h, hf => by
    rw [encR_cons, List.append_assoc] at h
    have hd := dec_mid s a r (encR l ++ t) h
    have hl : s.size = a.length + ((encB r).length + ((encR l).length + t.length)) := by rw [← ba_len, h]; simp
    have h1 := (enc_size r).1
    rw [← encB_size] at h1
    obtain ⟨f, rfl⟩ : ∃ f, fuel = f + 1 := ⟨fuel - 1, by omega⟩
    have ih := written_on s l (a ++ encB r) t f (by rw [h, List.append_assoc]) (by rw [List.length_append]; omega)
    rw [pairsFrom_step (by omega), hd]
    rw [List.length_append] at ih
    rw [List.map_cons, ih, encR_cons, List.length_append, ← Nat.add_assoc, pairs_fuel s (f + 1) f _ (by omega) (by omega), List.map_cons, List.cons_append]
theorem ba_append (a b : ByteArray) : (a ++ b).data.toList = a.data.toList ++ b.data.toList := by
  rw [ByteArray.data_append, Array.toList_append]
theorem ba_ext {a b : ByteArray} (h : a.data.toList = b.data.toList) : a = b := by
  cases a; cases b
  simp only [ByteArray.mk.injEq]
  exact Array.toList_inj.1 h
theorem ba_tail (a b : ByteArray) : (a ++ b).extract a.size (a ++ b).size = b := by
  apply ba_ext
  rw [← Lib.toList_data, Lib.extract_toList, ba_append, ← ba_len a, List.drop_left, List.take_of_length_le]
  rw [← ba_len, ba_append, List.length_append]; omega
/-- THE RUNES OF WHAT WAS WRITTEN WITH A TEXT BEHIND IT. -/
theorem runes_join (l : List Nat) (A t : ByteArray) (hA : A.data.toList = encR l) : (pairs (A ++ t)).map (fun x => x.2) = l.map (fun r : Nat => wr (r : Int)) ++ (pairs t).map (fun x => x.2) := by
  have hz : A.size = (encR l).length := by rw [← ba_len, hA]
  have hzz : (A ++ t).size = A.size + t.size := by rw [← ba_len, ba_append, List.length_append, ba_len, ba_len]
  have h := written_on (A ++ t) l [] t.data.toList (A ++ t).size (by rw [ba_append, hA]; rfl) (by simp)
  rw [List.length_nil, Nat.zero_add, ← hz] at h
  have h2 := tail_pairs (A ++ t) A.size (A ++ t).size 0
  rw [Nat.add_zero, ba_tail] at h2
  rw [h2, pairs_fuel t (A ++ t).size t.size 0 (by omega) (by omega)] at h
  unfold pairs
  rw [h]
  congr 1
  rw [List.map_map]; rfl
theorem foldR_wr (p : Bool) (r : Nat) : foldR p ((wr (r : Int) : Nat) : Int) = foldR p r := by
  by_cases h : isL (r : Int)
  · rw [letter_wr h]
  · have : ¬ isL ((wr (r : Int) : Nat) : Int) := by
      by_cases hv : ((0 : Int) ≤ r ∧ (r : Int) < 55296) ∨ ((57344 : Int) ≤ r ∧ (r : Int) ≤ 1114111)
      · have e := wr_valid hv
        rw [e]
        have : (((r : Int).toNat : Nat) : Int) = r := by omega
        rw [this]; exact h
      · rw [wr_bad hv]
        unfold isL; omega
    unfold foldR
    rw [if_neg h, if_neg this]
theorem foldRs_wr (p : Bool) (l : List Nat) : foldRs p (l.map fun r : Nat => wr (r : Int)) = foldRs p l := by
  induction l with
  | nil => rfl
  | cons x r ih => rw [List.map_cons, foldRs_cons, foldRs_cons, ih, foldR_wr]
/-- FOLDING A MENDED TEXT; folding it with another one behind it. -/
theorem foldS_fix (p : Bool) (s : ByteArray) : foldS p ⟨(encs (pairs s)).toArray⟩ = foldS p s := by
  unfold foldS
  rw [encs_eq, written_runes, foldRs_wr]
theorem foldS_join (p : Bool) (s t : ByteArray) : foldS p (⟨(encs (pairs s)).toArray⟩ ++ t) = foldS p s ++ foldS p t := by
  apply ba_ext
  rw [ba_append]
  unfold foldS
  rw [runes_join ((pairs s).map fun x => x.2) _ t (by rw [encs_eq]), foldRs_append, foldRs_wr, encR_append]
end Go.Proofs.Ytjfkihljgicijaa.Utf
