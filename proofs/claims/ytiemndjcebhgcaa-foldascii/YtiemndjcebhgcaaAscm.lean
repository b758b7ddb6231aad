/-
  Plain facts on texts of bytes below 128: folded they are their letters, as capitals.
-/
import Derived.Test.YtiemndjcebhgcaaFldf
import Derived.Test.YtiemndjcebhgcaaRefe
namespace Go.Proofs.Ytiemndjcebhgcaa.Utf
open Go Go.Lib

def lowB (z : Int) : UInt8 := UInt8.ofNat (z % 128).toNat
theorem lowB_nat (z : Int) : (lowB z).toNat = (z % 128).toNat := by
  unfold lowB
  rw [u8n (by omega)]
theorem lowB_int (z : Int) : ((lowB z).toNat : Int) = z % 128 := by
  rw [lowB_nat]; omega
def wantB (b : UInt8) : List UInt8 := if 97 ≤ b.toNat ∧ b.toNat ≤ 122 then [UInt8.ofNat (b.toNat - 32)] else if 65 ≤ b.toNat ∧ b.toNat ≤ 90 then [b] else []
theorem encR_low {n : Nat} (h : n < 128) : encR [n] = [UInt8.ofNat n] := by
  rw [encR_cons, encB, encZ1 (by omega) (by omega)]
  rfl
theorem fold_low (p : Bool) (b : UInt8) (h : b.toNat < 128) : encR (foldR p (b.toNat : Int)) = wantB b := by
  unfold wantB foldR
  by_cases h1 : 97 ≤ b.toNat ∧ b.toNat ≤ 122
  · have hL : isL (b.toNat : Int) := by unfold isL; omega
    have hu : up (b.toNat : Int) = ((b.toNat - 32 : Nat) : Int) := by
      have := up_cases (b.toNat : Int)
      unfold up32 up1 at this
      omega
    rw [if_pos hL, if_pos h1, hu]
    cases p
    · rw [if_neg Bool.false_ne_true, basic_wr (by omega), encR_low (by omega)]
    · rw [if_pos rfl, plR_basic (by omega), encR_low (by omega)]
  · by_cases h2 : 65 ≤ b.toNat ∧ b.toNat ≤ 90
    · have hL : isL (b.toNat : Int) := by unfold isL; omega
      rw [if_pos hL, if_neg h1, if_pos h2, up_basic h2]
      have e : UInt8.ofNat b.toNat = b := by simp
      cases p
      · rw [if_neg Bool.false_ne_true, basic_wr h2, encR_low h, e]
      · rw [if_pos rfl, plR_basic h2, encR_low h, e]
    · have hL : ¬ isL (b.toNat : Int) := by unfold isL; omega
      rw [if_neg hL, if_neg h1, if_neg h2]
      rfl
theorem low_wr {n : Nat} (h : n < 128) : wr (n : Int) = n := by
  rw [wr_valid (by omega)]; omega
/-- OF A TEXT OF BYTES BELOW 128 FOLD IS ITS LETTERS, AS CAPITALS. -/
theorem ascii_fold (p : Bool) (T : List UInt8) (h : ∀ b ∈ T, b.toNat < 128) : foldS p ⟨T.toArray⟩ = ⟨(T.flatMap wantB).toArray⟩ := by
  have hT : encR (T.map UInt8.toNat) = T := encR_ascii T (by rw [List.all_eq_true]; exact fun b hb => decide_eq_true (h b hb))
  have hr : (pairs ⟨T.toArray⟩).map (fun x => x.2) = T.map UInt8.toNat := by
    have := written_self (l := T.map UInt8.toNat) (fun x hx => by
      obtain ⟨b, hb, rfl⟩ := List.mem_map.1 hx
      exact low_wr (h b hb))
    rw [hT] at this
    exact this
  unfold foldS
  rw [hr]
  have : encR (foldRs p (T.map UInt8.toNat)) = T.flatMap wantB := by
    clear hT hr
    induction T with
    | nil => rfl
    | cons b r ih => rw [List.map_cons, foldRs_cons, encR_append, ih (fun x hx => h x (by simp [hx])), fold_low p b (h b (by simp)), List.flatMap_cons]
  rw [this]
end Go.Proofs.Ytiemndjcebhgcaa.Utf
