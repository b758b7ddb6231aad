/-
  What folding writes is never longer than the text: of no program.
-/
import Derived.Test.YtiemndjcebhgcaaFldm
namespace Go.Proofs.Ytiemndjcebhgcaa.Utf
open Go Go.Lib

/-- One byte gives a rune below 128, or none; what is read lies within the text. -/
theorem decodeN_shape (n b0 b1 b2 b3 : Nat) (hn : 1 ≤ n) : (decodeN n b0 b1 b2 b3).2 ≤ n ∧ (2 ≤ (decodeN n b0 b1 b2 b3).2 ∨ (decodeN n b0 b1 b2 b3).1 < 128 ∨ 1200 < (decodeN n b0 b1 b2 b3).1) := by
  unfold decodeN
  by_cases h1 : b0 < 128
  · rw [if_pos h1]; exact ⟨hn, .inr (.inl h1)⟩
  · rw [if_neg h1]
    by_cases h2 : b0 / 32 = 6 ∧ (1 < n ∧ b1 / 64 = 2)
    · rw [if_pos h2]
      have h3 := h2.2.1
      generalize b0 % 32 * 64 + b1 % 64 = c
      by_cases hc : c ≥ 128
      · rw [if_pos hc]; exact ⟨h3, .inl (Nat.le_refl _)⟩
      · rw [if_neg hc]; exact ⟨hn, .inr (.inr (by decide))⟩
    · rw [if_neg h2]
      by_cases h4 : b0 / 16 = 14 ∧ (1 < n ∧ b1 / 64 = 2) ∧ (2 < n ∧ b2 / 64 = 2)
      · rw [if_pos h4]
        have h3 := h4.2.2.1
        generalize b0 % 16 * 4096 + b1 % 64 * 64 + b2 % 64 = c
        by_cases hc : c ≥ 2048 ∧ (c < 55296 ∨ (57344 ≤ c ∧ c ≤ 1114111))
        · rw [if_pos hc]; exact ⟨h3, .inl (show 2 ≤ 3 by decide)⟩
        · rw [if_neg hc]; exact ⟨hn, .inr (.inr (by decide))⟩
      · rw [if_neg h4]
        by_cases h5 : b0 / 8 = 30 ∧ (1 < n ∧ b1 / 64 = 2) ∧ (2 < n ∧ b2 / 64 = 2) ∧ (3 < n ∧ b3 / 64 = 2)
        · rw [if_pos h5]
          have h3 := h5.2.2.2.1
          generalize b0 % 8 * 262144 + b1 % 64 * 4096 + b2 % 64 * 64 + b3 % 64 = c
          by_cases hc : c ≥ 65536 ∧ (c < 55296 ∨ (57344 ≤ c ∧ c ≤ 1114111))
          · rw [if_pos hc]; exact ⟨h3, .inl (show 2 ≤ 4 by decide)⟩
          · rw [if_neg hc]; exact ⟨hn, .inr (.inr (by decide))⟩
        · rw [if_neg h5]; exact ⟨hn, .inr (.inr (by decide))⟩
theorem decode_shape (s : ByteArray) (pos : Nat) (h : pos < s.size) : pos + (Utf8.decode s pos).2 ≤ s.size ∧ (2 ≤ (Utf8.decode s pos).2 ∨ (Utf8.decode s pos).1 < 128 ∨ 1200 < (Utf8.decode s pos).1) := by
  have := decodeN_shape (s.size - pos) (s.get! pos).toNat (s.get! (pos + 1)).toNat (s.get! (pos + 2)).toNat (s.get! (pos + 3)).toNat (by omega)
  rw [← decode_at] at this
  exact ⟨by omega, this.2⟩

theorem encB_one {r : Nat} (h : r < 128) : (encB r).length = 1 := by
  have hw : wr (r : Int) = r := by rw [wr_valid (by omega)]; omega
  rw [encB_size, enc1 (by omega)]
  rfl
theorem encB_two {r : Nat} (h : r < 2048) : (encB r).length ≤ 2 := by
  have hw : wr (r : Int) = r := by rw [wr_valid (by omega)]; omega
  by_cases h1 : r < 128
  · rw [encB_one h1]; omega
  · rw [encB_size, enc2 (by omega) (by omega)]
    exact Nat.le_refl 2
theorem encR_small : ∀ {l : List Nat}, (∀ x ∈ l, x < 128) → (encR l).length = l.length
  | [], _ => rfl
  | x :: l, h => by
    rw [encR_cons, List.length_append, encB_one (h x List.mem_cons_self), encR_small (fun y hy => h y (List.mem_cons_of_mem _ hy)), List.length_cons]
    omega
theorem encR_single (r : Nat) : encR [r] = encB r := by rw [encR_cons]; simp [encR]
/-- What is written for a letter has no more bytes than the letter. -/
theorem foldR_bytes (p : Bool) (r : Nat) (hL : isL (r : Int)) : (encR (foldR p (r : Int))).length ≤ 2 ∧ (r < 128 → (encR (foldR p (r : Int))).length ≤ 1) := by
  have huL := (up_letter (r : Int)).2 hL
  have hwu := letter_wr huL
  have hub := up_cases (r : Int)
  have hlow : (wr (up (r : Int)) : Nat) < 2048 ∧ (r < 128 → wr (up (r : Int)) < 128 ∧ up (r : Int) ≤ 90 ∧ 65 ≤ up (r : Int)) := by
    unfold up32 up1 at hub
    unfold isL at hL huL
    omega
  unfold foldR
  rw [if_pos hL]
  cases p
  · rw [if_neg Bool.false_ne_true, encR_single]
    exact ⟨encB_two hlow.1, fun h => by rw [encB_one (hlow.2 h).1]; exact Nat.le_refl 1⟩
  · rw [if_pos rfl]
    unfold plR
    by_cases hp : plT (up (r : Int)) = []
    · rw [if_pos hp, encR_single]
      exact ⟨encB_two hlow.1, fun h => by rw [encB_one (hlow.2 h).1]; exact Nat.le_refl 1⟩
    · rw [if_neg hp, encR_small (fun x hx => by have := plT_letters _ x hx; omega)]
      refine ⟨plT_len _, fun h => absurd (plT_none ⟨(hlow.2 h).2.2, (hlow.2 h).2.1⟩) hp⟩
/-- The bytes of what folding makes of the runes of a list of pairs. -/
def flB (p : Bool) (l : List (Nat × Nat)) : List UInt8 := encR (foldRs p (l.map fun x => x.2))
theorem flB_cons (p : Bool) (x : Nat × Nat) (l : List (Nat × Nat)) : flB p (x :: l) = encR (foldR p x.2) ++ flB p l := by
  unfold flB
  rw [List.map_cons, foldRs_cons, encR_append]
theorem flB_append (p : Bool) (a b : List (Nat × Nat)) : flB p (a ++ b) = flB p a ++ flB p b := by
  unfold flB
  rw [List.map_append, foldRs_append, encR_append]
theorem flB_from (p : Bool) (s : ByteArray) : ∀ f pos, pos ≤ s.size → (flB p (pairsFrom s f pos)).length + pos ≤ s.size
  | 0, pos, h => by simp [pairsFrom, flB, foldRs, encR]; exact h
  | f + 1, pos, h => by
    by_cases hp : pos < s.size
    · obtain ⟨h1, h2⟩ := decode_shape s pos hp
      have hw := decode_width_pos s pos hp
      have ih := flB_from p s f (pos + (Utf8.decode s pos).2) h1
      rw [pairsFrom_step hp, flB_cons, List.length_append]
      have hb : (encR (foldR p (((Utf8.decode s pos).1 : Nat) : Int))).length ≤ (Utf8.decode s pos).2 := by
        by_cases hL : isL (((Utf8.decode s pos).1 : Nat) : Int)
        · obtain ⟨b1, b2⟩ := foldR_bytes p _ hL
          have hbd : (Utf8.decode s pos).1 ≤ 1119 := by unfold isL at hL; omega
          by_cases hlt : (Utf8.decode s pos).1 < 128
          · have := b2 hlt; omega
          · omega
        · unfold foldR
          rw [if_neg hL]
          exact Nat.zero_le _
      dsimp only
      omega
    · rw [pairsFrom_end s _ _ hp]
      simp [flB, foldRs, encR]; exact h
theorem flB_pre (p : Bool) (s : ByteArray) {pre post : List (Nat × Nat)} (h : pairs s = pre ++ post) : (flB p pre).length ≤ s.size := by
  have := flB_from p s s.size 0 (Nat.zero_le _)
  rw [show pairsFrom s s.size 0 = pairs s from rfl, h, flB_append, List.length_append] at this
  omega
theorem foldS_fits (p : Bool) (s : ByteArray) : (foldS p s).size ≤ s.size := by
  have := flB_from p s s.size 0 (Nat.zero_le _)
  show (encR _).toArray.size ≤ _
  rw [List.size_toArray]
  exact this
end Go.Proofs.Ytiemndjcebhgcaa.Utf
