/-
  Plain facts on texts that were written out of runes: they are valid, their runes are those that were written, and a valid text is what is written for its runes.
-/
import Derived.Test.YtikfaalbdnlelaaGreatDoorCutm
namespace Go.Proofs.YtikfaalbdnlelaaGreatDoor.Utf
open Go Go.Lib

theorem wr_wr (r : Int) : wr ((wr r : Nat) : Int) = wr r := by
  have h := wr_bd r
  rw [wr_valid (by omega)]; omega
theorem enc_of_wr {a b : Int} (h : wr a = wr b) : Utf8.encode a = Utf8.encode b := by rw [enc_eq, enc_eq, h]
theorem encB_wr (r : Nat) : encB (wr (r : Int)) = encB r := by
  rw [encB, encB, enc_of_wr (wr_wr r)]
/-- What is written for a list of runes. -/
def encR (l : List Nat) : List UInt8 := l.flatMap encB
theorem encs_eq (l : List (Nat × Nat)) : encs l = encR (l.map fun x => x.2) := by simp [encs, encR, List.flatMap_map]
theorem encR_cons (r : Nat) (l : List Nat) : encR (r :: l) = encB r ++ encR l := List.flatMap_cons
theorem encR_append (a b : List Nat) : encR (a ++ b) = encR a ++ encR b := List.flatMap_append
theorem encR_wr (l : List Nat) : encR (l.map fun r : Nat => wr (r : Int)) = encR l := by
  induction l with
  | nil => rfl
  | cons r l ih => rw [List.map_cons, encR_cons, encR_cons, ih, encB_wr]
theorem encR_rev_length (l : List Nat) : (encR l.reverse).length = (encR l).length := by
  induction l with
  | nil => rfl
  | cons r l ih =>
    rw [List.reverse_cons, encR_append, encR_cons, encR_cons, List.length_append, List.length_append, List.length_append, ih]
    have : encR [] = [] := rfl
    rw [this, List.length_nil]; omega

/-- The rune that was written at a place is read there. -/
theorem dec_at (s : ByteArray) (i : Nat) (r : Int) (h : ∀ k, k < (Utf8.encode r).size → s.get! (i + k) = (Utf8.encode r).get! k) (hz : i + (Utf8.encode r).size ≤ s.size) :
    Utf8.decode s i = (wr r, (Utf8.encode r).size) := by
  have hb := wr_bd r
  rw [decode_at]
  by_cases h1 : wr r < 128
  · rw [enc1 h1] at h hz ⊢
    generalize wr r = c at *
    have g0 : s.get! i = UInt8.ofNat c := h 0 (Nat.zero_lt_succ _)
    show decodeN _ _ _ _ _ = (c, 1)
    rw [g0, u8n (by omega), decodeN_1 h1]
  · by_cases h2 : wr r < 2048
    · rw [enc2 h1 h2] at h hz ⊢
      generalize wr r = c at *
      have g0 : s.get! i = UInt8.ofNat (192 + c / 64) := h 0 (Nat.zero_lt_succ _)
      have g1 : s.get! (i + 1) = UInt8.ofNat (128 + c % 64) := h 1 (show 1 < 2 by decide)
      have hz' : i + 2 ≤ s.size := hz
      show decodeN _ _ _ _ _ = (c, 2)
      rw [g0, g1, u8n (by omega), u8n (by omega), decodeN_2 (by omega) (by omega) (by omega) (by omega)]
      simp only [Prod.mk.injEq, and_true]; omega
    · by_cases h3 : wr r < 65536
      · rw [enc3 h2 h3] at h hz ⊢
        generalize wr r = c at *
        have g0 : s.get! i = UInt8.ofNat (224 + c / 4096) := h 0 (Nat.zero_lt_succ _)
        have g1 : s.get! (i + 1) = UInt8.ofNat (128 + c / 64 % 64) := h 1 (show 1 < 3 by decide)
        have g2 : s.get! (i + 2) = UInt8.ofNat (128 + c % 64) := h 2 (show 2 < 3 by decide)
        have hz' : i + 3 ≤ s.size := hz
        show decodeN _ _ _ _ _ = (c, 3)
        have e : (224 + c / 4096) % 16 * 4096 + (128 + c / 64 % 64) % 64 * 64 + (128 + c % 64) % 64 = c := by omega
        rw [g0, g1, g2, u8n (by omega), u8n (by omega), u8n (by omega), decodeN_3 (by omega) (by omega) (by omega) (by omega) (by omega) (by omega) (by omega), e]
      · rw [enc4 h3] at h hz ⊢
        generalize wr r = c at *
        have g0 : s.get! i = UInt8.ofNat (240 + c / 262144) := h 0 (Nat.zero_lt_succ _)
        have g1 : s.get! (i + 1) = UInt8.ofNat (128 + c / 4096 % 64) := h 1 (show 1 < 4 by decide)
        have g2 : s.get! (i + 2) = UInt8.ofNat (128 + c / 64 % 64) := h 2 (show 2 < 4 by decide)
        have g3 : s.get! (i + 3) = UInt8.ofNat (128 + c % 64) := h 3 (show 3 < 4 by decide)
        have hz' : i + 4 ≤ s.size := hz
        show decodeN _ _ _ _ _ = (c, 4)
        have e : (240 + c / 262144) % 8 * 262144 + (128 + c / 4096 % 64) % 64 * 4096 + (128 + c / 64 % 64) % 64 * 64 + (128 + c % 64) % 64 = c := by omega
        rw [g0, g1, g2, g3, u8n (by omega), u8n (by omega), u8n (by omega), u8n (by omega), decodeN_4 (by omega) (by omega) (by omega) (by omega) (by omega) (by omega) (by omega) (by omega), e]

/-- .. the same, of a text that is put together. -/
theorem dec_mid (s : ByteArray) (a : List UInt8) (r : Nat) (b : List UInt8) (h : s.data.toList = a ++ (encB r ++ b)) : Utf8.decode s a.length = (wr (r : Int), (encB r).length) := by
  have hl : s.size = a.length + ((encB r).length + b.length) := by rw [← ba_len, h]; simp
  rw [encB_size] at *
  refine dec_at s a.length r (fun k hk => ?_) (by omega)
  rw [← Lib.getD_get!' s, ← Lib.getD_get!' (Utf8.encode (r : Int)), h]
  have hk' : k < (encB r).length := by rw [encB_size]; exact hk
  rw [List.getD, List.getD, List.getElem?_append_right (by omega), Nat.add_sub_cancel_left, List.getElem?_append_left hk', encB]

/-- THE RUNES OF WHAT WAS WRITTEN; it is valid. -/
theorem written (s : ByteArray) : ∀ (l : List Nat) (a : List UInt8) (fuel : Nat), s.data.toList = a ++ encR l → s.size ≤ a.length + fuel →
    (pairsFrom s fuel a.length).map (fun x => x.2) = l.map (fun r : Nat => wr (r : Int)) ∧ validFrom s fuel a.length = true
  | [], a, fuel, h, hf => by
    have hl : s.size = a.length := by rw [← ba_len, h]; simp [encR]
    rw [pairsFrom_end s fuel _ (by omega), validFrom_end s fuel _ (by omega)]
    exact ⟨rfl, rfl⟩
  | r :: l, a, fuel, h, hf => by
    rw [encR_cons] at h
    have hd := dec_mid s a r (encR l) h
    have hl : s.size = a.length + ((encB r).length + (encR l).length) := by rw [← ba_len, h]; simp
    have h1 : 1 ≤ (encB r).length := by rw [encB_size]; exact (enc_size r).1
    have h2 : wr (r : Int) = 65533 → (encB r).length = 3 := by rw [encB_size]; exact enc_wide r
    obtain ⟨f, rfl⟩ : ∃ f, fuel = f + 1 := ⟨fuel - 1, by omega⟩
    obtain ⟨i1, i2⟩ := written s l (a ++ encB r) f (by rw [h, List.append_assoc]) (by rw [List.length_append]; omega)
    rw [List.length_append] at i1 i2
    rw [pairsFrom_step (by omega), validFrom_step (by omega) (by rw [hd]; simp only; intro q; have := h2 q.1; omega), hd, List.map_cons, List.map_cons, i1]
    refine ⟨by simp only, ?_⟩
    simp only
    exact i2
theorem written_runes (l : List Nat) : (pairs ⟨(encR l).toArray⟩).map (fun x => x.2) = l.map (fun r : Nat => wr (r : Int)) :=
  (written ⟨(encR l).toArray⟩ l [] _ (by simp) (by simp)).1
theorem written_valid (l : List Nat) : validB ⟨(encR l).toArray⟩ = true :=
  (written ⟨(encR l).toArray⟩ l [] _ (by simp) (by simp)).2

/-- What is decoded, and isn't a byte that is no rune's, is written as the bytes that it was read from. -/
theorem enc_dec (n b0 b1 b2 b3 : Nat) (l0 : b0 < 256) (l1 : b1 < 256) (h : ¬ ((decodeN n b0 b1 b2 b3).1 = 65533 ∧ (decodeN n b0 b1 b2 b3).2 = 1)) :
    encB (decodeN n b0 b1 b2 b3).1 = [UInt8.ofNat b0, UInt8.ofNat b1, UInt8.ofNat b2, UInt8.ofNat b3].take (decodeN n b0 b1 b2 b3).2 := by
  by_cases k1 : b0 < 128
  · rw [dN1 k1]
    show encB b0 = [UInt8.ofNat b0]
    have e := wr_valid (r := (b0 : Int)) (by omega)
    rw [Int.toNat_natCast] at e
    rw [encB, enc1 (by omega), e]
  by_cases k2 : b0 / 32 = 6
  · by_cases p : P2 n b0 b1
    · rw [dN2y k2 p]
      simp only
      unfold P2 at p
      have e := wr_valid (r := ((b0 % 32 * 64 + b1 % 64 : Nat) : Int)) (by omega)
      rw [Int.toNat_natCast] at e
      rw [encB, enc2 (by omega) (by omega), e, show 192 + (b0 % 32 * 64 + b1 % 64) / 64 = b0 by omega, show 128 + (b0 % 32 * 64 + b1 % 64) % 64 = b1 by omega]; rfl
    · rw [dN2n k2 p] at h; exact absurd ⟨rfl, rfl⟩ h
  by_cases k3 : b0 / 16 = 14
  · by_cases p : P3 n b0 b1 b2
    · rw [dN3y k3 p]
      simp only
      unfold P3 at p
      have e := wr_valid (r := ((b0 % 16 * 4096 + b1 % 64 * 64 + b2 % 64 : Nat) : Int)) (by omega)
      rw [Int.toNat_natCast] at e
      rw [encB, enc3 (by omega) (by omega), e, show 224 + (b0 % 16 * 4096 + b1 % 64 * 64 + b2 % 64) / 4096 = b0 by omega, show 128 + (b0 % 16 * 4096 + b1 % 64 * 64 + b2 % 64) / 64 % 64 = b1 by omega, show 128 + (b0 % 16 * 4096 + b1 % 64 * 64 + b2 % 64) % 64 = b2 by omega]; rfl
    · rw [dN3n k3 p] at h; exact absurd ⟨rfl, rfl⟩ h
  by_cases k4 : b0 / 8 = 30
  · by_cases p : P4 n b0 b1 b2 b3
    · rw [dN4y k4 p]
      simp only
      unfold P4 at p
      have e := wr_valid (r := ((b0 % 8 * 262144 + b1 % 64 * 4096 + b2 % 64 * 64 + b3 % 64 : Nat) : Int)) (by omega)
      rw [Int.toNat_natCast] at e
      rw [encB, enc4 (by omega), e, show 240 + (b0 % 8 * 262144 + b1 % 64 * 4096 + b2 % 64 * 64 + b3 % 64) / 262144 = b0 by omega, show 128 + (b0 % 8 * 262144 + b1 % 64 * 4096 + b2 % 64 * 64 + b3 % 64) / 4096 % 64 = b1 by omega, show 128 + (b0 % 8 * 262144 + b1 % 64 * 4096 + b2 % 64 * 64 + b3 % 64) / 64 % 64 = b2 by omega, show 128 + (b0 % 8 * 262144 + b1 % 64 * 4096 + b2 % 64 * 64 + b3 % 64) % 64 = b3 by omega]; rfl
    · rw [dN4n k4 p] at h; exact absurd ⟨rfl, rfl⟩ h
  · rw [dN0 k1 k2 k3 k4] at h; exact absurd ⟨rfl, rfl⟩ h

theorem four_take (s : ByteArray) (pos w : Nat) (hw : w ≤ 4) (hp : pos + w ≤ s.size) : [s.get! pos, s.get! (pos + 1), s.get! (pos + 2), s.get! (pos + 3)].take w = (s.data.toList.drop pos).take w := by
  apply List.ext_getElem?
  intro i
  rw [List.getElem?_take, List.getElem?_take]
  split
  · rename_i hi
    have hlen : pos + i < s.data.toList.length := by rw [ba_len]; omega
    rw [List.getElem?_drop, List.getElem?_eq_getElem hlen]
    have e : s.get! (pos + i) = s.data.toList[pos + i] := by
      rw [← Lib.getD_get!' s, List.getD, List.getElem?_eq_getElem hlen]; rfl
    rw [← e]
    match i, hi with
    | 0, _ => rfl
    | 1, _ => rfl
    | 2, _ => rfl
    | 3, _ => rfl
    | i + 4, hi => omega
  · rfl
theorem u8o (b : UInt8) : UInt8.ofNat b.toNat = b := by simp
/-- A VALID TEXT IS WHAT IS WRITTEN FOR ITS RUNES. -/
theorem valid_encs (s : ByteArray) : ∀ fuel pos, s.size ≤ pos + fuel → pos ≤ s.size → validFrom s fuel pos = true → encs (pairsFrom s fuel pos) = s.data.toList.drop pos
  | 0, pos, h1, h2, _ => by
    rw [pairsFrom_end s 0 pos (by omega), List.drop_of_length_le (by rw [ba_len]; omega)]; rfl
  | f + 1, pos, h1, h2, hv => by
    by_cases hp : pos < s.size
    · have hd := decode_fits s pos hp
      by_cases hb : (Utf8.decode s pos).1 = 65533 ∧ (Utf8.decode s pos).2 = 1
      · rw [validFrom_bad hp hb.1 hb.2] at hv; cases hv
      · rw [validFrom_step hp hb] at hv
        have ih := valid_encs s f (pos + (Utf8.decode s pos).2) (by omega) (by omega) hv
        rw [pairsFrom_step hp, encs_cons, ih]
        have hed : encB (Utf8.decode s pos).1 = (s.data.toList.drop pos).take (Utf8.decode s pos).2 := by
          have h4 : (Utf8.decode s pos).2 ≤ 4 := by
            rw [decode_at]; exact (decodeN_fits _ _ _ _ _ (by omega)).2.2
          rw [← four_take s pos _ h4 hd.2]
          rw [decode_at] at hb ⊢
          have := enc_dec _ _ _ _ _ (s.get! pos).toNat_lt (s.get! (pos + 1)).toNat_lt hb
          rw [u8o, u8o, u8o, u8o] at this
          exact this
        rw [hed, ← List.drop_drop, List.take_append_drop]
    · rw [pairsFrom_end _ _ _ hp, List.drop_of_length_le (by rw [ba_len]; omega)]; rfl
theorem valid_fix (s : ByteArray) (h : validB s = true) : encs (pairs s) = s.data.toList := by
  have := valid_encs s s.size 0 (by omega) (Nat.zero_le _) h
  rwa [List.drop_zero] at this
end Go.Proofs.YtikfaalbdnlelaaGreatDoor.Utf
