/-
  Plain facts on texts as runes, with no word of any program: what a rune's bytes decode to, how many places a text has, whether it is valid, for every text and every number.
-/
import Derived.Lib.DecodeNEq
import Derived.Lib.RuneCount
namespace Go.Proofs.YtikfaalbdnlelaaGreatDoor.Utf
open Go Go.Lib

/-- The number that is written for r. -/
def wr (r : Int) : Nat := if Utf8.valid r then r.toNat else 65533
theorem wr_bd (r : Int) : wr r < 55296 ∨ (57344 ≤ wr r ∧ wr r ≤ 1114111) := by
  unfold wr Utf8.valid
  split
  · rename_i h
    simp only [Bool.or_eq_true, Bool.and_eq_true, decide_eq_true_eq] at h
    omega
  · omega
theorem wr_valid {r : Int} (h : (0 ≤ r ∧ r < 55296) ∨ (57344 ≤ r ∧ r ≤ 1114111)) : wr r = r.toNat := by
  unfold wr Utf8.valid
  rw [if_pos]
  simp only [Bool.or_eq_true, Bool.and_eq_true, decide_eq_true_eq]
  omega
theorem wr_bad {r : Int} (h : ¬ ((0 ≤ r ∧ r < 55296) ∨ (57344 ≤ r ∧ r ≤ 1114111))) : wr r = 65533 := by
  unfold wr Utf8.valid
  rw [if_neg]
  simp only [Bool.or_eq_true, Bool.and_eq_true, decide_eq_true_eq]
  omega
theorem enc_eq (r : Int) : Utf8.encode r = (if wr r < 128 then ⟨#[UInt8.ofNat (wr r)]⟩ else if wr r < 2048 then ⟨#[UInt8.ofNat (192 + wr r / 64), UInt8.ofNat (128 + wr r % 64)]⟩
    else if wr r < 65536 then ⟨#[UInt8.ofNat (224 + wr r / 4096), UInt8.ofNat (128 + wr r / 64 % 64), UInt8.ofNat (128 + wr r % 64)]⟩
    else ⟨#[UInt8.ofNat (240 + wr r / 262144), UInt8.ofNat (128 + wr r / 4096 % 64), UInt8.ofNat (128 + wr r / 64 % 64), UInt8.ofNat (128 + wr r % 64)]⟩) := rfl
theorem enc1 {r : Int} (h : wr r < 128) : Utf8.encode r = ⟨#[UInt8.ofNat (wr r)]⟩ := by
  rw [enc_eq, if_pos h]
theorem enc2 {r : Int} (h0 : ¬ wr r < 128) (h : wr r < 2048) : Utf8.encode r = ⟨#[UInt8.ofNat (192 + wr r / 64), UInt8.ofNat (128 + wr r % 64)]⟩ := by
  rw [enc_eq, if_neg h0, if_pos h]
theorem enc3 {r : Int} (h0 : ¬ wr r < 2048) (h : wr r < 65536) : Utf8.encode r = ⟨#[UInt8.ofNat (224 + wr r / 4096), UInt8.ofNat (128 + wr r / 64 % 64), UInt8.ofNat (128 + wr r % 64)]⟩ := by
  rw [enc_eq, if_neg (by omega), if_neg h0, if_pos h]
theorem enc4 {r : Int} (h0 : ¬ wr r < 65536) : Utf8.encode r = ⟨#[UInt8.ofNat (240 + wr r / 262144), UInt8.ofNat (128 + wr r / 4096 % 64), UInt8.ofNat (128 + wr r / 64 % 64), UInt8.ofNat (128 + wr r % 64)]⟩ := by
  rw [enc_eq, if_neg (by omega), if_neg (by omega), if_neg h0]
theorem u8n {x : Nat} (h : x < 256) : (UInt8.ofNat x).toNat = x := by rw [UInt8.toNat_ofNat']; omega
theorem decodeN_1 {n b0 b1 b2 b3 : Nat} (h : b0 < 128) : decodeN n b0 b1 b2 b3 = (b0, 1) := by
  unfold decodeN; rw [if_pos h]
theorem decodeN_2 {n b0 b1 b2 b3 : Nat} (h : 194 ≤ b0) (h' : b0 < 224) (hn : 1 < n) (h1 : b1 / 64 = 2) : decodeN n b0 b1 b2 b3 = (b0 % 32 * 64 + b1 % 64, 2) := by
  unfold decodeN; rw [if_neg (by omega), if_pos ⟨by omega, hn, h1⟩, if_pos (by omega)]
theorem decodeN_3 {n b0 b1 b2 b3 : Nat} (h : 224 ≤ b0) (h' : b0 < 240) (hn : 2 < n) (h1 : b1 / 64 = 2) (h2 : b2 / 64 = 2)
    (hc : 2048 ≤ b0 % 16 * 4096 + b1 % 64 * 64 + b2 % 64) (hv : b0 % 16 * 4096 + b1 % 64 * 64 + b2 % 64 < 55296 ∨ 57344 ≤ b0 % 16 * 4096 + b1 % 64 * 64 + b2 % 64) : decodeN n b0 b1 b2 b3 = (b0 % 16 * 4096 + b1 % 64 * 64 + b2 % 64, 3) := by
  unfold decodeN
  rw [if_neg (by omega), if_neg (by omega), if_pos ⟨by omega, ⟨by omega, h1⟩, by omega, h2⟩, if_pos ⟨hc, by omega⟩]
theorem decodeN_4 {n b0 b1 b2 b3 : Nat} (h : 240 ≤ b0) (h' : b0 < 248) (hn : 3 < n) (h1 : b1 / 64 = 2) (h2 : b2 / 64 = 2) (h3 : b3 / 64 = 2)
    (hc : 65536 ≤ b0 % 8 * 262144 + b1 % 64 * 4096 + b2 % 64 * 64 + b3 % 64) (hv : b0 % 8 * 262144 + b1 % 64 * 4096 + b2 % 64 * 64 + b3 % 64 ≤ 1114111) :
    decodeN n b0 b1 b2 b3 = (b0 % 8 * 262144 + b1 % 64 * 4096 + b2 % 64 * 64 + b3 % 64, 4) := by
  unfold decodeN
  rw [if_neg (by omega), if_neg (by omega), if_neg (by omega), if_pos ⟨by omega, ⟨by omega, h1⟩, ⟨by omega, h2⟩, by omega, h3⟩, if_pos ⟨hc, by omega⟩]

/-- A RUNE's BYTES DECODE TO IT. -/
theorem dec_enc (r : Int) : Utf8.decode (Utf8.encode r) 0 = (wr r, (Utf8.encode r).size) := by
  have hb := wr_bd r
  rw [decode_at]
  by_cases h1 : wr r < 128
  · rw [enc1 h1]
    generalize wr r = c at *
    show decodeN 1 (UInt8.ofNat c).toNat _ _ _ = (c, 1)
    rw [u8n (by omega), decodeN_1 h1]
  · by_cases h2 : wr r < 2048
    · rw [enc2 h1 h2]
      generalize wr r = c at *
      show decodeN 2 (UInt8.ofNat (192 + c / 64)).toNat (UInt8.ofNat (128 + c % 64)).toNat _ _ = (c, 2)
      rw [u8n (by omega), u8n (by omega), decodeN_2 (by omega) (by omega) (by omega) (by omega)]
      simp only [Prod.mk.injEq, and_true]; omega
    · by_cases h3 : wr r < 65536
      · rw [enc3 h2 h3]
        generalize wr r = c at *
        show decodeN 3 (UInt8.ofNat (224 + c / 4096)).toNat (UInt8.ofNat (128 + c / 64 % 64)).toNat (UInt8.ofNat (128 + c % 64)).toNat _ = (c, 3)
        have e : (224 + c / 4096) % 16 * 4096 + (128 + c / 64 % 64) % 64 * 64 + (128 + c % 64) % 64 = c := by omega
        rw [u8n (by omega), u8n (by omega), u8n (by omega), decodeN_3 (by omega) (by omega) (by omega) (by omega) (by omega) (by omega) (by omega), e]
      · rw [enc4 h3]
        generalize wr r = c at *
        show decodeN 4 (UInt8.ofNat (240 + c / 262144)).toNat (UInt8.ofNat (128 + c / 4096 % 64)).toNat (UInt8.ofNat (128 + c / 64 % 64)).toNat (UInt8.ofNat (128 + c % 64)).toNat = (c, 4)
        have e : (240 + c / 262144) % 8 * 262144 + (128 + c / 4096 % 64) % 64 * 4096 + (128 + c / 64 % 64) % 64 * 64 + (128 + c % 64) % 64 = c := by omega
        rw [u8n (by omega), u8n (by omega), u8n (by omega), u8n (by omega), decodeN_4 (by omega) (by omega) (by omega) (by omega) (by omega) (by omega) (by omega) (by omega), e]
theorem enc_size (r : Int) : 1 ≤ (Utf8.encode r).size ∧ (Utf8.encode r).size ≤ 4 := by
  by_cases h1 : wr r < 128
  · rw [enc1 h1]; simp [ByteArray.size]
  · by_cases h2 : wr r < 2048
    · rw [enc2 h1 h2]; simp [ByteArray.size]
    · by_cases h3 : wr r < 65536
      · rw [enc3 h2 h3]; simp [ByteArray.size]
      · rw [enc4 h3]; simp [ByteArray.size]
/-- The number that is told of a rune's bytes is never told with width 1 where it is Bad. -/
theorem enc_wide (r : Int) (h : wr r = 65533) : (Utf8.encode r).size = 3 := by
  rw [enc3 (by omega) (by omega)]; simp [ByteArray.size]

/-- THE RUNE AT A PLACE, AND ITS WIDTH. -/
def nextR (s : ByteArray) (p : Int) : Int := if 0 ≤ p ∧ p < s.size then ((Utf8.decode s p.toNat).1 : Int) else 0
def nextW (s : ByteArray) (p : Int) : Int := if 0 ≤ p ∧ p < s.size then ((Utf8.decode s p.toNat).2 : Int) else 0
theorem nextR_in {s : ByteArray} {p : Nat} (h : p < s.size) : nextR s p = ((Utf8.decode s p).1 : Int) := by
  unfold nextR; rw [if_pos (by omega), Int.toNat_natCast]
theorem nextW_in {s : ByteArray} {p : Nat} (h : p < s.size) : nextW s p = ((Utf8.decode s p).2 : Int) := by
  unfold nextW; rw [if_pos (by omega), Int.toNat_natCast]
theorem nextR_out {s : ByteArray} {p : Int} (h : ¬ (0 ≤ p ∧ p < s.size)) : nextR s p = 0 := by unfold nextR; rw [if_neg h]
theorem nextW_out {s : ByteArray} {p : Int} (h : ¬ (0 ≤ p ∧ p < s.size)) : nextW s p = 0 := by unfold nextW; rw [if_neg h]

/-- Is no rune from a place on a byte that is none's? -/
def validFrom (s : ByteArray) : Nat → Nat → Bool
  | 0, _ => true
  | fuel + 1, pos => if pos < s.size then (if (Utf8.decode s pos).1 = 65533 ∧ (Utf8.decode s pos).2 = 1 then false else validFrom s fuel (pos + (Utf8.decode s pos).2)) else true
def validB (s : ByteArray) : Bool := validFrom s s.size 0
theorem validFrom_end (s : ByteArray) (fuel pos : Nat) (h : ¬ pos < s.size) : validFrom s fuel pos = true := by
  cases fuel <;> simp [validFrom, h]
theorem validFrom_bad {s : ByteArray} {fuel pos : Nat} (h : pos < s.size) (h1 : (Utf8.decode s pos).1 = 65533) (h2 : (Utf8.decode s pos).2 = 1) : validFrom s (fuel + 1) pos = false := by
  simp [validFrom, h, h1, h2]
theorem validFrom_step {s : ByteArray} {fuel pos : Nat} (h : pos < s.size) (h1 : ¬ ((Utf8.decode s pos).1 = 65533 ∧ (Utf8.decode s pos).2 = 1)) : validFrom s (fuel + 1) pos = validFrom s fuel (pos + (Utf8.decode s pos).2) := by
  rw [validFrom, if_pos h, if_neg h1]

theorem enc_count (r : Int) : runeCount (Utf8.encode r) = 1 := by
  have hd := dec_enc r
  have hz := enc_size r
  generalize Utf8.encode r = s at *
  obtain ⟨n, hn⟩ : ∃ n, s.size = n + 1 := ⟨s.size - 1, by omega⟩
  unfold runeCount
  rw [show runeCountFrom s s.size 0 = runeCountFrom s (n + 1) 0 by rw [hn]]
  unfold runeCountFrom
  rw [if_pos (by omega), hd, runeCountFrom_end s n _ (by simp)]
theorem enc_valid (r : Int) : validB (Utf8.encode r) = true := by
  have hd := dec_enc r
  have hz := enc_size r
  have hw := enc_wide r
  generalize Utf8.encode r = s at *
  obtain ⟨n, hn⟩ : ∃ n, s.size = n + 1 := ⟨s.size - 1, by omega⟩
  unfold validB
  rw [show validFrom s s.size 0 = validFrom s (n + 1) 0 by rw [hn]]
  rw [validFrom_step (by omega) (by rw [hd]; simp only; intro hh; have := hw hh.1; omega), hd, validFrom_end s n _ (by simp)]
end Go.Proofs.YtikfaalbdnlelaaGreatDoor.Utf
