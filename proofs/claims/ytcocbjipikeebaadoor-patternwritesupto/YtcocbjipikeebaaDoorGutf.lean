/-
  Plain facts on texts as runes, with no word of any program: what a rune's bytes decode to, how many places a text has, whether it is valid, for every text and every number.
-/
import Derived.Lib.DecodeNEq
import Derived.Lib.RuneCount
import Derived.Lib.RuneCountTail
namespace Go.Proofs.YtcocbjipikeebaaDoor.Utf
open Go Go.Lib

/-- The number that is written for r. -/
def wr (r : Int) : Nat := if Utf8.valid r then r.toNat else 65533
theorem wr_bd (r : Int) : wr r < 55296 ∨ (57344 ≤ wr r ∧ wr r ≤ 1114111) := by
  unfold wr Utf8.valid
  split
  · rename_i h
    simp only [Bool.or_eq_true, Bool.and_eq_true, decide_eq_true_eq] at h
    omega
  · omega
theorem wr_valid {r : Int} (h : (0 ≤ r ∧ r < 55296) ∨ (57344 ≤ r ∧ r ≤ 1114111)) : wr r = r.toNat := by
  unfold wr Utf8.valid
  rw [if_pos]
  simp only [Bool.or_eq_true, Bool.and_eq_true, decide_eq_true_eq]
  omega
theorem wr_bad {r : Int} (h : ¬ ((0 ≤ r ∧ r < 55296) ∨ (57344 ≤ r ∧ r ≤ 1114111))) : wr r = 65533 := by
  unfold wr Utf8.valid
  rw [if_neg]
  simp only [Bool.or_eq_true, Bool.and_eq_true, decide_eq_true_eq]
  omega
theorem enc_eq (r : Int) : Utf8.encode r = (if wr r < 128 then ⟨#[UInt8.ofNat (wr r)]⟩ else if wr r < 2048 then ⟨#[UInt8.ofNat (192 + wr r / 64), UInt8.ofNat (128 + wr r % 64)]⟩
    else if wr r < 65536 then ⟨#[UInt8.ofNat (224 + wr r / 4096), UInt8.ofNat (128 + wr r / 64 % 64), UInt8.ofNat (128 + wr r % 64)]⟩
    else ⟨#[UInt8.ofNat (240 + wr r / 262144), UInt8.ofNat (128 + wr r / 4096 % 64), UInt8.ofNat (128 + wr r / 64 % 64), UInt8.ofNat (128 + wr r % 64)]⟩) := rfl
theorem enc1 {r : Int} (h : wr r < 128) : Utf8.encode r = ⟨#[UInt8.ofNat (wr r)]⟩ := by
  rw [enc_eq, if_pos h]
theorem enc2 {r : Int} (h0 : ¬ wr r < 128) (h : wr r < 2048) : Utf8.encode r = ⟨#[UInt8.ofNat (192 + wr r / 64), UInt8.ofNat (128 + wr r % 64)]⟩ := by
  rw [enc_eq, if_neg h0, if_pos h]
theorem enc3 {r : Int} (h0 : ¬ wr r < 2048) (h : wr r < 65536) : Utf8.encode r = ⟨#[UInt8.ofNat (224 + wr r / 4096), UInt8.ofNat (128 + wr r / 64 % 64), UInt8.ofNat (128 + wr r % 64)]⟩ := by
  rw [enc_eq, if_neg (by omega), if_neg h0, if_pos h]
theorem enc4 {r : Int} (h0 : ¬ wr r < 65536) : Utf8.encode r = ⟨#[UInt8.ofNat (240 + wr r / 262144), UInt8.ofNat (128 + wr r / 4096 % 64), UInt8.ofNat (128 + wr r / 64 % 64), UInt8.ofNat (128 + wr r % 64)]⟩ := by
  rw [enc_eq, if_neg (by omega), if_neg (by omega), if_neg h0]
theorem u8n {x : Nat} (h : x < 256) : (UInt8.ofNat x).toNat = x := by rw [UInt8.toNat_ofNat']; omega
theorem decodeN_1 {n b0 b1 b2 b3 : Nat} (h : b0 < 128) : decodeN n b0 b1 b2 b3 = (b0, 1) := by
  unfold decodeN; rw [if_pos h]
theorem decodeN_2 {n b0 b1 b2 b3 : Nat} (h : 194 ≤ b0) (h' : b0 < 224) (hn : 1 < n) (h1 : b1 / 64 = 2) : decodeN n b0 b1 b2 b3 = (b0 % 32 * 64 + b1 % 64, 2) := by
  unfold decodeN; rw [if_neg (by omega), if_pos ⟨by omega, hn, h1⟩, if_pos (by omega)]
theorem decodeN_3 {n b0 b1 b2 b3 : Nat} (h : 224 ≤ b0) (h' : b0 < 240) (hn : 2 < n) (h1 : b1 / 64 = 2) (h2 : b2 / 64 = 2)
    (hc : 2048 ≤ b0 % 16 * 4096 + b1 % 64 * 64 + b2 % 64) (hv : b0 % 16 * 4096 + b1 % 64 * 64 + b2 % 64 < 55296 ∨ 57344 ≤ b0 % 16 * 4096 + b1 % 64 * 64 + b2 % 64) : decodeN n b0 b1 b2 b3 = (b0 % 16 * 4096 + b1 % 64 * 64 + b2 % 64, 3) := by
  unfold decodeN
  rw [if_neg (by omega), if_neg (by omega), if_pos ⟨by omega, ⟨by omega, h1⟩, by omega, h2⟩, if_pos ⟨hc, by omega⟩]
theorem decodeN_4 {n b0 b1 b2 b3 : Nat} (h : 240 ≤ b0) (h' : b0 < 248) (hn : 3 < n) (h1 : b1 / 64 = 2) (h2 : b2 / 64 = 2) (h3 : b3 / 64 = 2)
    (hc : 65536 ≤ b0 % 8 * 262144 + b1 % 64 * 4096 + b2 % 64 * 64 + b3 % 64) (hv : b0 % 8 * 262144 + b1 % 64 * 4096 + b2 % 64 * 64 + b3 % 64 ≤ 1114111) :
    decodeN n b0 b1 b2 b3 = (b0 % 8 * 262144 + b1 % 64 * 4096 + b2 % 64 * 64 + b3 % 64, 4) := by
  unfold decodeN
  rw [if_neg (by omega), if_neg (by omega), if_neg (by omega), if_pos ⟨by omega, ⟨by omega, h1⟩, ⟨by omega, h2⟩, by omega, h3⟩, if_pos ⟨hc, by omega⟩]

/-- A RUNE's BYTES DECODE TO IT. -/
theorem dec_enc (r : Int) : Utf8.decode (Utf8.encode r) 0 = (wr r, (Utf8.encode r).size) := by
  have hb := wr_bd r
  rw [decode_at]
  by_cases h1 : wr r < 128
  · rw [enc1 h1]
    generalize wr r = c at *
    show decodeN 1 (UInt8.ofNat c).toNat _ _ _ = (c, 1)
    rw [u8n (by omega), decodeN_1 h1]
  · by_cases h2 : wr r < 2048
    · rw [enc2 h1 h2]
      generalize wr r = c at *
      show decodeN 2 (UInt8.ofNat (192 + c / 64)).toNat (UInt8.ofNat (128 + c % 64)).toNat _ _ = (c, 2)
      rw [u8n (by omega), u8n (by omega), decodeN_2 (by omega) (by omega) (by omega) (by omega)]
      simp only [Prod.mk.injEq, and_true]; omega
    · by_cases h3 : wr r < 65536
      · rw [enc3 h2 h3]
        generalize wr r = c at *
        show decodeN 3 (UInt8.ofNat (224 + c / 4096)).toNat (UInt8.ofNat (128 + c / 64 % 64)).toNat (UInt8.ofNat (128 + c % 64)).toNat _ = (c, 3)
        have e : (224 + c / 4096) % 16 * 4096 + (128 + c / 64 % 64) % 64 * 64 + (128 + c % 64) % 64 = c := by omega
        rw [u8n (by omega), u8n (by omega), u8n (by omega), decodeN_3 (by omega) (by omega) (by omega) (by omega) (by omega) (by omega) (by omega), e]
      · rw [enc4 h3]
        generalize wr r = c at *
        show decodeN 4 (UInt8.ofNat (240 + c / 262144)).toNat (UInt8.ofNat (128 + c / 4096 % 64)).toNat (UInt8.ofNat (128 + c / 64 % 64)).toNat (UInt8.ofNat (128 + c % 64)).toNat = (c, 4)
        have e : (240 + c / 262144) % 8 * 262144 + (128 + c / 4096 % 64) % 64 * 4096 + (128 + c / 64 % 64) % 64 * 64 + (128 + c % 64) % 64 = c := by omega
        rw [u8n (by omega), u8n (by omega), u8n (by omega), u8n (by omega), decodeN_4 (by omega) (by omega) (by omega) (by omega) (by omega) (by omega) (by omega) (by omega), e]
theorem enc_size (r : Int) : 1 ≤ (Utf8.encode r).size ∧ (Utf8.encode r).size ≤ 4 := by
  by_cases h1 : wr r < 128
  · rw [enc1 h1]; simp [ByteArray.size]
  · by_cases h2 : wr r < 2048
    · rw [enc2 h1 h2]; simp [ByteArray.size]
    · by_cases h3 : wr r < 65536
      · rw [enc3 h2 h3]; simp [ByteArray.size]
      · rw [enc4 h3]; simp [ByteArray.size]
/-- The number that is told of a rune's bytes is never told with width 1 where it is Bad. -/
theorem enc_wide (r : Int) (h : wr r = 65533) : (Utf8.encode r).size = 3 := by
  rw [enc3 (by omega) (by omega)]; simp [ByteArray.size]

/-- THE RUNE AT A PLACE, AND ITS WIDTH. -/
def nextR (s : ByteArray) (p : Int) : Int := if 0 ≤ p ∧ p < s.size then ((Utf8.decode s p.toNat).1 : Int) else 0
def nextW (s : ByteArray) (p : Int) : Int := if 0 ≤ p ∧ p < s.size then ((Utf8.decode s p.toNat).2 : Int) else 0
theorem nextR_in {s : ByteArray} {p : Nat} (h : p < s.size) : nextR s p = ((Utf8.decode s p).1 : Int) := by
  unfold nextR; rw [if_pos (by omega), Int.toNat_natCast]
theorem nextW_in {s : ByteArray} {p : Nat} (h : p < s.size) : nextW s p = ((Utf8.decode s p).2 : Int) := by
  unfold nextW; rw [if_pos (by omega), Int.toNat_natCast]
theorem nextR_out {s : ByteArray} {p : Int} (h : ¬ (0 ≤ p ∧ p < s.size)) : nextR s p = 0 := by unfold nextR; rw [if_neg h]
theorem nextW_out {s : ByteArray} {p : Int} (h : ¬ (0 ≤ p ∧ p < s.size)) : nextW s p = 0 := by unfold nextW; rw [if_neg h]

/-- Is no rune from a place on a byte that is none's? -/
def validFrom (s : ByteArray) : Nat → Nat → Bool
  | 0, _ => true
  | fuel + 1, pos => if pos < s.size then (if (Utf8.decode s pos).1 = 65533 ∧ (Utf8.decode s pos).2 = 1 then false else validFrom s fuel (pos + (Utf8.decode s pos).2)) else true
def validB (s : ByteArray) : Bool := validFrom s s.size 0
theorem validFrom_end (s : ByteArray) (fuel pos : Nat) (h : ¬ pos < s.size) : validFrom s fuel pos = true := by
  cases fuel <;> simp [validFrom, h]
theorem validFrom_bad {s : ByteArray} {fuel pos : Nat} (h : pos < s.size) (h1 : (Utf8.decode s pos).1 = 65533) (h2 : (Utf8.decode s pos).2 = 1) : validFrom s (fuel + 1) pos = false := by
  simp [validFrom, h, h1, h2]
theorem validFrom_step {s : ByteArray} {fuel pos : Nat} (h : pos < s.size) (h1 : ¬ ((Utf8.decode s pos).1 = 65533 ∧ (Utf8.decode s pos).2 = 1)) : validFrom s (fuel + 1) pos = validFrom s fuel (pos + (Utf8.decode s pos).2) := by
  rw [validFrom, if_pos h, if_neg h1]

theorem enc_count (r : Int) : runeCount (Utf8.encode r) = 1 := by
  have hd := dec_enc r
  have hz := enc_size r
  generalize Utf8.encode r = s at *
  obtain ⟨n, hn⟩ : ∃ n, s.size = n + 1 := ⟨s.size - 1, by omega⟩
  unfold runeCount
  rw [show runeCountFrom s s.size 0 = runeCountFrom s (n + 1) 0 by rw [hn]]
  unfold runeCountFrom
  rw [if_pos (by omega), hd, runeCountFrom_end s n _ (by simp)]
theorem enc_valid (r : Int) : validB (Utf8.encode r) = true := by
  have hd := dec_enc r
  have hz := enc_size r
  have hw := enc_wide r
  generalize Utf8.encode r = s at *
  obtain ⟨n, hn⟩ : ∃ n, s.size = n + 1 := ⟨s.size - 1, by omega⟩
  unfold validB
  rw [show validFrom s s.size 0 = validFrom s (n + 1) 0 by rw [hn]]
  rw [validFrom_step (by omega) (by rw [hd]; simp only; intro hh; have := hw hh.1; omega), hd, validFrom_end s n _ (by simp)]
end Go.Proofs.YtcocbjipikeebaaDoor.Utf
/-
  Plain facts on the places of a text and their runes, as a list: what going through a text gives.
-/
namespace Go.Proofs.YtcocbjipikeebaaDoor.Utf
open Go Go.Lib

/-- The places from one on, each with its rune. -/
def pairsFrom (s : ByteArray) : Nat → Nat → List (Nat × Nat)
  | 0, _ => []
  | fuel + 1, pos => if pos < s.size then (pos, (Utf8.decode s pos).1) :: pairsFrom s fuel (pos + (Utf8.decode s pos).2) else []
def pairs (s : ByteArray) : List (Nat × Nat) := pairsFrom s s.size 0
theorem pairsFrom_end (s : ByteArray) (fuel pos : Nat) (h : ¬ pos < s.size) : pairsFrom s fuel pos = [] := by
  cases fuel <;> simp [pairsFrom, h]
theorem pairsFrom_step {s : ByteArray} {fuel pos : Nat} (h : pos < s.size) : pairsFrom s (fuel + 1) pos = (pos, (Utf8.decode s pos).1) :: pairsFrom s fuel (pos + (Utf8.decode s pos).2) := by
  rw [pairsFrom, if_pos h]
theorem pairsFrom_length (s : ByteArray) : ∀ fuel pos, (pairsFrom s fuel pos).length = runeCountFrom s fuel pos
  | 0, _ => rfl
  | f + 1, pos => by
    rw [pairsFrom, runeCountFrom]
    split
    · rw [List.length_cons, pairsFrom_length s f, Nat.add_comm]
    · rfl
theorem pairs_length (s : ByteArray) : (pairs s).length = runeCount s := pairsFrom_length s _ _
theorem pairs_le (s : ByteArray) : (pairs s).length ≤ s.size := by rw [pairs_length]; exact runeCount_le s
/-- What is written for a rune, for a list of runes. -/
def encB (r : Nat) : List UInt8 := (Utf8.encode r).data.toList
def encs (l : List (Nat × Nat)) : List UInt8 := l.flatMap fun x => encB x.2
theorem encs_nil : encs [] = [] := rfl
theorem encs_cons (x : Nat × Nat) (l : List (Nat × Nat)) : encs (x :: l) = encB x.2 ++ encs l := List.flatMap_cons
theorem encs_append (a b : List (Nat × Nat)) : encs (a ++ b) = encs a ++ encs b := List.flatMap_append
theorem encs_snoc (a : List (Nat × Nat)) (x : Nat × Nat) : encs (a ++ [x]) = encs a ++ encB x.2 := by rw [encs_append, encs_cons, encs_nil, List.append_nil]
theorem ba_len (E : ByteArray) : E.data.toList.length = E.size := by cases E; simp [ByteArray.size]
theorem encB_size (r : Nat) : (encB r).length = (Utf8.encode r).size := by rw [encB, ba_len]
theorem encB_le (r : Nat) : (encB r).length ≤ 4 := by rw [encB_size]; exact (enc_size r).2
theorem encs_le (l : List (Nat × Nat)) : (encs l).length ≤ 4 * l.length := by
  induction l with
  | nil => rw [encs_nil]; exact Nat.zero_le _
  | cons x r ih =>
    have h := encB_le x.2
    rw [encs_cons, List.length_append, List.length_cons]
    omega
end Go.Proofs.YtcocbjipikeebaaDoor.Utf
/-
  Plain facts on cutting a text behind n runes: the two pieces' places and runes are those of the text, in order.
-/
namespace Go.Proofs.YtcocbjipikeebaaDoor.Utf
open Go Go.Lib

theorem decodeN_fits (n b0 b1 b2 b3 : Nat) (h : 1 ≤ n) : 1 ≤ (decodeN n b0 b1 b2 b3).2 ∧ (decodeN n b0 b1 b2 b3).2 ≤ n ∧ (decodeN n b0 b1 b2 b3).2 ≤ 4 := by
  unfold decodeN
  repeat' split
  all_goals (simp only; omega)
theorem decode_fits (s : ByteArray) (pos : Nat) (h : pos < s.size) : 1 ≤ (Utf8.decode s pos).2 ∧ pos + (Utf8.decode s pos).2 ≤ s.size := by
  rw [decode_at]
  have := decodeN_fits (s.size - pos) (s.get! pos).toNat (s.get! (pos + 1)).toNat (s.get! (pos + 2)).toNat (s.get! (pos + 3)).toNat (by omega)
  omega
/-! The decoder, a class of lead bytes at a time. -/
def P2 (n b0 b1 : Nat) : Prop := 1 < n ∧ b1 / 64 = 2 ∧ 128 ≤ b0 % 32 * 64 + b1 % 64
def P3 (n b0 b1 b2 : Nat) : Prop := 2 < n ∧ b1 / 64 = 2 ∧ b2 / 64 = 2 ∧ 2048 ≤ b0 % 16 * 4096 + b1 % 64 * 64 + b2 % 64 ∧ (b0 % 16 * 4096 + b1 % 64 * 64 + b2 % 64 < 55296 ∨ (57344 ≤ b0 % 16 * 4096 + b1 % 64 * 64 + b2 % 64 ∧ b0 % 16 * 4096 + b1 % 64 * 64 + b2 % 64 ≤ 1114111))
def P4 (n b0 b1 b2 b3 : Nat) : Prop := 3 < n ∧ b1 / 64 = 2 ∧ b2 / 64 = 2 ∧ b3 / 64 = 2 ∧ 65536 ≤ b0 % 8 * 262144 + b1 % 64 * 4096 + b2 % 64 * 64 + b3 % 64 ∧ (b0 % 8 * 262144 + b1 % 64 * 4096 + b2 % 64 * 64 + b3 % 64 < 55296 ∨ (57344 ≤ b0 % 8 * 262144 + b1 % 64 * 4096 + b2 % 64 * 64 + b3 % 64 ∧ b0 % 8 * 262144 + b1 % 64 * 4096 + b2 % 64 * 64 + b3 % 64 ≤ 1114111))
theorem dN1 {n b0 b1 b2 b3 : Nat} (h : b0 < 128) : decodeN n b0 b1 b2 b3 = (b0, 1) := by unfold decodeN; rw [if_pos h]
theorem dN2y {n b0 b1 b2 b3 : Nat} (h : b0 / 32 = 6) (p : P2 n b0 b1) : decodeN n b0 b1 b2 b3 = (b0 % 32 * 64 + b1 % 64, 2) := by
  unfold decodeN P2 at *; rw [if_neg (by omega), if_pos ⟨h, p.1, p.2.1⟩, if_pos p.2.2]
theorem dN2n {n b0 b1 b2 b3 : Nat} (h : b0 / 32 = 6) (p : ¬ P2 n b0 b1) : decodeN n b0 b1 b2 b3 = (65533, 1) := by
  unfold decodeN P2 at *
  rw [if_neg (by omega)]
  by_cases q : b0 / 32 = 6 ∧ (1 < n ∧ b1 / 64 = 2)
  · rw [if_pos q, if_neg (by omega)]
  · rw [if_neg q, if_neg (by omega), if_neg (by omega)]
theorem dN3y {n b0 b1 b2 b3 : Nat} (h : b0 / 16 = 14) (p : P3 n b0 b1 b2) : decodeN n b0 b1 b2 b3 = (b0 % 16 * 4096 + b1 % 64 * 64 + b2 % 64, 3) := by
  unfold decodeN P3 at *; rw [if_neg (by omega), if_neg (by omega), if_pos ⟨h, ⟨by omega, p.2.1⟩, p.1, p.2.2.1⟩, if_pos p.2.2.2]
theorem dN3n {n b0 b1 b2 b3 : Nat} (h : b0 / 16 = 14) (p : ¬ P3 n b0 b1 b2) : decodeN n b0 b1 b2 b3 = (65533, 1) := by
  unfold decodeN P3 at *
  rw [if_neg (by omega), if_neg (by omega)]
  by_cases q : b0 / 16 = 14 ∧ (1 < n ∧ b1 / 64 = 2) ∧ (2 < n ∧ b2 / 64 = 2)
  · rw [if_pos q, if_neg (by omega)]
  · rw [if_neg q, if_neg (by omega)]
theorem dN4y {n b0 b1 b2 b3 : Nat} (h : b0 / 8 = 30) (p : P4 n b0 b1 b2 b3) : decodeN n b0 b1 b2 b3 = (b0 % 8 * 262144 + b1 % 64 * 4096 + b2 % 64 * 64 + b3 % 64, 4) := by
  unfold decodeN P4 at *; rw [if_neg (by omega), if_neg (by omega), if_neg (by omega), if_pos ⟨h, ⟨by omega, p.2.1⟩, ⟨by omega, p.2.2.1⟩, p.1, p.2.2.2.1⟩, if_pos p.2.2.2.2]
theorem dN4n {n b0 b1 b2 b3 : Nat} (h : b0 / 8 = 30) (p : ¬ P4 n b0 b1 b2 b3) : decodeN n b0 b1 b2 b3 = (65533, 1) := by
  unfold decodeN P4 at *
  rw [if_neg (by omega), if_neg (by omega), if_neg (by omega)]
  by_cases q : b0 / 8 = 30 ∧ (1 < n ∧ b1 / 64 = 2) ∧ (2 < n ∧ b2 / 64 = 2) ∧ (3 < n ∧ b3 / 64 = 2)
  · rw [if_pos q, if_neg (by omega)]
  · rw [if_neg q]
theorem dN0 {n b0 b1 b2 b3 : Nat} (h1 : ¬ b0 < 128) (h2 : ¬ b0 / 32 = 6) (h3 : ¬ b0 / 16 = 14) (h4 : ¬ b0 / 8 = 30) : decodeN n b0 b1 b2 b3 = (65533, 1) := by
  unfold decodeN; rw [if_neg h1, if_neg (by omega), if_neg (by omega), if_neg (by omega)]

/-- What is decoded stays where what lies behind it is cut off. -/
theorem decodeN_cut (n m b0 b1 b2 b3 c1 c2 c3 : Nat) (hmn : m ≤ n) (hw : (decodeN n b0 b1 b2 b3).2 ≤ m) (h1 : 1 < m → c1 = b1) (h2 : 2 < m → c2 = b2) (h3 : 3 < m → c3 = b3) :
    decodeN m b0 c1 c2 c3 = decodeN n b0 b1 b2 b3 := by
  by_cases k1 : b0 < 128
  · rw [dN1 k1, dN1 k1]
  by_cases k2 : b0 / 32 = 6
  · by_cases p : P2 n b0 b1
    · rw [dN2y k2 p] at hw ⊢
      simp only at hw
      obtain rfl := h1 (by omega)
      exact dN2y k2 ⟨by omega, p.2⟩
    · have q : ¬ P2 m b0 c1 := fun q => p (by have := h1 q.1; subst this; exact ⟨Nat.lt_of_lt_of_le q.1 hmn, q.2⟩)
      rw [dN2n k2 p, dN2n k2 q]
  by_cases k3 : b0 / 16 = 14
  · by_cases p : P3 n b0 b1 b2
    · rw [dN3y k3 p] at hw ⊢
      simp only at hw
      obtain rfl := h1 (by omega)
      obtain rfl := h2 (by omega)
      exact dN3y k3 ⟨by omega, p.2⟩
    · have q : ¬ P3 m b0 c1 c2 := fun q => p (by
        have := h1 (Nat.lt_trans (by decide) q.1); subst this
        have := h2 q.1; subst this
        exact ⟨Nat.lt_of_lt_of_le q.1 hmn, q.2⟩)
      rw [dN3n k3 p, dN3n k3 q]
  by_cases k4 : b0 / 8 = 30
  · by_cases p : P4 n b0 b1 b2 b3
    · rw [dN4y k4 p] at hw ⊢
      simp only at hw
      obtain rfl := h1 (by omega)
      obtain rfl := h2 (by omega)
      obtain rfl := h3 (by omega)
      exact dN4y k4 ⟨by omega, p.2⟩
    · have q : ¬ P4 m b0 c1 c2 c3 := fun q => p (by
        have := h1 (Nat.lt_trans (by decide) q.1); subst this
        have := h2 (Nat.lt_trans (by decide) q.1); subst this
        have := h3 q.1; subst this
        exact ⟨Nat.lt_of_lt_of_le q.1 hmn, q.2⟩)
      rw [dN4n k4 p, dN4n k4 q]
  · rw [dN0 k1 k2 k3 k4, dN0 k1 k2 k3 k4]

theorem head_size (s : ByteArray) (c : Nat) (h : c ≤ s.size) : (s.extract 0 c).size = c := by
  rw [ByteArray.size_extract]; omega
theorem head_get! (s : ByteArray) (c j : Nat) (hj : j < c) : (s.extract 0 c).get! j = s.get! j := by
  rw [← Lib.getD_get!' s, ← Lib.getD_get!' (s.extract 0 c)]
  simp only [ByteArray.data_extract, Array.toList_extract, List.extract_eq_take_drop, Nat.sub_zero, List.drop_zero, List.getD, List.getElem?_take]
  rw [if_pos hj]
theorem head_decode (s : ByteArray) (c pos : Nat) (h : c ≤ s.size) (hp : pos < c) (hw : pos + (Utf8.decode s pos).2 ≤ c) : Utf8.decode (s.extract 0 c) pos = Utf8.decode s pos := by
  rw [decode_at] at hw
  rw [decode_at, decode_at s pos, head_size s c h, head_get! s c pos hp]
  refine decodeN_cut _ _ _ _ _ _ _ _ _ (by omega) (by omega) (fun e => ?_) (fun e => ?_) (fun e => ?_)
  all_goals rw [head_get! s c _ (by omega)]

theorem pairs_fuel (s : ByteArray) : ∀ f g pos, s.size ≤ pos + f → s.size ≤ pos + g → pairsFrom s f pos = pairsFrom s g pos
  | 0, g, pos, h, _ => by rw [pairsFrom_end s g pos (by omega), pairsFrom_end s 0 pos (by omega)]
  | f + 1, 0, pos, _, h => by rw [pairsFrom_end s 0 pos (by omega), pairsFrom_end s (f + 1) pos (by omega)]
  | f + 1, g + 1, pos, h1, h2 => by
    by_cases hp : pos < s.size
    · have hd := decode_fits s pos hp
      rw [pairsFrom_step hp, pairsFrom_step hp, pairs_fuel s f g _ (by omega) (by omega)]
    · rw [pairsFrom_end _ _ _ hp, pairsFrom_end _ _ _ hp]

/-- Where a text is cut behind n runes from a place on. -/
def cutFrom (s : ByteArray) : Nat → Nat → Int → Nat
  | 0, _, _ => s.size
  | fuel + 1, pos, n => if pos < s.size then (if n < 1 then pos else cutFrom s fuel (pos + (Utf8.decode s pos).2) (n - 1)) else s.size
def cutPos (s : ByteArray) (n : Int) : Nat := cutFrom s s.size 0 n
theorem cutFrom_end {s : ByteArray} {fuel pos : Nat} {n : Int} (h : ¬ pos < s.size) : cutFrom s fuel pos n = s.size := by
  cases fuel <;> simp [cutFrom, h]
theorem cutFrom_stop {s : ByteArray} {fuel pos : Nat} {n : Int} (h : pos < s.size) (hn : n < 1) : cutFrom s (fuel + 1) pos n = pos := by
  rw [cutFrom, if_pos h, if_pos hn]
theorem cutFrom_step {s : ByteArray} {fuel pos : Nat} {n : Int} (h : pos < s.size) (hn : ¬ n < 1) : cutFrom s (fuel + 1) pos n = cutFrom s fuel (pos + (Utf8.decode s pos).2) (n - 1) := by
  rw [cutFrom, if_pos h, if_neg hn]

theorem cut_split (s : ByteArray) : ∀ fuel pos (n : Int), s.size ≤ pos + fuel → pos ≤ s.size →
    pos ≤ cutFrom s fuel pos n ∧ cutFrom s fuel pos n ≤ s.size ∧ ∀ ga gb, cutFrom s fuel pos n ≤ pos + ga → s.size ≤ cutFrom s fuel pos n + gb →
      pairsFrom s fuel pos = pairsFrom (s.extract 0 (cutFrom s fuel pos n)) ga pos ++ pairsFrom s gb (cutFrom s fuel pos n) ∧
      ((pairsFrom (s.extract 0 (cutFrom s fuel pos n)) ga pos).length : Int) = min (max n 0) ((pairsFrom s fuel pos).length : Int)
  | 0, pos, n, h1, h2 => by
    have e : cutFrom s 0 pos n = s.size := rfl
    rw [e]
    refine ⟨h2, Nat.le_refl _, fun ga gb h3 h4 => ?_⟩
    rw [pairsFrom_end s 0 pos (by omega), pairsFrom_end s gb _ (by omega), pairsFrom_end _ ga pos (by rw [head_size _ _ (Nat.le_refl _)]; omega)]
    exact ⟨rfl, by simp only [List.length_nil]; omega⟩
  | f + 1, pos, n, h1, h2 => by
    by_cases hp : pos < s.size
    · have hd := decode_fits s pos hp
      by_cases hn : n < 1
      · rw [cutFrom_stop hp hn]
        refine ⟨Nat.le_refl _, h2, fun ga gb h3 h4 => ?_⟩
        rw [pairsFrom_end _ ga pos (by rw [head_size _ _ h2]; omega)]
        exact ⟨by rw [List.nil_append]; exact pairs_fuel s _ _ _ h1 h4, by simp only [List.length_nil]; omega⟩
      · rw [cutFrom_step hp hn]
        obtain ⟨i1, i2, i3⟩ := cut_split s f (pos + (Utf8.decode s pos).2) (n - 1) (by omega) (by omega)
        generalize cutFrom s f (pos + (Utf8.decode s pos).2) (n - 1) = c at *
        refine ⟨by omega, i2, fun ga gb h3 h4 => ?_⟩
        obtain ⟨ga, rfl⟩ : ∃ g, ga = g + 1 := ⟨ga - 1, by omega⟩
        obtain ⟨j1, j2⟩ := i3 ga gb (by omega) h4
        have hh := head_decode s c pos i2 (by omega) i1
        have e1 : pairsFrom (s.extract 0 c) (ga + 1) pos = (pos, (Utf8.decode s pos).1) :: pairsFrom (s.extract 0 c) ga (pos + (Utf8.decode s pos).2) := by
          rw [pairsFrom_step (by rw [head_size _ _ i2]; omega), hh]
        rw [e1, pairsFrom_step hp, j1, List.length_cons, List.length_cons, ← j1]
        exact ⟨by rw [j1]; rfl, by omega⟩
    · rw [cutFrom_end hp]
      refine ⟨h2, Nat.le_refl _, fun ga gb h3 h4 => ?_⟩
      rw [pairsFrom_end s (f + 1) pos hp, pairsFrom_end s gb _ (by omega), pairsFrom_end _ ga pos (by rw [head_size _ _ (Nat.le_refl _)]; omega)]
      exact ⟨rfl, by simp only [List.length_nil]; omega⟩

theorem tail_pairs (s : ByteArray) (c : Nat) : ∀ fuel pos, pairsFrom s fuel (c + pos) = (pairsFrom (s.extract c s.size) fuel pos).map fun x => (c + x.1, x.2)
  | 0, _ => rfl
  | f + 1, pos => by
    by_cases hp : pos < (s.extract c s.size).size
    · rw [pairsFrom_step hp, pairsFrom_step (by rw [Lib.tail_size] at hp; omega), Lib.tail_decode, List.map_cons, ← tail_pairs s c f, Nat.add_assoc]
    · rw [pairsFrom_end _ _ _ hp, pairsFrom_end _ _ _ (by rw [Lib.tail_size] at hp; omega)]; rfl
theorem encs_map (c : Nat) (l : List (Nat × Nat)) : encs (l.map fun x => (c + x.1, x.2)) = encs l := by
  simp [encs, List.flatMap_map]

/-- THE TWO PIECES: their runes behind one another are the text's; the first has the lesser of n and all. -/
theorem cut_pieces (s : ByteArray) (n : Int) : cutPos s n ≤ s.size ∧
    encs (pairs (s.extract 0 (cutPos s n))) ++ encs (pairs (s.extract (cutPos s n) s.size)) = encs (pairs s) ∧
    ((runeCount (s.extract 0 (cutPos s n)) : Nat) : Int) = min (max n 0) (runeCount s) ∧
    runeCount (s.extract 0 (cutPos s n)) + runeCount (s.extract (cutPos s n) s.size) = runeCount s := by
  obtain ⟨_, h2, h3⟩ := cut_split s s.size 0 n (by omega) (Nat.zero_le _)
  unfold cutPos
  generalize cutFrom s s.size 0 n = c at *
  obtain ⟨j1, j2⟩ := h3 c (s.size - c) (by omega) (by omega)
  have ea : pairs (s.extract 0 c) = pairsFrom (s.extract 0 c) c 0 := by unfold pairs; rw [head_size _ _ h2]
  have eb := tail_pairs s c (s.size - c) 0
  have ec : pairs (s.extract c s.size) = pairsFrom (s.extract c s.size) (s.size - c) 0 := by unfold pairs; rw [Lib.tail_size]
  rw [Nat.add_zero, ← ec] at eb
  rw [← ea, eb] at j1
  rw [← ea] at j2
  have e : pairsFrom s s.size 0 = pairs s := rfl
  rw [e] at j1 j2
  refine ⟨h2, ?_, ?_, ?_⟩
  · rw [j1, encs_append, encs_map]
  · rw [← pairs_length, ← pairs_length]; exact j2
  · rw [← pairs_length, ← pairs_length, ← pairs_length, j1, List.length_append, List.length_map]
end Go.Proofs.YtcocbjipikeebaaDoor.Utf
/-
  Plain facts on texts that were written out of runes: they are valid, their runes are those that were written, and a valid text is what is written for its runes.
-/
namespace Go.Proofs.YtcocbjipikeebaaDoor.Utf
open Go Go.Lib

theorem wr_wr (r : Int) : wr ((wr r : Nat) : Int) = wr r := by
  have h := wr_bd r
  rw [wr_valid (by omega)]; omega
theorem enc_of_wr {a b : Int} (h : wr a = wr b) : Utf8.encode a = Utf8.encode b := by rw [enc_eq, enc_eq, h]
theorem encB_wr (r : Nat) : encB (wr (r : Int)) = encB r := by
  rw [encB, encB, enc_of_wr (wr_wr r)]
/-- What is written for a list of runes. -/
def encR (l : List Nat) : List UInt8 := l.flatMap encB
theorem encs_eq (l : List (Nat × Nat)) : encs l = encR (l.map fun x => x.2) := by simp [encs, encR, List.flatMap_map]
theorem encR_cons (r : Nat) (l : List Nat) : encR (r :: l) = encB r ++ encR l := List.flatMap_cons
theorem encR_append (a b : List Nat) : encR (a ++ b) = encR a ++ encR b := List.flatMap_append
theorem encR_wr (l : List Nat) : encR (l.map fun r : Nat => wr (r : Int)) = encR l := by
  induction l with
  | nil => rfl
  | cons r l ih => rw [List.map_cons, encR_cons, encR_cons, ih, encB_wr]
theorem encR_rev_length (l : List Nat) : (encR l.reverse).length = (encR l).length := by
  induction l with
  | nil => rfl
  | cons r l ih =>
    rw [List.reverse_cons, encR_append, encR_cons, encR_cons, List.length_append, List.length_append, List.length_append, ih]
    have : encR [] = [] := rfl
    rw [this, List.length_nil]; omega

/-- The rune that was written at a place is read there. -/
theorem dec_at (s : ByteArray) (i : Nat) (r : Int) (h : ∀ k, k < (Utf8.encode r).size → s.get! (i + k) = (Utf8.encode r).get! k) (hz : i + (Utf8.encode r).size ≤ s.size) :
    Utf8.decode s i = (wr r, (Utf8.encode r).size) := by
  have hb := wr_bd r
  rw [decode_at]
  by_cases h1 : wr r < 128
  · rw [enc1 h1] at h hz ⊢
    generalize wr r = c at *
    have g0 : s.get! i = UInt8.ofNat c := h 0 (Nat.zero_lt_succ _)
    show decodeN _ _ _ _ _ = (c, 1)
    rw [g0, u8n (by omega), decodeN_1 h1]
  · by_cases h2 : wr r < 2048
    · rw [enc2 h1 h2] at h hz ⊢
      generalize wr r = c at *
      have g0 : s.get! i = UInt8.ofNat (192 + c / 64) := h 0 (Nat.zero_lt_succ _)
      have g1 : s.get! (i + 1) = UInt8.ofNat (128 + c % 64) := h 1 (show 1 < 2 by decide)
      have hz' : i + 2 ≤ s.size := hz
      show decodeN _ _ _ _ _ = (c, 2)
      rw [g0, g1, u8n (by omega), u8n (by omega), decodeN_2 (by omega) (by omega) (by omega) (by omega)]
      simp only [Prod.mk.injEq, and_true]; omega
    · by_cases h3 : wr r < 65536
      · rw [enc3 h2 h3] at h hz ⊢
        generalize wr r = c at *
        have g0 : s.get! i = UInt8.ofNat (224 + c / 4096) := h 0 (Nat.zero_lt_succ _)
        have g1 : s.get! (i + 1) = UInt8.ofNat (128 + c / 64 % 64) := h 1 (show 1 < 3 by decide)
        have g2 : s.get! (i + 2) = UInt8.ofNat (128 + c % 64) := h 2 (show 2 < 3 by decide)
        have hz' : i + 3 ≤ s.size := hz
        show decodeN _ _ _ _ _ = (c, 3)
        have e : (224 + c / 4096) % 16 * 4096 + (128 + c / 64 % 64) % 64 * 64 + (128 + c % 64) % 64 = c := by omega
        rw [g0, g1, g2, u8n (by omega), u8n (by omega), u8n (by omega), decodeN_3 (by omega) (by omega) (by omega) (by omega) (by omega) (by omega) (by omega), e]
      · rw [enc4 h3] at h hz ⊢
        generalize wr r = c at *
        have g0 : s.get! i = UInt8.ofNat (240 + c / 262144) := h 0 (Nat.zero_lt_succ _)
        have g1 : s.get! (i + 1) = UInt8.ofNat (128 + c / 4096 % 64) := h 1 (show 1 < 4 by decide)
        have g2 : s.get! (i + 2) = UInt8.ofNat (128 + c / 64 % 64) := h 2 (show 2 < 4 by decide)
        have g3 : s.get! (i + 3) = UInt8.ofNat (128 + c % 64) := h 3 (show 3 < 4 by decide)
        have hz' : i + 4 ≤ s.size := hz
        show decodeN _ _ _ _ _ = (c, 4)
        have e : (240 + c / 262144) % 8 * 262144 + (128 + c / 4096 % 64) % 64 * 4096 + (128 + c / 64 % 64) % 64 * 64 + (128 + c % 64) % 64 = c := by omega
        rw [g0, g1, g2, g3, u8n (by omega), u8n (by omega), u8n (by omega), u8n (by omega), decodeN_4 (by omega) (by omega) (by omega) (by omega) (by omega) (by omega) (by omega) (by omega), e]

/-- .. the same, of a text that is put together. -/
theorem dec_mid (s : ByteArray) (a : List UInt8) (r : Nat) (b : List UInt8) (h : s.data.toList = a ++ (encB r ++ b)) : Utf8.decode s a.length = (wr (r : Int), (encB r).length) := by
  have hl : s.size = a.length + ((encB r).length + b.length) := by rw [← ba_len, h]; simp
  rw [encB_size] at *
  refine dec_at s a.length r (fun k hk => ?_) (by omega)
  rw [← Lib.getD_get!' s, ← Lib.getD_get!' (Utf8.encode (r : Int)), h]
  have hk' : k < (encB r).length := by rw [encB_size]; exact hk
  rw [List.getD, List.getD, List.getElem?_append_right (by omega), Nat.add_sub_cancel_left, List.getElem?_append_left hk', encB]

/-- THE RUNES OF WHAT WAS WRITTEN; it is valid. -/
theorem written (s : ByteArray) : ∀ (l : List Nat) (a : List UInt8) (fuel : Nat), s.data.toList = a ++ encR l → s.size ≤ a.length + fuel →
    (pairsFrom s fuel a.length).map (fun x => x.2) = l.map (fun r : Nat => wr (r : Int)) ∧ validFrom s fuel a.length = true
  | [], a, fuel, h, hf => by
    have hl : s.size = a.length := by rw [← ba_len, h]; simp [encR]
    rw [pairsFrom_end s fuel _ (by omega), validFrom_end s fuel _ (by omega)]
    exact ⟨rfl, rfl⟩
  | r :: l, a, fuel, h, hf => by
    rw [encR_cons] at h
    have hd := dec_mid s a r (encR l) h
    have hl : s.size = a.length + ((encB r).length + (encR l).length) := by rw [← ba_len, h]; simp
    have h1 : 1 ≤ (encB r).length := by rw [encB_size]; exact (enc_size r).1
    have h2 : wr (r : Int) = 65533 → (encB r).length = 3 := by rw [encB_size]; exact enc_wide r
    obtain ⟨f, rfl⟩ : ∃ f, fuel = f + 1 := ⟨fuel - 1, by omega⟩
    obtain ⟨i1, i2⟩ := written s l (a ++ encB r) f (by rw [h, List.append_assoc]) (by rw [List.length_append]; omega)
    rw [List.length_append] at i1 i2
    rw [pairsFrom_step (by omega), validFrom_step (by omega) (by rw [hd]; simp only; intro q; have := h2 q.1; omega), hd, List.map_cons, List.map_cons, i1]
    refine ⟨by simp only, ?_⟩
    simp only
    exact i2
theorem written_runes (l : List Nat) : (pairs ⟨(encR l).toArray⟩).map (fun x => x.2) = l.map (fun r : Nat => wr (r : Int)) :=
  (written ⟨(encR l).toArray⟩ l [] _ (by simp) (by simp)).1
theorem written_valid (l : List Nat) : validB ⟨(encR l).toArray⟩ = true :=
  (written ⟨(encR l).toArray⟩ l [] _ (by simp) (by simp)).2

/-- What is decoded, and isn't a byte that is no rune's, is written as the bytes that it was read from. -/
theorem enc_dec (n b0 b1 b2 b3 : Nat) (l0 : b0 < 256) (l1 : b1 < 256) (h : ¬ ((decodeN n b0 b1 b2 b3).1 = 65533 ∧ (decodeN n b0 b1 b2 b3).2 = 1)) :
    encB (decodeN n b0 b1 b2 b3).1 = [UInt8.ofNat b0, UInt8.ofNat b1, UInt8.ofNat b2, UInt8.ofNat b3].take (decodeN n b0 b1 b2 b3).2 := by
  by_cases k1 : b0 < 128
  · rw [dN1 k1]
    show encB b0 = [UInt8.ofNat b0]
    have e := wr_valid (r := (b0 : Int)) (by omega)
    rw [Int.toNat_natCast] at e
    rw [encB, enc1 (by omega), e]
  by_cases k2 : b0 / 32 = 6
  · by_cases p : P2 n b0 b1
    · rw [dN2y k2 p]
      simp only
      unfold P2 at p
      have e := wr_valid (r := ((b0 % 32 * 64 + b1 % 64 : Nat) : Int)) (by omega)
      rw [Int.toNat_natCast] at e
      rw [encB, enc2 (by omega) (by omega), e, show 192 + (b0 % 32 * 64 + b1 % 64) / 64 = b0 by omega, show 128 + (b0 % 32 * 64 + b1 % 64) % 64 = b1 by omega]; rfl
    · rw [dN2n k2 p] at h; exact absurd ⟨rfl, rfl⟩ h
  by_cases k3 : b0 / 16 = 14
  · by_cases p : P3 n b0 b1 b2
    · rw [dN3y k3 p]
      simp only
      unfold P3 at p
      have e := wr_valid (r := ((b0 % 16 * 4096 + b1 % 64 * 64 + b2 % 64 : Nat) : Int)) (by omega)
      rw [Int.toNat_natCast] at e
      rw [encB, enc3 (by omega) (by omega), e, show 224 + (b0 % 16 * 4096 + b1 % 64 * 64 + b2 % 64) / 4096 = b0 by omega, show 128 + (b0 % 16 * 4096 + b1 % 64 * 64 + b2 % 64) / 64 % 64 = b1 by omega, show 128 + (b0 % 16 * 4096 + b1 % 64 * 64 + b2 % 64) % 64 = b2 by omega]; rfl
    · rw [dN3n k3 p] at h; exact absurd ⟨rfl, rfl⟩ h
  by_cases k4 : b0 / 8 = 30
  · by_cases p : P4 n b0 b1 b2 b3
    · rw [dN4y k4 p]
      simp only
      unfold P4 at p
      have e := wr_valid (r := ((b0 % 8 * 262144 + b1 % 64 * 4096 + b2 % 64 * 64 + b3 % 64 : Nat) : Int)) (by omega)
      rw [Int.toNat_natCast] at e
      rw [encB, enc4 (by omega), e, show 240 + (b0 % 8 * 262144 + b1 % 64 * 4096 + b2 % 64 * 64 + b3 % 64) / 262144 = b0 by omega, show 128 + (b0 % 8 * 262144 + b1 % 64 * 4096 + b2 % 64 * 64 + b3 % 64) / 4096 % 64 = b1 by omega, show 128 + (b0 % 8 * 262144 + b1 % 64 * 4096 + b2 % 64 * 64 + b3 % 64) / 64 % 64 = b2 by omega, show 128 + (b0 % 8 * 262144 + b1 % 64 * 4096 + b2 % 64 * 64 + b3 % 64) % 64 = b3 by omega]; rfl
    · rw [dN4n k4 p] at h; exact absurd ⟨rfl, rfl⟩ h
  · rw [dN0 k1 k2 k3 k4] at h; exact absurd ⟨rfl, rfl⟩ h

theorem four_take (s : ByteArray) (pos w : Nat) (hw : w ≤ 4) (hp : pos + w ≤ s.size) : [s.get! pos, s.get! (pos + 1), s.get! (pos + 2), s.get! (pos + 3)].take w = (s.data.toList.drop pos).take w := by
  apply List.ext_getElem?
  intro i
  rw [List.getElem?_take, List.getElem?_take]
  split
  · rename_i hi
    have hlen : pos + i < s.data.toList.length := by rw [ba_len]; omega
    rw [List.getElem?_drop, List.getElem?_eq_getElem hlen]
    have e : s.get! (pos + i) = s.data.toList[pos + i] := by
      rw [← Lib.getD_get!' s, List.getD, List.getElem?_eq_getElem hlen]; rfl
    rw [← e]
    match i, hi with
    | 0, _ => rfl
    | 1, _ => rfl
    | 2, _ => rfl
    | 3, _ => rfl
    | i + 4, hi => omega
  · rfl
theorem u8o (b : UInt8) : UInt8.ofNat b.toNat = b := by simp
/-- A VALID TEXT IS WHAT IS WRITTEN FOR ITS RUNES. -/
theorem valid_encs (s : ByteArray) : ∀ fuel pos, s.size ≤ pos + fuel → pos ≤ s.size → validFrom s fuel pos = true → encs (pairsFrom s fuel pos) = s.data.toList.drop pos
  | 0, pos, h1, h2, _ => by
    rw [pairsFrom_end s 0 pos (by omega), List.drop_of_length_le (by rw [ba_len]; omega)]; rfl
  | f + 1, pos, h1, h2, hv => by
    by_cases hp : pos < s.size
    · have hd := decode_fits s pos hp
      by_cases hb : (Utf8.decode s pos).1 = 65533 ∧ (Utf8.decode s pos).2 = 1
      · rw [validFrom_bad hp hb.1 hb.2] at hv; cases hv
      · rw [validFrom_step hp hb] at hv
        have ih := valid_encs s f (pos + (Utf8.decode s pos).2) (by omega) (by omega) hv
        rw [pairsFrom_step hp, encs_cons, ih]
        have hed : encB (Utf8.decode s pos).1 = (s.data.toList.drop pos).take (Utf8.decode s pos).2 := by
          have h4 : (Utf8.decode s pos).2 ≤ 4 := by
            rw [decode_at]; exact (decodeN_fits _ _ _ _ _ (by omega)).2.2
          rw [← four_take s pos _ h4 hd.2]
          rw [decode_at] at hb ⊢
          have := enc_dec _ _ _ _ _ (s.get! pos).toNat_lt (s.get! (pos + 1)).toNat_lt hb
          rw [u8o, u8o, u8o, u8o] at this
          exact this
        rw [hed, ← List.drop_drop, List.take_append_drop]
    · rw [pairsFrom_end _ _ _ hp, List.drop_of_length_le (by rw [ba_len]; omega)]; rfl
theorem valid_fix (s : ByteArray) (h : validB s = true) : encs (pairs s) = s.data.toList := by
  have := valid_encs s s.size 0 (by omega) (Nat.zero_le _) h
  rwa [List.drop_zero] at this
end Go.Proofs.YtcocbjipikeebaaDoor.Utf
/-
  Plain facts on classes, capitals and plain forms of runes, with no word of any program; what folding makes of a list of runes, and that folding again changes nothing.
-/
namespace Go.Proofs.YtcocbjipikeebaaDoor.Utf
open Go Go.Lib

def isL (n : Int) : Prop := (65 ≤ n ∧ n ≤ 90) ∨ (97 ≤ n ∧ n ≤ 122) ∨ (192 ≤ n ∧ n ≤ 383 ∧ n ≠ 215 ∧ n ≠ 247) ∨ (913 ≤ n ∧ n ≤ 937 ∧ n ≠ 930) ∨ (945 ≤ n ∧ n ≤ 969) ∨ (1024 ≤ n ∧ n ≤ 1119)
instance (n : Int) : Decidable (isL n) := by unfold isL; infer_instance
def isB (n : Int) : Prop := (9 ≤ n ∧ n ≤ 13) ∨ n = 32 ∨ n = 160
instance (n : Int) : Decidable (isB n) := by unfold isB; infer_instance
/-- The class. -/
def cls (n : Int) : Int := if isL n then 1 else if 48 ≤ n ∧ n ≤ 57 then 2 else if isB n then 3 else if 768 ≤ n ∧ n ≤ 879 then 4 else 0
def up32 (n : Int) : Prop := (97 ≤ n ∧ n ≤ 122) ∨ (224 ≤ n ∧ n ≤ 254 ∧ n ≠ 247) ∨ (945 ≤ n ∧ n ≤ 969 ∧ n ≠ 962) ∨ (1072 ≤ n ∧ n ≤ 1103)
instance (n : Int) : Decidable (up32 n) := by unfold up32; infer_instance
def up1 (n : Int) : Prop := (257 ≤ n ∧ n ≤ 311 ∧ n % 2 = 1 ∧ n ≠ 305) ∨ (314 ≤ n ∧ n ≤ 328 ∧ n % 2 = 0) ∨ (331 ≤ n ∧ n ≤ 375 ∧ n % 2 = 1) ∨ n = 378 ∨ n = 380 ∨ n = 382
instance (n : Int) : Decidable (up1 n) := by unfold up1; infer_instance
/-- The capital. -/
def up (n : Int) : Int := if up32 n then n - 32 else if n = 255 then 376 else if n = 962 then 931 else if 1104 ≤ n ∧ n ≤ 1119 then n - 80 else if up1 n then n - 1 else n

theorem cls_1 {n : Int} : cls n = 1 ↔ isL n := by
  unfold cls
  repeat' split
  all_goals simp_all
theorem cls_3 {n : Int} : cls n = 3 ↔ isB n := by
  unfold cls
  repeat' split
  all_goals (try simp_all)
  unfold isL isB at *; omega
  unfold isB at *; omega
theorem cls_bd (n : Int) : 0 ≤ cls n ∧ cls n ≤ 4 := by
  unfold cls
  repeat' split
  all_goals omega
theorem up_cases (n : Int) : (up32 n ∧ up n = n - 32) ∨ (n = 255 ∧ up n = 376) ∨ (n = 962 ∧ up n = 931) ∨ ((1104 ≤ n ∧ n ≤ 1119) ∧ up n = n - 80) ∨ (up1 n ∧ up n = n - 1) ∨
    ((¬ up32 n ∧ n ≠ 255 ∧ n ≠ 962 ∧ ¬ (1104 ≤ n ∧ n ≤ 1119) ∧ ¬ up1 n) ∧ up n = n) := by
  unfold up
  repeat' split
  all_goals simp_all
theorem up_letter (n : Int) : isL (up n) ↔ isL n := by
  have h := up_cases n
  unfold up32 up1 at h
  unfold isL
  omega
theorem up_id {n : Int} (h : ¬ up32 n ∧ n ≠ 255 ∧ n ≠ 962 ∧ ¬ (1104 ≤ n ∧ n ≤ 1119) ∧ ¬ up1 n) : up n = n := by
  unfold up
  rw [if_neg h.1, if_neg h.2.1, if_neg h.2.2.1, if_neg h.2.2.2.1, if_neg h.2.2.2.2]
theorem up_up (n : Int) : up (up n) = up n := by
  have h := up_cases n
  refine up_id ?_
  unfold up32 up1 at *
  omega
theorem up_letter_only {n : Int} (h : ¬ isL n) : up n = n := by
  refine up_id ?_
  unfold isL at h
  unfold up32 up1
  omega
theorem up_cls (n : Int) : cls (up n) = cls n := by
  by_cases h : isL n
  · rw [cls_1.2 h, cls_1.2 ((up_letter n).2 h)]
  · rw [up_letter_only h]

/-- The plain form, as runes. -/
def plT (n : Int) : List Nat :=
  if (192 ≤ n ∧ n ≤ 197) ∨ n = 256 ∨ n = 258 ∨ n = 260 then [65]
  else if n = 198 then [65, 69]
  else if n = 199 ∨ n = 262 ∨ n = 264 ∨ n = 266 ∨ n = 268 then [67]
  else if n = 270 ∨ n = 272 then [68]
  else if (200 ≤ n ∧ n ≤ 203) ∨ n = 274 ∨ n = 276 ∨ n = 278 ∨ n = 280 ∨ n = 282 then [69]
  else if n = 284 ∨ n = 286 ∨ n = 288 ∨ n = 290 then [71]
  else if n = 292 ∨ n = 294 then [72]
  else if (204 ≤ n ∧ n ≤ 207) ∨ n = 296 ∨ n = 298 ∨ n = 300 ∨ n = 302 ∨ n = 304 then [73]
  else if n = 308 then [74]
  else if n = 310 then [75]
  else if n = 313 ∨ n = 315 ∨ n = 317 ∨ n = 319 ∨ n = 321 then [76]
  else if n = 209 ∨ n = 323 ∨ n = 325 ∨ n = 327 then [78]
  else if (210 ≤ n ∧ n ≤ 214) ∨ n = 216 ∨ n = 332 ∨ n = 334 ∨ n = 336 then [79]
  else if n = 338 then [79, 69]
  else if n = 340 ∨ n = 342 ∨ n = 344 then [82]
  else if n = 346 ∨ n = 348 ∨ n = 350 ∨ n = 352 then [83]
  else if n = 223 then [83, 83]
  else if n = 354 ∨ n = 356 ∨ n = 358 then [84]
  else if (217 ≤ n ∧ n ≤ 220) ∨ n = 360 ∨ n = 362 ∨ n = 364 ∨ n = 366 ∨ n = 368 ∨ n = 370 then [85]
  else if n = 372 then [87]
  else if n = 221 ∨ n = 374 ∨ n = 376 then [89]
  else if n = 377 ∨ n = 379 ∨ n = 381 then [90]
  else []
def plR (n : Int) : List Nat := if plT n = [] then [wr n] else plT n
def pl (n : Int) : ByteArray := ⟨(encR (plR n)).toArray⟩

/-- What folding makes of a rune. -/
def foldR (p : Bool) (n : Int) : List Nat := if isL n then (if p then plR (up n) else [wr (up n)]) else []
/-- What folding makes of a list of runes. -/
def foldRs (p : Bool) (l : List Nat) : List Nat := l.flatMap fun r : Nat => foldR p (r : Int)
theorem foldRs_append (p : Bool) (a b : List Nat) : foldRs p (a ++ b) = foldRs p a ++ foldRs p b := List.flatMap_append
theorem foldRs_cons (p : Bool) (a : Nat) (b : List Nat) : foldRs p (a :: b) = foldR p a ++ foldRs p b := List.flatMap_cons
theorem foldRs_nil (p : Bool) : foldRs p [] = [] := rfl

theorem ite_both {P : List Nat → Prop} {c : Prop} [Decidable c] {a b : List Nat} (ha : P a) (hb : P b) : P (if c then a else b) := by
  split
  · exact ha
  · exact hb
theorem plT_good (n : Int) : (∀ x ∈ plT n, 65 ≤ x ∧ x ≤ 90) ∧ (plT n).length ≤ 2 := by
  unfold plT
  repeat (refine ite_both (P := fun l => (∀ x ∈ l, 65 ≤ x ∧ x ≤ 90) ∧ l.length ≤ 2) (by simp) ?_)
  simp
theorem plT_letters (n : Int) : ∀ x ∈ plT n, 65 ≤ x ∧ x ≤ 90 := (plT_good n).1
theorem plT_len (n : Int) : (plT n).length ≤ 2 := (plT_good n).2
theorem plR_len (n : Int) : 1 ≤ (plR n).length ∧ (plR n).length ≤ 2 := by
  unfold plR
  have := plT_len n
  split
  · simp
  · rename_i h
    have : (plT n).length ≠ 0 := by simpa using h
    omega
/-- A letter's number is a rune. -/
theorem letter_wr {n : Int} (h : isL n) : ((wr n : Nat) : Int) = n := by
  unfold isL at h
  rw [wr_valid (by omega)]
  omega
theorem plT_none {n : Int} (h : 65 ≤ n ∧ n ≤ 90) : plT n = [] := by
  unfold plT
  repeat (first | rw [if_neg (by omega)] | rfl)
theorem basic_wr {x : Nat} (h : 65 ≤ x ∧ x ≤ 90) : wr (x : Int) = x := by
  have := letter_wr (n := (x : Int)) (by unfold isL; omega)
  omega
theorem plR_basic {x : Nat} (h : 65 ≤ x ∧ x ≤ 90) : plR (x : Int) = [x] := by
  unfold plR
  rw [if_pos (plT_none (by omega)), basic_wr h]
theorem up_basic {x : Nat} (h : 65 ≤ x ∧ x ≤ 90) : up (x : Int) = x := by
  refine up_id ?_
  unfold up32 up1
  omega
/-- THE RUNES OF A CAPITAL LETTER's PLAIN FORM: capital letters that are plain. -/
theorem plR_plain {c : Int} (hc : isL c) (hu : up c = c) : ∀ x ∈ plR c, isL (x : Int) ∧ up (x : Int) = x ∧ plR (x : Int) = [x] ∧ wr (x : Int) = x := by
  intro x hx
  unfold plR at hx
  split at hx
  · rename_i h
    have e := letter_wr hc
    simp only [List.mem_singleton] at hx
    subst hx
    rw [e]
    refine ⟨hc, hu, ?_, rfl⟩
    unfold plR
    rw [if_pos h]
  · have h := plT_letters c x hx
    exact ⟨by unfold isL; omega, up_basic h, plR_basic h, basic_wr h⟩
theorem foldR_self {p : Bool} {x : Nat} (h1 : isL (x : Int)) (h2 : up (x : Int) = x) (h3 : plR (x : Int) = [x]) (h4 : wr (x : Int) = x) : foldR p x = [x] := by
  unfold foldR
  rw [if_pos h1, h2, h3, h4]
  cases p <;> rfl
/-- The runes of a folded text. -/
theorem foldR_mem {p : Bool} {n : Int} {x : Nat} (hx : x ∈ foldR p n) : isL (x : Int) ∧ up (x : Int) = x ∧ wr (x : Int) = x ∧ foldR p x = [x] := by
  unfold foldR at hx
  split at hx
  · rename_i h
    have hl := (up_letter n).2 h
    cases p
    · have e := letter_wr hl
      simp only [Bool.false_eq_true, if_false, List.mem_singleton] at hx
      subst hx
      rw [e]
      refine ⟨hl, up_up n, rfl, ?_⟩
      unfold foldR
      rw [if_pos hl, up_up]
      rfl
    · simp only [if_true] at hx
      obtain ⟨a, b, c, d⟩ := plR_plain hl (up_up n) x hx
      exact ⟨a, b, d, foldR_self a b c d⟩
  · simp at hx
theorem foldRs_mem {p : Bool} {l : List Nat} {x : Nat} (hx : x ∈ foldRs p l) : isL (x : Int) ∧ up (x : Int) = x ∧ wr (x : Int) = x ∧ foldR p x = [x] := by
  unfold foldRs at hx
  obtain ⟨r, _, hr⟩ := List.mem_flatMap.1 hx
  exact foldR_mem hr
theorem flatMap_self {l : List Nat} {f : Nat → List Nat} (h : ∀ x ∈ l, f x = [x]) : l.flatMap f = l := by
  induction l with
  | nil => rfl
  | cons x r ih => rw [List.flatMap_cons, h x (by simp), ih (fun y hy => h y (by simp [hy]))]; rfl
/-- FOLDING AGAIN CHANGES NOTHING. -/
theorem foldRs_twice (p : Bool) (l : List Nat) : foldRs p (foldRs p l) = foldRs p l := flatMap_self fun _ hx => (foldRs_mem hx).2.2.2
theorem foldR_both (n : Int) : foldRs true (foldR false n) = foldR true n := by
  unfold foldR
  split
  · rename_i h
    have hl := (up_letter n).2 h
    simp only [Bool.false_eq_true, if_false, if_true]
    rw [foldRs_cons, foldRs_nil, List.append_nil, letter_wr hl]
    unfold foldR
    rw [if_pos hl, up_up]
    rfl
  · rfl
theorem foldRs_both (l : List Nat) : foldRs true (foldRs false l) = foldRs true l := by
  induction l with
  | nil => rfl
  | cons x r ih => rw [foldRs_cons, foldRs_append, ih, foldR_both, foldRs_cons]
/-- The runes of what was written, where each is one. -/
theorem written_self {l : List Nat} (h : ∀ x ∈ l, wr (x : Int) = x) : (pairs ⟨(encR l).toArray⟩).map (fun x => x.2) = l := by
  rw [written_runes]
  conv => rhs; rw [← List.map_id l]
  exact List.map_congr_left h
/-- FOLD, on texts. -/
def foldS (p : Bool) (s : ByteArray) : ByteArray := ⟨(encR (foldRs p ((pairs s).map fun x => x.2))).toArray⟩
theorem foldS_runes (p : Bool) (s : ByteArray) : (pairs (foldS p s)).map (fun x => x.2) = foldRs p ((pairs s).map fun x => x.2) := written_self fun _ hx => (foldRs_mem hx).2.2.1
theorem foldS_twice (p : Bool) (s : ByteArray) : foldS p (foldS p s) = foldS p s := by
  rw [foldS, foldS_runes, foldRs_twice]; rfl
theorem foldS_both (s : ByteArray) : foldS true (foldS false s) = foldS true s := by
  rw [foldS, foldS_runes, foldRs_both]; rfl
theorem foldS_valid (p : Bool) (s : ByteArray) : validB (foldS p s) = true := written_valid _
theorem encR_le (l : List Nat) : (encR l).length ≤ 4 * l.length := by
  induction l with
  | nil => exact Nat.le_refl _
  | cons x r ih =>
    have h := encB_le x
    rw [encR_cons, List.length_append, List.length_cons]
    omega
theorem foldR_len (p : Bool) (n : Int) : (foldR p n).length ≤ 2 := by
  unfold foldR
  have := plR_len (up n)
  repeat' split
  all_goals simp; try omega
theorem foldRs_len (p : Bool) (l : List Nat) : (foldRs p l).length ≤ 2 * l.length := by
  induction l with
  | nil => exact Nat.le_refl _
  | cons x r ih =>
    have h := foldR_len p x
    rw [foldRs_cons, List.length_append, List.length_cons]
    omega
theorem foldS_size (p : Bool) (s : ByteArray) : (foldS p s).size ≤ 8 * s.size := by
  have h1 := encR_le (foldRs p ((pairs s).map fun x => x.2))
  have h2 := foldRs_len p ((pairs s).map fun x => x.2)
  have h3 := pairs_le s
  rw [List.length_map] at h2
  show (encR _).toArray.size ≤ _
  rw [List.size_toArray]
  omega
end Go.Proofs.YtcocbjipikeebaaDoor.Utf
