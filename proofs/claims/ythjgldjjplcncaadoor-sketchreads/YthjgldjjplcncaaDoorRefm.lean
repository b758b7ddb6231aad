/-
  Plain facts on the document's decoder, by rows of bytes: it tells what the model's own decoder tells, at every place of every text.
-/
import Derived.Test.YthjgldjjplcncaaDoorCutm
namespace Go.Proofs.YthjgldjjplcncaaDoor.Utf
open Go Go.Lib

def rowW (b : Nat) : Nat := if b < 128 then 1 else if 194 ≤ b ∧ b ≤ 223 then 2 else if b = 224 then 3 else if b = 237 then 3 else if 225 ≤ b ∧ b ≤ 239 then 3 else if b = 240 then 4 else if 241 ≤ b ∧ b ≤ 243 then 4 else if b = 244 then 4 else 0
def rowLo (b : Nat) : Nat := if b < 128 then 0 else if 194 ≤ b ∧ b ≤ 223 then 128 else if b = 224 then 160 else if b = 237 then 128 else if 225 ≤ b ∧ b ≤ 239 then 128 else if b = 240 then 144 else if 241 ≤ b ∧ b ≤ 243 then 128 else if b = 244 then 128 else 0
def rowHi (b : Nat) : Nat := if b < 128 then 0 else if 194 ≤ b ∧ b ≤ 223 then 191 else if b = 224 then 191 else if b = 237 then 159 else if 225 ≤ b ∧ b ≤ 239 then 191 else if b = 240 then 191 else if 241 ≤ b ∧ b ≤ 243 then 191 else if b = 244 then 143 else 0
theorem rowW_le (b : Nat) : rowW b ≤ 4 := by
  unfold rowW
  repeat' split
  all_goals omega
/-- The lead byte's free bits. -/
def lead (b : Nat) : Nat := if rowW b = 2 then b % 32 else if rowW b = 3 then b % 16 else if rowW b = 4 then b % 8 else b
theorem lead_lt (b : Nat) (h : rowW b ≠ 0) : lead b < 128 := by
  unfold lead
  repeat' split
  all_goals try omega
  unfold rowW at *
  repeat' (split at * <;> try omega)
/-- The other bytes. -/
def refL (s : ByteArray) (p w lo hi : Nat) : Nat → Nat → Nat → Nat × Nat
  | 0, _, n => (n, w)
  | f + 1, i, n => if (i = 1 ∧ ((s.get! (p + i)).toNat < lo ∨ hi < (s.get! (p + i)).toNat)) ∨ (s.get! (p + i)).toNat < 128 ∨ 191 < (s.get! (p + i)).toNat then (65533, 1) else refL s p w lo hi f (i + 1) (n * 64 + (s.get! (p + i)).toNat % 64)
theorem refL_bad {s : ByteArray} {p w lo hi f i n : Nat} (h : (i = 1 ∧ ((s.get! (p + i)).toNat < lo ∨ hi < (s.get! (p + i)).toNat)) ∨ (s.get! (p + i)).toNat < 128 ∨ 191 < (s.get! (p + i)).toNat) : refL s p w lo hi (f + 1) i n = (65533, 1) := by
  rw [refL, if_pos h]
theorem refL_step {s : ByteArray} {p w lo hi f i n : Nat} (h : ¬ ((i = 1 ∧ ((s.get! (p + i)).toNat < lo ∨ hi < (s.get! (p + i)).toNat)) ∨ (s.get! (p + i)).toNat < 128 ∨ 191 < (s.get! (p + i)).toNat)) : refL s p w lo hi (f + 1) i n = refL s p w lo hi f (i + 1) (n * 64 + (s.get! (p + i)).toNat % 64) := by
  rw [refL, if_neg h]
def refN (s : ByteArray) (p : Nat) : Nat × Nat :=
  if rowW (s.get! p).toNat = 0 ∨ s.size - p < rowW (s.get! p).toNat then (65533, 1)
  else refL s p (rowW (s.get! p).toNat) (rowLo (s.get! p).toNat) (rowHi (s.get! p).toNat) (rowW (s.get! p).toNat - 1) 1 (lead (s.get! p).toNat)

theorem row1 {b : Nat} (h : b < 128) : rowW b = 1 ∧ lead b = b := by
  have e : rowW b = 1 := by unfold rowW; rw [if_pos h]
  exact ⟨e, by unfold lead; rw [e]; rfl⟩
theorem row2 {b : Nat} (h : 194 ≤ b ∧ b ≤ 223) : rowW b = 2 ∧ rowLo b = 128 ∧ rowHi b = 191 ∧ lead b = b % 32 := by
  have e : rowW b = 2 := by unfold rowW; rw [if_neg (by omega), if_pos h]
  exact ⟨e, by unfold rowLo; rw [if_neg (by omega), if_pos h], by unfold rowHi; rw [if_neg (by omega), if_pos h], by unfold lead; rw [e]; rfl⟩
theorem row3 {b : Nat} (h : 224 ≤ b ∧ b ≤ 239) : rowW b = 3 ∧ rowLo b = (if b = 224 then 160 else 128) ∧ rowHi b = (if b = 237 then 159 else 191) ∧ lead b = b % 16 := by
  have e : rowW b = 3 := by
    unfold rowW
    repeat' split
    all_goals omega
  refine ⟨e, ?_, ?_, by unfold lead; rw [e]; rfl⟩
  · unfold rowLo; repeat' split
    all_goals omega
  · unfold rowHi; repeat' split
    all_goals omega
theorem row4 {b : Nat} (h : 240 ≤ b ∧ b ≤ 244) : rowW b = 4 ∧ rowLo b = (if b = 240 then 144 else 128) ∧ rowHi b = (if b = 244 then 143 else 191) ∧ lead b = b % 8 := by
  have e : rowW b = 4 := by
    unfold rowW
    repeat' split
    all_goals omega
  refine ⟨e, ?_, ?_, by unfold lead; rw [e]; rfl⟩
  · unfold rowLo; repeat' split
    all_goals omega
  · unfold rowHi; repeat' split
    all_goals omega
theorem row0 {b : Nat} (h : ¬ b < 128) (h2 : ¬ (194 ≤ b ∧ b ≤ 223)) (h3 : ¬ (224 ≤ b ∧ b ≤ 239)) (h4 : ¬ (240 ≤ b ∧ b ≤ 244)) : rowW b = 0 := by
  unfold rowW; repeat' split
  all_goals omega

/-- THE DOCUMENT's DECODER IS THE MODEL's. -/
theorem refN_eq (s : ByteArray) (p : Nat) (hp : p < s.size) : refN s p = Utf8.decode s p := by
  rw [decode_at]
  have l0 := (s.get! p).toNat_lt
  have l1 := (s.get! (p + 1)).toNat_lt
  have l2 := (s.get! (p + 2)).toNat_lt
  have l3 := (s.get! (p + 3)).toNat_lt
  unfold refN
  by_cases k1 : (s.get! p).toNat < 128
  · obtain ⟨e, e2⟩ := row1 k1
    rw [e, e2, if_neg (by omega), dN1 k1]; rfl
  by_cases k2 : 194 ≤ (s.get! p).toNat ∧ (s.get! p).toNat ≤ 223
  · obtain ⟨e, e2, e3, e4⟩ := row2 k2
    rw [e, e2, e3, e4]
    have k : (s.get! p).toNat / 32 = 6 := by omega
    by_cases q : s.size - p < 2
    · rw [if_pos (.inr q), dN2n k (fun h => by unfold P2 at h; omega)]
    · rw [if_neg (by omega)]
      by_cases c : (s.get! (p + 1)).toNat < 128 ∨ 191 < (s.get! (p + 1)).toNat
      · rw [refL_bad (.inr c), dN2n k (fun h => by unfold P2 at h; omega)]
      · rw [refL_step (by omega), dN2y k (by unfold P2; omega)]; rfl
  by_cases k3 : 224 ≤ (s.get! p).toNat ∧ (s.get! p).toNat ≤ 239
  · obtain ⟨e, e2, e3, e4⟩ := row3 k3
    rw [e, e4]
    have k : (s.get! p).toNat / 16 = 14 := by omega
    by_cases q : s.size - p < 3
    · rw [if_pos (.inr q), dN3n k (fun h => by unfold P3 at h; omega)]
    · rw [if_neg (by omega)]
      by_cases c : ((s.get! (p + 1)).toNat < rowLo (s.get! p).toNat ∨ rowHi (s.get! p).toNat < (s.get! (p + 1)).toNat) ∨ (s.get! (p + 1)).toNat < 128 ∨ 191 < (s.get! (p + 1)).toNat
      · rw [refL_bad (by omega), dN3n k (fun h => by unfold P3 at h; rw [e2, e3] at c; split at c <;> split at c <;> omega)]
      · rw [refL_step (by omega), show (1 : Nat) + 1 = 2 from rfl]
        by_cases d : (s.get! (p + 2)).toNat < 128 ∨ 191 < (s.get! (p + 2)).toNat
        · rw [refL_bad (.inr d), dN3n k (fun h => by unfold P3 at h; omega)]
        · rw [refL_step (by omega), dN3y k (by unfold P3; rw [e2, e3] at c; split at c <;> split at c <;> omega)]
          show (_, 3) = (_, 3)
          have : ((s.get! p).toNat % 16 * 64 + (s.get! (p + 1)).toNat % 64) * 64 + (s.get! (p + 2)).toNat % 64 = (s.get! p).toNat % 16 * 4096 + (s.get! (p + 1)).toNat % 64 * 64 + (s.get! (p + 2)).toNat % 64 := by omega
          rw [this]
  by_cases k4 : 240 ≤ (s.get! p).toNat ∧ (s.get! p).toNat ≤ 244
  · obtain ⟨e, e2, e3, e4⟩ := row4 k4
    rw [e, e4]
    have k : (s.get! p).toNat / 8 = 30 := by omega
    by_cases q : s.size - p < 4
    · rw [if_pos (.inr q), dN4n k (fun h => by unfold P4 at h; omega)]
    · rw [if_neg (by omega)]
      by_cases c : ((s.get! (p + 1)).toNat < rowLo (s.get! p).toNat ∨ rowHi (s.get! p).toNat < (s.get! (p + 1)).toNat) ∨ (s.get! (p + 1)).toNat < 128 ∨ 191 < (s.get! (p + 1)).toNat
      · rw [refL_bad (by omega), dN4n k (fun h => by unfold P4 at h; rw [e2, e3] at c; split at c <;> split at c <;> omega)]
      · rw [refL_step (by omega), show (1 : Nat) + 1 = 2 from rfl]
        by_cases d : (s.get! (p + 2)).toNat < 128 ∨ 191 < (s.get! (p + 2)).toNat
        · rw [refL_bad (.inr d), dN4n k (fun h => by unfold P4 at h; omega)]
        · rw [refL_step (by omega), show (2 : Nat) + 1 = 3 from rfl]
          by_cases g : (s.get! (p + 3)).toNat < 128 ∨ 191 < (s.get! (p + 3)).toNat
          · rw [refL_bad (.inr g), dN4n k (fun h => by unfold P4 at h; omega)]
          · rw [refL_step (by omega), dN4y k (by unfold P4; rw [e2, e3] at c; split at c <;> split at c <;> omega)]
            show (_, 4) = (_, 4)
            have : (((s.get! p).toNat % 8 * 64 + (s.get! (p + 1)).toNat % 64) * 64 + (s.get! (p + 2)).toNat % 64) * 64 + (s.get! (p + 3)).toNat % 64 = (s.get! p).toNat % 8 * 262144 + (s.get! (p + 1)).toNat % 64 * 4096 + (s.get! (p + 2)).toNat % 64 * 64 + (s.get! (p + 3)).toNat % 64 := by omega
            rw [this]
  · rw [row0 k1 k2 k3 k4, if_pos (.inl rfl)]
    by_cases j2 : (s.get! p).toNat / 32 = 6
    · rw [dN2n j2 (fun h => by unfold P2 at h; omega)]
    by_cases j4 : (s.get! p).toNat / 8 = 30
    · rw [dN4n j4 (fun h => by unfold P4 at h; omega)]
    · rw [dN0 k1 j2 (by omega) j4]
end Go.Proofs.YthjgldjjplcncaaDoor.Utf
