/-
  Plain facts on the document's decoder, by rows of bytes: it tells what the model's own decoder tells, at every place of every text.
-/
import Derived.Test.YtcocbjipikeebaaDoorGutf
import Derived.Test.YtcocbjipikeebaaDoorProg
import Derived.WalkKit
import Derived.Lib.Walk
import Derived.LoopTactic
import Derived.Shelf.Unicode.DecodeSlow
import Derived.Lib.OthersKept
import Derived.WalkSmall
import Derived.Maps.AppendAt
import Derived.RangeFuncBox
import Derived.Test.YtcocbjipikeebaaDoorGub
import Derived.Test.YtcocbjipikeebaaDoorGps
import Derived.Lib.AppendStr
namespace Go.Proofs.YtcocbjipikeebaaDoor.Utf
open Go Go.Lib

def rowW (b : Nat) : Nat := if b < 128 then 1 else if 194 ≤ b ∧ b ≤ 223 then 2 else if b = 224 then 3 else if b = 237 then 3 else if 225 ≤ b ∧ b ≤ 239 then 3 else if b = 240 then 4 else if 241 ≤ b ∧ b ≤ 243 then 4 else if b = 244 then 4 else 0
def rowLo (b : Nat) : Nat := if b < 128 then 0 else if 194 ≤ b ∧ b ≤ 223 then 128 else if b = 224 then 160 else if b = 237 then 128 else if 225 ≤ b ∧ b ≤ 239 then 128 else if b = 240 then 144 else if 241 ≤ b ∧ b ≤ 243 then 128 else if b = 244 then 128 else 0
def rowHi (b : Nat) : Nat := if b < 128 then 0 else if 194 ≤ b ∧ b ≤ 223 then 191 else if b = 224 then 191 else if b = 237 then 159 else if 225 ≤ b ∧ b ≤ 239 then 191 else if b = 240 then 191 else if 241 ≤ b ∧ b ≤ 243 then 191 else if b = 244 then 143 else 0
theorem rowW_le (b : Nat) : rowW b ≤ 4 := by
  unfold rowW
  repeat' split
  all_goals omega
/-- The lead byte's free bits. -/
def lead (b : Nat) : Nat := if rowW b = 2 then b % 32 else if rowW b = 3 then b % 16 else if rowW b = 4 then b % 8 else b
theorem lead_lt (b : Nat) (h : rowW b ≠ 0) : lead b < 128 := by
  unfold lead
  repeat' split
  all_goals try omega
  unfold rowW at *
  repeat' (split at * <;> try omega)
/-- The other bytes. -/
def refL (s : ByteArray) (p w lo hi : Nat) : Nat → Nat → Nat → Nat × Nat
  | 0, _, n => (n, w)
  | f + 1, i, n => if (i = 1 ∧ ((s.get! (p + i)).toNat < lo ∨ hi < (s.get! (p + i)).toNat)) ∨ (s.get! (p + i)).toNat < 128 ∨ 191 < (s.get! (p + i)).toNat then (65533, 1) else refL s p w lo hi f (i + 1) (n * 64 + (s.get! (p + i)).toNat % 64)
theorem refL_bad {s : ByteArray} {p w lo hi f i n : Nat} (h : (i = 1 ∧ ((s.get! (p + i)).toNat < lo ∨ hi < (s.get! (p + i)).toNat)) ∨ (s.get! (p + i)).toNat < 128 ∨ 191 < (s.get! (p + i)).toNat) : refL s p w lo hi (f + 1) i n = (65533, 1) := by
  rw [refL, if_pos h]
theorem refL_step {s : ByteArray} {p w lo hi f i n : Nat} (h : ¬ ((i = 1 ∧ ((s.get! (p + i)).toNat < lo ∨ hi < (s.get! (p + i)).toNat)) ∨ (s.get! (p + i)).toNat < 128 ∨ 191 < (s.get! (p + i)).toNat)) : refL s p w lo hi (f + 1) i n = refL s p w lo hi f (i + 1) (n * 64 + (s.get! (p + i)).toNat % 64) := by
  rw [refL, if_neg h]
def refN (s : ByteArray) (p : Nat) : Nat × Nat :=
  if rowW (s.get! p).toNat = 0 ∨ s.size - p < rowW (s.get! p).toNat then (65533, 1)
  else refL s p (rowW (s.get! p).toNat) (rowLo (s.get! p).toNat) (rowHi (s.get! p).toNat) (rowW (s.get! p).toNat - 1) 1 (lead (s.get! p).toNat)

theorem row1 {b : Nat} (h : b < 128) : rowW b = 1 ∧ lead b = b := by
  have e : rowW b = 1 := by unfold rowW; rw [if_pos h]
  exact ⟨e, by unfold lead; rw [e]; rfl⟩
theorem row2 {b : Nat} (h : 194 ≤ b ∧ b ≤ 223) : rowW b = 2 ∧ rowLo b = 128 ∧ rowHi b = 191 ∧ lead b = b % 32 := by
  have e : rowW b = 2 := by unfold rowW; rw [if_neg (by omega), if_pos h]
  exact ⟨e, by unfold rowLo; rw [if_neg (by omega), if_pos h], by unfold rowHi; rw [if_neg (by omega), if_pos h], by unfold lead; rw [e]; rfl⟩
theorem row3 {b : Nat} (h : 224 ≤ b ∧ b ≤ 239) : rowW b = 3 ∧ rowLo b = (if b = 224 then 160 else 128) ∧ rowHi b = (if b = 237 then 159 else 191) ∧ lead b = b % 16 := by
  have e : rowW b = 3 := by
    unfold rowW
    repeat' split
    all_goals omega
  refine ⟨e, ?_, ?_, by unfold lead; rw [e]; rfl⟩
  · unfold rowLo; repeat' split
    all_goals omega
  · unfold rowHi; repeat' split
    all_goals omega
theorem row4 {b : Nat} (h : 240 ≤ b ∧ b ≤ 244) : rowW b = 4 ∧ rowLo b = (if b = 240 then 144 else 128) ∧ rowHi b = (if b = 244 then 143 else 191) ∧ lead b = b % 8 := by
  have e : rowW b = 4 := by
    unfold rowW
    repeat' split
    all_goals omega
  refine ⟨e, ?_, ?_, by unfold lead; rw [e]; rfl⟩
  · unfold rowLo; repeat' split
    all_goals omega
  · unfold rowHi; repeat' split
    all_goals omega
theorem row0 {b : Nat} (h : ¬ b < 128) (h2 : ¬ (194 ≤ b ∧ b ≤ 223)) (h3 : ¬ (224 ≤ b ∧ b ≤ 239)) (h4 : ¬ (240 ≤ b ∧ b ≤ 244)) : rowW b = 0 := by
  unfold rowW; repeat' split
  all_goals omega

/-- THE DOCUMENT's DECODER IS THE MODEL's. -/
theorem refN_eq (s : ByteArray) (p : Nat) (hp : p < s.size) : refN s p = Utf8.decode s p := by
  rw [decode_at]
  have l0 := (s.get! p).toNat_lt
  have l1 := (s.get! (p + 1)).toNat_lt
  have l2 := (s.get! (p + 2)).toNat_lt
  have l3 := (s.get! (p + 3)).toNat_lt
  unfold refN
  by_cases k1 : (s.get! p).toNat < 128
  · obtain ⟨e, e2⟩ := row1 k1
    rw [e, e2, if_neg (by omega), dN1 k1]; rfl
  by_cases k2 : 194 ≤ (s.get! p).toNat ∧ (s.get! p).toNat ≤ 223
  · obtain ⟨e, e2, e3, e4⟩ := row2 k2
    rw [e, e2, e3, e4]
    have k : (s.get! p).toNat / 32 = 6 := by omega
    by_cases q : s.size - p < 2
    · rw [if_pos (.inr q), dN2n k (fun h => by unfold P2 at h; omega)]
    · rw [if_neg (by omega)]
      by_cases c : (s.get! (p + 1)).toNat < 128 ∨ 191 < (s.get! (p + 1)).toNat
      · rw [refL_bad (.inr c), dN2n k (fun h => by unfold P2 at h; omega)]
      · rw [refL_step (by omega), dN2y k (by unfold P2; omega)]; rfl
  by_cases k3 : 224 ≤ (s.get! p).toNat ∧ (s.get! p).toNat ≤ 239
  · obtain ⟨e, e2, e3, e4⟩ := row3 k3
    rw [e, e4]
    have k : (s.get! p).toNat / 16 = 14 := by omega
    by_cases q : s.size - p < 3
    · rw [if_pos (.inr q), dN3n k (fun h => by unfold P3 at h; omega)]
    · rw [if_neg (by omega)]
      by_cases c : ((s.get! (p + 1)).toNat < rowLo (s.get! p).toNat ∨ rowHi (s.get! p).toNat < (s.get! (p + 1)).toNat) ∨ (s.get! (p + 1)).toNat < 128 ∨ 191 < (s.get! (p + 1)).toNat
      · rw [refL_bad (by omega), dN3n k (fun h => by unfold P3 at h; rw [e2, e3] at c; split at c <;> split at c <;> omega)]
      · rw [refL_step (by omega), show (1 : Nat) + 1 = 2 from rfl]
        by_cases d : (s.get! (p + 2)).toNat < 128 ∨ 191 < (s.get! (p + 2)).toNat
        · rw [refL_bad (.inr d), dN3n k (fun h => by unfold P3 at h; omega)]
        · rw [refL_step (by omega), dN3y k (by unfold P3; rw [e2, e3] at c; split at c <;> split at c <;> omega)]
          show (_, 3) = (_, 3)
          have : ((s.get! p).toNat % 16 * 64 + (s.get! (p + 1)).toNat % 64) * 64 + (s.get! (p + 2)).toNat % 64 = (s.get! p).toNat % 16 * 4096 + (s.get! (p + 1)).toNat % 64 * 64 + (s.get! (p + 2)).toNat % 64 := by omega
          rw [this]
  by_cases k4 : 240 ≤ (s.get! p).toNat ∧ (s.get! p).toNat ≤ 244
  · obtain ⟨e, e2, e3, e4⟩ := row4 k4
    rw [e, e4]
    have k : (s.get! p).toNat / 8 = 30 := by omega
    by_cases q : s.size - p < 4
    · rw [if_pos (.inr q), dN4n k (fun h => by unfold P4 at h; omega)]
    · rw [if_neg (by omega)]
      by_cases c : ((s.get! (p + 1)).toNat < rowLo (s.get! p).toNat ∨ rowHi (s.get! p).toNat < (s.get! (p + 1)).toNat) ∨ (s.get! (p + 1)).toNat < 128 ∨ 191 < (s.get! (p + 1)).toNat
      · rw [refL_bad (by omega), dN4n k (fun h => by unfold P4 at h; rw [e2, e3] at c; split at c <;> split at c <;> omega)]
      · rw [refL_step (by omega), show (1 : Nat) + 1 = 2 from rfl]
        by_cases d : (s.get! (p + 2)).toNat < 128 ∨ 191 < (s.get! (p + 2)).toNat
        · rw [refL_bad (.inr d), dN4n k (fun h => by unfold P4 at h; omega)]
        · rw [refL_step (by omega), show (2 : Nat) + 1 = 3 from rfl]
          by_cases g : (s.get! (p + 3)).toNat < 128 ∨ 191 < (s.get! (p + 3)).toNat
          · rw [refL_bad (.inr g), dN4n k (fun h => by unfold P4 at h; omega)]
          · rw [refL_step (by omega), dN4y k (by unfold P4; rw [e2, e3] at c; split at c <;> split at c <;> omega)]
            show (_, 4) = (_, 4)
            have : (((s.get! p).toNat % 8 * 64 + (s.get! (p + 1)).toNat % 64) * 64 + (s.get! (p + 2)).toNat % 64) * 64 + (s.get! (p + 3)).toNat % 64 = (s.get! p).toNat % 8 * 262144 + (s.get! (p + 1)).toNat % 64 * 4096 + (s.get! (p + 2)).toNat % 64 * 64 + (s.get! (p + 3)).toNat % 64 := by omega
            rw [this]
  · rw [row0 k1 k2 k3 k4, if_pos (.inl rfl)]
    by_cases j2 : (s.get! p).toNat / 32 = 6
    · rw [dN2n j2 (fun h => by unfold P2 at h; omega)]
    by_cases j4 : (s.get! p).toNat / 8 = 30
    · rw [dN4n j4 (fun h => by unfold P4 at h; omega)]
    · rw [dN0 k1 j2 (by omega) j4]
end Go.Proofs.YtcocbjipikeebaaDoor.Utf
/-
  The document's Next walked: it tells the rune at a place and its width, for every text and place.
-/
namespace Go.Proofs.YtcocbjipikeebaaDoor.Utf
open Go Go.Lib Go.RowKit

theorem ret_t3 {k1 k2 k3 : IntKind} {a b c a' b' c' : Int} (h1 : a = a') (h2 : b = b') (h3 : c = c') : Ending.returned (.tuple #[.int k1 a, .int k2 b, .int k3 c]) = .returned (.tuple #[.int k1 a', .int k2 b', .int k3 c']) := by rw [h1, h2, h3]
theorem ret_t2 {k1 k2 : IntKind} {a b a' b' : Int} (h1 : a = a') (h2 : b = b') : Ending.returned (.tuple #[.int k1 a, .int k2 b]) = .returned (.tuple #[.int k1 a', .int k2 b']) := by rw [h1, h2]

set_option maxRecDepth 100000 in
set_option maxHeartbeats 1000000 in
theorem row_any (b : Nat) (w : World) (hb : b < 256) :
    Calls Tryd.prog 70 #[.int .u8 (b : Int)] w fun e w' => e = .returned (.tuple #[.int .i64 (rowW b : Int), .int .u8 (rowLo b : Int), .int .u8 (rowHi b : Int)]) ∧ w' = w := by
  have fin : ∀ (x y z : Nat), rowW b = x → rowLo b = y → rowHi b = z →
      Calls Tryd.prog 70 #[.int .u8 (b : Int)] w (fun e w' => e = .returned (.tuple #[.int .i64 (x : Int), .int .u8 (y : Int), .int .u8 (z : Int)]) ∧ w' = w) →
      Calls Tryd.prog 70 #[.int .u8 (b : Int)] w fun e w' => e = .returned (.tuple #[.int .i64 (rowW b : Int), .int .u8 (rowLo b : Int), .int .u8 (rowHi b : Int)]) ∧ w' = w := by
    intro x y z h1 h2 h3 h
    rw [h1, h2, h3]; exact h
  by_cases k1 : b < 128
  · refine fin 1 0 0 (row1 k1).1 (by unfold rowLo; rw [if_pos k1]) (by unfold rowHi; rw [if_pos k1]) ?_
    clear fin
    go_enter Tryd.func70, Tryd.ntmps70
    go_wp2
    go_ret3
    exact ⟨rfl, rfl⟩
  by_cases k2 : 194 ≤ b ∧ b ≤ 223
  · obtain ⟨e1, e2, e3, _⟩ := row2 k2
    refine fin _ _ _ e1 e2 e3 ?_
    clear fin e1 e2 e3
    go_enter Tryd.func70, Tryd.ntmps70
    go_wp2
    go_ret3
    exact ⟨rfl, rfl⟩
  by_cases k3 : 224 ≤ b ∧ b ≤ 239
  · obtain ⟨e1, e2, e3, _⟩ := row3 k3
    have hc : b = 224 ∨ b = 237 ∨ (b ≠ 224 ∧ b ≠ 237) := by omega
    rcases hc with rfl | rfl | ⟨j1, j2⟩
    · refine fin _ _ _ e1 e2 e3 ?_
      clear fin e1 e2 e3
      go_enter Tryd.func70, Tryd.ntmps70
      go_wp2
      go_ret3
      exact ⟨rfl, rfl⟩
    · refine fin _ _ _ e1 e2 e3 ?_
      clear fin e1 e2 e3
      go_enter Tryd.func70, Tryd.ntmps70
      go_wp2
      go_ret3
      exact ⟨rfl, rfl⟩
    · rw [if_neg j1] at e2
      rw [if_neg j2] at e3
      refine fin _ _ _ e1 e2 e3 ?_
      have q1 : ((b : Int) == 224) = false := by rw [beq_eq_false_iff_ne]; omega
      have q2 : ((b : Int) == 237) = false := by rw [beq_eq_false_iff_ne]; omega
      clear fin e1 e2 e3 j1 j2
      go_enter Tryd.func70, Tryd.ntmps70
      go_wp2
      go_ret3
      exact ⟨rfl, rfl⟩
  by_cases k4 : 240 ≤ b ∧ b ≤ 244
  · obtain ⟨e1, e2, e3, _⟩ := row4 k4
    have hc : b = 240 ∨ b = 244 ∨ (b ≠ 240 ∧ b ≠ 244) := by omega
    have q1 : ((b : Int) == 224) = false := by rw [beq_eq_false_iff_ne]; omega
    have q2 : ((b : Int) == 237) = false := by rw [beq_eq_false_iff_ne]; omega
    rcases hc with rfl | rfl | ⟨j1, j2⟩
    · refine fin _ _ _ e1 e2 e3 ?_
      clear fin e1 e2 e3
      go_enter Tryd.func70, Tryd.ntmps70
      go_wp2
      go_ret3
      exact ⟨rfl, rfl⟩
    · refine fin _ _ _ e1 e2 e3 ?_
      clear fin e1 e2 e3
      go_enter Tryd.func70, Tryd.ntmps70
      go_wp2
      go_ret3
      exact ⟨rfl, rfl⟩
    · rw [if_neg j1] at e2
      rw [if_neg j2] at e3
      refine fin _ _ _ e1 e2 e3 ?_
      have q3 : ((b : Int) == 240) = false := by rw [beq_eq_false_iff_ne]; omega
      have q4 : ((b : Int) == 244) = false := by rw [beq_eq_false_iff_ne]; omega
      have q5 : 241 ≤ b ∧ b ≤ 243 := by omega
      clear fin e1 e2 e3 j1 j2
      go_enter Tryd.func70, Tryd.ntmps70
      go_wp2
      go_ret3
      exact ⟨rfl, rfl⟩
  · refine fin 0 0 0 (row0 k1 k2 k3 k4) (by unfold rowLo; rw [if_neg (by omega), if_neg (by omega), if_neg (by omega), if_neg (by omega), if_neg (by omega), if_neg (by omega), if_neg (by omega), if_neg (by omega)])
      (by unfold rowHi; rw [if_neg (by omega), if_neg (by omega), if_neg (by omega), if_neg (by omega), if_neg (by omega), if_neg (by omega), if_neg (by omega), if_neg (by omega)]) ?_
    have hc : b < 194 ∨ 244 < b := by omega
    have q1 : ((b : Int) == 224) = false := by rw [beq_eq_false_iff_ne]; omega
    have q2 : ((b : Int) == 237) = false := by rw [beq_eq_false_iff_ne]; omega
    have q3 : ((b : Int) == 240) = false := by rw [beq_eq_false_iff_ne]; omega
    have q4 : ((b : Int) == 244) = false := by rw [beq_eq_false_iff_ne]; omega
    clear fin k2 k3 k4
    rcases hc with j | j
    all_goals
      go_enter Tryd.func70, Tryd.ntmps70
      go_wp2
      go_ret3
      exact ⟨rfl, rfl⟩

set_option maxRecDepth 100000 in
set_option maxHeartbeats 2000000 in
theorem refNext_any (s : ByteArray) (p : Int) (w : World) (hs : s.size ≤ 140737488355328) :
    Calls Tryd.prog 56 #[.string s, .int .i64 p] w fun e w' => e = .returned (.tuple #[.int .i32 (nextR s p), .int .i64 (nextW s p)]) ∧ w' = w := by
  by_cases h0 : p < 0
  · rw [nextR_out (by omega), nextW_out (by omega)]
    go_enter Tryd.func56, Tryd.ntmps56
    go_wp2
    go_ret2
    exact ⟨rfl, rfl⟩
  · by_cases h1 : (s.size : Int) ≤ p
    · rw [nextR_out (by omega), nextW_out (by omega)]
      go_enter Tryd.func56, Tryd.ntmps56
      go_wp2
      go_ret2
      exact ⟨rfl, rfl⟩
    · obtain ⟨n, rfl⟩ := Int.eq_ofNat_of_zero_le (by omega : 0 ≤ p)
      rw [nextR_in (by omega), nextW_in (by omega), ← refN_eq s n (by omega)]
      obtain ⟨x0, hx0⟩ : ∃ x0, s.get! n = x0 := ⟨_, rfl⟩
      have hs0 : s[n]'(by omega) = x0 := by rw [← hx0]; exact (Utf8W.get!_of_lt s n (by omega)).symm
      have l0 := x0.toNat_lt
      have hR : refN s n = if rowW x0.toNat = 0 ∨ s.size - n < rowW x0.toNat then (65533, 1) else refL s n (rowW x0.toNat) (rowLo x0.toNat) (rowHi x0.toNat) (rowW x0.toNat - 1) 1 (lead x0.toNat) := by unfold refN; rw [hx0]
      obtain ⟨R, K, hRK⟩ : ∃ R K, refN s n = (R, K) := ⟨_, _, rfl⟩
      rw [hRK] at hR ⊢
      have cR := row_any x0.toNat w (by omega)
      have hw4 := rowW_le x0.toNat
      have hld := lead_lt x0.toNat
      clear hRK hx0
      go_enter Tryd.func56, Tryd.ntmps56
      go_wp2_with fail
      refine cR.mono ?_
      rintro e w' ⟨rfl, rfl⟩
      clear cR
      generalize rowLo x0.toNat = lo at *
      generalize rowHi x0.toNat = hi at *
      by_cases hW0 : rowW x0.toNat = 0
      · rw [if_pos (.inl hW0)] at hR
        obtain ⟨rfl, rfl⟩ := Prod.mk.inj hR
        rw [hW0]
        clear hW0 hR hw4 hld
        go_wp2
        go_ret2
        exact ⟨rfl, rfl⟩
      by_cases hWs : s.size - n < rowW x0.toNat
      · rw [if_pos (.inr hWs)] at hR
        obtain ⟨rfl, rfl⟩ := Prod.mk.inj hR
        have q0 : ((rowW x0.toNat : Int) == 0) = false := by rw [beq_eq_false_iff_ne]; omega
        have q1 : (s.size : Int) - (n : Int) < (rowW x0.toNat : Int) := by omega
        clear hR hld
        generalize rowW x0.toNat = wd at *
        go_wp2
        go_ret2
        exact ⟨rfl, rfl⟩
      rw [if_neg (by omega)] at hR
      have hl1 := hld hW0
      have hlead : lead x0.toNat = (if rowW x0.toNat = 2 then x0.toNat % 32 else if rowW x0.toNat = 3 then x0.toNat % 16 else if rowW x0.toNat = 4 then x0.toNat % 8 else x0.toNat) := rfl
      generalize lead x0.toNat = ld at *
      generalize rowW x0.toNat = wd at *
      have hwc : wd = 1 ∨ wd = 2 ∨ wd = 3 ∨ wd = 4 := by omega
      clear hld
      rcases hwc with rfl | rfl | rfl | rfl
      · obtain rfl : ld = x0.toNat := hlead
        have HR : Hid (refL s n 1 lo hi 0 1 (x0.toNat) = (R, K)) := hR.symm
        have hsn : n + 1 ≤ s.size := by omega
        clear hR hW0 hWs hw4
        clear h0
        go_wp2
        go_loop [9, 10] (fun nv iv => ∃ (i m f : Nat), iv = .int .i64 (i : Int) ∧ nv = .int .i64 (m : Int) ∧ Hid (refL s n 1 lo hi f i m = (R, K)) ∧ f + i = 1 ∧ 1 ≤ i ∧ (i ≤ 1 → m < 128) ∧ (i ≤ 2 → m < 8192) ∧ (i ≤ 3 → m < 524288) ∧ m < 33554432) (fun _ iv => (4 - RowKit.intOf iv).toNat)
        case atStart => exact ⟨1, x0.toNat, 0, rfl, by go_num, HR, by omega, by omega, by omega, by omega, by omega, by omega⟩
        case round =>
          obtain ⟨i, m, f, rfl, rfl, HC, hfi, hi1, hm1, hm2, hm3, hm4⟩ := hrel
          by_cases hlt : i < 1
          · obtain ⟨f, rfl⟩ : ∃ g, f = g + 1 := ⟨f - 1, by omega⟩
            obtain ⟨x, hx⟩ : ∃ x, s.get! (n + i) = x := ⟨_, rfl⟩
            have hsx : s[n + i]'(by omega) = x := by rw [← hx]; exact (Utf8W.get!_of_lt s (n + i) (by omega)).symm
            have lx := x.toNat_lt
            have hz : (n : Int) + (i : Int) < (s.size : Int) := by omega
            have hC1 := refL_bad (s := s) (p := n) (w := 1) (lo := lo) (hi := hi) (f := f) (i := i) (n := m)
            have hC2 := refL_step (s := s) (p := n) (w := 1) (lo := lo) (hi := hi) (f := f) (i := i) (n := m)
            rw [hx] at hC1 hC2
            by_cases hbad : (i = 1 ∧ (x.toNat < lo ∨ hi < x.toNat)) ∨ x.toNat < 128 ∨ 191 < x.toNat
            · have HE : Hid ((65533, 1) = (R, K)) := (hC1 hbad).symm.trans HC.out
              clear hC1 hC2 HC hx HR
              go_wp2
              all_goals
                go_ret2
                obtain ⟨rfl, rfl⟩ := Prod.mk.inj HE.out
                exact ⟨rfl, rfl⟩
            · have HE : Hid (refL s n 1 lo hi f (i + 1) (m * 64 + x.toNat % 64) = (R, K)) := (hC2 hbad).symm.trans HC.out
              clear hC1 hC2 HC hx HR
              go_wp2
              all_goals
                go_round
                case rel => exact ⟨i + 1, _, f, by go_num, by go_num, HE, by omega, by omega, by omega, by omega, by omega, by omega⟩
                case measure => simp [RowKit.intOf]; omega
          · obtain rfl : f = 0 := by omega
            have HE : Hid ((m, 1) = (R, K)) := HC.out
            clear HC HR
            go_wp2
            go_ret2
            obtain ⟨rfl, rfl⟩ := Prod.mk.inj HE.out
            exact ⟨rfl, rfl⟩
      · obtain rfl : ld = x0.toNat % 32 := hlead
        have HR : Hid (refL s n 2 lo hi 1 1 (x0.toNat % 32) = (R, K)) := hR.symm
        have hsn : n + 2 ≤ s.size := by omega
        clear hR hW0 hWs hw4
        clear h0
        go_wp2
        go_loop [9, 10] (fun nv iv => ∃ (i m f : Nat), iv = .int .i64 (i : Int) ∧ nv = .int .i64 (m : Int) ∧ Hid (refL s n 2 lo hi f i m = (R, K)) ∧ f + i = 2 ∧ 1 ≤ i ∧ (i ≤ 1 → m < 128) ∧ (i ≤ 2 → m < 8192) ∧ (i ≤ 3 → m < 524288) ∧ m < 33554432) (fun _ iv => (4 - RowKit.intOf iv).toNat)
        case atStart => exact ⟨1, x0.toNat % 32, 1, rfl, by go_num, HR, by omega, by omega, by omega, by omega, by omega, by omega⟩
        case round =>
          obtain ⟨i, m, f, rfl, rfl, HC, hfi, hi1, hm1, hm2, hm3, hm4⟩ := hrel
          by_cases hlt : i < 2
          · obtain ⟨f, rfl⟩ : ∃ g, f = g + 1 := ⟨f - 1, by omega⟩
            obtain ⟨x, hx⟩ : ∃ x, s.get! (n + i) = x := ⟨_, rfl⟩
            have hsx : s[n + i]'(by omega) = x := by rw [← hx]; exact (Utf8W.get!_of_lt s (n + i) (by omega)).symm
            have lx := x.toNat_lt
            have hz : (n : Int) + (i : Int) < (s.size : Int) := by omega
            have hC1 := refL_bad (s := s) (p := n) (w := 2) (lo := lo) (hi := hi) (f := f) (i := i) (n := m)
            have hC2 := refL_step (s := s) (p := n) (w := 2) (lo := lo) (hi := hi) (f := f) (i := i) (n := m)
            rw [hx] at hC1 hC2
            by_cases hbad : (i = 1 ∧ (x.toNat < lo ∨ hi < x.toNat)) ∨ x.toNat < 128 ∨ 191 < x.toNat
            · have HE : Hid ((65533, 1) = (R, K)) := (hC1 hbad).symm.trans HC.out
              clear hC1 hC2 HC hx HR
              go_wp2
              all_goals
                go_ret2
                obtain ⟨rfl, rfl⟩ := Prod.mk.inj HE.out
                exact ⟨rfl, rfl⟩
            · have HE : Hid (refL s n 2 lo hi f (i + 1) (m * 64 + x.toNat % 64) = (R, K)) := (hC2 hbad).symm.trans HC.out
              clear hC1 hC2 HC hx HR
              go_wp2
              all_goals
                go_round
                case rel => exact ⟨i + 1, _, f, by go_num, by go_num, HE, by omega, by omega, by omega, by omega, by omega, by omega⟩
                case measure => simp [RowKit.intOf]; omega
          · obtain rfl : f = 0 := by omega
            have HE : Hid ((m, 2) = (R, K)) := HC.out
            clear HC HR
            go_wp2
            go_ret2
            obtain ⟨rfl, rfl⟩ := Prod.mk.inj HE.out
            exact ⟨rfl, rfl⟩
      · obtain rfl : ld = x0.toNat % 16 := hlead
        have HR : Hid (refL s n 3 lo hi 2 1 (x0.toNat % 16) = (R, K)) := hR.symm
        have hsn : n + 3 ≤ s.size := by omega
        clear hR hW0 hWs hw4
        clear h0
        go_wp2
        go_loop [9, 10] (fun nv iv => ∃ (i m f : Nat), iv = .int .i64 (i : Int) ∧ nv = .int .i64 (m : Int) ∧ Hid (refL s n 3 lo hi f i m = (R, K)) ∧ f + i = 3 ∧ 1 ≤ i ∧ (i ≤ 1 → m < 128) ∧ (i ≤ 2 → m < 8192) ∧ (i ≤ 3 → m < 524288) ∧ m < 33554432) (fun _ iv => (4 - RowKit.intOf iv).toNat)
        case atStart => exact ⟨1, x0.toNat % 16, 2, rfl, by go_num, HR, by omega, by omega, by omega, by omega, by omega, by omega⟩
        case round =>
          obtain ⟨i, m, f, rfl, rfl, HC, hfi, hi1, hm1, hm2, hm3, hm4⟩ := hrel
          by_cases hlt : i < 3
          · obtain ⟨f, rfl⟩ : ∃ g, f = g + 1 := ⟨f - 1, by omega⟩
            obtain ⟨x, hx⟩ : ∃ x, s.get! (n + i) = x := ⟨_, rfl⟩
            have hsx : s[n + i]'(by omega) = x := by rw [← hx]; exact (Utf8W.get!_of_lt s (n + i) (by omega)).symm
            have lx := x.toNat_lt
            have hz : (n : Int) + (i : Int) < (s.size : Int) := by omega
            have hC1 := refL_bad (s := s) (p := n) (w := 3) (lo := lo) (hi := hi) (f := f) (i := i) (n := m)
            have hC2 := refL_step (s := s) (p := n) (w := 3) (lo := lo) (hi := hi) (f := f) (i := i) (n := m)
            rw [hx] at hC1 hC2
            by_cases hbad : (i = 1 ∧ (x.toNat < lo ∨ hi < x.toNat)) ∨ x.toNat < 128 ∨ 191 < x.toNat
            · have HE : Hid ((65533, 1) = (R, K)) := (hC1 hbad).symm.trans HC.out
              clear hC1 hC2 HC hx HR
              go_wp2
              all_goals
                go_ret2
                obtain ⟨rfl, rfl⟩ := Prod.mk.inj HE.out
                exact ⟨rfl, rfl⟩
            · have HE : Hid (refL s n 3 lo hi f (i + 1) (m * 64 + x.toNat % 64) = (R, K)) := (hC2 hbad).symm.trans HC.out
              clear hC1 hC2 HC hx HR
              go_wp2
              all_goals
                go_round
                case rel => exact ⟨i + 1, _, f, by go_num, by go_num, HE, by omega, by omega, by omega, by omega, by omega, by omega⟩
                case measure => simp [RowKit.intOf]; omega
          · obtain rfl : f = 0 := by omega
            have HE : Hid ((m, 3) = (R, K)) := HC.out
            clear HC HR
            go_wp2
            go_ret2
            obtain ⟨rfl, rfl⟩ := Prod.mk.inj HE.out
            exact ⟨rfl, rfl⟩
      · obtain rfl : ld = x0.toNat % 8 := hlead
        have HR : Hid (refL s n 4 lo hi 3 1 (x0.toNat % 8) = (R, K)) := hR.symm
        have hsn : n + 4 ≤ s.size := by omega
        clear hR hW0 hWs hw4
        clear h0
        go_wp2
        go_loop [9, 10] (fun nv iv => ∃ (i m f : Nat), iv = .int .i64 (i : Int) ∧ nv = .int .i64 (m : Int) ∧ Hid (refL s n 4 lo hi f i m = (R, K)) ∧ f + i = 4 ∧ 1 ≤ i ∧ (i ≤ 1 → m < 128) ∧ (i ≤ 2 → m < 8192) ∧ (i ≤ 3 → m < 524288) ∧ m < 33554432) (fun _ iv => (4 - RowKit.intOf iv).toNat)
        case atStart => exact ⟨1, x0.toNat % 8, 3, rfl, by go_num, HR, by omega, by omega, by omega, by omega, by omega, by omega⟩
        case round =>
          obtain ⟨i, m, f, rfl, rfl, HC, hfi, hi1, hm1, hm2, hm3, hm4⟩ := hrel
          by_cases hlt : i < 4
          · obtain ⟨f, rfl⟩ : ∃ g, f = g + 1 := ⟨f - 1, by omega⟩
            obtain ⟨x, hx⟩ : ∃ x, s.get! (n + i) = x := ⟨_, rfl⟩
            have hsx : s[n + i]'(by omega) = x := by rw [← hx]; exact (Utf8W.get!_of_lt s (n + i) (by omega)).symm
            have lx := x.toNat_lt
            have hz : (n : Int) + (i : Int) < (s.size : Int) := by omega
            have hC1 := refL_bad (s := s) (p := n) (w := 4) (lo := lo) (hi := hi) (f := f) (i := i) (n := m)
            have hC2 := refL_step (s := s) (p := n) (w := 4) (lo := lo) (hi := hi) (f := f) (i := i) (n := m)
            rw [hx] at hC1 hC2
            by_cases hbad : (i = 1 ∧ (x.toNat < lo ∨ hi < x.toNat)) ∨ x.toNat < 128 ∨ 191 < x.toNat
            · have HE : Hid ((65533, 1) = (R, K)) := (hC1 hbad).symm.trans HC.out
              clear hC1 hC2 HC hx HR
              go_wp2
              all_goals
                go_ret2
                obtain ⟨rfl, rfl⟩ := Prod.mk.inj HE.out
                exact ⟨rfl, rfl⟩
            · have HE : Hid (refL s n 4 lo hi f (i + 1) (m * 64 + x.toNat % 64) = (R, K)) := (hC2 hbad).symm.trans HC.out
              clear hC1 hC2 HC hx HR
              go_wp2
              all_goals
                go_round
                case rel => exact ⟨i + 1, _, f, by go_num, by go_num, HE, by omega, by omega, by omega, by omega, by omega, by omega⟩
                case measure => simp [RowKit.intOf]; omega
          · obtain rfl : f = 0 := by omega
            have HE : Hid ((m, 4) = (R, K)) := HC.out
            clear HC HR
            go_wp2
            go_ret2
            obtain ⟨rfl, rfl⟩ := Prod.mk.inj HE.out
            exact ⟨rfl, rfl⟩
end Go.Proofs.YtcocbjipikeebaaDoor.Utf
/-
  The program's Places: the places of the text, rising, in a new list, for every text of up to 16777216 bytes.
-/
namespace Go.Proofs.YtcocbjipikeebaaDoor.Utf
open Go Go.Lib Go.RowKit

theorem infoInt : (Tryd.prog.info? 3).map (fun i => (i.zero, i.size, i.bytes)) = some (some (.int .i64 0), 1, 8) := by kernel_rfl
/-- A list of places, as cells. -/
def plc (l : List (Nat × Nat)) : List Value := l.map fun x => Value.int .i64 (x.1 : Int)
theorem plc_snoc (l : List (Nat × Nat)) (x : Nat × Nat) : plc (l ++ [x]) = plc l ++ [Value.int .i64 (x.1 : Int)] := by simp [plc]
theorem plc_length (l : List (Nat × Nat)) : (plc l).length = l.length := by simp [plc]

end Go.Proofs.YtcocbjipikeebaaDoor.Utf
/-
  The program's Back: what is written for the runes at the text's places, the last one first, for every text of up to 16777216 bytes.
-/
namespace Go.Proofs.YtcocbjipikeebaaDoor.Utf
open Go Go.Lib Go.RowKit Go.Shelf

theorem pairs_mem (s : ByteArray) : ∀ fuel pos, ∀ x ∈ pairsFrom s fuel pos, x.1 < s.size ∧ x.2 = (Utf8.decode s x.1).1
  | 0, _, _, h => by simp [pairsFrom] at h
  | f + 1, pos, x, h => by
    by_cases hp : pos < s.size
    · rw [pairsFrom_step hp] at h
      rcases List.mem_cons.1 h with rfl | h
      · exact ⟨hp, rfl⟩
      · exact pairs_mem s f _ x h
    · rw [pairsFrom_end s _ pos hp] at h; cases h
/-- A builder that the call has made stands where all that lay has stood. -/
theorem builderAtF_below {T e : TypeId} {B b : Nat} {p : Value} {bs : List Value} {W W' : World} (h : Lib.BuilderAtF T e B b p bs W) (hb : Below W.heap.size W W') : Lib.BuilderAtF T e B b p bs W' := by
  obtain ⟨hB, v, hbk, hown, hne⟩ := h
  refine ⟨hB, v, (hb.block b (Array.getElem?_eq_some_iff.1 hbk).1).trans hbk, ⟨hown.1, ?_⟩, hne⟩
  rcases hown.2 with hn | ⟨g, cap, cur, fz, hv, hbg, hg, rest⟩
  · exact .inl hn
  · exact .inr ⟨g, cap, cur, fz, hv, hbg, (hb.block g (Array.getElem?_eq_some_iff.1 hg).1).trans hg, rest⟩
theorem isBuilderF_below {T e : TypeId} {B b : Nat} {bs : List Value} {W W' : World} (h : Lib.IsBuilderF T e B b bs W) (hb : Below W.heap.size W W') : Lib.IsBuilderF T e B b bs W' :=
  h.elim (fun x => .inl (builderAtF_below x hb)) (fun x => .inr (builderAtF_below x hb))
theorem drop_rev {α : Type} (l : List α) (j : Nat) (h : j < l.length) : (l.drop j).reverse = (l.drop (j + 1)).reverse ++ [l[j]] := by
  rw [List.drop_eq_getElem_cons h, List.reverse_cons]

end Go.Proofs.YtcocbjipikeebaaDoor.Utf
/-
  The document's Places, Count, Valid and Cut walked, for every text of up to 16777216 bytes.
-/
namespace Go.Proofs.YtcocbjipikeebaaDoor.Utf
open Go Go.Lib Go.RowKit

/-- A list that the call has made, as a slice value whose cells are read. -/
theorem own_slice {W : World} {B : Nat} {e : TypeId} {v : Value} {xs : List Value} {n : Nat} (h : W.ownsRow B e 1 v n xs) :
    ∃ ao cap, v = .slice ao n cap ∧ ∀ j (hj : j < xs.length), ∃ g, ao = some ⟨g, 0, none⟩ ∧ B ≤ g ∧ g < W.heap.size ∧ W.cell? ⟨g, j, none⟩ = some xs[j] := by
  have hh := h
  rcases h.2 with ⟨rfl, h0⟩ | ⟨g, cap, cur, rfl, hb, _⟩
  · have hx := h.1
    exact ⟨none, 0, by rw [h0], fun j hj => by omega⟩
  · refine ⟨_, cap, rfl, fun j hj => ⟨g, rfl, hb, (hh.lt g rfl).2, ?_⟩⟩
    have := hh.cells (g := g) rfl j xs[j] (by simp [hj])
    rw [show (⟨g, 0, none⟩ : Addr).add j = ⟨g, j, none⟩ by unfold Addr.add; split <;> simp_all] at this
    exact this

set_option maxHeartbeats 1000000 in
theorem refPlaces_any (s : ByteArray) (w : World) (hs : s.size ≤ 16777216) :
    Calls Tryd.prog 66 #[.string s] w fun e w' => ∃ v, e = .returned v ∧ w'.ownsRow w.heap.size 3 1 v (pairs s).length (plc (pairs s)) ∧ Below w.heap.size w w' := by
  obtain ⟨i0, hi, hz0, hz1, hz2⟩ := info_parts infoInt
  go_enter Tryd.func66, Tryd.ntmps66
  go_wp2
  go_loopw [3, 4] (fun v av wr => ∃ (pre : List (Nat × Nat)) (pos b : Nat), av = .int .i64 (pos : Int) ∧ wr.ownsRow w.heap.size 3 1 v pre.length (plc pre) ∧ Below w.heap.size w wr ∧ Hid (pre ++ pairsFrom s b pos = pairs s) ∧ s.size ≤ pos + b ∧ pos ≤ s.size ∧ pre.length ≤ pos)
    (fun _ av _ => s.size - (RowKit.intOf av).toNat)
  case atStart => exact ⟨[], 0, s.size, rfl, World.ownsRow_nil _ _ _ _, Below.refl _ _, rfl, by omega, Nat.zero_le _, Nat.le_refl _⟩
  case round =>
    obtain ⟨pre, pos, b, rfl, hown, hB, HP, hb, hps, hpl⟩ := hrel
    by_cases hp : pos < s.size
    · have hwd := decode_fits s pos hp
      obtain ⟨b, rfl⟩ : ∃ f', b = f' + 1 := ⟨b - 1, by omega⟩
      have HP2 : Hid ((pre ++ [(pos, (Utf8.decode s pos).1)]) ++ pairsFrom s b (pos + (Utf8.decode s pos).2) = pairs s) := by
        have := HP.out
        rw [pairsFrom_step hp] at this
        show _ = _
        rw [← this]; simp
      have cN := fun w => refNext_any s (pos : Int) w (by omega)
      rw [nextR_in hp, nextW_in hp] at cN
      clear HP
      go_wp2_with (at_builtin; refine wpList_append_own _ rfl _ _ 42 rfl w.heap.size 3 i0 (.int .i64 0) 1 8 Tryd.underlying42 hi hz0 hz1 hz2 rfl (by decide) _ _ _ rfl (hown.alloc _) ⟨wr.heap.size, 0, none⟩ 1 1 [.int .i64 (pos : Int)] rfl rfl (cell_one_new _ _ _) (by simp [Value.oneCell']) (by unfold maxLen; omega) (by omega) (by have := hB.size; simp; omega) ?_)
      intro v' w1 hown' hgrow _
      have hB3 : Below w.heap.size w w1 := Below.grown (hB.alloc (by have := hB.size; omega) _) hgrow (by have := hB.size; simp; omega) (fun j hj => (hown.lt _ hj).1)
      have hown3 : w1.ownsRow w.heap.size 3 1 v' (pre ++ [(pos, (Utf8.decode s pos).1)]).length (plc (pre ++ [(pos, (Utf8.decode s pos).1)])) := by
        rw [plc_snoc, List.length_append]; exact hown'
      obtain ⟨g', cap', rfl⟩ := ownsRow_succ hown'
      clear hown' hgrow hown hB
      go_wp2_with fail
      refine (cN _).mono ?_
      rintro e w2 ⟨rfl, rfl⟩
      clear cN
      generalize (Utf8.decode s pos).1 = r at *
      generalize (Utf8.decode s pos).2 = d at *
      go_wp2
      go_roundw
      case rel => exact ⟨_, pos + d, b, by go_num, hown3, hB3, HP2, by omega, by omega, by simp; omega⟩
      case measure => simp [RowKit.intOf]; omega
    · have HE : Hid (pre = pairs s) := by
        have := HP.out
        rw [pairsFrom_end s b pos hp, List.append_nil] at this
        exact this
      clear HP
      go_wp2
      go_ret
      exact ⟨_, rfl, HE.out ▸ hown, hB⟩

set_option maxHeartbeats 400000 in
theorem refCount_any (s : ByteArray) (w : World) (hs : s.size ≤ 16777216) :
    Calls Tryd.prog 51 #[.string s] w fun e w' => e = .returned (.int .i64 (Lib.runeCount s)) ∧ Below w.heap.size w w' := by
  have cP := refPlaces_any s w hs
  rw [pairs_length] at cP
  go_enter Tryd.func51, Tryd.ntmps51
  go_wp2_with fail
  refine cP.mono ?_
  rintro e w1 ⟨v, rfl, hown, hb1⟩
  obtain ⟨ao, cap, rfl, _⟩ := own_slice hown
  clear hown cP
  go_wp2
  go_ret
  exact ⟨rfl, hb1⟩

theorem cutFrom_at (s : ByteArray) : ∀ fuel pos (n : Int), s.size ≤ pos + fuel → 0 ≤ n → cutFrom s fuel pos n = (((pairsFrom s fuel pos)[n.toNat]?).map fun x => x.1).getD s.size
  | 0, pos, n, _, _ => by rw [pairsFrom_end s 0 pos (by omega)]; rfl
  | f + 1, pos, n, h1, h2 => by
    by_cases hp : pos < s.size
    · have hd := decode_fits s pos hp
      rw [pairsFrom_step hp]
      by_cases hn : n < 1
      · obtain rfl : n = 0 := by omega
        rw [cutFrom_stop hp (by omega)]; rfl
      · rw [cutFrom_step hp hn, cutFrom_at s f _ (n - 1) (by omega) (by omega), show n.toNat = (n - 1).toNat + 1 by omega, List.getElem?_cons_succ]
    · rw [cutFrom_end hp, pairsFrom_end _ _ _ hp]; rfl
theorem cutPos_low (s : ByteArray) (n : Int) (h : n < 1) : cutPos s n = 0 := by
  unfold cutPos
  by_cases hp : 0 < s.size
  · obtain ⟨f, hf⟩ : ∃ f, s.size = f + 1 := ⟨s.size - 1, by omega⟩
    rw [show cutFrom s s.size 0 n = cutFrom s (f + 1) 0 n by rw [hf], cutFrom_stop hp h]
  · rw [cutFrom_end hp]; omega
theorem extract_none (s : ByteArray) : s.extract 0 0 = ⟨#[]⟩ := by
  apply ByteArray.ext
  rw [ByteArray.data_extract]
  simp

end Go.Proofs.YtcocbjipikeebaaDoor.Utf
/-
  The document's Runes, Of, Fix and Back walked, for every text of up to 1048576 bytes.
-/
namespace Go.Proofs.YtcocbjipikeebaaDoor.Utf
open Go Go.Lib Go.RowKit

theorem infoRune : (Tryd.prog.info? 21).map (fun i => (i.zero, i.size, i.bytes)) = some (some (.int .i32 0), 1, 4) := by kernel_rfl
/-- A list of runes, as cells. -/
def rnc (l : List Nat) : List Value := l.map fun r : Nat => Value.int .i32 (r : Int)
theorem rnc_snoc (l : List Nat) (x : Nat) : rnc (l ++ [x]) = rnc l ++ [Value.int .i32 (x : Int)] := by simp [rnc]
theorem rnc_length (l : List Nat) : (rnc l).length = l.length := by simp [rnc]
/-- The runes at the text's places. -/
def rns (l : List (Nat × Nat)) : List Nat := l.map fun x => x.2
theorem rns_snoc (l : List (Nat × Nat)) (x : Nat × Nat) : rns (l ++ [x]) = rns l ++ [x.2] := by simp [rns]
theorem rns_length (l : List (Nat × Nat)) : (rns l).length = l.length := by simp [rns]

set_option maxHeartbeats 1000000 in
theorem refRunes_any (s : ByteArray) (w : World) (hs : s.size ≤ 16777216) :
    Calls Tryd.prog 33 #[.string s] w fun e w' => ∃ v, e = .returned v ∧ w'.ownsRow w.heap.size 21 1 v (pairs s).length (rnc (rns (pairs s))) ∧ Below w.heap.size w w' := by
  obtain ⟨i0, hi, hz0, hz1, hz2⟩ := info_parts infoRune
  go_enter Tryd.func33, Tryd.ntmps33
  go_wp2
  go_loopw [3, 4] (fun v av wr => ∃ (pre : List (Nat × Nat)) (pos b : Nat), av = .int .i64 (pos : Int) ∧ wr.ownsRow w.heap.size 21 1 v pre.length (rnc (rns pre)) ∧ Below w.heap.size w wr ∧ Hid (pre ++ pairsFrom s b pos = pairs s) ∧ s.size ≤ pos + b ∧ pos ≤ s.size ∧ pre.length ≤ pos)
    (fun _ av _ => s.size - (RowKit.intOf av).toNat)
  case atStart => exact ⟨[], 0, s.size, rfl, World.ownsRow_nil _ _ _ _, Below.refl _ _, rfl, by omega, Nat.zero_le _, Nat.le_refl _⟩
  case round =>
    obtain ⟨pre, pos, b, rfl, hown, hB, HP, hb, hps, hpl⟩ := hrel
    by_cases hp : pos < s.size
    · have hwd := decode_fits s pos hp
      obtain ⟨b, rfl⟩ : ∃ f', b = f' + 1 := ⟨b - 1, by omega⟩
      have HP2 : Hid ((pre ++ [(pos, (Utf8.decode s pos).1)]) ++ pairsFrom s b (pos + (Utf8.decode s pos).2) = pairs s) := by
        have := HP.out
        rw [pairsFrom_step hp] at this
        show _ = _
        rw [← this]; simp
      have cN := fun w => refNext_any s (pos : Int) w (by omega)
      rw [nextR_in hp, nextW_in hp] at cN
      clear HP
      generalize (Utf8.decode s pos).1 = r at *
      generalize (Utf8.decode s pos).2 = d at *
      go_wp2_with fail
      refine (cN _).mono ?_
      rintro e w2 ⟨rfl, rfl⟩
      clear cN
      go_wp2_with (at_builtin; refine wpList_append_own _ rfl _ _ 73 rfl w.heap.size 21 i0 (.int .i32 0) 1 4 Tryd.underlying73 hi hz0 hz1 hz2 rfl (by decide) _ _ _ rfl (hown.alloc _) ⟨w2.heap.size, 0, none⟩ 1 1 [.int .i32 (r : Int)] rfl rfl (cell_one_new _ _ _) (by simp [Value.oneCell']) (by unfold maxLen; omega) (by omega) (by have := hB.size; simp; omega) ?_)
      intro v' w1 hown' hgrow _
      have hB3 : Below w.heap.size w w1 := Below.grown (hB.alloc (by have := hB.size; omega) _) hgrow (by have := hB.size; simp; omega) (fun j hj => (hown.lt _ hj).1)
      have hown3 : w1.ownsRow w.heap.size 21 1 v' (pre ++ [(pos, r)]).length (rnc (rns (pre ++ [(pos, r)]))) := by
        rw [rns_snoc, rnc_snoc, List.length_append]; exact hown'
      obtain ⟨g', cap', rfl⟩ := ownsRow_succ hown'
      clear hown' hgrow hown hB
      go_wp2
      go_roundw
      case rel => exact ⟨_, pos + d, b, by go_num, hown3, hB3, HP2, by omega, by omega, by simp; omega⟩
      case measure => simp [RowKit.intOf]; omega
    · have HE : Hid (pre = pairs s) := by
        have := HP.out
        rw [pairsFrom_end s b pos hp, List.append_nil] at this
        exact this
      clear HP
      go_wp2
      go_ret
      exact ⟨_, rfl, HE.out ▸ hown, hB⟩

theorem ownsRow_below {W W' : World} {B : Nat} {e : TypeId} {sz : Nat} {v : Value} {n : Nat} {xs : List Value} (h : W.ownsRow B e sz v n xs) (hb : Below W.heap.size W W') : W'.ownsRow B e sz v n xs := by
  refine ⟨h.1, ?_⟩
  rcases h.2 with hn | ⟨g, cap, cur, hv, hbg, hg, rest⟩
  · exact .inl hn
  · exact .inr ⟨g, cap, cur, hv, hbg, (hb.block g (Array.getElem?_eq_some_iff.1 hg).1).trans hg, rest⟩
/-- Bytes that the call has put together, as a string. -/
theorem own_convert {W : World} {B : Nat} {v : Value} {l : List UInt8} (h : W.ownsRow B 5 1 v l.length (Lib.byteCells l)) :
    (convert 50 9 v).run Tryd.prog W = .ok (.string ⟨l.toArray⟩) W := by
  have hh := h
  rcases h.2 with ⟨rfl, h0⟩ | ⟨g, cap, cur, rfl, hb, _⟩
  · have : l = [] := List.eq_nil_of_length_eq_zero h0
    subst this
    exact run_convert_bytes_nil W 50 5 Tryd.underlying50 Tryd.underlying5 0 0 9 Tryd.underlying9
  · exact run_convert_bytes_back W 50 9 5 ⟨g, 0, none⟩ cap l Tryd.underlying50 Tryd.underlying5 Tryd.underlying9 (fun j hj => hh.cells (g := g) rfl j (.int .u8 (l[j].toNat : Int)) (by simp [Lib.byteCells, hj]))

theorem rune_le (s : ByteArray) : ∀ r ∈ rns (pairs s), r ≤ 2147483647 := by
  intro r hr
  unfold rns at hr
  obtain ⟨x, hx, rfl⟩ := List.mem_map.1 hr
  have := (pairs_mem s _ _ x hx).2
  rw [this]
  exact decode_le s x.1

end Go.Proofs.YtcocbjipikeebaaDoor.Utf
