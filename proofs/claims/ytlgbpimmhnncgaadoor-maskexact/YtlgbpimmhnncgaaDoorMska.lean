/-
  The program's calls on masks that go through no sequence: TrailingZeros64, holdable, Of, Full, Has, after; for every word, number and list.
-/
import Derived.Test.YtlgbpimmhnncgaaDoorProg
import Derived.Test.YtlgbpimmhnncgaaDoorMskm
import Derived.WalkKit
import Derived.Lib.Walk
import Derived.LoopTactic
import Derived.BigQuiet
import Derived.Deep.QuietTactic
import Derived.WalkSmall
import Derived.Laws.Bits64b
import Derived.Laws.BitsAllLaws
import Derived.Laws.ShiftsVar
namespace Go.Proofs.YtlgbpimmhnncgaaDoor.Msk
open Go Go.Lib Go.RowKit

/-- The library's table, in its variable. -/
def Tab (w : World) : Prop := ∀ j, j < 64 → w.cell? ⟨0, j, none⟩ = some (.int .u8 ((deBruijn64tab.getD j 0 : Nat) : Int))
theorem Tab.of {w w' : World} (h : Tab w) (e : w'.heap[0]? = w.heap[0]?) : Tab w' := fun j hj => by
  have := h j hj
  simp only [World.cell?] at this ⊢
  rw [e]
  exact this
theorem Tab.size {w : World} (h : Tab w) : 0 < w.heap.size := by
  by_cases hs : 0 < w.heap.size
  · exact hs
  · have := h 0 (by decide)
    have e : w.heap[0]? = none := Array.getElem?_eq_none (by omega)
    simp [World.cell?, e] at this
theorem Tab.below {B : Nat} {w w' : World} (h : Tab w) (hB : 0 < B) (hb : Below B w w') : Tab w' := h.of (hb.block 0 hB)

theorem tz_key (x a : Nat) (hx : x < 18446744073709551616) (hx0 : x ≠ 0) (hlow : x &&& (18446744073709551616 - x) = a) :
    IntKind.u64.wrap (bits BinOp.and IntKind.u64 (x : Int) (IntKind.u64.wrap (-(x : Int))) * 285870213051353865) / 288230376151711744 = ((a * 285870213051353865 % 18446744073709551616 / 288230376151711744 : Nat) : Int) := by
  have e1 : IntKind.u64.wrap (-(x : Int)) = ((18446744073709551616 - x : Nat) : Int) := by rw [IntKind.wrap_u64]; omega
  rw [e1, bits_and_u64_nat x _ hx (by omega), hlow, IntKind.wrap_u64]
  omega

set_option maxHeartbeats 1000000 in
theorem tz_core (x k idx : Nat) (w : World) (hx0 : ((x : Int) == 0) = false)
    (key : IntKind.u64.wrap (bits BinOp.and IntKind.u64 (x : Int) (IntKind.u64.wrap (-(x : Int))) * 285870213051353865) / 288230376151711744 = (idx : Int))
    (hi : idx < 64) (hk : k < 64) (hcell : w.cell? ⟨0, idx, none⟩ = some (.int .u8 k)) :
    Calls Tryd.prog 25 #[.int .u64 x] w fun e w' => e = .returned (.int .i64 k) ∧ w' = w := by
  go_enter Tryd.func25, Tryd.ntmps25
  go_wp2_with (simp only [key])
  go_ret
  exact ⟨rfl, rfl⟩

theorem tz_any (x : Nat) (hx : x < 18446744073709551616) (h0 : x ≠ 0) (w : World) (hT : Tab w) :
    Calls Tryd.prog 25 #[.int .u64 x] w fun e w' => e = .returned (.int .i64 (ctz 64 x : Nat)) ∧ w' = w := by
  obtain ⟨hlow, hk⟩ := lowest_bit 64 x h0 hx
  obtain ⟨hi, htab⟩ := deBruijn64_at _ hk
  have hcell := hT _ hi
  rw [htab] at hcell
  exact tz_core x _ _ w (by simp; omega) (tz_key x _ hx h0 hlow) hi hk hcell

theorem holdable_any (i : Int) (w : World) :
    Calls Tryd.prog 22 #[.int .i64 i] w fun e w' => e = .returned (.bool (decide (0 ≤ i ∧ i < 64))) ∧ w' = w := by
  go_enter Tryd.func22, Tryd.ntmps22
  by_cases h : 0 ≤ i
  · have e : decide (0 ≤ i ∧ i < 64) = decide (i < 64) := decide_eq_decide.2 ⟨fun x => x.2, fun x => ⟨h, x⟩⟩
    rw [e]
    go_wp2
    go_ret
    exact ⟨rfl, rfl⟩
  · have e : decide (0 ≤ i ∧ i < 64) = false := decide_eq_false fun x => h x.1
    rw [e]
    go_wp2
    go_ret
    exact ⟨rfl, rfl⟩

theorem shr_bit (m n : Nat) (hm : m < 18446744073709551616) : (bits BinOp.and IntKind.u64 ((m : Int) / 2 ^ n) 1 == 1) = m.testBit n := by
  have e : (m : Int) / 2 ^ n = ((m / 2 ^ n : Nat) : Int) := by rw [Int.natCast_ediv, Int.natCast_pow]; rfl
  have hl : m / 2 ^ n < 18446744073709551616 := Nat.lt_of_le_of_lt (Nat.div_le_self _ _) hm
  rw [e, show (1 : Int) = ((1 : Nat) : Int) from rfl, bits_and_u64_nat _ 1 hl (by decide), Nat.and_one_is_mod, bit_div]
  rw [Bool.eq_iff_iff, beq_iff_eq, decide_eq_true_eq]
  omega

theorem has_any (m : Nat) (i : Int) (w : World) (hm : m < 18446744073709551616) :
    Calls Tryd.prog 16 #[.int .u64 m, .int .i64 i] w fun e w' => e = .returned (.bool (decide (0 ≤ i ∧ i < 64) && m.testBit i.toNat)) ∧ w' = w := by
  by_cases h : 0 ≤ i ∧ i < 64
  · have cH := holdable_any i w
    rw [decide_eq_true h] at cH ⊢
    have hb := shr_bit m i.toNat hm
    go_enter Tryd.func16, Tryd.ntmps16
    go_wp2_with (go_at_call 22; refine cH.mono ?_; rintro e w' ⟨rfl, rfl⟩)
    go_ret
    exact ⟨rfl, rfl⟩
  · have cH := holdable_any i w
    rw [decide_eq_false h] at cH ⊢
    go_enter Tryd.func16, Tryd.ntmps16
    go_wp2_with (go_at_call 22; refine cH.mono ?_; rintro e w' ⟨rfl, rfl⟩)
    go_ret
    exact ⟨rfl, rfl⟩

/-- The word of the first n numbers. -/
def fullN (n : Int) : Nat := 2 ^ (min n 64).toNat - 1
theorem pow_cast (n : Nat) : ((2 ^ n : Nat) : Int) = (2 : Int) ^ n := by rw [Int.natCast_pow]; rfl
theorem pow_lt64 {n : Nat} (h : n < 64) : 2 ^ n < 18446744073709551616 := by
  have : 2 ^ n < 2 ^ 64 := Nat.pow_lt_pow_right (by decide) h
  omega
theorem wrap_pow {n : Nat} (h : n < 64) : IntKind.u64.wrap ((2 : Int) ^ n) = ((2 ^ n : Nat) : Int) := by
  have := pow_lt64 h
  rw [← pow_cast, IntKind.wrap_u64]
  generalize 2 ^ n = p at *
  omega
theorem full_any (n : Int) (w : World) :
    Calls Tryd.prog 14 #[.int .i64 n] w fun e w' => e = .returned (.int .u64 (fullN n : Nat)) ∧ w' = w := by
  by_cases h : n < 1
  · have e : fullN n = 0 := by unfold fullN; rw [show (min n 64).toNat = 0 by omega]
    rw [e]
    go_enter Tryd.func14, Tryd.ntmps14
    go_wp2
    go_ret
    exact ⟨rfl, rfl⟩
  · by_cases h2 : 64 ≤ n
    · have e : fullN n = 18446744073709551615 := by unfold fullN; rw [show (min n 64).toNat = 64 by omega]
      rw [e]
      go_enter Tryd.func14, Tryd.ntmps14
      go_wp2
      go_ret
      exact ⟨rfl, rfl⟩
    · have e : IntKind.u64.wrap (IntKind.u64.wrap ((2 : Int) ^ n.toNat) - 1) = ((fullN n : Nat) : Int) := by
        have hp := Nat.two_pow_pos n.toNat
        have hl := pow_lt64 (n := n.toNat) (by omega)
        unfold fullN
        rw [wrap_pow (by omega), show (min n 64).toNat = n.toNat by omega, IntKind.wrap_u64]
        omega
      go_enter Tryd.func14, Tryd.ntmps14
      go_wp2
      go_ret
      exact ⟨rfl, rfl⟩

theorem not_nat (m : Nat) (hm : m < 18446744073709551616) : bits BinOp.xor IntKind.u64 IntKind.u64.max (m : Int) = ((18446744073709551615 - m : Nat) : Int) := by
  have h1 : (BitVec.ofInt 64 IntKind.u64.max).toNat = 18446744073709551615 := by decide
  have h2 : (BitVec.ofInt 64 (m : Int)).toNat = m := by
    rw [BitVec.ofInt_natCast, BitVec.toNat_ofNat]; exact Nat.mod_eq_of_lt (by omega)
  show IntKind.u64.wrap ((BitVec.ofInt 64 IntKind.u64.max ^^^ BitVec.ofInt 64 (m : Int)).toNat : Int) = _
  have hx : 18446744073709551615 ^^^ m = 18446744073709551615 - m := by
    apply Nat.eq_of_testBit_eq
    intro j
    have e1 := Nat.testBit_two_pow_sub_one 64 j
    have e2 := Nat.testBit_two_pow_sub_succ (x := m) (n := 64) hm j
    rw [show 2 ^ 64 - 1 = 18446744073709551615 from rfl] at e1
    rw [show 2 ^ 64 - (m + 1) = 18446744073709551615 - m by omega] at e2
    rw [Nat.testBit_xor, e1, e2]
    by_cases hj : j < 64
    · simp [hj]
    · have hp : 2 ^ 64 ≤ 2 ^ j := Nat.pow_le_pow_right (by decide) (by omega)
      have : m.testBit j = false := Nat.testBit_lt_two_pow (Nat.lt_of_lt_of_le hm hp)
      simp [hj, this]
  rw [BitVec.toNat_xor, h1, h2, hx, IntKind.wrap_u64]
  omega
theorem aft_int (s m : Nat) (hs : s < 18446744073709551616) (hm : m < 18446744073709551616) :
    bits BinOp.and IntKind.u64 (IntKind.u64.wrap (bits BinOp.or IntKind.u64 (s : Int) (bits BinOp.xor IntKind.u64 IntKind.u64.max (m : Int)) + 1)) (m : Int) = ((aft 64 s m : Nat) : Int) := by
  rw [not_nat m hm, bits_or_u64_nat s _ hs (by omega)]
  have e : IntKind.u64.wrap (((s ||| (18446744073709551615 - m) : Nat) : Int) + 1) = ((((s ||| (18446744073709551615 - m)) + 1) % 18446744073709551616 : Nat) : Int) := by
    rw [IntKind.wrap_u64]
    omega
  rw [e, bits_and_u64_nat _ m (Nat.mod_lt _ (by decide)) hm]
  rfl
theorem after_any (s m : Nat) (hs : s < 18446744073709551616) (hm : m < 18446744073709551616) (w : World) :
    Calls Tryd.prog 27 #[.int .u64 s, .int .u64 m] w fun e w' => e = .returned (.int .u64 ((aft 64 s m : Nat) : Int)) ∧ w' = w := by
  have e := aft_int s m hs hm
  go_enter Tryd.func27, Tryd.ntmps27
  go_wp2
  go_ret
  exact ⟨rfl, rfl⟩

/-- Of a list, wherever it lies. -/
def ReadsI (W : World) (ao : Option Addr) (zs : List Int) : Prop := ∀ i (_ : i < zs.length), ∃ b off, ao = some ⟨b, off, none⟩ ∧ b < W.heap.size ∧ W.cell? ⟨b, off + i, none⟩ = some (.int .i64 (zs[i]?.getD 0))
theorem ReadsI.below {W W' : World} {ao : Option Addr} {zs : List Int} (h : ReadsI W ao zs) (hb : Below W.heap.size W W') : ReadsI W' ao zs := fun j hj => by
  obtain ⟨g, o, h1, h2, h3⟩ := h j hj
  exact ⟨g, o, h1, Nat.lt_of_lt_of_le h2 hb.size, (hb.cell (p := ⟨g, o + j, none⟩) h2).trans h3⟩

theorem or_step (m : Nat) (i : Int) (hm : m < 18446744073709551616) (h0 : 0 ≤ i) (h1 : i < 64) : bits BinOp.or IntKind.u64 (m : Int) (IntKind.u64.wrap ((2 : Int) ^ i.toNat)) = ((ofStep m i : Nat) : Int) := by
  rw [wrap_pow (by omega), bits_or_u64_nat m _ hm (pow_lt64 (by omega))]
  unfold ofStep
  rw [if_pos ⟨h0, h1⟩]

set_option maxHeartbeats 1000000 in
theorem of_any (zs : List Int) (ao : Option Addr) (cap : Nat) (w : World) (hl : zs.length ≤ 4611686018427387904) (hR : ReadsI w ao zs) :
    Calls Tryd.prog 8 #[.slice ao zs.length cap] w fun e w' => e = .returned (.int .u64 (ofL zs : Nat)) ∧ w' = w := by
  go_enter Tryd.func8, Tryd.ntmps8
  go_wp2
  go_loopw [3, 8] (fun mv iv wr => ∃ k : Nat, iv = .int .i64 (k : Int) ∧ mv = .int .u64 (ofL (zs.take k) : Nat) ∧ k ≤ zs.length ∧ wr = w) (fun _ iv _ => zs.length - (RowKit.intOf iv).toNat)
  case atStart => exact ⟨0, rfl, rfl, Nat.zero_le _, rfl⟩
  case round =>
    obtain ⟨k, rfl, rfl, hk, rfl⟩ := hrel
    by_cases hlt : k < zs.length
    · obtain ⟨b, off, rfl, hb, hc⟩ := hR k hlt
      have ht : zs.take (k + 1) = zs.take k ++ [zs[k]] := List.take_succ_eq_append_getElem hlt
      have hst : ofL (zs.take (k + 1)) = ofStep (ofL (zs.take k)) zs[k] := by rw [ht, ofL_snoc]
      have hml := ofL_lt (zs.take k)
      rw [List.getElem?_eq_getElem hlt, Option.getD_some] at hc
      clear ht hR
      have HST : Hid (ofL (zs.take (k + 1)) = ofStep (ofL (zs.take k)) zs[k]) := hst
      clear hst
      generalize ofL (zs.take k) = m at *
      generalize zs[k] = z at *
      have cH := holdable_any z wr
      by_cases hz : 0 ≤ z ∧ z < 64
      · rw [decide_eq_true hz] at cH
        have e := or_step m z hml hz.1 hz.2
        rw [← HST.out] at e
        go_wp2_with (go_at_call 22; refine cH.mono ?_; rintro e w' ⟨rfl, hw⟩; obtain rfl := hw.symm)
        go_roundw
        case rel => exact ⟨k + 1, by go_num, rfl, by omega, trivial⟩
        case measure => simp [RowKit.intOf]; omega
      · rw [decide_eq_false hz] at cH
        have e : ofStep m z = m := if_neg hz
        rw [← HST.out] at e
        go_wp2_with (go_at_call 22; refine cH.mono ?_; rintro e w' ⟨rfl, hw⟩; obtain rfl := hw.symm)
        go_roundw
        case rel => exact ⟨k + 1, by go_num, by rw [e], by omega, trivial⟩
        case measure => simp [RowKit.intOf]; omega
    · obtain rfl : k = zs.length := by omega
      rw [List.take_length]
      go_wp2
      go_ret
      exact ⟨rfl, rfl⟩
end Go.Proofs.YtlgbpimmhnncgaaDoor.Msk
