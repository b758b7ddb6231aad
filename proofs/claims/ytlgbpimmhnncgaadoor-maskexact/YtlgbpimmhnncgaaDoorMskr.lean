/-
  The document's answers on masks walked: Bit, Has, Of, Full, List, Sub, for every word, number and list.
-/
import Derived.Test.YtlgbpimmhnncgaaDoorMska
import Derived.Lib.OthersKept
import Derived.Maps.AppendAt
import Derived.RangeFuncBox
namespace Go.Proofs.YtlgbpimmhnncgaaDoor.Msk
open Go Go.Lib Go.RowKit

theorem refBit_any (n : Nat) (hn : n < 64) (w : World) :
    Calls Tryd.prog 23 #[.int .i64 (n : Int)] w fun e w' => e = .returned (.int .u64 ((2 ^ n : Nat) : Int)) ∧ w' = w := by
  go_enter Tryd.func23, Tryd.ntmps23
  go_wp2
  go_loopw [3, 4] (fun bv kv wr => ∃ k : Nat, kv = .int .i64 (k : Int) ∧ bv = .int .u64 ((2 ^ k : Nat) : Int) ∧ k ≤ n ∧ wr = w) (fun _ kv _ => n - (RowKit.intOf kv).toNat)
  case atStart => exact ⟨0, rfl, rfl, Nat.zero_le _, rfl⟩
  case round =>
    obtain ⟨k, rfl, rfl, hk, rfl⟩ := hrel
    by_cases hlt : k < n
    · have hp := pow_lt64 (n := k + 1) (by omega)
      have HP : Hid (2 ^ (k + 1) = 2 ^ k * 2) := Nat.pow_succ _ _
      obtain ⟨q, hq⟩ : ∃ q, q = 2 ^ (k + 1) := ⟨_, rfl⟩
      have HQ : Hid (q = 2 ^ (k + 1)) := hq
      rw [← hq] at hp HP
      clear hq
      generalize 2 ^ k = p at *
      have e : IntKind.u64.wrap ((p : Int) * 2) = (q : Int) := by have := HP.out; rw [IntKind.wrap_u64]; omega
      go_wp2
      go_roundw
      case rel => exact ⟨k + 1, by go_num, by rw [HQ.out], by omega, trivial⟩
      case measure => simp [RowKit.intOf]; omega
    · obtain rfl : k = n := by omega
      go_wp2
      go_ret
      exact ⟨rfl, rfl⟩

theorem quo_bit (m p : Nat) (hm : m < 18446744073709551616) : ((IntKind.u64.wrap ((m : Int) / (p : Int))).tmod 2 == 1) = decide (m / p % 2 = 1) := by
  have hl : m / p < 18446744073709551616 := Nat.lt_of_le_of_lt (Nat.div_le_self _ _) hm
  have e : IntKind.u64.wrap ((m : Int) / (p : Int)) = ((m / p : Nat) : Int) := by
    rw [← Int.natCast_ediv, IntKind.wrap_u64]
    generalize m / p = q at *
    omega
  rw [e]
  generalize m / p = q at *
  rw [Int.tmod_eq_emod_of_nonneg (by omega), Bool.eq_iff_iff, beq_iff_eq, decide_eq_true_eq]
  omega

theorem refHas_any (m : Nat) (i : Int) (hm : m < 18446744073709551616) (w : World) :
    Calls Tryd.prog 17 #[.int .u64 m, .int .i64 i] w fun e w' => e = .returned (.bool (decide (0 ≤ i ∧ i < 64) && m.testBit i.toNat)) ∧ w' = w := by
  by_cases h : 0 ≤ i ∧ i < 64
  · rw [decide_eq_true h]
    obtain ⟨n, rfl⟩ := Int.eq_ofNat_of_zero_le h.1
    have cB := refBit_any n (by omega) w
    rw [show ((n : Int)).toNat = n from rfl, Bool.true_and, bit_div]
    have hp := Nat.two_pow_pos n
    have e := quo_bit m (2 ^ n) hm
    generalize 2 ^ n = p at *
    go_enter Tryd.func17, Tryd.ntmps17
    go_wp2_with (go_at_call 23; refine cB.mono ?_; rintro e w' ⟨rfl, hw⟩; obtain rfl := hw.symm)
    go_ret
    exact ⟨rfl, rfl⟩
  · rw [decide_eq_false h, Bool.false_and]
    go_enter Tryd.func17, Tryd.ntmps17
    go_wp2
    all_goals go_ret
    all_goals exact ⟨rfl, rfl⟩

set_option maxHeartbeats 1000000 in
theorem refOf_any (zs : List Int) (ao : Option Addr) (cap : Nat) (w : World) (hl : zs.length ≤ 4611686018427387904) (hR : ReadsI w ao zs) :
    Calls Tryd.prog 9 #[.slice ao zs.length cap] w fun e w' => e = .returned (.int .u64 (ofL zs : Nat)) ∧ w' = w := by
  go_enter Tryd.func9, Tryd.ntmps9
  go_wp2
  go_loopw [3, 4] (fun mv iv wr => ∃ k : Nat, iv = .int .i64 (k : Int) ∧ mv = .int .u64 (ofL (zs.take k) : Nat) ∧ k ≤ zs.length ∧ wr = w) (fun _ iv _ => zs.length - (RowKit.intOf iv).toNat)
  case atStart => exact ⟨0, rfl, rfl, Nat.zero_le _, rfl⟩
  case round =>
    obtain ⟨k, rfl, rfl, hk, rfl⟩ := hrel
    by_cases hlt : k < zs.length
    · obtain ⟨b, off, rfl, hb, hc⟩ := hR k hlt
      have ht : zs.take (k + 1) = zs.take k ++ [zs[k]] := List.take_succ_eq_append_getElem hlt
      have HST : Hid (ofL (zs.take (k + 1)) = ofStep (ofL (zs.take k)) zs[k]) := by show _ = _; rw [ht, ofL_snoc]
      have hml := ofL_lt (zs.take k)
      rw [List.getElem?_eq_getElem hlt, Option.getD_some] at hc
      clear ht hR
      generalize ofL (zs.take k) = m at *
      generalize zs[k] = z at *
      by_cases hz : 0 ≤ z ∧ z < 64
      · obtain ⟨n, rfl⟩ := Int.eq_ofNat_of_zero_le hz.1
        have cH := refHas_any m n hml wr
        have cB := refBit_any n (by omega) wr
        rw [decide_eq_true hz, Bool.true_and, show ((n : Int)).toNat = n from rfl] at cH
        have hz2 : (n : Int) ≤ 63 := by omega
        cases hb : m.testBit n with
        | true =>
          have HE : Hid (ofStep m n = m) := by
            show _ = _
            unfold ofStep
            rw [if_pos hz]
            apply Nat.eq_of_testBit_eq
            intro j
            rw [show ((n : Int)).toNat = n from rfl, Nat.testBit_or, Nat.testBit_two_pow]
            by_cases e : n = j
            · subst e; rw [hb]; rfl
            · simp [e]
          rw [hb] at cH
          clear hb
          go_wp2_with (go_at_call 17; refine cH.mono ?_; rintro e w' ⟨rfl, hw⟩; obtain rfl := hw.symm)
          go_roundw
          case rel => exact ⟨k + 1, by go_num, by rw [HST.out, HE.out], by omega, trivial⟩
          case measure => simp [RowKit.intOf]; omega
        | false =>
          have HE : Hid (ofStep m n = m + 2 ^ n) := by
            show _ = _
            unfold ofStep
            rw [if_pos hz, show ((n : Int)).toNat = n from rfl, add_bit m n hml (by omega) hb]
          have hsl := ofStep_lt hml (n : Int)
          rw [HE.out] at hsl
          rw [hb] at cH
          clear hb
          generalize 2 ^ n = p at *
          have e : IntKind.u64.wrap ((m : Int) + (p : Int)) = ((m + p : Nat) : Int) := by rw [IntKind.wrap_u64]; omega
          go_wp2_with (first | (go_at_call 17; refine cH.mono ?_; rintro e w' ⟨rfl, hw⟩; obtain rfl := hw.symm) | (go_at_call 23; refine cB.mono ?_; rintro e w' ⟨rfl, hw⟩; obtain rfl := hw.symm))
          go_roundw
          case rel => exact ⟨k + 1, by go_num, by rw [HST.out, HE.out, Int.natCast_add], by omega, trivial⟩
          case measure => simp [RowKit.intOf]; omega
      · have HE : Hid (ofStep m z = m) := if_neg hz
        go_wp2
        all_goals go_roundw
        all_goals first | exact ⟨k + 1, by go_num, by rw [HST.out, HE.out], by omega, trivial⟩ | (simp [RowKit.intOf]; omega)
    · obtain rfl : k = zs.length := by omega
      rw [List.take_length]
      go_wp2
      go_ret
      exact ⟨rfl, rfl⟩

set_option maxHeartbeats 1000000 in
theorem refFull_any (n : Int) (w : World) :
    Calls Tryd.prog 15 #[.int .i64 n] w fun e w' => e = .returned (.int .u64 (fullN n : Nat)) ∧ w' = w := by
  go_enter Tryd.func15, Tryd.ntmps15
  go_wp2
  go_loopw [3, 4] (fun mv iv wr => ∃ k : Nat, iv = .int .i64 (k : Int) ∧ mv = .int .u64 ((2 ^ k - 1 : Nat) : Int) ∧ k ≤ (min n 64).toNat ∧ wr = w) (fun _ iv _ => 64 - (RowKit.intOf iv).toNat)
  case atStart => exact ⟨0, rfl, rfl, Nat.zero_le _, rfl⟩
  case round =>
    obtain ⟨k, rfl, rfl, hk, rfl⟩ := hrel
    by_cases hlt : k < (min n 64).toNat
    · have h1 : (k : Int) < 64 := by omega
      have h2 : (k : Int) < n := by omega
      have cB := refBit_any k (by omega) wr
      have hp : 2 ^ k ≤ 2 ^ 63 := Nat.pow_le_pow_right (by decide) (by omega)
      have hp0 := Nat.two_pow_pos k
      have HP : Hid (2 ^ (k + 1) = 2 ^ k * 2) := Nat.pow_succ _ _
      obtain ⟨q, hq⟩ : ∃ q, q = 2 ^ (k + 1) - 1 := ⟨_, rfl⟩
      have HQ : Hid (q = 2 ^ (k + 1) - 1) := hq
      rw [HP.out] at hq
      generalize 2 ^ k = p at *
      obtain ⟨r, hr⟩ : ∃ r, r = p - 1 := ⟨_, rfl⟩
      rw [← hr]
      have e : IntKind.u64.wrap ((r : Int) + (p : Int)) = (q : Int) := by rw [IntKind.wrap_u64]; omega
      clear hq hr
      go_wp2_with (go_at_call 23; refine cB.mono ?_; rintro e w' ⟨rfl, hw⟩; obtain rfl := hw.symm)
      go_roundw
      case rel => exact ⟨k + 1, by go_num, by rw [HQ.out], by omega, trivial⟩
      case measure => simp [RowKit.intOf]; omega
    · have HE : Hid (fullN n = 2 ^ k - 1) := by show _ = _; unfold fullN; rw [show (min n 64).toNat = k by omega]
      obtain ⟨r, hr⟩ : ∃ r, r = 2 ^ k - 1 := ⟨_, rfl⟩
      rw [← hr] at HE ⊢
      clear hr
      go_wp2
      all_goals first | (exfalso; omega) | skip
      all_goals go_ret
      all_goals exact ⟨by rw [HE.out]; rfl, rfl⟩

theorem infoInt : (Tryd.prog.info? 3).map (fun i => (i.zero, i.size, i.bytes)) = some (some (.int .i64 0), 1, 8) := by kernel_rfl
theorem infoU64 : (Tryd.prog.info? 23).map (fun i => (i.zero, i.size, i.bytes)) = some (some (.int .u64 0), 1, 8) := by kernel_rfl
/-- Numbers, as cells; words, as cells. -/
def nums (l : List Nat) : List Value := l.map fun i : Nat => Value.int .i64 (i : Int)
def wrds (l : List Nat) : List Value := l.map fun i : Nat => Value.int .u64 (i : Int)
theorem nums_length (l : List Nat) : (nums l).length = l.length := by simp [nums]
theorem wrds_length (l : List Nat) : (wrds l).length = l.length := by simp [wrds]
theorem nums_snoc (l : List Nat) (i : Nat) : nums (l ++ [i]) = nums l ++ [.int .i64 (i : Int)] := by simp [nums]
theorem wrds_snoc (l : List Nat) (i : Nat) : wrds (l ++ [i]) = wrds l ++ [.int .u64 (i : Int)] := by simp [wrds]
theorem bitsF_le (f m : Nat) : (bitsF f m).length ≤ f := by
  have := List.length_filter_le (fun i => m.testBit i) (List.range f)
  rw [List.length_range] at this
  exact this
theorem bitsF_in {f m : Nat} (h : m.testBit f = true) : bitsF (f + 1) m = bitsF f m ++ [f] := by
  unfold bitsF
  rw [List.range_succ, List.filter_append]
  simp [h]
theorem bitsF_out {f m : Nat} (h : m.testBit f = false) : bitsF (f + 1) m = bitsF f m := by
  unfold bitsF
  rw [List.range_succ, List.filter_append]
  simp [h]

set_option maxHeartbeats 1000000 in
theorem refList_any (m : Nat) (hm : m < 18446744073709551616) (w : World) :
    Calls Tryd.prog 11 #[.int .u64 m] w fun e w' => ∃ v, e = .returned v ∧ w'.ownsRow w.heap.size 3 1 v (bitsL m).length (nums (bitsL m)) ∧ Below w.heap.size w w' := by
  obtain ⟨i0, hi, hz0, hz1, hz2⟩ := info_parts infoInt
  go_enter Tryd.func11, Tryd.ntmps11
  go_wp2
  go_loopw [3, 4] (fun lv iv wr => ∃ k : Nat, iv = .int .i64 (k : Int) ∧ k ≤ 64 ∧ wr.ownsRow w.heap.size 3 1 lv (bitsF k m).length (nums (bitsF k m)) ∧ Below w.heap.size w wr) (fun _ iv _ => 64 - (RowKit.intOf iv).toNat)
  case atStart => exact ⟨0, rfl, by omega, World.ownsRow_nil _ _ _ _, Below.refl _ _⟩
  case round =>
    obtain ⟨k, rfl, hk, hown, hB⟩ := hrel
    have hfl := bitsF_le k m
    by_cases hlt : k < 64
    · have cH := refHas_any m k hm wr
      have hkz : (k : Int) < 64 := by omega
      rw [decide_eq_true (⟨by omega, hkz⟩ : 0 ≤ (k : Int) ∧ (k : Int) < 64), Bool.true_and, show ((k : Int)).toNat = k from rfl] at cH
      cases hb : m.testBit k with
      | false =>
        have HE : Hid (bitsF (k + 1) m = bitsF k m) := bitsF_out hb
        rw [hb] at cH
        clear hb
        go_wp2_with (go_at_call 17; refine cH.mono ?_; rintro e w' ⟨rfl, hw⟩; obtain rfl := hw.symm)
        go_roundw
        case rel => exact ⟨k + 1, by go_num, by omega, by rw [HE.out]; exact hown, hB⟩
        case measure => simp [RowKit.intOf]; omega
      | true =>
        have HE : Hid (bitsF (k + 1) m = bitsF k m ++ [k]) := bitsF_in hb
        rw [hb] at cH
        clear hb
        generalize bitsF k m = L at *
        go_wp2_with (first
          | (go_at_call 17; refine cH.mono ?_; rintro e w' ⟨rfl, hw⟩; obtain rfl := hw.symm)
          | (at_builtin; refine wpList_append_own _ rfl _ _ 22 rfl w.heap.size 3 i0 (.int .i64 0) 1 8 Tryd.underlying22 hi hz0 hz1 hz2 rfl (by decide) _ _ _ rfl (hown.alloc _) ⟨wr.heap.size, 0, none⟩ 1 1 [.int .i64 (k : Int)] rfl rfl (cell_one_new _ _ _) (by simp [Value.oneCell']) (by unfold maxLen; omega) (by omega) (by have := hB.size; simp; omega) ?_))
        intro v' w1 hown' hgrow _
        have hB3 : Below w.heap.size w w1 := Below.grown (hB.alloc hB.size _) hgrow (by have := hB.size; simp; omega) (fun j hj => (hown.lt _ hj).1)
        obtain ⟨g', cap', rfl⟩ := ownsRow_succ hown'
        have hown3 : w1.ownsRow w.heap.size 3 1 (.slice (some ⟨g', 0, none⟩) (L.length + 1) cap') (L ++ [k]).length (nums (L ++ [k])) := by
          rw [nums_snoc, List.length_append]; exact hown'
        clear hown' hgrow hown hB
        go_wp2
        go_roundw
        case rel => exact ⟨k + 1, by go_num, by omega, by rw [HE.out]; exact hown3, hB3⟩
        case measure => simp [RowKit.intOf]; omega
    · obtain rfl : k = 64 := by omega
      go_wp2
      go_ret
      exact ⟨_, rfl, hown, hB⟩
end Go.Proofs.YtlgbpimmhnncgaaDoor.Msk
