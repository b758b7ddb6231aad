/-
  pattern.element walked.
-/
import Derived.Test.YtcocbjipikeebaaDoorGjn
import Derived.Test.YtcocbjipikeebaaDoorUtfaq
import Derived.Test.YtcocbjipikeebaaDoorGbl
import Derived.Test.YtcocbjipikeebaaDoorGpb
import Derived.Test.YtcocbjipikeebaaDoorGpd
import Derived.Test.YtcocbjipikeebaaDoorGxw
namespace Go.Proofs.YtcocbjipikeebaaDoor.Pts
open Go Go.Lib Go.RowKit Utf Msk

theorem cat_b (J : List UInt8) : ((⟨#[91]⟩ : ByteArray) ++ ⟨J.toArray⟩ ++ ⟨#[93]⟩) = ⟨(91 :: (J ++ [93])).toArray⟩ := by
  have h1 := cat_one [91] J
  have h2 := cat_one ([91] ++ J) [93]
  rw [← h1] at h2
  exact h2
theorem cat_o (J : List UInt8) : ((⟨#[91, 94]⟩ : ByteArray) ++ ⟨J.toArray⟩ ++ ⟨#[93]⟩) = ⟨(91 :: 94 :: (J ++ [93])).toArray⟩ := by
  have h1 := cat_one [91, 94] J
  have h2 := cat_one ([91, 94] ++ J) [93]
  rw [← h1] at h2
  exact h2
theorem jnL_832 {L : List ByteArray} (h : ∀ x ∈ L, x.size ≤ 12) (m : Nat) : (jnL (lets L m)).length ≤ 832 := by
  have h1 := jnL_len (lets_size h m)
  have h2 := lets_len L m
  omega
theorem nthV_le (m : Nat) (k : Int) : -9223372036854775808 ≤ nthV m k ∧ nthV m k ≤ 9223372036854775807 := by
  unfold nthV
  split
  · cases h : (bitsL m)[k.toNat]? with
    | none => simp
    | some i =>
      have := (mem_bitsL.1 (List.mem_of_getElem? h)).1
      simp only
      omega
  · omega

set_option maxRecDepth 100000 in
set_option maxHeartbeats 1000000 in
theorem element_any {W : World} {al : Nat} {L : List ByteArray} {rk : List Nat} (hA : IsAlpha W al L rk) (h12 : ∀ x ∈ L, x.size ≤ 12) (m : Nat) (hm : m < 18446744073709551616) (hT : Tab W) :
    Calls Tryd.prog 19 #[.pointer (some ⟨al, 0, none⟩), .bool (decide (plainL L)), .int .u64 m] W fun e w' => e = .returned (.string ⟨(elT L m).toArray⟩) ∧ Below W.heap.size W w' := by
  have hw0 := hT.size
  have h40 := hA.small
  have hbl := bitsL_le m
  have cS0 : ∀ Z, Below W.heap.size W Z → Calls Tryd.prog 16 #[.pointer (some ⟨al, 0, none⟩)] Z fun e w' => e = .returned (.int .i64 L.length) ∧ w' = Z := fun Z hb => size_any (hA.below hb)
  have cS := cS0 W (Below.refl _ _)
  have cF : Calls Tryd.prog 15 #[.int .i64 L.length] W fun e w' => e = .returned (.int .u64 (allN L : Nat)) ∧ w' = W := full_any (L.length : Int) W
  have cC := Msk.count_any m hm W hT
  have HLs : Aside (∀ Z (m : Nat), Below W.heap.size W Z → m < 18446744073709551616 → Calls Tryd.prog 41 #[.pointer (some ⟨al, 0, none⟩), .int .u64 m] Z fun e w' => e = .returned (.string ⟨(jnL (lets L m)).toArray⟩) ∧ Below Z.heap.size Z w') := fun Z m hb hm => list7_any (hA.below hb) h12 m hm (hT.below hw0 hb)
  have HNt : Aside (∀ Z, Below W.heap.size W Z → Calls Tryd.prog 40 #[.int .u64 m, .int .i64 0] Z fun e w' => e = .returned (.int .i64 (nthV m 0)) ∧ Below Z.heap.size Z w') := fun Z hb => nth_any m 0 hm (by decide) (by decide) Z (hT.below hw0 hb)
  have HNm : Aside (∀ Z (k : Int), Below W.heap.size W Z → -9223372036854775808 ≤ k → k ≤ 9223372036854775807 → Calls Tryd.prog 37 #[.pointer (some ⟨al, 0, none⟩), .int .i64 k] Z fun e w' => e = .returned (.string (nameAt L k)) ∧ Below Z.heap.size Z w') := fun Z k hb h0 h1 => name_any (hA.below hb) k h0 h1
  have hnV := nthV_le m 0
  have han := andNot_nat (allN L) m (allN_lt L) hm
  have hnl := notN_lt (m := m) (allN_lt L)
  clear hA hT
  by_cases h1 : m = allN L
  · have HE : Aside (elT L m = [63]) := by
      show _ = _
      unfold elT
      rw [if_pos h1]
    have hmz : ((m : Int) == (allN L : Int)) = true := by rw [h1]; exact beq_self_eq_true _
    generalize decide (plainL L) = pb
    clear h1
    generalize allN L = A at *
    try clear hn1
    go_enter Tryd.func19, Tryd.ntmps19
    go_wp2_with fail
    refine cS.mono ?_
    rintro e w' ⟨rfl, hw⟩
    obtain rfl := hw.symm
    go_wp2_with fail
    refine cF.mono ?_
    rintro e w' ⟨rfl, hw⟩
    obtain rfl := hw.symm
    clear cS cF
    go_wp2_with fail
    refine cC.mono ?_
    rintro e w1 ⟨rfl, hb1⟩
    have HB1 : Aside (Below W.heap.size W w1) := hb1
    clear cC cS0
    go_wp2
    go_ret
    exact ⟨by rw [HE.out]; rfl, HB1.out⟩
  have hmz : ((m : Int) == (allN L : Int)) = false := by rw [beq_eq_false_iff_ne]; intro e; exact h1 (by omega)
  by_cases hp : plainL L
  · rw [decide_eq_true hp]
    by_cases hn1 : (bitsL m).length = 1
    · have hnz : (((bitsL m).length : Int) == 1) = true := by rw [hn1]; rfl
      have HE : Aside (elT L m = bts (nameAt L (nthV m 0))) := by
        show _ = _
        unfold elT
        rw [if_neg h1, if_pos ⟨hn1, hp⟩]
      generalize allN L = A at *
      try clear hn1
      go_enter Tryd.func19, Tryd.ntmps19
      go_wp2_with fail
      refine cS.mono ?_
      rintro e w' ⟨rfl, hw⟩
      obtain rfl := hw.symm
      go_wp2_with fail
      refine cF.mono ?_
      rintro e w' ⟨rfl, hw⟩
      obtain rfl := hw.symm
      clear cS cF
      go_wp2_with fail
      refine cC.mono ?_
      rintro e w1 ⟨rfl, hb1⟩
      have cS1 := cS0 w1 hb1
      have cN := HNt.out w1 hb1
      clear cC cS0 cS1
      go_wp2_with fail
      refine cN.mono ?_
      rintro e w2 ⟨rfl, hb2⟩
      have hB2 : Below W.heap.size W w2 := hb1.trans (hb2.mono hb1.size)
      have cM := HNm.out w2 (nthV m 0) hB2 hnV.1 hnV.2
      clear cN hb2
      go_wp2_with fail
      refine cM.mono ?_
      rintro e w3 ⟨rfl, hb3⟩
      have HB3 : Aside (Below W.heap.size W w3) := hB2.trans (hb3.mono hB2.size)
      go_wp2
      go_ret
      exact ⟨by rw [HE.out, ba_bts]; rfl, HB3.out⟩
    · have hnz : (((bitsL m).length : Int) == 1) = false := by rw [beq_eq_false_iff_ne]; omega
      by_cases hn0 : 0 < (bitsL m).length
      · have h0z : (0 : Int) < ((bitsL m).length : Int) := by omega
        by_cases h2n : 2 * (bitsL m).length ≤ L.length
        · have h2z : 2 * ((bitsL m).length : Int) ≤ (L.length : Int) := by omega
          have HE : Aside (elT L m = 91 :: (jnL (lets L m) ++ [93])) := by
            show _ = _
            unfold elT
            rw [if_neg h1, if_neg (fun h => hn1 h.1), if_pos ⟨hn0, h2n⟩]
          have hJ := jnL_832 h12 (m)
          have hJ1 : ¬ 9223372036854775807 < 1 + (jnL (lets L (m))).length := by omega
          have hJ2 : ¬ 9223372036854775807 < 1 + (jnL (lets L (m))).length + 1 := by omega
          clear hJ
          generalize allN L = A at *
          try clear hn1
          go_enter Tryd.func19, Tryd.ntmps19
          go_wp2_with fail
          refine cS.mono ?_
          rintro e w' ⟨rfl, hw⟩
          obtain rfl := hw.symm
          go_wp2_with fail
          refine cF.mono ?_
          rintro e w' ⟨rfl, hw⟩
          obtain rfl := hw.symm
          clear cS cF
          go_wp2_with fail
          refine cC.mono ?_
          rintro e w1 ⟨rfl, hb1⟩
          have cS1 := cS0 w1 hb1
          have cL := HLs.out w1 (m) hb1 hm
          clear cC cS0
          go_wp2_with (first | (go_at_call 16; refine cS1.mono ?_; rintro e w' ⟨rfl, hw⟩; obtain rfl := hw.symm) | fail)
          refine cL.mono ?_
          rintro e w2 ⟨rfl, hb2⟩
          have HB2 : Aside (Below W.heap.size W w2) := hb1.trans (hb2.mono hb1.size)
          go_wp2
          go_ret
          exact ⟨by rw [HE.out, ← cat_b]; rfl, HB2.out⟩
        · have h2z : ¬ 2 * ((bitsL m).length : Int) ≤ (L.length : Int) := by omega
          have HE : Aside (elT L m = 91 :: 94 :: (jnL (lets L (notN (allN L) m)) ++ [93])) := by
            show _ = _
            unfold elT
            rw [if_neg h1, if_neg (fun h => hn1 h.1), if_neg (fun h => h2n h.2)]
          have hJ := jnL_832 h12 (notN (allN L) m)
          have hJ1 : ¬ 9223372036854775807 < 2 + (jnL (lets L (notN (allN L) m))).length := by omega
          have hJ2 : ¬ 9223372036854775807 < 2 + (jnL (lets L (notN (allN L) m))).length + 1 := by omega
          clear hJ
          generalize allN L = A at *
          try clear hn1
          go_enter Tryd.func19, Tryd.ntmps19
          go_wp2_with fail
          refine cS.mono ?_
          rintro e w' ⟨rfl, hw⟩
          obtain rfl := hw.symm
          go_wp2_with fail
          refine cF.mono ?_
          rintro e w' ⟨rfl, hw⟩
          obtain rfl := hw.symm
          clear cS cF
          go_wp2_with fail
          refine cC.mono ?_
          rintro e w1 ⟨rfl, hb1⟩
          have cS1 := cS0 w1 hb1
          have cL := HLs.out w1 (notN A m) hb1 hnl
          clear cC cS0
          go_wp2_with (first | (go_at_call 16; refine cS1.mono ?_; rintro e w' ⟨rfl, hw⟩; obtain rfl := hw.symm) | fail)
          refine cL.mono ?_
          rintro e w2 ⟨rfl, hb2⟩
          have HB2 : Aside (Below W.heap.size W w2) := hb1.trans (hb2.mono hb1.size)
          go_wp2
          go_ret
          exact ⟨by rw [HE.out, ← cat_o]; rfl, HB2.out⟩
      · have h0z : ¬ (0 : Int) < ((bitsL m).length : Int) := by omega
        have HE : Aside (elT L m = 91 :: 94 :: (jnL (lets L (notN (allN L) m)) ++ [93])) := by
          show _ = _
          unfold elT
          rw [if_neg h1, if_neg (fun h => hn1 h.1), if_neg (fun h => hn0 h.1)]
        have hJ := jnL_832 h12 (notN (allN L) m)
        have hJ1 : ¬ 9223372036854775807 < 2 + (jnL (lets L (notN (allN L) m))).length := by omega
        have hJ2 : ¬ 9223372036854775807 < 2 + (jnL (lets L (notN (allN L) m))).length + 1 := by omega
        clear hJ
        generalize allN L = A at *
        try clear hn1
        go_enter Tryd.func19, Tryd.ntmps19
        go_wp2_with fail
        refine cS.mono ?_
        rintro e w' ⟨rfl, hw⟩
        obtain rfl := hw.symm
        go_wp2_with fail
        refine cF.mono ?_
        rintro e w' ⟨rfl, hw⟩
        obtain rfl := hw.symm
        clear cS cF
        go_wp2_with fail
        refine cC.mono ?_
        rintro e w1 ⟨rfl, hb1⟩
        have cS1 := cS0 w1 hb1
        have cL := HLs.out w1 (notN A m) hb1 hnl
        clear cC cS0
        go_wp2_with (first | (go_at_call 16; refine cS1.mono ?_; rintro e w' ⟨rfl, hw⟩; obtain rfl := hw.symm) | fail)
        refine cL.mono ?_
        rintro e w2 ⟨rfl, hb2⟩
        have HB2 : Aside (Below W.heap.size W w2) := hb1.trans (hb2.mono hb1.size)
        go_wp2
        go_ret
        exact ⟨by rw [HE.out, ← cat_o]; rfl, HB2.out⟩
  · rw [decide_eq_false hp]
    by_cases hn1 : (bitsL m).length = 1
    · have hnz : (((bitsL m).length : Int) == 1) = true := by rw [hn1]; rfl
      by_cases hn0 : 0 < (bitsL m).length
      · have h0z : (0 : Int) < ((bitsL m).length : Int) := by omega
        by_cases h2n : 2 * (bitsL m).length ≤ L.length
        · have h2z : 2 * ((bitsL m).length : Int) ≤ (L.length : Int) := by omega
          have HE : Aside (elT L m = 91 :: (jnL (lets L m) ++ [93])) := by
            show _ = _
            unfold elT
            rw [if_neg h1, if_neg (fun h => hp h.2), if_pos ⟨hn0, h2n⟩]
          have hJ := jnL_832 h12 (m)
          have hJ1 : ¬ 9223372036854775807 < 1 + (jnL (lets L (m))).length := by omega
          have hJ2 : ¬ 9223372036854775807 < 1 + (jnL (lets L (m))).length + 1 := by omega
          clear hJ
          generalize allN L = A at *
          try clear hn1
          go_enter Tryd.func19, Tryd.ntmps19
          go_wp2_with fail
          refine cS.mono ?_
          rintro e w' ⟨rfl, hw⟩
          obtain rfl := hw.symm
          go_wp2_with fail
          refine cF.mono ?_
          rintro e w' ⟨rfl, hw⟩
          obtain rfl := hw.symm
          clear cS cF
          go_wp2_with fail
          refine cC.mono ?_
          rintro e w1 ⟨rfl, hb1⟩
          have cS1 := cS0 w1 hb1
          have cL := HLs.out w1 (m) hb1 hm
          clear cC cS0
          go_wp2_with (first | (go_at_call 16; refine cS1.mono ?_; rintro e w' ⟨rfl, hw⟩; obtain rfl := hw.symm) | fail)
          refine cL.mono ?_
          rintro e w2 ⟨rfl, hb2⟩
          have HB2 : Aside (Below W.heap.size W w2) := hb1.trans (hb2.mono hb1.size)
          go_wp2
          go_ret
          exact ⟨by rw [HE.out, ← cat_b]; rfl, HB2.out⟩
        · have h2z : ¬ 2 * ((bitsL m).length : Int) ≤ (L.length : Int) := by omega
          have HE : Aside (elT L m = 91 :: 94 :: (jnL (lets L (notN (allN L) m)) ++ [93])) := by
            show _ = _
            unfold elT
            rw [if_neg h1, if_neg (fun h => hp h.2), if_neg (fun h => h2n h.2)]
          have hJ := jnL_832 h12 (notN (allN L) m)
          have hJ1 : ¬ 9223372036854775807 < 2 + (jnL (lets L (notN (allN L) m))).length := by omega
          have hJ2 : ¬ 9223372036854775807 < 2 + (jnL (lets L (notN (allN L) m))).length + 1 := by omega
          clear hJ
          generalize allN L = A at *
          try clear hn1
          go_enter Tryd.func19, Tryd.ntmps19
          go_wp2_with fail
          refine cS.mono ?_
          rintro e w' ⟨rfl, hw⟩
          obtain rfl := hw.symm
          go_wp2_with fail
          refine cF.mono ?_
          rintro e w' ⟨rfl, hw⟩
          obtain rfl := hw.symm
          clear cS cF
          go_wp2_with fail
          refine cC.mono ?_
          rintro e w1 ⟨rfl, hb1⟩
          have cS1 := cS0 w1 hb1
          have cL := HLs.out w1 (notN A m) hb1 hnl
          clear cC cS0
          go_wp2_with (first | (go_at_call 16; refine cS1.mono ?_; rintro e w' ⟨rfl, hw⟩; obtain rfl := hw.symm) | fail)
          refine cL.mono ?_
          rintro e w2 ⟨rfl, hb2⟩
          have HB2 : Aside (Below W.heap.size W w2) := hb1.trans (hb2.mono hb1.size)
          go_wp2
          go_ret
          exact ⟨by rw [HE.out, ← cat_o]; rfl, HB2.out⟩
      · have h0z : ¬ (0 : Int) < ((bitsL m).length : Int) := by omega
        have HE : Aside (elT L m = 91 :: 94 :: (jnL (lets L (notN (allN L) m)) ++ [93])) := by
          show _ = _
          unfold elT
          rw [if_neg h1, if_neg (fun h => hp h.2), if_neg (fun h => hn0 h.1)]
        have hJ := jnL_832 h12 (notN (allN L) m)
        have hJ1 : ¬ 9223372036854775807 < 2 + (jnL (lets L (notN (allN L) m))).length := by omega
        have hJ2 : ¬ 9223372036854775807 < 2 + (jnL (lets L (notN (allN L) m))).length + 1 := by omega
        clear hJ
        generalize allN L = A at *
        try clear hn1
        go_enter Tryd.func19, Tryd.ntmps19
        go_wp2_with fail
        refine cS.mono ?_
        rintro e w' ⟨rfl, hw⟩
        obtain rfl := hw.symm
        go_wp2_with fail
        refine cF.mono ?_
        rintro e w' ⟨rfl, hw⟩
        obtain rfl := hw.symm
        clear cS cF
        go_wp2_with fail
        refine cC.mono ?_
        rintro e w1 ⟨rfl, hb1⟩
        have cS1 := cS0 w1 hb1
        have cL := HLs.out w1 (notN A m) hb1 hnl
        clear cC cS0
        go_wp2_with (first | (go_at_call 16; refine cS1.mono ?_; rintro e w' ⟨rfl, hw⟩; obtain rfl := hw.symm) | fail)
        refine cL.mono ?_
        rintro e w2 ⟨rfl, hb2⟩
        have HB2 : Aside (Below W.heap.size W w2) := hb1.trans (hb2.mono hb1.size)
        go_wp2
        go_ret
        exact ⟨by rw [HE.out, ← cat_o]; rfl, HB2.out⟩
    · have hnz : (((bitsL m).length : Int) == 1) = false := by rw [beq_eq_false_iff_ne]; omega
      by_cases hn0 : 0 < (bitsL m).length
      · have h0z : (0 : Int) < ((bitsL m).length : Int) := by omega
        by_cases h2n : 2 * (bitsL m).length ≤ L.length
        · have h2z : 2 * ((bitsL m).length : Int) ≤ (L.length : Int) := by omega
          have HE : Aside (elT L m = 91 :: (jnL (lets L m) ++ [93])) := by
            show _ = _
            unfold elT
            rw [if_neg h1, if_neg (fun h => hp h.2), if_pos ⟨hn0, h2n⟩]
          have hJ := jnL_832 h12 (m)
          have hJ1 : ¬ 9223372036854775807 < 1 + (jnL (lets L (m))).length := by omega
          have hJ2 : ¬ 9223372036854775807 < 1 + (jnL (lets L (m))).length + 1 := by omega
          clear hJ
          generalize allN L = A at *
          try clear hn1
          go_enter Tryd.func19, Tryd.ntmps19
          go_wp2_with fail
          refine cS.mono ?_
          rintro e w' ⟨rfl, hw⟩
          obtain rfl := hw.symm
          go_wp2_with fail
          refine cF.mono ?_
          rintro e w' ⟨rfl, hw⟩
          obtain rfl := hw.symm
          clear cS cF
          go_wp2_with fail
          refine cC.mono ?_
          rintro e w1 ⟨rfl, hb1⟩
          have cS1 := cS0 w1 hb1
          have cL := HLs.out w1 (m) hb1 hm
          clear cC cS0
          go_wp2_with (first | (go_at_call 16; refine cS1.mono ?_; rintro e w' ⟨rfl, hw⟩; obtain rfl := hw.symm) | fail)
          refine cL.mono ?_
          rintro e w2 ⟨rfl, hb2⟩
          have HB2 : Aside (Below W.heap.size W w2) := hb1.trans (hb2.mono hb1.size)
          go_wp2
          go_ret
          exact ⟨by rw [HE.out, ← cat_b]; rfl, HB2.out⟩
        · have h2z : ¬ 2 * ((bitsL m).length : Int) ≤ (L.length : Int) := by omega
          have HE : Aside (elT L m = 91 :: 94 :: (jnL (lets L (notN (allN L) m)) ++ [93])) := by
            show _ = _
            unfold elT
            rw [if_neg h1, if_neg (fun h => hp h.2), if_neg (fun h => h2n h.2)]
          have hJ := jnL_832 h12 (notN (allN L) m)
          have hJ1 : ¬ 9223372036854775807 < 2 + (jnL (lets L (notN (allN L) m))).length := by omega
          have hJ2 : ¬ 9223372036854775807 < 2 + (jnL (lets L (notN (allN L) m))).length + 1 := by omega
          clear hJ
          generalize allN L = A at *
          try clear hn1
          go_enter Tryd.func19, Tryd.ntmps19
          go_wp2_with fail
          refine cS.mono ?_
          rintro e w' ⟨rfl, hw⟩
          obtain rfl := hw.symm
          go_wp2_with fail
          refine cF.mono ?_
          rintro e w' ⟨rfl, hw⟩
          obtain rfl := hw.symm
          clear cS cF
          go_wp2_with fail
          refine cC.mono ?_
          rintro e w1 ⟨rfl, hb1⟩
          have cS1 := cS0 w1 hb1
          have cL := HLs.out w1 (notN A m) hb1 hnl
          clear cC cS0
          go_wp2_with (first | (go_at_call 16; refine cS1.mono ?_; rintro e w' ⟨rfl, hw⟩; obtain rfl := hw.symm) | fail)
          refine cL.mono ?_
          rintro e w2 ⟨rfl, hb2⟩
          have HB2 : Aside (Below W.heap.size W w2) := hb1.trans (hb2.mono hb1.size)
          go_wp2
          go_ret
          exact ⟨by rw [HE.out, ← cat_o]; rfl, HB2.out⟩
      · have h0z : ¬ (0 : Int) < ((bitsL m).length : Int) := by omega
        have HE : Aside (elT L m = 91 :: 94 :: (jnL (lets L (notN (allN L) m)) ++ [93])) := by
          show _ = _
          unfold elT
          rw [if_neg h1, if_neg (fun h => hp h.2), if_neg (fun h => hn0 h.1)]
        have hJ := jnL_832 h12 (notN (allN L) m)
        have hJ1 : ¬ 9223372036854775807 < 2 + (jnL (lets L (notN (allN L) m))).length := by omega
        have hJ2 : ¬ 9223372036854775807 < 2 + (jnL (lets L (notN (allN L) m))).length + 1 := by omega
        clear hJ
        generalize allN L = A at *
        try clear hn1
        go_enter Tryd.func19, Tryd.ntmps19
        go_wp2_with fail
        refine cS.mono ?_
        rintro e w' ⟨rfl, hw⟩
        obtain rfl := hw.symm
        go_wp2_with fail
        refine cF.mono ?_
        rintro e w' ⟨rfl, hw⟩
        obtain rfl := hw.symm
        clear cS cF
        go_wp2_with fail
        refine cC.mono ?_
        rintro e w1 ⟨rfl, hb1⟩
        have cS1 := cS0 w1 hb1
        have cL := HLs.out w1 (notN A m) hb1 hnl
        clear cC cS0
        go_wp2_with (first | (go_at_call 16; refine cS1.mono ?_; rintro e w' ⟨rfl, hw⟩; obtain rfl := hw.symm) | fail)
        refine cL.mono ?_
        rintro e w2 ⟨rfl, hb2⟩
        have HB2 : Aside (Below W.heap.size W w2) := hb1.trans (hb2.mono hb1.size)
        go_wp2
        go_ret
        exact ⟨by rw [HE.out, ← cat_o]; rfl, HB2.out⟩
end Go.Proofs.YtcocbjipikeebaaDoor.Pts
/-
  hasPlainLetters and Print walked.
-/
namespace Go.Proofs.YtcocbjipikeebaaDoor.Pts
open Go Go.Lib Go.RowKit Utf Msk

theorem bf7_below {T e : TypeId} {B b : Nat} {bs : List Value} {W W' : World} (h : Lib.IsBuilderF T e B b bs W) (hb : Below W.heap.size W W') : Lib.IsBuilderF T e B b bs W' := by
  have key : ∀ {p : Value}, Lib.BuilderAtF T e B b p bs W → Lib.BuilderAtF T e B b p bs W' := by
    rintro p ⟨hB, v, hbk, hown, hne⟩
    refine ⟨hB, v, (hb.block b (Array.getElem?_eq_some_iff.1 hbk).1).trans hbk, ⟨hown.1, ?_⟩, hne⟩
    rcases hown.2 with hn | ⟨g, cap, cur, fz, hv, hbg, hg, rest⟩
    · exact .inl hn
    · exact .inr ⟨g, cap, cur, fz, hv, hbg, (hb.block g (Array.getElem?_eq_some_iff.1 hg).1).trans hg, rest⟩
  exact h.imp key key
theorem strCells_arr (l : List UInt8) : Lib.strCells ⟨l.toArray⟩ = Lib.byteCells l := strCells_bytes _

set_option maxRecDepth 100000 in
set_option maxHeartbeats 1000000 in
theorem hasPlain_any {W : World} {al : Nat} {L : List ByteArray} {rk : List Nat} (hA : IsAlpha W al L rk) (h12 : ∀ x ∈ L, x.size ≤ 12) :
    Calls Tryd.prog 17 #[.pointer (some ⟨al, 0, none⟩)] W fun e w' => e = .returned (.bool (decide (plainL L))) ∧ Below W.heap.size W w' := by
  have cS := size_any hA
  have h40 := hA.small
  have HA : Aside (∀ Z, Below W.heap.size W Z → IsAlpha Z al L rk) := fun Z hb => hA.below hb
  have H12 : Aside (∀ x ∈ L, x.size ≤ 12) := h12
  clear hA h12
  go_enter Tryd.func17, Tryd.ntmps17
  go_wp2_with fail
  refine cS.mono ?_
  rintro e w1 ⟨rfl, hw⟩
  obtain rfl := hw.symm
  clear cS hw
  go_wp2
  go_loopg [6] L.length (fun g1 vi wr => ∃ k : Nat, vi = .int .i64 (k : Int) ∧ k ≤ L.length ∧ L.length - k ≤ g1 ∧ Aside (∀ x ∈ L.take k, Lib.runeCount x = 1) ∧ Aside (Below W.heap.size W wr))
  case atStart => exact ⟨0, rfl, Nat.zero_le _, Nat.le_refl _, fun x hx => by simp at hx, Below.refl _ _⟩
  case round =>
    obtain ⟨k, rfl, hk, hg1, HP, HB⟩ := hrel
    by_cases hlt : k < L.length
    · have hltz : (k : Int) < (L.length : Int) := by omega
      have cN := name7_any (HA.out wr HB.out) k
      have hX : nameAt L (k : Int) = L[k] := by unfold nameAt; rw [if_pos (by omega), Int.toNat_natCast, List.getElem?_eq_getElem hlt]; rfl
      rw [hX] at cN
      have hsz := H12.out _ (List.getElem_mem hlt)
      have HT : Aside (Lib.runeCount L[k] = 1 → ∀ x ∈ L.take (k + 1), Lib.runeCount x = 1) := fun h x hx => by
        rw [List.take_succ_eq_append_getElem hlt, List.mem_append, List.mem_singleton] at hx
        rcases hx with hx | rfl
        · exact HP.out x hx
        · exact h
      have HF : Aside (Lib.runeCount L[k] ≠ 1 → decide (plainL L) = false) := fun h => decide_eq_false fun hh => h (hh _ (List.getElem_mem hlt))
      clear hX
      generalize L[k] = X at *
      go_wp2_with fail
      refine cN.mono ?_
      rintro e w2 ⟨rfl, hb2⟩
      have HB2 : Aside (Below W.heap.size W w2) := HB.out.trans (hb2.mono HB.out.size)
      have cC := Utf.count_any X w2 (by unfold maxLen; omega)
      clear cN hb2
      generalize Lib.runeCount X = rc at *
      go_wp2_with fail
      refine cC.mono ?_
      rintro e w3 ⟨rfl, hb3⟩
      have HB3 : Aside (Below W.heap.size W w3) := HB2.out.trans (hb3.mono HB2.out.size)
      clear cC hb3
      by_cases h1 : rc = 1
      · have HTn : Aside (∀ x ∈ L.take (k + 1), Lib.runeCount x = 1) := HT.out h1
        subst h1
        go_wp2
        go_roundg (L.length - (k + 1))
        case measure => omega
        case rel => exact ⟨k + 1, by go_num, by omega, Nat.le_refl _, HTn, HB3⟩
      · have hz : ((rc : Int) != 1) = true := by rw [bne_iff_ne]; omega
        have HN : Aside (decide (plainL L) = false) := HF.out h1
        clear h1 HF HT HP
        go_wp2
        go_ret
        exact ⟨by rw [HN.out]; rfl, HB3.out⟩
    · have hltz : ¬ (k : Int) < (L.length : Int) := by omega
      obtain rfl : k = L.length := by omega
      have hp := HP.out
      rw [List.take_length] at hp
      have HN : Aside (decide (plainL L) = true) := decide_eq_true hp
      clear hp
      go_wp2
      go_ret
      exact ⟨by rw [HN.out]; rfl, HB.out⟩

theorem hasPlain_nil (W : World) :
    Calls Tryd.prog 17 #[.pointer none] W fun e w' => e = .returned (.bool true) ∧ Below W.heap.size W w' := by
  have cS := size_nil7 W
  go_enter Tryd.func17, Tryd.ntmps17
  go_wp2_with fail
  refine cS.mono ?_
  rintro e w1 ⟨rfl, hw⟩
  obtain rfl := hw.symm
  clear cS hw
  go_wp2
  go_loopg [6] 0 (fun g1 vi wr => vi = .int .i64 0 ∧ wr = W)
  case atStart => exact ⟨rfl, rfl⟩
  case round =>
    obtain ⟨rfl, hww⟩ := hrel
    obtain rfl := hww.symm
    go_wp2
    go_ret
    exact ⟨rfl, Below.refl _ _⟩
theorem hasPlainP_any {W : World} {pa : Option Addr} {L : List ByteArray} (hA : AlphaP W pa L) (h12 : ∀ x ∈ L, x.size ≤ 12) :
    Calls Tryd.prog 17 #[.pointer pa] W fun e w' => e = .returned (.bool (decide (plainL L))) ∧ Below W.heap.size W w' := by
  rcases hA with ⟨al, rk, rfl, hA⟩ | ⟨rfl, rfl⟩
  · exact hasPlain_any hA h12
  · rw [decide_eq_true (show plainL [] from fun x hx => by cases hx)]
    exact hasPlain_nil W

set_option maxRecDepth 100000 in
set_option maxHeartbeats 2000000 in
theorem printP_any {W : World} {pa : Option Addr} {L : List ByteArray} (hA : AlphaP W pa L) (h12 : ∀ x ∈ L, x.size ≤ 12) (hT : Tab W) (ms : List Nat) (hLow : Low ms) (hlen : ms.length ≤ 140737488355328) (ao : Option Addr) (cap : Nat) (hR : ReadsO W ao (msks ms)) :
    Calls Tryd.prog 7 #[.pointer pa, .slice ao ms.length cap] W (PrintQ W L ms) := by
  have hw0 := hT.size
  have cS := sizeP_any hA
  have cF : Calls Tryd.prog 15 #[.int .i64 L.length] W fun e w' => e = .returned (.int .u64 (allN L : Nat)) ∧ w' = W := full_any (L.length : Int) W
  have cP := hasPlainP_any hA h12
  have HEl : Aside (∀ Z (m : Nat), Below W.heap.size W Z → m < 18446744073709551616 → fineM L m → Calls Tryd.prog 19 #[.pointer pa, .bool (decide (plainL L)), .int .u64 m] Z fun e w' => e = .returned (.string ⟨(elT L m).toArray⟩) ∧ Below Z.heap.size Z w') := fun Z m hb hm hf => by
    rcases hA with ⟨al, rk, rfl, hA⟩ | ⟨rfl, rfl⟩
    · exact element_any (hA.below hb) h12 m hm (hT.below hw0 hb)
    · exact absurd rfl hf.1
  have HR : Aside (∀ Z, Below W.heap.size W Z → ReadsO Z ao (msks ms)) := fun Z hb => hR.below hb
  have HLow : Aside (Low ms) := hLow
  have H12 : Aside (∀ x ∈ L, x.size ≤ 12) := h12
  have HF : Aside (∀ m, fineM L m ↔ (allN L ≠ 0 ∧ notN m (allN L) = 0)) := fun m => Iff.rfl
  have hal := allN_lt L
  generalize decide (plainL L) = pb at *
  generalize allN L = A at *
  clear hA hT hR hLow h12
  go_enter Tryd.func7, Tryd.ntmps7
  go_wp2_with fail
  refine cS.mono ?_
  rintro e w1 ⟨rfl, hw⟩
  obtain rfl := hw.symm
  go_wp2_with fail
  refine cF.mono ?_
  rintro e w1 ⟨rfl, hw⟩
  obtain rfl := hw.symm
  clear cS cF
  go_wp2
  go_loopg [19] ms.length (fun g1 vi wr => ∃ k : Nat, vi = .int .i64 (k : Int) ∧ k ≤ ms.length ∧ ms.length - k ≤ g1 ∧ Aside (∀ x ∈ ms.take k, fineM L x) ∧ wr = W)
  case atStart => exact ⟨0, rfl, Nat.zero_le _, Nat.le_refl _, fun x hx => by simp at hx, rfl⟩
  case round =>
    obtain ⟨k, rfl, hk, hg1, HP, hww⟩ := hrel
    obtain rfl := hww.symm
    by_cases hlt : k < ms.length
    · have hltz : (k : Int) < (ms.length : Int) := by omega
      obtain ⟨ga, oa, rfl, _, ec⟩ := HR.out W (Below.refl _ _) k (by rw [msks_len]; exact hlt)
      have ec' : W.cell? ⟨ga, oa + k, none⟩ = some (.int .u64 (ms[k] : Nat)) := by rw [ec]; simp [msks]
      clear ec
      have hm := HLow.out _ (List.getElem_mem hlt)
      have HT2 : Aside (fineM L ms[k] → ∀ x ∈ ms.take (k + 1), fineM L x) := fun h x hx => by
        rw [List.take_succ_eq_append_getElem hlt, List.mem_append, List.mem_singleton] at hx
        rcases hx with hx | rfl
        · exact HP.out x hx
        · exact h
      have HN2 : Aside (¬ fineM L ms[k] → ∃ i, ∃ h : i < ms.length, i = k ∧ (∀ x ∈ ms.take i, fineM L x) ∧ ¬ fineM L ms[i]) := fun h => ⟨k, hlt, rfl, HP.out, h⟩
      have hF2 := HF.out ms[k]
      generalize ms[k] = m at *
      have han := andNot_nat m A hm hal
      by_cases hA0 : A = 0
      · have hz0 : ((A : Int) == 0) = true := by rw [hA0]; rfl
        have HN : Aside (∃ i, ∃ h : i < ms.length, i = k ∧ (∀ x ∈ ms.take i, fineM L x) ∧ ¬ fineM L ms[i]) := HN2.out (fun h => (hF2.1 h).1 hA0)
        clear hA0 hF2 HN2 HT2
        go_wp2
        go_ret3
        obtain ⟨i, hi, hik, h1, h2⟩ := HN.out
        subst hik
        exact ⟨.inl ⟨_, hi, h1, h2, rfl⟩, Below.refl _ _⟩
      · have hz0 : ((A : Int) == 0) = false := by rw [beq_eq_false_iff_ne]; omega
        by_cases hn0 : notN m A = 0
        · have hz1 : ((notN m A : Int) != 0) = false := by rw [hn0]; rfl
          have HTn : Aside (∀ x ∈ ms.take (k + 1), fineM L x) := HT2.out (hF2.2 ⟨hA0, hn0⟩)
          clear hA0 hF2 HN2 HT2 hn0
          go_wp2
          go_roundg (ms.length - (k + 1))
          case measure => omega
          case rel => exact ⟨k + 1, by go_num, by omega, Nat.le_refl _, HTn, rfl⟩
        · have hz1 : ((notN m A : Int) != 0) = true := by rw [bne_iff_ne]; omega
          have HN : Aside (∃ i, ∃ h : i < ms.length, i = k ∧ (∀ x ∈ ms.take i, fineM L x) ∧ ¬ fineM L ms[i]) := HN2.out (fun h => hn0 (hF2.1 h).2)
          clear hA0 hF2 HN2 HT2 hn0
          go_wp2
          go_ret3
          obtain ⟨i, hi, hik, h1, h2⟩ := HN.out
          subst hik
          exact ⟨.inl ⟨_, hi, h1, h2, rfl⟩, Below.refl _ _⟩
    · have hltz : ¬ (k : Int) < (ms.length : Int) := by omega
      obtain rfl : k = ms.length := by omega
      have hp := HP.out
      rw [List.take_length] at hp
      have HAll : Aside (∀ x ∈ ms, fineM L x) := hp
      clear hp HP HF
      by_cases h32 : 32 < ms.length
      · have h32z : (32 : Int) < (ms.length : Int) := by omega
        go_wp2
        go_ret3
        exact ⟨.inr ⟨HAll.out, .inl ⟨h32, rfl⟩⟩, Below.refl _ _⟩
      · have h32z : ¬ (32 : Int) < (ms.length : Int) := by omega
        go_wp2_with fail
        refine cP.mono ?_
        rintro e w1 ⟨rfl, hb1⟩
        have hI0 := isBuilderF_new 52 5 w1
        have hB0 : Below W.heap.size W (w1.alloc (.cells #[.pointer none, .slice none 0 0] 52)) := hb1.trans ((below_box' w1 _).mono hb1.size)
        have HI0 : Aside (Lib.IsBuilderF 52 5 w1.heap.size w1.heap.size (Lib.byteCells (txtL L (ms.take 0))) (w1.alloc (.cells #[.pointer none, .slice none 0 0] 52)) ∧ Below W.heap.size W (w1.alloc (.cells #[.pointer none, .slice none 0 0] 52)) ∧ w1.heap.size ≤ (w1.alloc (.cells #[.pointer none, .slice none 0 0] 52)).heap.size) := ⟨hI0, hB0, by simp⟩
        have HW1 : Aside (W.heap.size ≤ w1.heap.size) := hb1.size
        clear cP hI0 hB0 hb1
        go_wp2
        go_loopg [41] ms.length (fun g1 vi wr => ∃ k : Nat, vi = .int .i64 (k : Int) ∧ k ≤ ms.length ∧ ms.length - k ≤ g1 ∧ Aside (Lib.IsBuilderF 52 5 w1.heap.size w1.heap.size (Lib.byteCells (txtL L (ms.take k))) wr ∧ Below W.heap.size W wr ∧ w1.heap.size ≤ wr.heap.size))
        case atStart => exact ⟨0, rfl, Nat.zero_le _, Nat.le_refl _, HI0⟩
        case round =>
          clear HI0
          obtain ⟨k, rfl, hk, hg1, HI⟩ := hrel
          by_cases hlt : k < ms.length
          · have hltz : (k : Int) < (ms.length : Int) := by omega
            obtain ⟨ga, oa, rfl, _, ec⟩ := HR.out wr HI.out.2.1 k (by rw [msks_len]; exact hlt)
            have ec' : wr.cell? ⟨ga, oa + k, none⟩ = some (.int .u64 (ms[k] : Nat)) := by rw [ec]; simp [msks]
            clear ec
            have hm := HLow.out _ (List.getElem_mem hlt)
            have HX : Aside (txtL L (ms.take (k + 1)) = txtL L (ms.take k) ++ elT L ms[k]) := txtL_next L ms hlt
            have hl1 : (txtL L (ms.take k)).length ≤ 1000 * 32 := by
              have h1 := txtL_len H12.out (ms.take k)
              rw [List.length_take] at h1
              omega
            have hl2 := elT_len H12.out ms[k]
            have cE := HEl.out wr ms[k] HI.out.2.1 hm (HAll.out _ (List.getElem_mem hlt))
            generalize ms[k] = m at *
            go_wp2_with fail
            refine cE.mono ?_
            rintro e w2 ⟨rfl, hb2⟩
            have hI2 := bf7_below HI.out.1 hb2
            have cW := writeString_any w1.heap.size w1.heap.size _ ⟨(elT L m).toArray⟩ w2 hI2 (by rw [Lib.byteCells_length]; show _ + (elT L m).toArray.size ≤ _; rw [List.size_toArray]; omega) (Nat.le_trans HI.out.2.2 hb2.size)
            have HB2 : Aside (Below W.heap.size W w2 ∧ w1.heap.size ≤ w2.heap.size) := ⟨HI.out.2.1.trans (hb2.mono HI.out.2.1.size), Nat.le_trans HI.out.2.2 hb2.size⟩
            clear cE hI2 hb2 hl1 hl2 ec'
            go_wp2_with fail
            refine cW.mono ?_
            rintro e w3 ⟨rfl, hI3, hb3, _⟩
            have HI3 : Aside (Lib.IsBuilderF 52 5 w1.heap.size w1.heap.size (Lib.byteCells (txtL L (ms.take (k + 1)))) w3 ∧ Below W.heap.size W w3 ∧ w1.heap.size ≤ w3.heap.size) := by
              refine ⟨?_, HB2.out.1.trans (hb3.mono HW1.out), Nat.le_trans HB2.out.2 hb3.size⟩
              rw [HX.out, Utf.byteCells_append, ← strCells_arr (elT L m)]
              exact .inr hI3
            clear cW hI3 hb3
            go_wp2
            go_roundg (ms.length - (k + 1))
            case measure => omega
            case rel => exact ⟨k + 1, by go_num, by omega, Nat.le_refl _, HI3⟩
          · have hltz : ¬ (k : Int) < (ms.length : Int) := by omega
            obtain rfl : k = ms.length := by omega
            have hI := HI.out.1
            rw [List.take_length] at hI
            have cT := string_any w1.heap.size w1.heap.size _ wr hI HI.out.2.2
            have HB : Aside (Below W.heap.size W wr) := HI.out.2.1
            clear hI
            go_wp2_with fail
            refine cT.mono ?_
            rintro e w5 ⟨rfl, hb5, _⟩
            have HB5 : Aside (Below W.heap.size W w5) := HB.out.trans (hb5.mono HW1.out)
            go_wp2
            go_ret3
            exact ⟨.inr ⟨HAll.out, .inr ⟨by omega, rfl⟩⟩, HB5.out⟩
theorem print7_any {W : World} {al : Nat} {L : List ByteArray} {rk : List Nat} (hA : IsAlpha W al L rk) (h12 : ∀ x ∈ L, x.size ≤ 12) (hT : Tab W) (ms : List Nat) (hLow : Low ms) (hlen : ms.length ≤ 140737488355328) (ao : Option Addr) (cap : Nat) (hR : ReadsO W ao (msks ms)) :
    Calls Tryd.prog 7 #[.pointer (some ⟨al, 0, none⟩), .slice ao ms.length cap] W (PrintQ W L ms) := printP_any (.inl ⟨al, rk, rfl, hA⟩) h12 hT ms hLow hlen ao cap hR
end Go.Proofs.YtcocbjipikeebaaDoor.Pts
/-
  Layer 10's own look that the program is there at all: a pattern is read and printed.
-/
namespace Go.Proofs.YtcocbjipikeebaaDoor.Pts
open Go Go.Lib Go.RowKit Utf Msk

def fourL : List ByteArray := [⟨#[65]⟩, ⟨#[66]⟩, ⟨#[67]⟩, ⟨#[68]⟩]
theorem name1 {x : UInt8} (h : 65 ≤ x.toNat ∧ x.toNat ≤ 90) (hp : pairs ⟨#[x]⟩ = [(0, x.toNat)]) : nameP ⟨#[x]⟩ := by
  unfold nameP
  rw [hp]
  exact ⟨by simp, by simp, fun y hy => by rw [List.mem_singleton.1 hy]; exact capb h⟩
theorem new_four : newR fourL = (0, 0) := by
  have n1 : nameP ⟨#[65]⟩ := name1 (x := 65) (by decide) (by kernel_rfl)
  have n2 : nameP ⟨#[66]⟩ := name1 (x := 66) (by decide) (by kernel_rfl)
  have n3 : nameP ⟨#[67]⟩ := name1 (x := 67) (by decide) (by kernel_rfl)
  have n4 : nameP ⟨#[68]⟩ := name1 (x := 68) (by decide) (by kernel_rfl)
  rw [newR_few (by decide) (by decide)]
  show newAt fourL 4 0 = _
  rw [newAt_next (L := fourL) (f := 3) (i := 0) (by decide) n1 (by simp [fourL]), newAt_next (L := fourL) (f := 2) (i := 1) (by decide) n2 (by simp [fourL]), newAt_next (L := fourL) (f := 1) (i := 2) (by decide) n3 (by simp [fourL]), newAt_next (L := fourL) (f := 0) (i := 3) (by decide) n4 (by simp [fourL])]
  rfl
theorem four_nodup : fourL.Nodup := by simp [fourL]
theorem four_names : ∀ x ∈ fourL, 1 ≤ x.size ∧ x.size ≤ 12 := by
  intro x hx
  simp only [fourL, List.mem_cons, List.not_mem_nil, or_false] at hx
  rcases hx with rfl | rfl | rfl | rfl <;> decide
def fourT : ByteArray := ⟨#[65, 91, 66, 44, 67, 93, 63]⟩
theorem four_all : allN fourL = 15 := by kernel_rfl
theorem four_fine : ∀ x ∈ ([1, 6, 15] : List Nat), fineM fourL x := by
  intro x hx
  unfold fineM
  rw [four_all]
  simp only [List.mem_cons, List.not_mem_nil, or_false] at hx
  rcases hx with rfl | rfl | rfl <;> exact ⟨by decide, by kernel_rfl⟩
theorem four_pat : patT fourL fourT = (0, 0, [1, 6, 15]) := by kernel_rfl
theorem four_txt : txtL fourL [1, 6, 15] = [65, 91, 66, 44, 67, 93, 63] := by kernel_rfl
theorem four_low : Low [1, 6, 15] := by
  intro x hx
  simp only [List.mem_cons, List.not_mem_nil, or_false] at hx
  rcases hx with rfl | rfl | rfl <;> decide
theorem four_print {W W' : World} {e : Ending} (h : PrintQ W fourL [1, 6, 15] e W') : e = .returned (.tuple #[.string fourT, .int .i64 0, .int .i64 0]) ∧ Below W.heap.size W W' := by
  obtain ⟨⟨i, hi, _, hn, _⟩ | ⟨_, ⟨h32, _⟩ | ⟨_, he⟩⟩, hb⟩ := h
  · exact absurd (four_fine _ (List.getElem_mem hi)) hn
  · exact absurd h32 (by decide)
  · refine ⟨?_, hb⟩
    rw [he, four_txt]
    rfl

set_option maxRecDepth 10000 in
set_option maxHeartbeats 2000000 in
theorem awake10_any (w : World) (hT : Tab w) (hU : Lib.Utf8Tabs 1 2 w) : Calls Tryd.prog 5 #[] w fun e w' => e = .returned (.bool true) ∧ Below w.heap.size w w' := by
  have cN := fun W ao cap h => new_any fourL ao cap W (by decide) h
  rw [new_four] at cN
  have hw0 := hT.size
  have HT : Aside (∀ W, Below w.heap.size w W → Tab W) := fun W hb => hT.below hw0 hb
  have HU : Aside (∀ W, Below w.heap.size w W → Lib.Utf8Tabs 1 2 W) := fun W hb => tabs_below hb (tabs_size hU) hU
  clear hT hU
  go_enter Tryd.func5, Tryd.ntmps5
  go_wp2_with fail
  have hR0 : ReadsO (w.alloc (.cells #[.string ⟨#[65]⟩, .string ⟨#[66]⟩, .string ⟨#[67]⟩, .string ⟨#[68]⟩] 9)) (some ⟨w.heap.size, 0, none⟩) (fourL.map Value.string) := fun j hj => by
    refine ⟨w.heap.size, 0, rfl, by simp, ?_⟩
    rw [Nat.zero_add]
    match j, hj with
    | 0, _ => exact box_at w _ 9 0 rfl
    | 1, _ => exact box_at w _ 9 1 rfl
    | 2, _ => exact box_at w _ 9 2 rfl
    | 3, _ => exact box_at w _ 9 3 rfl
  refine (cN _ _ 4 hR0).mono ?_
  rintro e w1 ⟨⟨v, rfl, _, hv⟩, hb1⟩
  obtain ⟨b, rk, rfl, hA, hRk⟩ := hv trivial
  have HB1 : Aside (Below w.heap.size w w1) := (below_box' w _).trans (hb1.mono (by simp))
  have cR := parse7_any hA.is (HU.out w1 HB1.out) four_nodup (fun x hx => (four_names x hx).1) fourT (by decide)
  rw [four_pat] at cR
  have HA : Aside (∀ W, Below w1.heap.size w1 W → IsAlpha W b fourL rk) := fun W hb => hA.is.below hb
  clear cN hR0 hv hb1 hA hRk
  go_wp2_with fail
  refine cR.mono ?_
  rintro e w2 ⟨⟨h0, _⟩ | ⟨_, v, rfl, hrow⟩, hb2⟩
  · exact absurd rfl h0
  have hrow' : w2.ownsRow w1.heap.size 39 1 v (2 + 1) (msks [1, 6, 15]) := hrow
  obtain ⟨g, cap, rfl⟩ := ownsRow_succ hrow'
  have HB2 : Aside (Below w.heap.size w w2) := HB1.out.trans (hb2.mono HB1.out.size)
  have hg := hrow'.lt g rfl
  have k0 : w2.cell? ⟨g, 0, none⟩ = some (.int .u64 1) := hrow'.cellAt 0 (by decide)
  have k1 : w2.cell? ⟨g, 1, none⟩ = some (.int .u64 6) := hrow'.cellAt 1 (by decide)
  have k2 : w2.cell? ⟨g, 2, none⟩ = some (.int .u64 15) := hrow'.cellAt 2 (by decide)
  have hRd : ReadsO w2 (some ⟨g, 0, none⟩) (msks [1, 6, 15]) := fun j hj => by
    refine ⟨g, 0, rfl, hg.2, ?_⟩
    rw [Nat.zero_add]
    match j, hj with
    | 0, _ => exact k0
    | 1, _ => exact k1
    | 2, _ => exact k2
  have cP : Calls Tryd.prog 7 #[.pointer (some ⟨b, 0, none⟩), .slice (some ⟨g, 0, none⟩) 3 cap] w2 fun e w' => e = .returned (.tuple #[.string fourT, .int .i64 0, .int .i64 0]) ∧ Below w2.heap.size w2 w' :=
    (print7_any (HA.out w2 hb2) (fun x hx => (four_names x hx).2) (HT.out w2 HB2.out) [1, 6, 15] four_low (by decide) (some ⟨g, 0, none⟩) cap hRd).mono fun e w' h => four_print h
  have HRd : Aside (∀ W, Below w2.heap.size w2 W → ReadsO W (some ⟨g, 0, none⟩) (msks [1, 6, 15])) := fun W hb => hRd.below hb
  clear cR hrow hrow' hb2 hg hRd
  have hbe : (fourT.toList == fourT.toList) = true := beq_self_eq_true _
  have hft : fourT = ⟨#[65, 91, 66, 44, 67, 93, 63]⟩ := rfl
  rw [hft] at cP hbe
  clear hft
  go_wp2_with fail
  refine cP.mono ?_
  rintro e w3 ⟨rfl, hb3⟩
  have HB3 : Aside (Below w.heap.size w w3) := HB2.out.trans (hb3.mono HB2.out.size)
  have hR3 := HRd.out w3 hb3
  have hbA := below_box' w3 (.cells #[.int .i64 0, .int .i64 2, .int .i64 3] 3)
  have hRA : ReadsO (w3.alloc (.cells #[.int .i64 0, .int .i64 2, .int .i64 3] 3)) (some ⟨w3.heap.size, 0, none⟩) (ints [0, 2, 3]) := fun j hj => by
    refine ⟨w3.heap.size, 0, rfl, by simp, ?_⟩
    rw [Nat.zero_add]
    match j, hj with
    | 0, _ => exact box_at w3 _ 3 0 rfl
    | 1, _ => exact box_at w3 _ 3 1 rfl
    | 2, _ => exact box_at w3 _ 3 2 rfl
  have cM : Calls Tryd.prog 12 #[.slice (some ⟨g, 0, none⟩) 3 cap, .slice (some ⟨w3.heap.size, 0, none⟩) 3 3] (w3.alloc (.cells #[.int .i64 0, .int .i64 2, .int .i64 3] 3)) fun e w' => e = .returned (.bool true) ∧ Below (w3.alloc (.cells #[.int .i64 0, .int .i64 2, .int .i64 3] 3)).heap.size (w3.alloc (.cells #[.int .i64 0, .int .i64 2, .int .i64 3] 3)) w' :=
    match_any [1, 6, 15] four_low [0, 2, 3] _ cap _ 3 _ (by decide) (hR3.below hbA) hRA
  clear cP hRA k0 k1 k2
  go_wp2_with fail
  refine cM.mono ?_
  rintro e w4 ⟨rfl, hb4⟩
  have hb34 : Below w3.heap.size w3 w4 := hbA.trans (hb4.mono hbA.size)
  have HB4 : Aside (Below w.heap.size w w4) := HB3.out.trans (hb34.mono HB3.out.size)
  have hbB := below_box' w4 (.cells #[.int .i64 0, .int .i64 3, .int .i64 3] 3)
  have hRB : ReadsO (w4.alloc (.cells #[.int .i64 0, .int .i64 3, .int .i64 3] 3)) (some ⟨w4.heap.size, 0, none⟩) (ints [0, 3, 3]) := fun j hj => by
    refine ⟨w4.heap.size, 0, rfl, by simp, ?_⟩
    rw [Nat.zero_add]
    match j, hj with
    | 0, _ => exact box_at w4 _ 3 0 rfl
    | 1, _ => exact box_at w4 _ 3 1 rfl
    | 2, _ => exact box_at w4 _ 3 2 rfl
  have cM2 : Calls Tryd.prog 12 #[.slice (some ⟨g, 0, none⟩) 3 cap, .slice (some ⟨w4.heap.size, 0, none⟩) 3 3] (w4.alloc (.cells #[.int .i64 0, .int .i64 3, .int .i64 3] 3)) fun e w' => e = .returned (.bool false) ∧ Below (w4.alloc (.cells #[.int .i64 0, .int .i64 3, .int .i64 3] 3)).heap.size (w4.alloc (.cells #[.int .i64 0, .int .i64 3, .int .i64 3] 3)) w' :=
    match_any [1, 6, 15] four_low [0, 3, 3] _ cap _ 3 _ (by decide) ((hR3.below hb34).below hbB) hRB
  clear cM hRB hR3 hb3 hb4 hbA hb34
  go_wp2_with fail
  refine cM2.mono ?_
  rintro e w5 ⟨rfl, hb5⟩
  have HB5 : Aside (Below w.heap.size w w5) := HB4.out.trans ((hbB.trans (hb5.mono hbB.size)).mono HB4.out.size)
  clear cM2 hbB hb5
  go_wp2
  go_ret
  exact ⟨rfl, HB5.out⟩
end Go.Proofs.YtcocbjipikeebaaDoor.Pts
