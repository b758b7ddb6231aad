/-
  The document's Print of masks.
-/
import Derived.Test.YtcocbjipikeebaaDoorGpm
import Derived.Test.YtcocbjipikeebaaDoorGpd
import Derived.Test.YtcocbjipikeebaaDoorGref
import Derived.Test.YtcocbjipikeebaaDoorGpr
import Derived.BigQuiet
namespace Go.Proofs.YtcocbjipikeebaaDoor.Pts
open Go Go.Lib Go.RowKit Utf Msk

theorem refCount4_any (m : Nat) (hm : m < 18446744073709551616) (w : World) :
    Calls Tryd.prog 28 #[.int .u64 m] w fun e w' => e = .returned (.int .i64 ((bitsL m).length : Nat)) ∧ Below w.heap.size w w' := by
  have cL := refList_any m hm w
  go_enter Tryd.func28, Tryd.ntmps28
  go_wp2_with fail
  refine cL.mono ?_
  rintro e w1 ⟨v, rfl, ho, hb⟩
  obtain ⟨ao, cap, _, rfl, _⟩ := row_reads7 ho
  have HB : Aside (Below w.heap.size w w1) := hb
  clear cL hb ho
  obtain ⟨n, hn⟩ : ∃ n, (bitsL m).length = n := ⟨_, rfl⟩
  have HN : Aside ((bitsL m).length = n) := hn
  rw [hn]
  clear hn
  go_wp2
  go_ret
  rw [HN.out]
  exact ⟨rfl, HB.out⟩

set_option maxRecDepth 100000 in
set_option maxHeartbeats 2000000 in
theorem refSingle_any (L : List ByteArray) (h12 : ∀ x ∈ L, x.size ≤ 1048576) (al : Option Addr) (cl : Nat) (W : World) (hl : L.length ≤ 1048576) (hR : ReadsO W al (L.map Value.string)) :
    Calls Tryd.prog 29 #[.slice al L.length cl] W fun e w' => e = .returned (.bool (decide (plainL L))) ∧ Below W.heap.size W w' := by
  have HRL : Aside (∀ Z, Below W.heap.size W Z → ReadsO Z al (L.map Value.string)) := fun Z hb => hR.below hb
  have H12 : Aside (∀ x ∈ L, x.size ≤ 1048576) := h12
  clear hR h12
  go_enter Tryd.func29, Tryd.ntmps29
  go_wp2
  go_loopg [3] L.length (fun g1 vi wr => ∃ k : Nat, vi = .int .i64 (k : Int) ∧ k ≤ L.length ∧ L.length - k ≤ g1 ∧ Aside (∀ x ∈ L.take k, Lib.runeCount x = 1) ∧ Aside (Below W.heap.size W wr))
  case atStart => exact ⟨0, rfl, Nat.zero_le _, Nat.le_refl _, fun x hx => by simp at hx, Below.refl _ _⟩
  case round =>
    obtain ⟨k, rfl, hk, hg1, HP, HB⟩ := hrel
    by_cases hlt : k < L.length
    · have hltz : (k : Int) < (L.length : Int) := by omega
      obtain ⟨ga, oa, rfl, _, ec⟩ := HRL.out wr HB.out k (by simpa using hlt)
      rw [List.getElem_map] at ec
      have cC := refCount_any L[k] wr (by have := H12.out _ (List.getElem_mem hlt); omega)
      have HY : Aside (Lib.runeCount L[k] = 1 → ∀ x ∈ L.take (k + 1), Lib.runeCount x = 1) := fun h x hx => by
        rw [List.take_succ_eq_append_getElem hlt, List.mem_append, List.mem_singleton] at hx
        rcases hx with hx | rfl
        · exact HP.out x hx
        · exact h
      have HN : Aside (Lib.runeCount L[k] ≠ 1 → decide (plainL L) = false) := fun h => decide_eq_false fun hp => h (hp _ (List.getElem_mem hlt))
      generalize L[k] = x at *
      generalize Lib.runeCount x = n at *
      go_wp2_with fail
      refine cC.mono ?_
      rintro e w2 ⟨rfl, hb2⟩
      have HB2 : Aside (Below W.heap.size W w2) := HB.out.trans (hb2.mono HB.out.size)
      clear cC hb2 ec
      by_cases hn : n = 1
      · have hnz : ((n : Int) != 1) = false := by rw [bne_eq_false_iff_eq]; omega
        have HY2 : Aside (∀ x ∈ L.take (k + 1), Lib.runeCount x = 1) := HY.out hn
        clear hn HN HY
        go_wp2
        go_roundg (L.length - (k + 1))
        case measure => omega
        case rel => exact ⟨k + 1, by go_num, by omega, Nat.le_refl _, HY2, HB2⟩
      · have hnz : ((n : Int) != 1) = true := by rw [bne_iff_ne]; omega
        have HD : Aside (decide (plainL L) = false) := HN.out hn
        clear hn HN HY
        go_wp2
        go_ret
        rw [HD.out]
        exact ⟨rfl, HB2.out⟩
    · have hltz : ¬ (k : Int) < (L.length : Int) := by omega
      have HD : Aside (decide (plainL L) = true) := decide_eq_true (by
        have := HP.out
        rw [show k = L.length by omega, List.take_length] at this
        exact this)
      go_wp2
      go_ret
      rw [HD.out]
      exact ⟨rfl, HB.out⟩

theorem ba_cat7 (a b : ByteArray) : (a ++ b).data.toList = a.data.toList ++ b.data.toList := by simp
theorem jnL_next (xs : List ByteArray) {k : Nat} (h : k < xs.length) : jnL (xs.take (k + 1)) = if k = 0 then bts xs[k] else jnL (xs.take k) ++ 44 :: bts xs[k] := by
  match xs, h with
  | x :: r, h =>
    match k with
    | 0 => simp [jnL]
    | k + 1 =>
      rw [if_neg (by omega), List.take_succ_cons, List.take_succ_cons, jnL, jnL, flat_next r (by simpa using h), List.append_assoc]
      rfl
theorem lets_at (L : List ByteArray) (m : Nat) {k : Nat} (h : k < (bitsL m).length) (hin : (bitsL m)[k] < L.length) : (lets L m)[k]'(by unfold lets; rw [List.length_map]; exact h) = L[(bitsL m)[k]] := by
  unfold lets
  rw [List.getElem_map, name_of hin]
theorem lets_length (L : List ByteArray) (m : Nat) : (lets L m).length = (bitsL m).length := by unfold lets; rw [List.length_map]
set_option maxRecDepth 100000 in
set_option maxHeartbeats 2000000 in
theorem refLst_any (L : List ByteArray) (h12 : ∀ x ∈ L, x.size ≤ 12) (al : Option Addr) (cl : Nat) (m : Nat) (hm : m < 18446744073709551616) (hin : ∀ i ∈ bitsL m, i < L.length) (W : World) (_hl : L.length ≤ 1048576) (hR : ReadsO W al (L.map Value.string)) :
    Calls Tryd.prog 30 #[.slice al L.length cl, .int .u64 m] W fun e w' => e = .returned (.string ⟨(jnL (lets L m)).toArray⟩) ∧ Below W.heap.size W w' := by
  have cL := refList_any m hm W
  have HRL : Aside (∀ Z, Below W.heap.size W Z → ReadsO Z al (L.map Value.string)) := fun Z hb => hR.below hb
  have h64 := bitsL_le m
  have HIN : Aside (∀ i ∈ bitsL m, i < L.length) := hin
  have H12 : Aside (∀ x ∈ L, x.size ≤ 12) := h12
  have hll := lets_length L m
  have HAT : Aside (∀ k (h : k < (bitsL m).length) (h2 : k < (lets L m).length), (bitsL m)[k] < L.length ∧ ∀ h3 : (bitsL m)[k] < L.length, (lets L m)[k] = L[(bitsL m)[k]]) := fun k h h2 => ⟨hin _ (List.getElem_mem h), fun h3 => lets_at L m h h3⟩
  have HN : Aside (∀ k (h : k < (lets L m).length), jnL ((lets L m).take (k + 1)) = if k = 0 then bts (lets L m)[k] else jnL ((lets L m).take k) ++ 44 :: bts (lets L m)[k]) := fun k h => jnL_next _ h
  generalize lets L m = xs at *
  clear hR hin h12
  go_enter Tryd.func30, Tryd.ntmps30
  go_wp2_with fail
  refine cL.mono ?_
  rintro e w1 ⟨v, rfl, ho, hb1⟩
  obtain ⟨ai, ci, _, rfl, hri⟩ := row_reads7 ho
  have HB1 : Aside (Below W.heap.size W w1) := hb1
  have HRI : Aside (∀ Z, Below w1.heap.size w1 Z → ReadsO Z ai (Msk.nums (bitsL m))) := fun Z hb => hri.below hb
  clear cL ho hri hb1
  generalize bitsL m = bs at *
  obtain ⟨N, hN⟩ : ∃ N, bs.length = N := ⟨_, rfl⟩
  have HBN : Aside (bs.length = N ∧ xs.length = N) := ⟨hN, by rw [hll, hN]⟩
  rw [hN] at h64 ⊢
  clear hll hN
  go_wp2
  go_loopg [6, 7] N (fun g1 vs vi wr => ∃ (k : Nat) (t : ByteArray), vi = .int .i64 (k : Int) ∧ vs = .string t ∧ k ≤ N ∧ N - k ≤ g1 ∧ t.size ≤ 13 * k ∧ Aside (t.data.toList = jnL (xs.take k)) ∧ Aside (Below w1.heap.size w1 wr))
  case atStart => exact ⟨0, ⟨#[]⟩, rfl, rfl, Nat.zero_le _, Nat.le_refl _, Nat.zero_le _, by show _ = _; simp [jnL], Below.refl _ _⟩
  case round =>
    obtain ⟨k, t, rfl, rfl, hk, hg1, hts, HT, HB⟩ := hrel
    by_cases hlt : k < N
    · have hltz : (k : Int) < (N : Int) := by omega
      have hkb : k < bs.length := by rw [HBN.out.1]; exact hlt
      have hkx : k < xs.length := by rw [HBN.out.2]; exact hlt
      obtain ⟨gi, oi, rfl, _, ei⟩ := HRI.out wr HB.out k (by unfold Msk.nums; rw [List.length_map]; exact hkb)
      have ei' : wr.cell? ⟨gi, oi + k, none⟩ = some (.int .i64 (bs[k] : Nat)) := by rw [ei]; simp [Msk.nums]
      obtain ⟨hil, hat0⟩ := HAT.out k hkb hkx
      have hat := hat0 hil
      clear hat0
      have hilz : ((bs[k] : Nat) : Int) < (L.length : Int) := by omega
      obtain ⟨gs, os, rfl, _, es⟩ := HRL.out wr (HB1.out.trans (HB.out.mono HB1.out.size)) bs[k] (by simpa using hil)
      rw [List.getElem_map] at es
      have hnx := HN.out k hkx
      rw [hat] at hnx
      have hsz := H12.out _ (List.getElem_mem hil)
      generalize L[bs[k]] = X at *
      generalize bs[k] = i at *
      clear ei hat hkb hkx
      by_cases hk0 : k = 0
      · subst hk0
        rw [if_pos rfl] at hnx
        rw [Nat.add_zero] at ei'
        have HC : Aside ((t ++ X).data.toList = jnL (xs.take (0 + 1))) := by
          show _ = _
          rw [hnx, ba_cat7, HT.out, List.take_zero]
          rfl
        have hsz2 : (t ++ X).size ≤ 13 * (0 + 1) := by rw [ByteArray.size_append]; omega
        clear hnx HT
        go_wp2_with fail
        go_roundg (N - (0 + 1))
        case measure => omega
        case rel => exact ⟨0 + 1, t ++ X, by go_num, rfl, by omega, Nat.le_refl _, hsz2, HC, HB⟩
      · have hkz : (0 : Int) < (k : Int) := by omega
        rw [if_neg hk0] at hnx
        have hs2 : (t ++ (⟨#[44]⟩ : ByteArray)).size = t.size + 1 := by rw [ByteArray.size_append]; rfl
        have HC : Aside (((t ++ ⟨#[44]⟩) ++ X).data.toList = jnL (xs.take (k + 1))) := by
          show _ = _
          rw [hnx, ba_cat7, ba_cat7, HT.out, List.append_assoc]
          rfl
        have hsz2 : ((t ++ (⟨#[44]⟩ : ByteArray)) ++ X).size ≤ 13 * (k + 1) := by rw [ByteArray.size_append]; omega
        clear hnx HT
        go_wp2_with fail
        go_roundg (N - (k + 1))
        case measure => omega
        case rel => exact ⟨k + 1, (t ++ ⟨#[44]⟩) ++ X, by go_num, rfl, by omega, Nat.le_refl _, hsz2, HC, HB⟩
    · have hltz : ¬ (k : Int) < (N : Int) := by omega
      obtain rfl : k = N := by omega
      have hT := HT.out
      rw [← HBN.out.2, List.take_length] at hT
      have HT2 : Aside (t = ⟨(jnL xs).toArray⟩) := ba_eq (by rw [hT])
      have HF : Aside (Below W.heap.size W wr) := HB1.out.trans (HB.out.mono HB1.out.size)
      clear HT hT hlt
      go_wp2
      go_ret
      rw [← HT2.out]
      exact ⟨rfl, HF.out⟩
end Go.Proofs.YtcocbjipikeebaaDoor.Pts
/-
  The document's Print of masks walked.
-/
namespace Go.Proofs.YtcocbjipikeebaaDoor.Pts
open Go Go.Lib Go.RowKit Utf Msk

theorem fine_meet {L : List ByteArray} (h1 : 1 ≤ L.length) (h40 : L.length ≤ 40) {m : Nat} (hm : m < 18446744073709551616) : fineM L m ↔ m &&& allN L = m := by
  constructor
  · intro h
    refine Nat.eq_of_testBit_eq fun b => ?_
    rw [Nat.testBit_and]
    cases hb : m.testBit b with
    | true => rw [sub_bit hm (allN_lt L) h.2 b hb]; rfl
    | false => rfl
  · intro h
    refine subM_fine h1 h40 (SubM.of hm fun b hb => ?_)
    rw [← h, Nat.testBit_and, Bool.and_eq_true] at hb
    exact hb.2
theorem sub_not {L : List ByteArray} (h40 : L.length ≤ 40) {m : Nat} (hm : m < 18446744073709551616) (h : notN m (allN L) = 0) : m ≤ allN L ∧ allN L - m = notN (allN L) m := by
  have hA : allN L = 2 ^ L.length - 1 := by
    unfold allN fullN
    rw [show (min (L.length : Int) 64).toNat = L.length by omega]
  have hlt : m < 2 ^ L.length := Nat.lt_pow_two_of_testBit m fun i hi => by
    cases hb : m.testBit i with
    | false => rfl
    | true =>
      have := sub_bit hm (allN_lt L) h i hb
      rw [allN_bit h40] at this
      have := of_decide_eq_true this
      omega
  refine ⟨by omega, Nat.eq_of_testBit_eq fun b => ?_⟩
  rw [notN_bit (allN_lt L) hm, allN_bit h40, hA, show 2 ^ L.length - 1 - m = 2 ^ L.length - (m + 1) by omega, Nat.testBit_two_pow_sub_succ hlt]
theorem el_one {L : List ByteArray} {m : Nat} (h1 : (bitsL m).length = 1) (h : ∀ i ∈ bitsL m, i < L.length) : jnL (lets L m) = bts (nameAt L (nthV m 0)) := by
  obtain ⟨i, hb, _, e⟩ := one_bit h1 h
  unfold lets
  rw [hb, e]
  simp [jnL]
theorem lst_size {L : List ByteArray} (h12 : ∀ x ∈ L, x.size ≤ 12) (m : Nat) : (⟨(jnL (lets L m)).toArray⟩ : ByteArray).size ≤ 832 := by
  have h1 := jnL_len (lets_size h12 m)
  have h2 := lets_len L m
  show (jnL (lets L m)).toArray.size ≤ 832
  rw [List.size_toArray]
  omega

set_option maxRecDepth 100000 in
set_option maxHeartbeats 6000000 in
theorem refPrint7_any (L : List ByteArray) (h1 : 1 ≤ L.length) (h40 : L.length ≤ 40) (h12 : ∀ x ∈ L, x.size ≤ 12) (al : Option Addr) (cl : Nat) (p : List Nat) (hlp : Low p) (hpl : p.length ≤ 1048576) (ap : Option Addr) (cp : Nat) (W : World) (hRL : ReadsO W al (L.map Value.string)) (hRp : ReadsO W ap (msks p)) :
    Calls Tryd.prog 9 #[.slice al L.length cl, .slice ap p.length cp] W (PrintQ W L p) := by
  have cF : Calls Tryd.prog 26 #[.int .i64 L.length] W fun e w' => e = .returned (.int .u64 (allN L : Nat)) ∧ w' = W := refFull_any (L.length : Int) W
  have HRP : Aside (∀ Z, Below W.heap.size W Z → ReadsO Z ap (msks p)) := fun Z hb => hRp.below hb
  have HLP : Aside (Low p) := hlp
  have HF : Aside (∀ m, m < 18446744073709551616 → (fineM L m ↔ m &&& allN L = m)) := fun m hm => fine_meet h1 h40 hm
  have HSG : Aside (∀ Z, Below W.heap.size W Z → Calls Tryd.prog 29 #[.slice al L.length cl] Z fun e w' => e = .returned (.bool (decide (plainL L))) ∧ Below Z.heap.size Z w') := fun Z hb => refSingle_any L (fun x hx => by have := h12 x hx; omega) al cl Z (by omega) (hRL.below hb)
  have HLI : Aside (∀ (m : Nat) Z, Below W.heap.size W Z → m < 18446744073709551616 → (∀ i ∈ bitsL m, i < L.length) → ∃ J : ByteArray, J.size ≤ 832 ∧ J.data.toList = jnL (lets L m) ∧ Calls Tryd.prog 30 #[.slice al L.length cl, .int .u64 m] Z fun e w' => e = .returned (.string J) ∧ Below Z.heap.size Z w') := fun m Z hb hm hin => ⟨⟨(jnL (lets L m)).toArray⟩, lst_size h12 m, by simp, refLst_any L h12 al cl m hm hin Z (by omega) (hRL.below hb)⟩
  have HIN : Aside (∀ m, m < 18446744073709551616 → fineM L m → (∀ i ∈ bitsL m, i < L.length) ∧ (∀ i ∈ bitsL (notN (allN L) m), i < L.length) ∧ m ≤ allN L ∧ allN L - m = notN (allN L) m) := fun m hm hf => ⟨bits_in h40 hm hf.2, bits_not h40 hm, (sub_not h40 hm hf.2).1, (sub_not h40 hm hf.2).2⟩
  have HEL : Aside (∀ m, elT L m = if m = allN L then [63] else if (bitsL m).length = 1 ∧ plainL L then bts (nameAt L (nthV m 0)) else if 0 < (bitsL m).length ∧ 2 * (bitsL m).length ≤ L.length then 91 :: (jnL (lets L m) ++ [93]) else 91 :: 94 :: (jnL (lets L (notN (allN L) m)) ++ [93])) := fun m => rfl
  have hal := allN_lt L
  have HPB : Aside (decide (plainL L) = true ↔ plainL L) := decide_eq_true_iff
  generalize decide (plainL L) = pb at *
  generalize allN L = A at *
  clear hRL hRp hlp h12
  obtain ⟨NL, hNL⟩ : ∃ NL, L.length = NL := ⟨_, rfl⟩
  have HNL : Aside (L.length = NL) := hNL
  obtain ⟨NP, hNP⟩ : ∃ NP, p.length = NP := ⟨_, rfl⟩
  have HNP : Aside (p.length = NP) := hNP
  rw [hNL] at h1 h40 cF HSG HLI HEL ⊢
  rw [hNP] at hpl ⊢
  have hL0 : ((NL : Int) == 0) = false := by rw [beq_eq_false_iff_ne]; omega
  clear hNL hNP
  go_enter Tryd.func9, Tryd.ntmps9
  go_wp2_with fail
  refine cF.mono ?_
  rintro e w1 ⟨rfl, hw⟩
  obtain rfl := hw.symm
  clear cF hw
  go_wp2
  go_loopg [8] NP (fun g1 vi wr => ∃ k : Nat, vi = .int .i64 (k : Int) ∧ k ≤ NP ∧ NP - k ≤ g1 ∧ Aside (∀ x ∈ p.take k, fineM L x) ∧ Aside (Below W.heap.size W wr))
  case atStart => exact ⟨0, rfl, Nat.zero_le _, Nat.le_refl _, fun x hx => by simp at hx, Below.refl _ _⟩
  case round =>
    obtain ⟨k, rfl, hk, hg1, HP, HB⟩ := hrel
    by_cases hlt : k < NP
    · have hltz : (k : Int) < (NP : Int) := by omega
      have hkp : k < p.length := by rw [HNP.out]; exact hlt
      obtain ⟨gp, op, rfl, _, ep⟩ := HRP.out wr HB.out k (by rw [msks_len]; exact hkp)
      rw [msks_at hkp] at ep
      have hm := HLP.out _ (List.getElem_mem hkp)
      have cM := fun Z => refMeet4_any p[k] A hm hal Z
      have HFk := HF.out p[k] hm
      have HY : Aside (fineM L p[k] → ∀ x ∈ p.take (k + 1), fineM L x) := fun h x hx => by
        rw [List.take_succ_eq_append_getElem hkp, List.mem_append, List.mem_singleton] at hx
        rcases hx with hx | rfl
        · exact HP.out x hx
        · exact h
      have HNO : Aside (¬ fineM L p[k] → ∃ i, ∃ h : i < p.length, i = k ∧ (∀ x ∈ p.take i, fineM L x) ∧ ¬ fineM L p[i]) := fun h => ⟨k, hkp, rfl, HP.out, h⟩
      generalize p[k] = m at *
      by_cases hmm : m &&& A = m
      · have HY2 : Aside (∀ x ∈ p.take (k + 1), fineM L x) := HY.out (HFk.2 hmm)
        rw [hmm] at cM
        have hne : (((m : Nat) : Int) != ((m : Nat) : Int)) = false := by rw [bne_eq_false_iff_eq]
        clear HFk HY HNO hmm hkp
        go_wp2_with fail
        go_quiet (first | (go_at_call 27; refine Calls.quiet_of_same (cM _)))
        have HB2 : Aside (Below W.heap.size W (wr.drewN nq)) := below_drewN HB.out _
        generalize wr.drewN nq = w2 at *
        go_wp2
        go_roundg (NP - (k + 1))
        case measure => omega
        case rel => exact ⟨k + 1, by go_num, by omega, Nat.le_refl _, HY2, HB2⟩
      · have HNO2 := HNO.out (fun h => hmm (HFk.1 h))
        have HNO3 : Aside (∃ i, ∃ h : i < p.length, i = k ∧ (∀ x ∈ p.take i, fineM L x) ∧ ¬ fineM L p[i]) := HNO2
        generalize m &&& A = ma at *
        have hne : (((ma : Nat) : Int) != ((m : Nat) : Int)) = true := by rw [bne_iff_ne]; omega
        clear HFk HY HNO HNO2 hmm hkp
        go_wp2_with fail
        go_quiet (first | (go_at_call 27; refine Calls.quiet_of_same (cM _)))
        have HB2 : Aside (Below W.heap.size W (wr.drewN nq)) := below_drewN HB.out _
        generalize wr.drewN nq = w2 at *
        go_wp2
        go_ret3
        obtain ⟨i, hi, hik, h1, h2⟩ := HNO3.out
        subst hik
        exact ⟨.inl ⟨_, hi, h1, h2, rfl⟩, HB2.out⟩
    · have hltz : ¬ (k : Int) < (NP : Int) := by omega
      have hp := HP.out
      rw [show k = p.length by rw [HNP.out]; omega, List.take_length] at hp
      have HAll : Aside (∀ x ∈ p, fineM L x) := hp
      clear hp HP HF
      by_cases h32 : 32 < NP
      · have h32z : (32 : Int) < (NP : Int) := by omega
        go_wp2
        go_ret3
        exact ⟨.inr ⟨HAll.out, .inl ⟨by rw [HNP.out]; exact h32, rfl⟩⟩, HB.out⟩
      · have h32z : ¬ (32 : Int) < (NP : Int) := by omega
        generalize wr = w3 at *
        go_wp2
        go_loopg [9, 10] NP (fun g1 vs vi wr => ∃ (k : Nat) (t : ByteArray), vi = .int .i64 (k : Int) ∧ vs = .string t ∧ k ≤ NP ∧ NP - k ≤ g1 ∧ t.size ≤ 1000 * k ∧ Aside (t.data.toList = txtL L (p.take k)) ∧ Aside (Below W.heap.size W wr))
        case atStart => exact ⟨0, ⟨#[]⟩, rfl, rfl, Nat.zero_le _, Nat.le_refl _, Nat.zero_le _, by show _ = _; simp [txtL], HB⟩
        case round =>
          clear HB
          obtain ⟨k, t, rfl, rfl, hk, hg1, hts, HT, HB⟩ := hrel
          by_cases hlt : k < NP
          · have hltz : (k : Int) < (NP : Int) := by omega
            have hkp : k < p.length := by rw [HNP.out]; exact hlt
            have HRk : Aside (∀ Z, Below wr.heap.size wr Z → ReadsO Z ap (msks p)) := fun Z hb => HRP.out Z (HB.out.trans (hb.mono HB.out.size))
            obtain ⟨gp, op, rfl, hgp, ep⟩ := HRk.out wr (Below.refl _ _) k (by rw [msks_len]; exact hkp)
            rw [msks_at hkp] at ep
            have hm := HLP.out _ (List.getElem_mem hkp)
            have hf := HAll.out _ (List.getElem_mem hkp)
            obtain ⟨hin, hno, hle, hsb⟩ := HIN.out _ hm hf
            have hnx := txtL_next L p hkp
            have hel := HEL.out p[k]
            have hone := fun h : (bitsL p[k]).length = 1 => el_one (L := L) (m := p[k]) h hin
            have HEP : Aside (∀ Z, Below wr.heap.size wr Z → Z.cell? ⟨gp, op + k, none⟩ = some (.int .u64 (p[k] : Nat))) := fun Z hb => (hb.cell (p := ⟨gp, op + k, none⟩) hgp).trans ep
            generalize p[k] = m at *
            have hsw : IntKind.u64.wrap ((A : Int) - (m : Int)) = ((notN A m : Nat) : Int) := by rw [IntKind.wrap_u64, ← hsb]; omega
            have hnl := notN_lt (m := m) hal
            have HLm : Aside (∀ Z, Below wr.heap.size wr Z → ∃ J : ByteArray, J.size ≤ 832 ∧ J.data.toList = jnL (lets L m) ∧ Calls Tryd.prog 30 #[.slice al NL cl, .int .u64 m] Z fun e w' => e = .returned (.string J) ∧ Below Z.heap.size Z w') := fun Z hb => HLI.out m Z (HB.out.trans (hb.mono HB.out.size)) hm (fun i hi => by rw [← HNL.out]; exact hin i hi)
            have HLn : Aside (∀ Z, Below wr.heap.size wr Z → ∃ J : ByteArray, J.size ≤ 832 ∧ J.data.toList = jnL (lets L (notN A m)) ∧ Calls Tryd.prog 30 #[.slice al NL cl, .int .u64 (notN A m : Nat)] Z fun e w' => e = .returned (.string J) ∧ Below Z.heap.size Z w') := fun Z hb => HLI.out (notN A m) Z (HB.out.trans (hb.mono HB.out.size)) hnl (fun i hi => by rw [← HNL.out]; exact hno i hi)
            have HSk : Aside (∀ Z, Below wr.heap.size wr Z → Calls Tryd.prog 29 #[.slice al NL cl] Z fun e w' => e = .returned (.bool pb) ∧ Below Z.heap.size Z w') := fun Z hb => HSG.out Z (HB.out.trans (hb.mono HB.out.size))
            have cC := refCount4_any m hm wr
            have hb64 := bitsL_le m
            generalize notN A m = nm at *
            generalize (bitsL m).length = n at *
            have HNX : Aside (txtL L (p.take (k + 1)) = txtL L (p.take k) ++ elT L m) := hnx
            have HEL2 : Aside (elT L m = if m = A then [63] else if n = 1 ∧ plainL L then bts (nameAt L (nthV m 0)) else if 0 < n ∧ 2 * n ≤ NL then 91 :: (jnL (lets L m) ++ [93]) else 91 :: 94 :: (jnL (lets L nm) ++ [93])) := hel
            have HON : Aside (n = 1 → jnL (lets L m) = bts (nameAt L (nthV m 0))) := hone
            clear hin hno hnx hel hone hf hsb hkp HIN HEL HLI HSG HRk
            generalize elT L m = el at *
            have k0 := HEP.out wr (Below.refl _ _)
            go_wp2_with fail
            refine cC.mono ?_
            rintro e w4 ⟨rfl, hb4⟩
            have HB4 : Aside (Below wr.heap.size wr w4) := hb4
            have k1 := HEP.out w4 hb4
            clear cC hb4 k0 ep
            by_cases hma : m = A
            · have hmz : (((m : Nat) : Int) == ((A : Nat) : Int)) = true := by rw [beq_iff_eq]; omega
              have HE : Aside (el = [63]) := by show _ = _; rw [HEL2.out, if_pos hma]
              clear HEL2 HON hma HLm HLn HSk hsw
              have HC : Aside ((t ++ ⟨#[63]⟩).data.toList = txtL L (p.take (k + 1))) := by
                show _ = _
                rw [HNX.out, HE.out, ba_cat7, HT.out]
              have hsz : (t ++ (⟨#[63]⟩ : ByteArray)).size ≤ 1000 * (k + 1) := by rw [ByteArray.size_append]; show t.size + 1 ≤ _; omega
              go_wp2_with fail
              go_roundg (NP - (k + 1))
              case measure => omega
              case rel => exact ⟨k + 1, t ++ ⟨#[63]⟩, by go_num, rfl, by omega, Nat.le_refl _, hsz, HC, HB.out.trans (HB4.out.mono HB.out.size)⟩
            · have hmz : (((m : Nat) : Int) == ((A : Nat) : Int)) = false := by rw [beq_eq_false_iff_ne]; omega
              have HE1 : Aside (el = if n = 1 ∧ plainL L then bts (nameAt L (nthV m 0)) else if 0 < n ∧ 2 * n ≤ NL then 91 :: (jnL (lets L m) ++ [93]) else 91 :: 94 :: (jnL (lets L nm) ++ [93])) := by show _ = _; rw [HEL2.out, if_neg hma]
              clear HEL2 hma
              by_cases hn1 : n = 1
              · have hnz : ((n : Int) == 1) = true := by rw [beq_iff_eq]; omega
                have cS := HSk.out w4 HB4.out
                go_wp2_with fail
                refine cS.mono ?_
                rintro e w5 ⟨rfl, hb5⟩
                have HB5 : Aside (Below wr.heap.size wr w5) := HB4.out.trans (hb5.mono HB4.out.size)
                have k1 := HEP.out w5 HB5.out
                clear cS hb5
                cases pb with
                | true =>
                  have HE : Aside (el = jnL (lets L m)) := by show _ = _; rw [HE1.out, if_pos ⟨hn1, HPB.out.1 rfl⟩, HON.out hn1]
                  clear HE1 HON
                  obtain ⟨J, hJ, hJL, cJ⟩ := HLm.out w5 HB5.out
                  have HC : Aside ((t ++ J).data.toList = txtL L (p.take (k + 1))) := by
                    show _ = _
                    rw [HNX.out, HE.out, ba_cat7, HT.out, hJL]
                  have hsz : (t ++ J).size ≤ 1000 * (k + 1) := by rw [ByteArray.size_append]; omega
                  clear HLm HLn HSk hsw hJL HE HT HNX
                  go_wp2_with fail
                  refine cJ.mono ?_
                  rintro e w6 ⟨rfl, hb6⟩
                  have HB6 : Aside (Below W.heap.size W w6) := HB.out.trans ((HB5.out.trans (hb6.mono HB5.out.size)).mono HB.out.size)
                  clear cJ hb6 k1
                  go_wp2_with fail
                  go_roundg (NP - (k + 1))
                  case measure => omega
                  case rel => exact ⟨k + 1, t ++ J, by go_num, rfl, by omega, Nat.le_refl _, hsz, HC, HB6⟩
                | false =>
                  have HNP2 : Aside (¬ plainL L) := fun h => by have := HPB.out.2 h; cases this
                  by_cases h2 : 2 * n ≤ NL
                  · by_cases h0 : 0 < n
                    · have hnz0 : (0 : Int) < (n : Int) := by omega
                      have h2z : 2 * (n : Int) ≤ (NL : Int) := by omega
                      have HE : Aside (el = 91 :: (jnL (lets L m) ++ [93])) := by show _ = _; rw [HE1.out, if_neg (fun h => HNP2.out h.2), if_pos ⟨h0, h2⟩]
                      clear HE1 HON
                      obtain ⟨J, hJ, hJL, cJ⟩ := HLm.out w5 HB5.out
                      have HC : Aside ((((t ++ ⟨#[91]⟩) ++ J) ++ ⟨#[93]⟩).data.toList = txtL L (p.take (k + 1))) := by
                        show _ = _
                        rw [HNX.out, HE.out, ba_cat7, ba_cat7, ba_cat7, HT.out, hJL]
                        simp
                      have hs1 : (t ++ (⟨#[91]⟩ : ByteArray)).size = t.size + 1 := by rw [ByteArray.size_append]; rfl
                      have hs2 : ((t ++ (⟨#[91]⟩ : ByteArray)) ++ J).size = t.size + 1 + J.size := by rw [ByteArray.size_append, hs1]
                      have hsz : (((t ++ (⟨#[91]⟩ : ByteArray)) ++ J) ++ (⟨#[93]⟩ : ByteArray)).size ≤ 1000 * (k + 1) := by rw [ByteArray.size_append, hs2]; show t.size + 1 + J.size + 1 ≤ _; omega
                      clear HLm HLn HSk hsw hJL HE HT HNX
                      go_wp2_with fail
                      refine cJ.mono ?_
                      rintro e w6 ⟨rfl, hb6⟩
                      have HB6 : Aside (Below W.heap.size W w6) := HB.out.trans ((HB5.out.trans (hb6.mono HB5.out.size)).mono HB.out.size)
                      clear cJ hb6 k1
                      go_wp2_with fail
                      go_roundg (NP - (k + 1))
                      case measure => omega
                      case rel => exact ⟨k + 1, ((t ++ ⟨#[91]⟩) ++ J) ++ ⟨#[93]⟩, by go_num, rfl, by omega, Nat.le_refl _, hsz, HC, HB6⟩
                    · omega
                  · have hnz0 : (0 : Int) < (n : Int) := by omega
                    have h2z : ¬ 2 * (n : Int) ≤ (NL : Int) := by omega
                    have HE : Aside (el = 91 :: 94 :: (jnL (lets L nm) ++ [93])) := by show _ = _; rw [HE1.out, if_neg (fun h => HNP2.out h.2), if_neg (fun h => h2 h.2)]
                    clear HE1 HON
                    obtain ⟨J, hJ, hJL, cJ⟩ := HLn.out w5 HB5.out
                    have HC : Aside ((((t ++ ⟨#[91, 94]⟩) ++ J) ++ ⟨#[93]⟩).data.toList = txtL L (p.take (k + 1))) := by
                      show _ = _
                      rw [HNX.out, HE.out, ba_cat7, ba_cat7, ba_cat7, HT.out, hJL]
                      simp
                    have hs1 : (t ++ (⟨#[91, 94]⟩ : ByteArray)).size = t.size + 2 := by rw [ByteArray.size_append]; rfl
                    have hs2 : ((t ++ (⟨#[91, 94]⟩ : ByteArray)) ++ J).size = t.size + 2 + J.size := by rw [ByteArray.size_append, hs1]
                    have hsz : (((t ++ (⟨#[91, 94]⟩ : ByteArray)) ++ J) ++ (⟨#[93]⟩ : ByteArray)).size ≤ 1000 * (k + 1) := by rw [ByteArray.size_append, hs2]; show t.size + 2 + J.size + 1 ≤ _; omega
                    clear HLm HLn HSk hJL HE HT HNX
                    go_wp2_with fail
                    refine cJ.mono ?_
                    rintro e w6 ⟨rfl, hb6⟩
                    have HB6 : Aside (Below W.heap.size W w6) := HB.out.trans ((HB5.out.trans (hb6.mono HB5.out.size)).mono HB.out.size)
                    clear cJ hb6 k1 hsw
                    go_wp2_with fail
                    go_roundg (NP - (k + 1))
                    case measure => omega
                    case rel => exact ⟨k + 1, ((t ++ ⟨#[91, 94]⟩) ++ J) ++ ⟨#[93]⟩, by go_num, rfl, by omega, Nat.le_refl _, hsz, HC, HB6⟩
              · have hnz : ((n : Int) == 1) = false := by rw [beq_eq_false_iff_ne]; omega
                by_cases h2 : 2 * n ≤ NL
                · by_cases h0 : 0 < n
                  · have hnz0 : (0 : Int) < (n : Int) := by omega
                    have h2z : 2 * (n : Int) ≤ (NL : Int) := by omega
                    have HE : Aside (el = 91 :: (jnL (lets L m) ++ [93])) := by show _ = _; rw [HE1.out, if_neg (fun h => hn1 h.1), if_pos ⟨h0, h2⟩]
                    clear HE1 HON
                    obtain ⟨J, hJ, hJL, cJ⟩ := HLm.out w4 HB4.out
                    have HC : Aside ((((t ++ ⟨#[91]⟩) ++ J) ++ ⟨#[93]⟩).data.toList = txtL L (p.take (k + 1))) := by
                      show _ = _
                      rw [HNX.out, HE.out, ba_cat7, ba_cat7, ba_cat7, HT.out, hJL]
                      simp
                    have hs1 : (t ++ (⟨#[91]⟩ : ByteArray)).size = t.size + 1 := by rw [ByteArray.size_append]; rfl
                    have hs2 : ((t ++ (⟨#[91]⟩ : ByteArray)) ++ J).size = t.size + 1 + J.size := by rw [ByteArray.size_append, hs1]
                    have hsz : (((t ++ (⟨#[91]⟩ : ByteArray)) ++ J) ++ (⟨#[93]⟩ : ByteArray)).size ≤ 1000 * (k + 1) := by rw [ByteArray.size_append, hs2]; show t.size + 1 + J.size + 1 ≤ _; omega
                    clear HLm HLn HSk hsw hJL HE HT HNX
                    go_wp2_with fail
                    refine cJ.mono ?_
                    rintro e w6 ⟨rfl, hb6⟩
                    have HB6 : Aside (Below W.heap.size W w6) := HB.out.trans ((HB4.out.trans (hb6.mono HB4.out.size)).mono HB.out.size)
                    clear cJ hb6 k1
                    go_wp2_with fail
                    go_roundg (NP - (k + 1))
                    case measure => omega
                    case rel => exact ⟨k + 1, ((t ++ ⟨#[91]⟩) ++ J) ++ ⟨#[93]⟩, by go_num, rfl, by omega, Nat.le_refl _, hsz, HC, HB6⟩
                  · have hnz0 : ¬ (0 : Int) < (n : Int) := by omega
                    have HE : Aside (el = 91 :: 94 :: (jnL (lets L nm) ++ [93])) := by show _ = _; rw [HE1.out, if_neg (fun h => hn1 h.1), if_neg (fun h => h0 h.1)]
                    clear HE1 HON
                    obtain ⟨J, hJ, hJL, cJ⟩ := HLn.out w4 HB4.out
                    have HC : Aside ((((t ++ ⟨#[91, 94]⟩) ++ J) ++ ⟨#[93]⟩).data.toList = txtL L (p.take (k + 1))) := by
                      show _ = _
                      rw [HNX.out, HE.out, ba_cat7, ba_cat7, ba_cat7, HT.out, hJL]
                      simp
                    have hs1 : (t ++ (⟨#[91, 94]⟩ : ByteArray)).size = t.size + 2 := by rw [ByteArray.size_append]; rfl
                    have hs2 : ((t ++ (⟨#[91, 94]⟩ : ByteArray)) ++ J).size = t.size + 2 + J.size := by rw [ByteArray.size_append, hs1]
                    have hsz : (((t ++ (⟨#[91, 94]⟩ : ByteArray)) ++ J) ++ (⟨#[93]⟩ : ByteArray)).size ≤ 1000 * (k + 1) := by rw [ByteArray.size_append, hs2]; show t.size + 2 + J.size + 1 ≤ _; omega
                    clear HLm HLn HSk hJL HE HT HNX
                    go_wp2_with fail
                    refine cJ.mono ?_
                    rintro e w6 ⟨rfl, hb6⟩
                    have HB6 : Aside (Below W.heap.size W w6) := HB.out.trans ((HB4.out.trans (hb6.mono HB4.out.size)).mono HB.out.size)
                    clear cJ hb6 k1 hsw
                    go_wp2_with fail
                    go_roundg (NP - (k + 1))
                    case measure => omega
                    case rel => exact ⟨k + 1, ((t ++ ⟨#[91, 94]⟩) ++ J) ++ ⟨#[93]⟩, by go_num, rfl, by omega, Nat.le_refl _, hsz, HC, HB6⟩
                · have hnz0 : (0 : Int) < (n : Int) := by omega
                  have h2z : ¬ 2 * (n : Int) ≤ (NL : Int) := by omega
                  have HE : Aside (el = 91 :: 94 :: (jnL (lets L nm) ++ [93])) := by show _ = _; rw [HE1.out, if_neg (fun h => hn1 h.1), if_neg (fun h => h2 h.2)]
                  clear HE1 HON
                  obtain ⟨J, hJ, hJL, cJ⟩ := HLn.out w4 HB4.out
                  have HC : Aside ((((t ++ ⟨#[91, 94]⟩) ++ J) ++ ⟨#[93]⟩).data.toList = txtL L (p.take (k + 1))) := by
                    show _ = _
                    rw [HNX.out, HE.out, ba_cat7, ba_cat7, ba_cat7, HT.out, hJL]
                    simp
                  have hs1 : (t ++ (⟨#[91, 94]⟩ : ByteArray)).size = t.size + 2 := by rw [ByteArray.size_append]; rfl
                  have hs2 : ((t ++ (⟨#[91, 94]⟩ : ByteArray)) ++ J).size = t.size + 2 + J.size := by rw [ByteArray.size_append, hs1]
                  have hsz : (((t ++ (⟨#[91, 94]⟩ : ByteArray)) ++ J) ++ (⟨#[93]⟩ : ByteArray)).size ≤ 1000 * (k + 1) := by rw [ByteArray.size_append, hs2]; show t.size + 2 + J.size + 1 ≤ _; omega
                  clear HLm HLn HSk hJL HE HT HNX
                  go_wp2_with fail
                  refine cJ.mono ?_
                  rintro e w6 ⟨rfl, hb6⟩
                  have HB6 : Aside (Below W.heap.size W w6) := HB.out.trans ((HB4.out.trans (hb6.mono HB4.out.size)).mono HB.out.size)
                  clear cJ hb6 k1 hsw
                  go_wp2_with fail
                  go_roundg (NP - (k + 1))
                  case measure => omega
                  case rel => exact ⟨k + 1, ((t ++ ⟨#[91, 94]⟩) ++ J) ++ ⟨#[93]⟩, by go_num, rfl, by omega, Nat.le_refl _, hsz, HC, HB6⟩
          · have hltz : ¬ (k : Int) < (NP : Int) := by omega
            have hT := HT.out
            rw [show k = p.length by rw [HNP.out]; omega, List.take_length] at hT
            have HT2 : Aside (t = ⟨(txtL L p).toArray⟩) := ba_eq (by rw [hT])
            clear HT hT
            go_wp2
            go_ret3
            rw [HT2.out]
            exact ⟨.inr ⟨HAll.out, .inr ⟨by rw [HNP.out]; omega, rfl⟩⟩, HB.out⟩
end Go.Proofs.YtcocbjipikeebaaDoor.Pts
