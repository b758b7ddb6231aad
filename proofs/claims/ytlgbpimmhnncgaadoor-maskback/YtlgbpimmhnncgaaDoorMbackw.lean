/-
  MaskBack walked: a set told and made again is itself; a list's numbers are in its set and no others.
-/
import Derived.Test.YtlgbpimmhnncgaaDoorAwk4
namespace Go.Proofs.YtlgbpimmhnncgaaDoor.Msk
open Go Go.Lib Go.RowKit

set_option maxHeartbeats 400000 in
theorem maskBack_walk (zs : List Int) (ao : Option Addr) (cap : Nat) (m : Nat) (w : World) (hl : zs.length ≤ 4611686018427387904) (hR : ReadsI w ao zs) (hm : m < 18446744073709551616) (hT : Tab w) :
    Calls Tryd.prog 4 #[.slice ao zs.length cap, .int .u64 m] w fun e w' => e = .returned (.bool true) ∧ Below w.heap.size w w' := by
  have cA := awake4_any w hT
  go_enter Tryd.func4, Tryd.ntmps4
  go_wp2_with fail
  refine cA.mono ?_
  rintro e w1 ⟨rfl, hb1⟩
  have hT1 := hT.below hT.size hb1
  have cL := list_any m hm w1 hT1
  clear cA
  go_wp2_with fail
  refine cL.mono ?_
  rintro e w2 ⟨v, rfl, hown, hb2⟩
  obtain ⟨ao2, cap2, rfl, _, q⟩ := row_readsI hown
  have hbl := bitsL_le m
  have cO := of_any (ints (bitsL m)) ao2 cap2 w2 (by rw [ints_length]; omega) q
  rw [ofL_back m hm, ints_length] at cO
  have hb12 : Below w.heap.size w w2 := hb1.trans (hb2.mono hb1.size)
  have hT2 := hT.below hT.size hb12
  have hR2 := hR.below hb12
  have cO2 := of_any zs ao cap w2 hl hR2
  have hsl := ofL_lt zs
  clear hown q cL hT1 hb1 hb2
  go_wp2_with fail
  refine cO.mono ?_
  rintro e w3 ⟨rfl, hw⟩
  obtain rfl := hw.symm
  clear cO hw
  go_wp2_with fail
  refine cO2.mono ?_
  rintro e w3 ⟨rfl, hw⟩
  obtain rfl := hw.symm
  clear cO2 hw
  have cL2 := list_any (ofL zs) hsl w2 hT2
  have hin : ∀ i : Nat, i < (bitsL (ofL zs)).length → ((bitsL (ofL zs))[i]?.getD 0) < 64 ∧ (((bitsL (ofL zs))[i]?.getD 0 : Nat) : Int) ∈ zs := fun i hi => by
    rw [List.getElem?_eq_getElem hi, Option.getD_some]
    have := mem_bitsL.1 (List.getElem_mem hi)
    refine ⟨this.1, ?_⟩
    have hb := this.2
    rw [ofL_bit zs _ this.1, decide_eq_true_eq] at hb
    exact hb
  have hso := bitsL_sorted (ofL zs)
  have hbl2 := bitsL_le (ofL zs)
  go_wp2_with fail
  refine cL2.mono ?_
  rintro e w3 ⟨v, rfl, hown, hb2⟩
  obtain ⟨ao3, cap3, rfl, _, q⟩ := row_readsI hown
  have HB : Aside (Below w.heap.size w w3) := hb12.trans (hb2.mono hb12.size)
  clear cL2 hown hb12
  have hR3 := hR.below HB.out
  have HQ : Aside (ReadsI w3 ao3 (ints (bitsL (ofL zs)))) := q
  have HI : Aside (∀ i : Nat, i < (bitsL (ofL zs)).length → ((bitsL (ofL zs))[i]?.getD 0) < 64 ∧ (((bitsL (ofL zs))[i]?.getD 0 : Nat) : Int) ∈ zs) := hin
  have HS : Aside ((bitsL (ofL zs)).Pairwise (· < ·)) := hso
  have HR3 : Aside (ReadsI w3 ao zs) := hR3
  have HBit : Aside (∀ j, j < 64 → (ofL zs).testBit j = decide ((j : Int) ∈ zs)) := fun j hj => ofL_bit zs j hj
  clear q hin hso hR3 hR hR2 hb2 hT hT2
  generalize bitsL (ofL zs) = L at *
  generalize ofL zs = s at *
  go_wp2_with fail
  go_loopg [6, 26] L.length (fun g1 lv iv wr => ∃ (k : Nat) (la : Int), iv = .int .i64 (k : Int) ∧ lv = .int .i64 la ∧ k ≤ L.length ∧ L.length - k ≤ g1 ∧ Aside (∀ j, k ≤ j → j < L.length → la < ((L[j]?.getD 0 : Nat) : Int)) ∧ Aside (Below w3.heap.size w3 wr))
  case atStart => exact ⟨0, -1, rfl, rfl, Nat.zero_le _, Nat.le_refl _, fun j _ _ => by omega, Below.refl _ _⟩
  case round =>
    obtain ⟨k, la, rfl, rfl, hk, hg, HLA, HBr⟩ := hrel
    by_cases hlt : k < L.length
    · have hltz : (k : Int) < (L.length : Int) := by omega
      obtain ⟨g1, o1, rfl, _, e1⟩ := (HQ.out.below HBr.out) k (by rw [ints_length]; exact hlt)
      have hi1 := (HI.out k hlt).1
      have HM : Aside (((L[k]?.getD 0 : Nat) : Int) ∈ zs) := (HI.out k hlt).2
      have hla := HLA.out k (Nat.le_refl _) hlt
      have HLN : Aside (∀ j, k + 1 ≤ j → j < L.length → ((L[k]?.getD 0 : Nat) : Int) < ((L[j]?.getD 0 : Nat) : Int)) := fun j h1 h2 => by
        rw [List.getElem?_eq_getElem hlt, List.getElem?_eq_getElem h2, Option.getD_some, Option.getD_some]
        have := (List.pairwise_iff_getElem.1 HS.out) k j hlt h2 (by omega)
        omega
      have e1' : (ints L)[k]?.getD 0 = ((L[k]?.getD 0 : Nat) : Int) := by simp [ints, List.getElem?_eq_getElem hlt]
      rw [e1'] at e1
      clear e1'
      generalize L[k]?.getD 0 = z at *
      go_wp2_with fail
      go_loopg [9, 32] zs.length (fun g1 fv iv wr => ∃ (i : Nat) (b : Bool), iv = .int .i64 (i : Int) ∧ fv = .bool b ∧ i ≤ zs.length ∧ zs.length - i ≤ g1 ∧ Aside (b = true ↔ (z : Int) ∈ zs.take i) ∧ Aside (Below w3.heap.size w3 wr))
      case atStart => exact ⟨0, false, rfl, rfl, Nat.zero_le _, Nat.le_refl _, ⟨(fun h => absurd h (by decide)), (fun h => absurd h (by simp))⟩, HBr⟩
      case round =>
        obtain ⟨i, b, rfl, rfl, hi, hgi, HF, HBi⟩ := hrel
        by_cases hit : i < zs.length
        · have hitz : (i : Int) < (zs.length : Int) := by omega
          obtain ⟨g2, o2, rfl, _, e2⟩ := (HR3.out.below HBi.out) i hit
          have HF2 : Aside ((z : Int) ∈ zs.take (i + 1) ↔ b = true ∨ zs[i]?.getD 0 = (z : Int)) := by
            show _ ↔ _
            rw [List.take_succ_eq_append_getElem hit, List.mem_append, HF.out, List.mem_singleton, List.getElem?_eq_getElem hit, Option.getD_some]
            exact ⟨fun h => h.imp id Eq.symm, fun h => h.imp id Eq.symm⟩
          generalize zs[i]?.getD 0 = x at *
          cases b with
          | true =>
            go_wp2
            go_roundg (zs.length - (i + 1))
            case measure => omega
            case rel => exact ⟨i + 1, true, by go_num, rfl, by omega, Nat.le_refl _, ⟨fun _ => HF2.out.2 (by simp), fun _ => rfl⟩, HBi⟩
          | false =>
            by_cases hxz : x = (z : Int)
            · subst hxz
              go_wp2
              go_roundg (zs.length - (i + 1))
              case measure => omega
              case rel => exact ⟨i + 1, true, by go_num, rfl, by omega, Nat.le_refl _, ⟨fun _ => HF2.out.2 (by simp), fun _ => rfl⟩, HBi⟩
            · have hxb : (x == (z : Int)) = false := by rw [beq_eq_false_iff_ne]; exact hxz
              go_wp2
              go_roundg (zs.length - (i + 1))
              case measure => omega
              case rel => exact ⟨i + 1, false, by go_num, rfl, by omega, Nat.le_refl _, ⟨(fun h => absurd h (by decide)), fun h => (HF2.out.1 h).elim (fun h => h) (fun h => absurd h hxz)⟩, HBi⟩
        · have hitz : ¬ (i : Int) < (zs.length : Int) := by omega
          obtain rfl : b = true := HF.out.2 (by rw [List.take_of_length_le (by omega)]; exact HM.out)
          go_wp2
          go_roundg (L.length - (k + 1))
          case measure => omega
          case rel => exact ⟨k + 1, z, by go_num, rfl, by omega, Nat.le_refl _, HLN, HBi⟩
    · have hltz : ¬ (k : Int) < (L.length : Int) := by omega
      go_wp2_with fail
      go_loopg [58] zs.length (fun g1 iv wr => ∃ (i : Nat), iv = .int .i64 (i : Int) ∧ i ≤ zs.length ∧ zs.length - i ≤ g1 ∧ Aside (Below w3.heap.size w3 wr))
      case atStart => exact ⟨0, rfl, Nat.zero_le _, Nat.le_refl _, HBr⟩
      case round =>
        obtain ⟨i, rfl, hi, hgi, HBi⟩ := hrel
        by_cases hit : i < zs.length
        · have hitz : (i : Int) < (zs.length : Int) := by omega
          obtain ⟨g2, o2, rfl, _, e2⟩ := (HR3.out.below HBi.out) i hit
          have HM : Aside (zs[i]?.getD 0 ∈ zs) := by
            show _ ∈ _
            rw [List.getElem?_eq_getElem hit, Option.getD_some]
            exact List.getElem_mem hit
          generalize zs[i]?.getD 0 = x at *
          have cH : ∀ W : World, Calls Tryd.prog 16 #[.int .u64 s, .int .i64 x] W fun e w' => e = .returned (.bool (decide (0 ≤ x ∧ x < 64))) ∧ w' = W := fun W => by
            have := has_any s x W hsl
            by_cases h : 0 ≤ x ∧ x < 64
            · rw [decide_eq_true h, Bool.true_and, HBit.out x.toNat (by omega), show ((x.toNat : Nat) : Int) = x by omega, decide_eq_true HM.out] at this
              rw [decide_eq_true h]
              exact this
            · rw [decide_eq_false h, Bool.false_and] at this
              rw [decide_eq_false h]
              exact this
          by_cases h : 0 ≤ x ∧ x < 64
          · rw [decide_eq_true h] at cH
            have h1 := h.1
            have h2 : x ≤ 63 := by omega
            go_wp2_with (go_at_call 16; refine (cH _).mono ?_; rintro e w' ⟨rfl, hw⟩; obtain rfl := hw.symm)
            go_roundg (zs.length - (i + 1))
            case measure => omega
            case rel => exact ⟨i + 1, by go_num, by omega, Nat.le_refl _, HBi⟩
          · rw [decide_eq_false h] at cH
            by_cases h1 : 0 ≤ x
            · have h2 : ¬ x ≤ 63 := by omega
              go_wp2_with (go_at_call 16; refine (cH _).mono ?_; rintro e w' ⟨rfl, hw⟩; obtain rfl := hw.symm)
              go_roundg (zs.length - (i + 1))
              case measure => omega
              case rel => exact ⟨i + 1, by go_num, by omega, Nat.le_refl _, HBi⟩
            · go_wp2_with (go_at_call 16; refine (cH _).mono ?_; rintro e w' ⟨rfl, hw⟩; obtain rfl := hw.symm)
              go_roundg (zs.length - (i + 1))
              case measure => omega
              case rel => exact ⟨i + 1, by go_num, by omega, Nat.le_refl _, HBi⟩
        · have hitz : ¬ (i : Int) < (zs.length : Int) := by omega
          go_wp2
          go_ret
          exact ⟨rfl, HB.out.trans (HBi.out.mono HB.out.size)⟩
end Go.Proofs.YtlgbpimmhnncgaaDoor.Msk
