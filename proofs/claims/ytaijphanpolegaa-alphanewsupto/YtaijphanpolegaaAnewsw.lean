/-
  The law on New walked: for every list of up to 1048576 texts of up to 1048576 bytes it answers true.
-/
import Derived.Test.YtaijphanpolegaaAwk3
import Derived.Test.YtaijphanpolegaaRnw
import Derived.Test.YtaijphanpolegaaLnt
namespace Go.Proofs.Ytaijphanpolegaa.Utf
open Go Go.Lib Go.RowKit

set_option maxHeartbeats 1000000 in
theorem sameTexts_any (zs : List ByteArray) (a1 a2 : Option Addr) (c1 c2 : Nat) (w : World) (hl : zs.length ≤ 16777216) (h1 : ReadsO w a1 (zs.map Value.string)) (h2 : ReadsO w a2 (zs.map Value.string)) :
    Calls Try.prog 13 #[.slice a1 zs.length c1, .slice a2 zs.length c2] w fun e w' => e = .returned (.bool true) ∧ Below w.heap.size w w' := by
  go_enter Try.func13, Try.ntmps13
  go_wp2
  go_loopg [5] zs.length (fun g1 iv wr => ∃ k : Nat, iv = .int .i64 (k : Int) ∧ k ≤ zs.length ∧ zs.length - k ≤ g1 ∧ Aside (Below w.heap.size w wr))
  case atStart => exact ⟨0, rfl, Nat.zero_le _, Nat.le_refl _, Below.refl _ _⟩
  case round =>
    obtain ⟨k, rfl, hk, hg, hB⟩ := hrel
    by_cases hlt : k < zs.length
    · have hltz : (k : Int) < (zs.length : Int) := by omega
      obtain ⟨g1, o1, rfl, _, e1⟩ := (h1.below hB.out) k (by simpa using hlt)
      obtain ⟨g2, o2, rfl, _, e2⟩ := (h2.below hB.out) k (by simpa using hlt)
      rw [List.getElem_map] at e1 e2
      clear h1 h2
      generalize zs[k] = z at *
      go_wp2
      go_quiet (fail)
      go_wp2
      go_roundg (zs.length - (k + 1))
      case measure => omega
      case rel => exact ⟨k + 1, by go_num, by omega, Nat.le_refl _, below_drewN hB.out _⟩
    · have hltz : ¬ (k : Int) < (zs.length : Int) := by omega
      go_wp2
      go_ret
      exact ⟨rfl, hB.out⟩

/-- "no letter". -/
def noLetter : ByteArray := ⟨#[110, 111, 32, 108, 101, 116, 116, 101, 114]⟩
theorem pairs_no : (pairs noLetter).length = 9 := by kernel_rfl
theorem no_name : ¬ nameP noLetter := fun h => by
  have := h.2.1
  rw [pairs_no] at this
  omega
theorem nameAt_neg (L : List ByteArray) : nameAt L (-1) = ⟨#[]⟩ := by unfold nameAt; rw [if_neg (by omega)]
theorem nameAt_end (L : List ByteArray) : nameAt L (L.length : Int) = ⟨#[]⟩ := by unfold nameAt; rw [if_pos (by omega), Int.toNat_natCast, List.getElem?_eq_none (Nat.le_refl _)]; rfl
theorem nameAt_in (L : List ByteArray) (k : Nat) (h : k < L.length) : nameAt L (k : Int) = L[k] := by unfold nameAt; rw [if_pos (by omega), Int.toNat_natCast, List.getElem?_eq_getElem h]; rfl
theorem reads_front {W : World} {ao : Option Addr} {xs ys : List Value} (h : Reads W ao (xs ++ ys)) : Reads W ao xs := fun j hj => by
  obtain ⟨g, h1, h2, h3⟩ := h j (by rw [List.length_append]; omega)
  exact ⟨g, h1, h2, by rw [h3, List.getElem_append_left hj]⟩

set_option maxRecDepth 100000 in
set_option maxHeartbeats 4000000 in
theorem alphaNews_walk (L : List ByteArray) (ao : Option Addr) (cap : Nat) (w : World) (hlen : L.length ≤ 1048576) (hsm : ∀ s ∈ L, s.size ≤ 1048576) (hcap : L.length ≤ cap) (hao : ao = none → cap = 0) (hR : ReadsO w ao (L.map Value.string)) :
    Calls Try.prog 3 #[.slice ao L.length cap] w fun e w' => e = .returned (.bool true) ∧ Below w.heap.size w w' := by
  have cA := awake3_any w
  have HRB : Aside (∀ W, Below w.heap.size w W → ReadsO W ao (L.map Value.string)) := fun W hb => hR.below hb
  go_enter Try.func3, Try.ntmps3
  go_wp2_with fail
  refine cA.mono ?_
  rintro e w1 ⟨rfl, hb1⟩
  have cL := lent_any L ao cap w1 (by omega) hao (HRB.out _ hb1)
  clear cA hR
  go_wp2_with fail
  refine cL.mono ?_
  rintro e w2 ⟨⟨g, rfl, og⟩, hb2⟩
  have hw1 : w.heap.size ≤ w1.heap.size := hb1.size
  have hgl := og.lt g rfl
  have hB2 : Below w.heap.size w w2 := hb1.trans (hb2.mono hw1)
  have hq : Reads w2 (some ⟨g, 0, none⟩) (L.map Value.string ++ [.string spareT]) := by
    obtain ⟨ao', cap', e', q⟩ := row_reads og
    injection e' with e1 _ _
    rw [e1]; exact q
  have cN := new_any L (some ⟨g, 0, none⟩) (L.length + 1) w2 (by omega) (reads_front hq).any
  clear cL hb2
  go_wp2_with fail
  refine cN.mono ?_
  rintro e w3 ⟨⟨v, rfl, hv1, hv2⟩, hb3⟩
  have hB3 : Below w.heap.size w w3 := hB2.trans (hb3.mono hB2.size)
  have og3 := row_keeps og hb3
  have cF := refNew_any L ao cap w3 hcap (by omega) (fun s hs => by have := hsm s hs; omega) (HRB.out _ hB3)
  clear cN og hq
  have hG := @new_good L
  generalize (newR L).1 = N1 at *
  generalize (newR L).2 = E at *
  go_wp2_with fail
  refine cF.mono ?_
  rintro e w4 ⟨rfl, hb4⟩
  have hB4 : Below w.heap.size w w4 := hB3.trans (hb4.mono hB3.size)
  have og4 := row_keeps og3 hb4
  have hq4 : Reads w4 (some ⟨g, 0, none⟩) (L.map Value.string ++ [.string spareT]) := by
    obtain ⟨ao', cap', e', q⟩ := row_reads og4
    injection e' with e1 _ _
    rw [e1]; exact q
  have cT := sameTexts_any L (some ⟨g, 0, none⟩) ao (L.length + 1) cap w4 (by omega) (reads_front hq4).any (HRB.out _ hB4)
  clear cF og3 hq4 hsm
  have hgb : w.heap.size ≤ g := by omega
  have hgl2 : g < w2.heap.size := hgl.2
  clear hgl
  by_cases hE : E = 0
  · subst hE
    obtain ⟨b, rk, rfl, hA, hRk⟩ := hv2 rfl
    obtain ⟨hl1, hl40, hnm, hnd⟩ := hG rfl
    have HA4 : Aside (AlphaFrom w4 w2.heap.size b L rk) := hA.below hb4
    have HNM : Aside ((∀ s ∈ L, nameP s) ∧ L.Nodup) := ⟨hnm, hnd⟩
    clear hv1 hv2 hG hA hRk hb3 hb4 hnm hnd
    go_wp2_with (go_at_call 13; refine cT.mono ?_; rintro e w5 ⟨rfl, hb5⟩; have HB5 : Aside (Below w4.heap.size w4 w5) := hb5; have og5 := row_keeps og4 hb5; have cs5 : w5.cell? ⟨g, L.length, none⟩ = some (.string ⟨#[115, 112, 97, 114, 101]⟩) := (by rw [og5.cellAt L.length (by omega)]; simp [spareT]); clear hb5)
    have hB5 : Below w.heap.size w w5 := hB4.trans (HB5.out.mono hB4.size)
    have HA5 : Aside (AlphaFrom w5 w2.heap.size b L rk) := HA4.out.below HB5.out
    clear HA4
    clear cs5 HB5 og4 cT
    go_loopg [66] L.length (fun g1 iv wr => ∃ (i : Nat) (ys : List Value), iv = .int .i64 (i : Int) ∧ i ≤ L.length ∧ L.length - i ≤ g1 ∧ wr.ownsRow w1.heap.size 9 1 (.slice (some ⟨g, 0, none⟩) (L.length + 1) (L.length + 1)) (L.length + 1) ys ∧ Aside (Below w.heap.size w wr) ∧ Aside (AlphaFrom wr w2.heap.size b L rk))
    case atStart => exact ⟨0, _, rfl, Nat.zero_le _, Nat.le_refl _, og5, hB5, HA5⟩
    case round =>
      clear og5 hB5
      obtain ⟨i, ys, rfl, hi, hg1, og, hB, HA⟩ := hrel
      by_cases hlt : i < L.length
      · have hltz : (i : Int) < (L.length : Int) := by omega
        have hyl : ys.length = (L.length + 1) * 1 := og.1
        obtain ⟨u, hcg⟩ : ∃ u, wr.cell? ⟨g, i, none⟩ = some u := ⟨ys[i]'(by omega), by rw [og.cellAt i (by omega)]; exact List.getElem?_eq_getElem (by omega)⟩
        have hfg := og.frozenAt i
        obtain ⟨st1, st2⟩ := og.stored i (.string ⟨#[33]⟩)
        have HBn : Aside (Below w.heap.size w (wr.setCell ⟨g, i, none⟩ (.string ⟨#[33]⟩))) := hB.out.setCell (p := ⟨g, i, none⟩) hgb _
        have HAn : Aside (AlphaFrom (wr.setCell ⟨g, i, none⟩ (.string ⟨#[33]⟩)) w2.heap.size b L rk) := HA.out.above st2.size (fun k h1 h2 => st2.block k h2 (fun e => by injection e with e; omega))
        clear og st2 hyl
        go_wp2
        go_roundg (L.length - (i + 1))
        case measure => omega
        case rel => exact ⟨i + 1, _, by go_num, by omega, Nat.le_refl _, st1, HBn, HAn⟩
      · have hltz : ¬ (i : Int) < (L.length : Int) := by omega
        clear og
        have HAB : Aside (∀ W, Below wr.heap.size wr W → IsAlpha W b L rk) := fun W h => (HA.out.below h).is
        have cS := size_any (HAB.out wr (Below.refl _ _))
        have cM := fun W (h : Below wr.heap.size wr W) (z : Int) (h0 : -9223372036854775808 ≤ z) (h1 : z ≤ 9223372036854775807) => name_any (HAB.out W h) z h0 h1
        have cM1 := cM wr (Below.refl _ _) (-1) (by omega) (by omega)
        rw [nameAt_neg] at cM1
        have cM2 := fun W h => cM W h (L.length : Int) (by omega) (by omega)
        rw [nameAt_end] at cM2
        clear HA hlt hg1
        have HCM : Aside _ := cM
        clear cM
        go_wp2_with fail
        refine cS.mono ?_
        rintro e w' ⟨rfl, hw⟩
        obtain rfl := hw.symm
        go_wp2_with fail
        refine cM1.mono ?_
        rintro e w6 ⟨rfl, hb6⟩
        have cM3 := cM2 w6 hb6
        have HB6 : Aside (Below wr.heap.size wr w6) := hb6
        clear hb6
        go_wp2_with fail
        refine cM3.mono ?_
        rintro e w7 ⟨rfl, hb7⟩
        have HB7 : Aside (Below wr.heap.size wr w7) := HB6.out.trans (hb7.mono HB6.out.size)
        clear hb7 cM3
        go_wp2
        clear cS cM1 cM2
        go_loopg [102] L.length (fun g1 iv wq => ∃ k : Nat, iv = .int .i64 (k : Int) ∧ k ≤ L.length ∧ L.length - k ≤ g1 ∧ Aside (Below wr.heap.size wr wq))
        case atStart => exact ⟨0, rfl, Nat.zero_le _, Nat.le_refl _, HB7⟩
        case round =>
          obtain ⟨k, rfl, hk, hg1, hBq⟩ := hrel
          rename World => wq
          have hBw : Below w.heap.size w wq := hB.out.trans (hBq.out.mono hB.out.size)
          by_cases hlt : k < L.length
          · have hltz : (k : Int) < (L.length : Int) := by omega
            obtain ⟨ga, oa, rfl, _, ec⟩ := (HRB.out _ hBw) k (by simpa using hlt)
            rw [List.getElem_map] at ec
            have cU := number_any (HAB.out _ hBq.out) L[k]
            have cQ := fun W (h : Below wr.heap.size wr W) => HCM.out W h (k : Int) (by omega) (by omega)
            rw [nameAt_in L k hlt] at cQ
            have HU : Aside (∀ e, NumAt L L[k] e → e = .returned (.tuple #[.int .i64 (k : Int), .bool true])) := fun e h => by
              obtain ⟨k', t, rfl, h1, h2⟩ := h
              cases t with
              | false => exact absurd (List.getElem_mem hlt) (h1 rfl).2
              | true =>
                obtain ⟨hk', e'⟩ := List.getElem?_eq_some_iff.1 (h2 rfl)
                obtain rfl : k' = k := (List.getElem_inj (h₀ := hk') (h₁ := hlt) HNM.out.2).1 e'
                rfl
            generalize L[k] = X at *
            go_wp2_with (first
              | (go_at_call 16; refine cU.mono ?_; rintro e w8 ⟨hn, hb8⟩; obtain rfl := HU.out e hn; have HB8 : Aside (Below wr.heap.size wr w8) := hBq.out.trans (hb8.mono hBq.out.size); clear hb8 hn)
              | (go_at_call 15; refine (cQ _ HB8.out).mono ?_; rintro e w9 ⟨rfl, hb9⟩; have HB9 : Aside (Below wr.heap.size wr w9) := HB8.out.trans (hb9.mono HB8.out.size); clear hb9))
            go_roundg (L.length - (k + 1))
            case measure => omega
            case rel => exact ⟨k + 1, by go_num, by omega, Nat.le_refl _, HB9⟩
          · have hltz : ¬ (k : Int) < (L.length : Int) := by omega
            have cU := number_any (HAB.out _ hBq.out) noLetter
            have HU : Aside (∀ e, NumAt L noLetter e → e = .returned (.tuple #[.int .i64 0, .bool false])) := fun e h => by
              obtain ⟨k', t, rfl, h1, h2⟩ := h
              cases t with
              | false => obtain ⟨rfl, _⟩ := h1 rfl; rfl
              | true => exact absurd (HNM.out.1 _ (List.mem_of_getElem? (h2 rfl))) no_name
            have HBW : Aside (Below w.heap.size w wq) := hBw
            clear hBw
            go_wp2_with (first
              | (go_at_call 16; refine cU.mono ?_; rintro e w8 ⟨hn, hb8⟩; obtain rfl := HU.out e hn; have HB8 : Aside (Below w.heap.size w w8) := HBW.out.trans (hb8.mono HBW.out.size); clear hb8 hn))
            go_ret
            exact ⟨rfl, HB8.out⟩
  · obtain rfl := hv1 hE
    have hEb : (E == 0) = false := by rw [beq_eq_false_iff_ne]; exact hE
    have hEb2 : (E != 0) = true := by rw [bne, hEb]; rfl
    clear hv1 hv2 hG hb3 hb4 hE
    go_wp2_with (go_at_call 13; refine cT.mono ?_; rintro e w5 ⟨rfl, hb5⟩; have HB5 : Aside (Below w4.heap.size w4 w5) := hb5; have og5 := row_keeps og4 hb5; have cs5 : w5.cell? ⟨g, L.length, none⟩ = some (.string ⟨#[115, 112, 97, 114, 101]⟩) := (by rw [og5.cellAt L.length (by omega)]; simp [spareT]); clear hb5)
    have hB5 : Below w.heap.size w w5 := hB4.trans (HB5.out.mono hB4.size)
    clear cs5 HB5 og4 cT
    go_loopg [66] L.length (fun g1 iv wr => ∃ (i : Nat) (ys : List Value), iv = .int .i64 (i : Int) ∧ i ≤ L.length ∧ L.length - i ≤ g1 ∧ wr.ownsRow w1.heap.size 9 1 (.slice (some ⟨g, 0, none⟩) (L.length + 1) (L.length + 1)) (L.length + 1) ys ∧ Aside (Below w.heap.size w wr))
    case atStart => exact ⟨0, _, rfl, Nat.zero_le _, Nat.le_refl _, og5, hB5⟩
    case round =>
      clear og5 hB5
      obtain ⟨i, ys, rfl, hi, hg1, og, hB⟩ := hrel
      by_cases hlt : i < L.length
      · have hltz : (i : Int) < (L.length : Int) := by omega
        have hyl : ys.length = (L.length + 1) * 1 := og.1
        obtain ⟨u, hcg⟩ : ∃ u, wr.cell? ⟨g, i, none⟩ = some u := ⟨ys[i]'(by omega), by rw [og.cellAt i (by omega)]; exact List.getElem?_eq_getElem (by omega)⟩
        have hfg := og.frozenAt i
        obtain ⟨st1, st2⟩ := og.stored i (.string ⟨#[33]⟩)
        have HBn : Aside (Below w.heap.size w (wr.setCell ⟨g, i, none⟩ (.string ⟨#[33]⟩))) := hB.out.setCell (p := ⟨g, i, none⟩) hgb _
        clear og st2 hyl
        go_wp2
        go_roundg (L.length - (i + 1))
        case measure => omega
        case rel => exact ⟨i + 1, _, by go_num, by omega, Nat.le_refl _, st1, HBn⟩
      · have hltz : ¬ (i : Int) < (L.length : Int) := by omega
        clear og
        have cS := size_nil wr
        have cM := name_nil 0 wr
        clear hlt hg1
        go_wp2_with (first
          | (go_at_call 14; refine cS.mono ?_; rintro e w' ⟨rfl, hw⟩; obtain rfl := hw.symm)
          | (go_at_call 15; refine cM.mono ?_; rintro e w' ⟨rfl, hw⟩; obtain rfl := hw.symm))
        go_ret
        exact ⟨rfl, hB.out⟩
end Go.Proofs.Ytaijphanpolegaa.Utf
