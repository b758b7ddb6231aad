/-
  The program's Join walked: the letters' texts one behind the other, or an error.
-/
import Derived.Test.YtjgmmfkeogkakaaGreatJonmq
import Derived.Test.YtjgmmfkeogkakaaGreatNewq
import Derived.Test.YtjgmmfkeogkakaaGreatFixq
import Derived.Test.YtjgmmfkeogkakaaGreatGxa
namespace Go.Proofs.YtjgmmfkeogkakaaGreat.Utf
open Go Go.Lib Go.RowKit

set_option maxRecDepth 100000 in
set_option maxHeartbeats 4000000 in
theorem join_any {W : World} {b : Nat} {L : List ByteArray} {rk : List Nat} (hA : IsAlpha W b L rk) (hLs : ∀ x ∈ L, x.size ≤ 12) (zs : List Int) (ao : Option Addr) (cap : Nat) (hl : zs.length ≤ 1048576) (hR : ReadsO W ao (ints zs)) :
    Calls Tryz.prog 55 #[.pointer (some ⟨b, 0, none⟩), .slice ao zs.length cap] W fun e w' => ((okNums L zs ∧ e = .returned (.tuple #[.string (joinT L zs), .int .i64 0])) ∨ (¬ okNums L zs ∧ e = .returned (.tuple #[.string ⟨#[]⟩, .int .i64 35]))) ∧ Below W.heap.size W w' := by
  have h40 := hA.small
  have HA : Aside (∀ w, Below W.heap.size W w → IsAlpha w b L rk) := fun w hb => hA.below hb
  have HR : Aside (∀ w, Below W.heap.size W w → ReadsO w ao (ints zs)) := fun w hb => hR.below hb
  clear hA hR
  have hB0 : Below W.heap.size W (W.alloc (.cells #[.pointer none, .slice none 0 0] 124)) := (Below.refl _ _).alloc (Nat.le_refl _) _
  have hI0 := isBuilderF_new 124 5 W
  go_enter Tryz.func55, Tryz.ntmps55
  go_wp2
  go_loopg [11] zs.length (fun g1 vi wr => ∃ k : Nat, vi = .int .i64 (k : Int) ∧ k ≤ zs.length ∧ zs.length - k ≤ g1 ∧ Aside (Lib.IsBuilderF 124 5 W.heap.size W.heap.size (Lib.byteCells (joinL L (zs.take k))) wr) ∧ Aside (Below W.heap.size W wr) ∧ Aside (okNums L (zs.take k)))
  case atStart => exact ⟨0, rfl, Nat.zero_le _, Nat.le_refl _, hI0, hB0, fun z hz => by simp at hz⟩
  case round =>
    clear hB0 hI0
    obtain ⟨k, rfl, hk, hg1, HI, hB, HO⟩ := hrel
    have hBs := hB.out.size
    by_cases hlt : k < zs.length
    · have hltz : (k : Int) < (zs.length : Int) := by omega
      obtain ⟨ga, oa, rfl, _, ec⟩ := (HR.out _ hB.out) k (by simpa [ints] using hlt)
      have ec' : wr.cell? ⟨ga, oa + k, none⟩ = some (.int .i64 zs[k]) := by rw [ec]; simp [ints]
      clear ec
      have HM : Aside (zs[k] ∈ zs) := List.getElem_mem hlt
      have HO2 : Aside (0 ≤ zs[k] ∧ zs[k] < L.length → okNums L (zs.take (k + 1))) := fun h => take_ok hlt HO.out h
      have HJ : Aside (joinL L (zs.take (k + 1)) = joinL L (zs.take k) ++ (ltr L zs[k]).data.toList) := joinL_next L zs hlt
      have cS := size_any (HA.out _ hB.out)
      have HLL : Aside ((joinL L (zs.take k)).length ≤ 12 * k) := by
        have := joinL_le hLs (zs.take k)
        rw [List.length_take] at this
        show _ ≤ _
        omega
      generalize zs[k] = z at *
      by_cases hneg : z < 0
      · have HN : Aside (¬ okNums L zs) := fun h => by have := h z HM.out; omega
        go_wp2
        go_ret2
        exact ⟨.inr ⟨HN.out, rfl⟩, hB.out⟩
      · obtain ⟨i, rfl⟩ := Int.eq_ofNat_of_zero_le (by omega : 0 ≤ z)
        by_cases hi : i < L.length
        · have hiz : (i : Int) < (L.length : Int) := by omega
          have HO3 : Aside (okNums L (zs.take (k + 1))) := HO2.out ⟨by omega, hiz⟩
          obtain ⟨⟨a1, c1, a2, c2, g1, g2, _⟩, _, _, _⟩ := HA.out _ hB.out
          obtain ⟨e1, _⟩ := cells_two g1
          obtain ⟨gs, rfl, _, es⟩ := g2 i (by simpa using hi)
          rw [List.getElem_map] at es
          have hsz := hLs L[i] (List.getElem_mem hi)
          have HL2 : Aside (ltr L (i : Int) = L[i]) := ltr_at hi
          have cW := writeString_any W.heap.size W.heap.size (Lib.byteCells (joinL L (zs.take k))) L[i] wr HI.out (by rw [Lib.byteCells_length]; have := HLL.out; omega) hBs
          have HC : Aside (Lib.byteCells (joinL L (zs.take (k + 1))) = Lib.byteCells (joinL L (zs.take k)) ++ Lib.strCells L[i]) := by
            show _ = _
            rw [HJ.out, HL2.out, byteCells_append, strCells_bytes]
          clear g1 g2 HJ HL2 HO2 HM HLL HI
          generalize L[i] = X at *
          generalize Lib.byteCells (joinL L (zs.take k)) = BC at *
          go_wp2_with (first
            | (go_at_call 54; refine cS.mono ?_; rintro e w' ⟨rfl, hw⟩; obtain rfl := hw.symm))
          refine cW.mono ?_
          rintro e w1 ⟨rfl, hA1, hb1, _⟩
          have HI1 : Aside (Lib.IsBuilderF 124 5 W.heap.size W.heap.size (Lib.byteCells (joinL L (zs.take (k + 1)))) w1) := by
            show Lib.IsBuilderF _ _ _ _ _ _
            rw [HC.out]
            exact .inr hA1
          have HB1 : Aside (Below W.heap.size W w1) := hB.out.trans hb1
          clear hA1 hb1 cW cS HC
          go_wp2
          go_roundg (zs.length - (k + 1))
          case measure => omega
          case rel => exact ⟨k + 1, by go_num, by omega, Nat.le_refl _, HI1, HB1, HO3⟩
        · have hiz : ¬ (i : Int) < (L.length : Int) := by omega
          have HN : Aside (¬ okNums L zs) := fun h => by have := h (i : Int) HM.out; omega
          go_wp2_with (first
            | (go_at_call 54; refine cS.mono ?_; rintro e w' ⟨rfl, hw⟩; obtain rfl := hw.symm))
          go_ret2
          exact ⟨.inr ⟨HN.out, rfl⟩, hB.out⟩
    · have hltz : ¬ (k : Int) < (zs.length : Int) := by omega
      obtain rfl : k = zs.length := by omega
      have hI := HI.out
      have hO := HO.out
      rw [List.take_length] at hI hO
      have cT := string_any W.heap.size W.heap.size (joinL L zs) wr hI hBs
      have HO' : Aside (okNums L zs) := hO
      clear hI HI HO hO hlt
      go_wp2_with (first | (go_at_call 78; refine cT.mono ?_; rintro e w1 ⟨rfl, hb1, _⟩; have HB1 : Aside (Below W.heap.size W w1) := hB.out.trans hb1; clear hb1))
      go_ret2
      exact ⟨.inl ⟨HO'.out, rfl⟩, HB1.out⟩
end Go.Proofs.YtjgmmfkeogkakaaGreat.Utf
