/-
  The document's Join walked: the letters' texts one behind the other, or an error.
-/
import Derived.Test.YtcocbjipikeebaaGreatDoorGsj
import Derived.Test.YtcocbjipikeebaaGreatDoorNewq
import Derived.Test.YtcocbjipikeebaaGreatDoorGxa
namespace Go.Proofs.YtcocbjipikeebaaGreatDoor.Utf
open Go Go.Lib Go.RowKit

theorem ba_cat (a b : ByteArray) : (a ++ b).data.toList = a.data.toList ++ b.data.toList := by
  rw [ByteArray.data_append, Array.toList_append]

set_option maxRecDepth 100000 in
set_option maxHeartbeats 4000000 in
theorem refJoin_any (L : List ByteArray) (hLs : ∀ x ∈ L, x.size ≤ 12) (_h40 : L.length ≤ 40) (al : Option Addr) (cl : Nat) (zs : List Int) (ao : Option Addr) (cap : Nat) (W : World) (hl : zs.length ≤ 1048576) (hRL : ReadsO W al (L.map Value.string)) (hR : ReadsO W ao (ints zs)) :
    Calls Tryz.prog 26 #[.slice al L.length cl, .slice ao zs.length cap] W fun e w' => ((okNums L zs ∧ e = .returned (.tuple #[.string (joinT L zs), .int .i64 0])) ∨ (¬ okNums L zs ∧ e = .returned (.tuple #[.string ⟨#[]⟩, .int .i64 35]))) ∧ Below W.heap.size W w' := by
  go_enter Tryz.func26, Tryz.ntmps26
  go_wp2
  go_loopg [6, 7] zs.length (fun g1 vs vi wr => ∃ (k : Nat) (t : ByteArray), vi = .int .i64 (k : Int) ∧ vs = .string t ∧ k ≤ zs.length ∧ zs.length - k ≤ g1 ∧ t.size ≤ 12 * k ∧ Aside (t.data.toList = joinL L (zs.take k)) ∧ Aside (Below W.heap.size W wr) ∧ Aside (okNums L (zs.take k)))
  case atStart => exact ⟨0, ⟨#[]⟩, rfl, rfl, Nat.zero_le _, Nat.le_refl _, Nat.zero_le _, by show _ = _; simp [joinL], Below.refl _ _, fun z hz => by simp at hz⟩
  case round =>
    obtain ⟨k, t, rfl, rfl, hk, hg1, hts, HT, hB, HO⟩ := hrel
    by_cases hlt : k < zs.length
    · have hltz : (k : Int) < (zs.length : Int) := by omega
      obtain ⟨ga, oa, rfl, _, ec⟩ := (hR.below hB.out) k (by simpa [ints] using hlt)
      have ec' : wr.cell? ⟨ga, oa + k, none⟩ = some (.int .i64 zs[k]) := by rw [ec]; simp [ints]
      clear ec
      have HM : Aside (zs[k] ∈ zs) := List.getElem_mem hlt
      have HO2 : Aside (0 ≤ zs[k] ∧ zs[k] < L.length → okNums L (zs.take (k + 1))) := fun h => take_ok hlt HO.out h
      have HJ : Aside (joinL L (zs.take (k + 1)) = joinL L (zs.take k) ++ (ltr L zs[k]).data.toList) := joinL_next L zs hlt
      have HRL : Aside (ReadsO wr al (L.map Value.string)) := hRL.below hB.out
      clear hR hRL
      generalize zs[k] = z at *
      by_cases hneg : z < 0
      · have HN : Aside (¬ okNums L zs) := fun h => by have := h z HM.out; omega
        go_wp2
        (try go_quiet (fail))
        go_wp2
        go_ret2
        exact ⟨.inr ⟨HN.out, rfl⟩, by first | exact hB.out | exact below_drewN hB.out _⟩
      · obtain ⟨i, rfl⟩ := Int.eq_ofNat_of_zero_le (by omega : 0 ≤ z)
        by_cases hi : i < L.length
        · have hiz : (i : Int) < (L.length : Int) := by omega
          have HO3 : Aside (okNums L (zs.take (k + 1))) := HO2.out ⟨by omega, hiz⟩
          obtain ⟨gs, os, rfl, _, es⟩ := HRL.out i (by simpa using hi)
          rw [List.getElem_map] at es
          have hsz := hLs L[i] (List.getElem_mem hi)
          have HC : Aside ((t ++ L[i]).data.toList = joinL L (zs.take (k + 1))) := by
            show _ = _
            rw [HJ.out, ltr_at hi, ba_cat, HT.out]
          have hsz2 : (t ++ L[i]).size ≤ 12 * (k + 1) := by rw [ByteArray.size_append]; omega
          clear HJ HO2 HM HRL HT
          generalize L[i] = X at *
          go_wp2_with fail
          go_roundg (zs.length - (k + 1))
          case measure => omega
          case rel => exact ⟨k + 1, t ++ X, by go_num, rfl, by omega, Nat.le_refl _, hsz2, HC, hB, HO3⟩
        · have hiz : ¬ (i : Int) < (L.length : Int) := by omega
          have HN : Aside (¬ okNums L zs) := fun h => by have := h (i : Int) HM.out; omega
          go_wp2
          (try go_quiet (fail))
          go_wp2
          go_ret2
          exact ⟨.inr ⟨HN.out, rfl⟩, by first | exact hB.out | exact below_drewN hB.out _⟩
    · have hltz : ¬ (k : Int) < (zs.length : Int) := by omega
      obtain rfl : k = zs.length := by omega
      have hO := HO.out
      have hT := HT.out
      rw [List.take_length] at hO hT
      have HO' : Aside (okNums L zs) := hO
      have HT' : Aside (t = joinT L zs) := ba_eq hT
      clear HO hO HT hT hlt
      go_wp2
      go_ret2
      rw [← HT'.out]
      exact ⟨.inl ⟨HO'.out, rfl⟩, hB.out⟩
end Go.Proofs.YtcocbjipikeebaaGreatDoor.Utf
