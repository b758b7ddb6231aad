/-
  Two lists of numbers compared (the library's slices.Equal, the document's SameInts): true just where they are the same.
-/
import Derived.Test.YtcocbjipikeebaaGreatDoorNewq
import Derived.Test.YtcocbjipikeebaaGreatDoorGxa
namespace Go.Proofs.YtcocbjipikeebaaGreatDoor.Utf
open Go Go.Lib Go.RowKit

set_option maxHeartbeats 2000000 in
theorem sameInts_any (xs ys : List Int) (a1 a2 : Option Addr) (c1 c2 : Nat) (w : World) (_hl : xs.length ≤ 16777216) (hl2 : ys.length ≤ 16777216) (h1 : ReadsO w a1 (ints xs)) (h2 : ReadsO w a2 (ints ys)) :
    Calls Tryz.prog 15 #[.slice a1 xs.length c1, .slice a2 ys.length c2] w fun e w' => ((xs = ys ∧ e = .returned (.bool true)) ∨ (¬ xs = ys ∧ e = .returned (.bool false))) ∧ Below w.heap.size w w' := by
  go_enter Tryz.func15, Tryz.ntmps15
  by_cases hn : xs.length = ys.length
  · have hnb : ((xs.length : Int) == (ys.length : Int)) = true := by rw [beq_iff_eq]; omega
    have hnb2 : ((xs.length : Int) != (ys.length : Int)) = false := by rw [bne, hnb]; rfl
    have HNN : Aside (xs.length = ys.length) := hn
    have hn1 : xs.length ≤ ys.length := by omega
    clear hn
    go_wp2
    go_loopg [5] xs.length (fun g1 vi wr => ∃ k : Nat, vi = .int .i64 (k : Int) ∧ k ≤ xs.length ∧ xs.length - k ≤ g1 ∧ Aside (Below w.heap.size w wr) ∧ Aside (xs.take k = ys.take k))
    case atStart => exact ⟨0, rfl, Nat.zero_le _, Nat.le_refl _, Below.refl _ _, rfl⟩
    case round =>
      obtain ⟨k, rfl, hk, hg1, hB, HE⟩ := hrel
      by_cases hlt : k < xs.length
      · have hltz : (k : Int) < (xs.length : Int) := by omega
        have hlt2 : k < ys.length := by omega
        have hlt2z : (k : Int) < (ys.length : Int) := by omega
        obtain ⟨g1, o1, rfl, _, e1⟩ := (h1.below hB.out) k (by simpa [ints] using hlt)
        obtain ⟨g2, o2, rfl, _, e2⟩ := (h2.below hB.out) k (by simpa [ints] using hlt2)
        have e1' : wr.cell? ⟨g1, o1 + k, none⟩ = some (.int .i64 xs[k]) := by rw [e1]; simp [ints]
        have e2' : wr.cell? ⟨g2, o2 + k, none⟩ = some (.int .i64 ys[k]) := by rw [e2]; simp [ints]
        clear e1 e2 h1 h2
        by_cases hv : xs[k] = ys[k]
        · have HX : Aside (xs.take (k + 1) = ys.take (k + 1)) := by
            show _ = _
            rw [List.take_succ_eq_append_getElem hlt, List.take_succ_eq_append_getElem hlt2, HE.out, hv]
          rw [hv] at e1'
          clear hv HE
          generalize ys[k] = z at *
          have hz : (z == z) = true := beq_self_eq_true z
          have hz2 : (z != z) = false := by rw [bne, hz]; rfl
          go_wp2
          (try go_quiet (fail))
          go_wp2
          go_roundg (xs.length - (k + 1))
          case measure => omega
          case rel => exact ⟨k + 1, by go_num, by omega, Nat.le_refl _, by first | exact hB | exact below_drewN hB.out _, HX⟩
        · have hz : (xs[k] == ys[k]) = false := by rw [beq_eq_false_iff_ne]; exact hv
          have hz2 : (xs[k] != ys[k]) = true := by rw [bne, hz]; rfl
          have HN : Aside (¬ xs = ys) := fun h => hv (by subst h; rfl)
          clear hv HE
          generalize xs[k] = x at *
          generalize ys[k] = y at *
          go_wp2
          (try go_quiet (fail))
          go_wp2
          go_ret
          exact ⟨.inr ⟨HN.out, rfl⟩, by first | exact hB.out | exact below_drewN hB.out _⟩
      · have hltz : ¬ (k : Int) < (xs.length : Int) := by omega
        have HX : Aside (xs = ys) := by
          show _ = _
          have e := HE.out
          rw [List.take_of_length_le (by omega), List.take_of_length_le (by have := HNN.out; omega)] at e
          exact e
        go_wp2
        go_ret
        exact ⟨.inl ⟨HX.out, rfl⟩, hB.out⟩
  · have hnb : ((xs.length : Int) == (ys.length : Int)) = false := by rw [beq_eq_false_iff_ne]; omega
    have hnb2 : ((xs.length : Int) != (ys.length : Int)) = true := by rw [bne, hnb]; rfl
    have HN : Aside (¬ xs = ys) := fun h => hn (by rw [h])
    clear hn
    go_wp2
    go_ret
    exact ⟨.inr ⟨HN.out, rfl⟩, Below.refl _ _⟩
end Go.Proofs.YtcocbjipikeebaaGreatDoor.Utf
