/-
  The program's numbers walked: the letters of the ranks, as a new list.
-/
import Derived.Test.YtaijphanpolegaaNew
import Derived.Test.YtaijphanpolegaaSplm
import Derived.Test.YtaijphanpolegaaLnt
import Derived.Laws.OwnMore
namespace Go.Proofs.Ytaijphanpolegaa.Utf
open Go Go.Lib Go.RowKit

/-- The number of the letter of a rank. -/
def rkN (rk : List Nat) (r : Nat) : Nat := (rk[r]?).getD 0
theorem ownsRow_ints (w : World) (n : Nat) (hm : n ≤ maxLen) : (w.alloc (.cells (madeCells #[.int .i64 0] n) 3)).ownsRow w.heap.size 3 1 (.slice (some ⟨w.heap.size, 0, none⟩) n n) n (List.replicate n (.int .i64 0)) := by
  refine ⟨by simp, .inr ⟨w.heap.size, n, _, rfl, Nat.le_refl _, heap_alloc_new w _, Nat.le_refl _, hm, by simp [size_madeCells], ?_⟩⟩
  rw [toList_madeCells_one, Nat.mul_one, List.take_of_length_le (by simp)]
/-- Some letters' numbers, and noughts for the rest. -/
def numFill (rk : List Nat) (p : List Nat) (k : Nat) : List Value := nums ((p.take k).map (rkN rk)) ++ List.replicate (p.length - k) (Value.int .i64 0)
theorem numFill_zero (rk p : List Nat) : numFill rk p 0 = List.replicate p.length (Value.int .i64 0) := by simp [numFill, nums]
theorem numFill_full (rk p : List Nat) : numFill rk p p.length = nums (p.map (rkN rk)) := by simp [numFill]
theorem numFill_next (rk p : List Nat) {k : Nat} (h : k < p.length) : (numFill rk p k).set k (.int .i64 ((rkN rk p[k] : Nat) : Int)) = numFill rk p (k + 1) := by
  unfold numFill
  have hl : (nums ((p.take k).map (rkN rk))).length = k := by rw [nums_len, List.length_map, List.length_take]; omega
  rw [List.set_append_right _ _ (by omega), hl, Nat.sub_self, show p.length - k = (p.length - (k + 1)) + 1 by omega, List.replicate_succ, List.set_cons_zero, List.take_succ_eq_append_getElem h, List.map_append, show List.map (rkN rk) [p[k]] = [rkN rk p[k]] from rfl, nums_snoc, List.append_assoc]
  rfl

set_option maxRecDepth 100000 in
set_option maxHeartbeats 4000000 in
theorem numbers_any {W : World} {b : Nat} {L : List ByteArray} {rk : List Nat} (hA : IsAlpha W b L rk) (p : List Nat) (hp : ∀ r ∈ p, r < L.length) (ao : Option Addr) (cap : Nat) (hl : p.length ≤ 16777216) (hR : Reads W ao (nums p)) :
    Calls Try.prog 45 #[.pointer (some ⟨b, 0, none⟩), .slice ao p.length cap] W fun e w' => (∃ g, e = .returned (.slice (some ⟨g, 0, none⟩) p.length p.length) ∧ w'.ownsRow W.heap.size 3 1 (.slice (some ⟨g, 0, none⟩) p.length p.length) p.length (nums (p.map (rkN rk)))) ∧ Below W.heap.size W w' := by
  obtain ⟨i0, hi, hz0, hz1, hz2⟩ := info_parts infoInt'
  have h40 := hA.small
  have HA : Aside (∀ w, Below W.heap.size W w → IsAlpha w b L rk) := fun w hb => hA.below hb
  have HR : Aside (∀ w, Below W.heap.size W w → Reads w ao (nums p)) := fun w hb => hR.below hb
  clear hA hR
  obtain ⟨M, hM⟩ : ∃ M, M = madeCells #[.int .i64 0] p.length := ⟨_, rfl⟩
  have hmk : ∀ W : World, (Instr.makeSlice 37 (.int .i64 (p.length : Int)) (.int .i64 (p.length : Int))).run Try.prog W = .ok (.slice (some ⟨W.heap.size, 0, none⟩) p.length p.length) (W.alloc (.cells M 3)) := fun W => by
    have h := run_make (P := Try.prog) W 37 3 i0 (.int .i64 0) Try.underlying37 hi hz0 .i64 .i64 (p.length : Int) (p.length : Int) (by omega) (by omega) (by rw [hz2]; omega) (by omega)
    rw [Int.toNat_natCast, hz1, Nat.mul_one] at h
    rw [hM]
    exact h
  have o0 := ownsRow_ints W p.length (by unfold maxLen; omega)
  rw [← hM, ← numFill_zero rk p] at o0
  have hb0 : Below W.heap.size W (W.alloc (.cells M 3)) := (Below.refl _ _).alloc (Nat.le_refl _) _
  clear hM
  go_enter Try.func45, Try.ntmps45
  go_wp2
  go_loopg [13] p.length (fun g1 vi wr => ∃ k : Nat, vi = .int .i64 (k : Int) ∧ k ≤ p.length ∧ p.length - k ≤ g1 ∧ wr.ownsRow W.heap.size 3 1 (.slice (some ⟨W.heap.size, 0, none⟩) p.length p.length) p.length (numFill rk p k) ∧ Aside (Below W.heap.size W wr))
  case atStart => exact ⟨0, rfl, Nat.zero_le _, Nat.le_refl _, o0, hb0⟩
  case round =>
    clear o0 hb0 hmk
    obtain ⟨k, rfl, hk, hg1, hown, hB⟩ := hrel
    by_cases hlt : k < p.length
    · have hltz : (k : Int) < (p.length : Int) := by omega
      obtain ⟨gp, rfl, _, ep⟩ := (HR.out _ hB.out) k (by rw [nums_len]; exact hlt)
      have ep' : wr.cell? ⟨gp, k, none⟩ = some (.int .i64 ((p[k] : Nat) : Int)) := by rw [ep]; simp [nums]
      have hpk := hp p[k] (List.getElem_mem hlt)
      obtain ⟨⟨a1, c1, a2, c2, g1, _, g3⟩, h4, _, h6⟩ := HA.out _ hB.out
      obtain ⟨_, e2⟩ := cells_two g1
      obtain ⟨gr, rfl, _, er⟩ := g3 p[k] (by rw [List.length_map]; omega)
      rw [List.getElem_map] at er
      have hrk : rk[p[k]]'(by omega) = rkN rk p[k] := by unfold rkN; rw [List.getElem?_eq_getElem (by omega)]; rfl
      rw [hrk] at er
      have hn := numFill_next rk p hlt
      obtain ⟨u, hcg⟩ : ∃ u, wr.cell? ⟨W.heap.size, k, none⟩ = some u := ⟨(numFill rk p k)[k]'(by unfold numFill; rw [List.length_append, nums_len, List.length_map, List.length_take, List.length_replicate]; omega), by rw [hown.cellAt k (by omega)]; exact List.getElem?_eq_getElem _⟩
      have hfg := hown.frozenAt k
      have st := (hown.stored k (.int .i64 ((rkN rk p[k] : Nat) : Int))).1
      rw [hn] at st
      have HBn : Aside (Below W.heap.size W (wr.setCell ⟨W.heap.size, k, none⟩ (.int .i64 ((rkN rk p[k] : Nat) : Int)))) := hB.out.setCell (p := ⟨W.heap.size, k, none⟩) (Nat.le_refl _) _
      clear hn hown ep g1 g3 hrk
      have hpkz : ((p[k] : Nat) : Int) < (L.length : Int) := by omega
      generalize rkN rk p[k] = x at *
      generalize p[k] = r at *
      go_wp2
      (try go_big_region)
      go_wp2
      go_roundg (p.length - (k + 1))
      case measure => omega
      case rel => exact ⟨k + 1, by go_num, by omega, Nat.le_refl _, by first | exact st | exact st.drew, by first | exact HBn | exact Below.drew HBn.out⟩
    · have hltz : ¬ (k : Int) < (p.length : Int) := by omega
      obtain rfl : k = p.length := by omega
      rw [numFill_full] at hown
      go_wp2
      go_ret
      exact ⟨⟨_, rfl, hown⟩, hB.out⟩
end Go.Proofs.Ytaijphanpolegaa.Utf
