/-
  The laws' own look that the program is there at all: a letter of two runes is read.
-/
import Derived.Test.YtaijphanpolegaaNew
import Derived.Test.YtaijphanpolegaaSpl
namespace Go.Proofs.Ytaijphanpolegaa.Utf
open Go Go.Lib Go.RowKit

def abc : List ByteArray := [⟨#[67]⟩, ⟨#[72]⟩, ⟨#[67, 72]⟩]
theorem pairs_C : pairs ⟨#[67]⟩ = [(0, 67)] := by kernel_rfl
theorem pairs_H : pairs ⟨#[72]⟩ = [(0, 72)] := by kernel_rfl
theorem pairs_CH : pairs ⟨#[67, 72]⟩ = [(0, 67), (1, 72)] := by kernel_rfl
theorem cap_basic {x : Nat} (h : 65 ≤ x ∧ x ≤ 90) : capR x := ⟨by unfold isL; omega, up_basic h⟩
theorem name_C : nameP ⟨#[67]⟩ := by
  unfold nameP
  rw [pairs_C]
  exact ⟨by decide, by decide, fun x hx => by rw [List.mem_singleton.1 hx]; exact cap_basic (by decide)⟩
theorem name_H : nameP ⟨#[72]⟩ := by
  unfold nameP
  rw [pairs_H]
  exact ⟨by decide, by decide, fun x hx => by rw [List.mem_singleton.1 hx]; exact cap_basic (by decide)⟩
theorem name_CH : nameP ⟨#[67, 72]⟩ := by
  unfold nameP
  rw [pairs_CH]
  refine ⟨by decide, by decide, fun x hx => ?_⟩
  rcases List.mem_cons.1 hx with h | h
  · rw [h]; exact cap_basic (by decide)
  · rw [List.mem_singleton.1 h]; exact cap_basic (by decide)
theorem new_abc : newR abc = (0, 0) := by
  rw [newR_few (by decide) (by decide)]
  show newAt abc 3 0 = _
  rw [newAt_next (L := abc) (f := 2) (i := 0) (by decide) name_C (by simp [abc]), newAt_next (L := abc) (f := 1) (i := 1) (by decide) name_H (by simp [abc]),
    newAt_next (L := abc) (f := 0) (i := 2) (by decide) name_CH (by simp [abc])]
  rfl
theorem abc_nodup : abc.Nodup := by simp [abc]
theorem abc_names : ∀ x ∈ abc, 1 ≤ x.size ∧ x.size ≤ 12 := by
  intro x hx
  simp only [abc, List.mem_cons, List.not_mem_nil, or_false] at hx
  rcases hx with rfl | rfl | rfl <;> decide
theorem best_1 : best abc ((⟨#[67, 72, 67]⟩ : ByteArray).extract 0 3) = some 2 := by
  refine best_some abc_nodup ⟨by decide, by kernel_rfl, fun j hj _ => ?_⟩
  match j, hj with
  | 0, _ => exact (show (1 : Nat) ≤ 2 by decide)
  | 1, _ => exact (show (1 : Nat) ≤ 2 by decide)
  | 2, _ => exact (show (2 : Nat) ≤ 2 by decide)
theorem best_2 : best abc ((⟨#[67, 72, 67]⟩ : ByteArray).extract 2 3) = some 0 := by
  refine best_some abc_nodup ⟨by decide, by kernel_rfl, fun j hj hb => ?_⟩
  match j, hj with
  | 0, _ => exact (show (1 : Nat) ≤ 1 by decide)
  | 1, _ => exact (show (1 : Nat) ≤ 1 by decide)
  | 2, _ => exact absurd hb (by rw [show begins _ _ = false by kernel_rfl]; decide)
theorem split_abc : splitS abc ⟨#[67, 72, 67]⟩ = ([2, 0], 0, 0) := by
  unfold splitS
  rw [splitR_next (i := 2) (by decide) (by decide) best_1]
  show splitR abc ⟨#[67, 72, 67]⟩ 32 2 [2] = _
  rw [splitR_next (i := 0) (by decide) (by decide) best_2]
  exact splitR_end rfl

theorem cell_alloc (w : World) (cs : Array Value) (t : TypeId) (j : Nat) : (w.alloc (.cells cs t)).cell? ⟨w.heap.size, j, none⟩ = cs[j]? := by
  have hn := World.alloc_heap_new w (.cells cs t)
  simp only [World.cell?]
  rw [hn]
  rfl

set_option maxHeartbeats 2000000 in
theorem awake3_any (w : World) : Calls Try.prog 9 #[] w fun e w' => e = .returned (.bool true) ∧ Below w.heap.size w w' := by
  have cN := fun W ao cap h => new_any abc ao cap W (by decide) h
  rw [new_abc] at cN
  go_enter Try.func9, Try.ntmps9
  go_wp2_with fail
  have hR0 : ReadsO (w.alloc (.cells #[.string ⟨#[67]⟩, .string ⟨#[72]⟩, .string ⟨#[67, 72]⟩] 9)) (some ⟨w.heap.size, 0, none⟩) (abc.map Value.string) := fun j hj => by
    refine ⟨w.heap.size, 0, rfl, by simp, ?_⟩
    rw [Nat.zero_add, cell_alloc]
    match j, hj with
    | 0, _ => rfl
    | 1, _ => rfl
    | 2, _ => rfl
  refine (cN _ _ 3 hR0).mono ?_
  rintro e w1 ⟨⟨v, rfl, _, hv⟩, hb1⟩
  obtain ⟨b, rk, rfl, hA, hRk⟩ := hv trivial
  have HB1 : Aside (Below w.heap.size w w1) := ((Below.refl _ w).alloc (Nat.le_refl _) _).trans (hb1.mono (by simp))
  have cS := split_any hA.is hRk abc_nodup abc_names ⟨#[67, 72, 67]⟩ (by decide)
  rw [split_abc] at cS
  clear cN hR0 hv hb1
  go_wp2_with (first | (go_at_call 17; refine cS.mono ?_))
  rintro e w2 ⟨v2, rfl, hb2, hown⟩
  have HB2 : Aside (Below w.heap.size w w2) := HB1.out.trans (hb2.mono HB1.out.size)
  obtain ⟨ao, cap, rfl, q⟩ := row_reads hown
  obtain ⟨g, rfl, hg, e0⟩ := q 0 (by simp [nums])
  obtain ⟨g', hg', _, e1⟩ := q 1 (by simp [nums])
  obtain rfl : g = g' := by injection hg' with h; injection h
  simp only [nums, List.map_cons, List.map_nil, List.getElem_cons_zero, List.getElem_cons_succ] at e0 e1
  clear hb2 hown q hg' cS hA hRk
  go_wp2_with fail
  (try go_quiet (fail))
  go_wp2
  go_ret
  exact ⟨rfl, by first | exact HB2.out | exact below_drewN HB2.out _⟩
end Go.Proofs.Ytaijphanpolegaa.Utf
