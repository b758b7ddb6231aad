/-
  The laws' own look that the program is there at all: a set is made and told; and the document's comparison of two lists that hold the same.
-/
import Derived.Test.YtlgbpimmhnncgaaDoorMskc
import Derived.Deep.LoopGhost
namespace Go.Proofs.YtlgbpimmhnncgaaDoor.Msk
open Go Go.Lib Go.RowKit

theorem ints_length (l : List Nat) : (ints l).length = l.length := by simp [ints]
theorem row_readsI {W : World} {B : Nat} {v : Value} {l : List Nat} {n : Nat} (h : W.ownsRow B 3 1 v n (nums l)) : ∃ ao cap, v = .slice ao n cap ∧ n = l.length ∧ ReadsI W ao (ints l) := by
  have hh := h
  have hn : n = l.length := by have := h.1; rw [nums_length] at this; omega
  rcases h.2 with ⟨rfl, h0⟩ | ⟨g, cap, cur, rfl, hb, _⟩
  · exact ⟨none, 0, by rw [h0], hn, fun j hj => by rw [ints_length] at hj; omega⟩
  · refine ⟨_, cap, rfl, hn, fun j hj => ⟨g, 0, rfl, (hh.lt g rfl).2, ?_⟩⟩
    rw [ints_length] at hj
    have := hh.cells (g := g) rfl j (.int .i64 ((l[j] : Nat) : Int)) (by simp [nums, hj])
    rw [show (⟨g, 0, none⟩ : Addr).add j = ⟨g, j, none⟩ by unfold Addr.add; split <;> simp_all] at this
    rw [Nat.zero_add, this]
    simp [ints, hj]

set_option maxHeartbeats 1000000 in
theorem sameInts_any (zs : List Int) (a1 a2 : Option Addr) (c1 c2 : Nat) (w : World) (hl : zs.length ≤ 4611686018427387904) (h1 : ReadsI w a1 zs) (h2 : ReadsI w a2 zs) :
    Calls Tryd.prog 10 #[.slice a1 zs.length c1, .slice a2 zs.length c2] w fun e w' => e = .returned (.bool true) ∧ Below w.heap.size w w' := by
  go_enter Tryd.func10, Tryd.ntmps10
  go_wp2
  go_loopg [5] zs.length (fun g1 iv wr => ∃ k : Nat, iv = .int .i64 (k : Int) ∧ k ≤ zs.length ∧ zs.length - k ≤ g1 ∧ Aside (Below w.heap.size w wr))
  case atStart => exact ⟨0, rfl, Nat.zero_le _, Nat.le_refl _, Below.refl _ _⟩
  case round =>
    obtain ⟨k, rfl, hk, hg, hB⟩ := hrel
    by_cases hlt : k < zs.length
    · have hltz : (k : Int) < (zs.length : Int) := by omega
      obtain ⟨g1, o1, rfl, _, e1⟩ := (h1.below hB.out) k hlt
      obtain ⟨g2, o2, rfl, _, e2⟩ := (h2.below hB.out) k hlt
      clear h1 h2
      generalize zs[k]?.getD 0 = z at *
      go_wp2
      go_quiet (fail)
      go_wp2
      go_roundg (zs.length - (k + 1))
      case measure => omega
      case rel => exact ⟨k + 1, by go_num, by omega, Nat.le_refl _, below_drewN hB.out _⟩
    · have hltz : ¬ (k : Int) < (zs.length : Int) := by omega
      go_wp2
      go_ret
      exact ⟨rfl, hB.out⟩

theorem bitsL_9 : bitsL 9 = [0, 3] := by decide
theorem ofL_9 : ofL [3, 0, 64, -1, 3] = 9 := by decide
theorem full_3 : fullN 3 = 7 := by decide
theorem cell_alloc (w : World) (cs : Array Value) (t : TypeId) (j : Nat) : (w.alloc (.cells cs t)).cell? ⟨w.heap.size, j, none⟩ = cs[j]? := by
  have hn := World.alloc_heap_new w (.cells cs t)
  simp only [World.cell?]
  rw [hn]
  rfl

set_option maxHeartbeats 2000000 in
theorem awake4_any (w : World) (hT : Tab w) : Calls Tryd.prog 7 #[] w fun e w' => e = .returned (.bool true) ∧ Below w.heap.size w w' := by
  have cL := list_any 9 (by decide) w hT
  rw [bitsL_9] at cL
  have cO := fun W ao h => of_any [3, 0, 64, -1, 3] ao 5 W (by decide) h
  rw [ofL_9] at cO
  have cF := fun W => full_any 3 W
  rw [full_3] at cF
  go_enter Tryd.func7, Tryd.ntmps7
  go_wp2_with fail
  refine cL.mono ?_
  rintro e w1 ⟨v, rfl, hown, hb1⟩
  obtain ⟨ao, cap, rfl, _, q⟩ := row_readsI hown
  obtain ⟨g, off, rfl, hg, e1⟩ := q 1 (by simp [ints])
  simp [ints] at e1
  clear hown q cL
  have hR : ReadsI (w1.alloc (.cells #[.int .i64 3, .int .i64 0, .int .i64 64, .int .i64 (-1), .int .i64 3] 3)) (some ⟨w1.heap.size, 0, none⟩) [3, 0, 64, -1, 3] := fun j hj => by
    refine ⟨w1.heap.size, 0, rfl, by simp, ?_⟩
    rw [Nat.zero_add, cell_alloc]
    match j, hj with
    | 0, _ => rfl
    | 1, _ => rfl
    | 2, _ => rfl
    | 3, _ => rfl
    | 4, _ => rfl
  have hb2 : Below w1.heap.size w1 (w1.alloc (.cells #[.int .i64 3, .int .i64 0, .int .i64 64, .int .i64 (-1), .int .i64 3] 3)) := (Below.refl _ _).alloc (Nat.le_refl _) _
  have e2 := (hb2.cell (p := ⟨g, off + 1, none⟩) hg).trans e1
  have HB : Aside (Below w.heap.size w (w1.alloc (.cells #[.int .i64 3, .int .i64 0, .int .i64 64, .int .i64 (-1), .int .i64 3] 3))) := hb1.trans (hb2.mono hb1.size)
  have cO' := cO _ _ hR
  clear cO hb2 e1 hR
  go_wp2_with fail
  obtain ⟨w2, hw2⟩ : ∃ w2, w1.alloc (.cells #[.int .i64 3, .int .i64 0, .int .i64 64, .int .i64 (-1), .int .i64 3] 3) = w2 := ⟨_, rfl⟩
  rw [hw2] at cO' e2 HB ⊢
  refine cO'.mono ?_
  rintro e w3 ⟨rfl, hw⟩
  obtain rfl := hw.symm
  clear cO' hw2
  go_wp2_with (go_at_call 14; refine (cF _).mono ?_; rintro e w' ⟨rfl, hw⟩; obtain rfl := hw.symm)
  go_ret
  exact ⟨rfl, HB.out⟩
end Go.Proofs.YtlgbpimmhnncgaaDoor.Msk
