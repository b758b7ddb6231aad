/-
  The document's comparison of two lists that hold the same, as a call that only reads; an append of a list that came in to one with room.
-/
import Derived.Test.YtlgbpimmhnncgaaDoorAwk4
import Derived.Deep.DeepAppendRoom
import Derived.Laws.AppendOwnNone
import Derived.Laws.MakeOwn
import Derived.Laws.OwnMore
namespace Go.Proofs.YtlgbpimmhnncgaaDoor.Msk
open Go Go.Lib Go.RowKit

theorem ReadsI.drewN {W : World} {ao : Option Addr} {zs : List Int} (h : ReadsI W ao zs) (n : Nat) : ReadsI (W.drewN n) ao zs := h.below (below_drewN (Below.refl _ _) n)

set_option maxHeartbeats 1000000 in
theorem sameInts_quiet (zs : List Int) (a1 a2 : Option Addr) (c1 c2 : Nat) (w : World) (hl : zs.length ≤ 4611686018427387904) (h1 : ReadsI w a1 zs) (h2 : ReadsI w a2 zs) :
    Calls Tryd.prog 10 #[.slice a1 zs.length c1, .slice a2 zs.length c2] w fun e w' => e = .returned (.bool true) ∧ ∃ n, w' = w.drewN n := by
  go_enter Tryd.func10, Tryd.ntmps10
  go_wp2
  go_loopg [5] zs.length (fun g1 iv wr => ∃ k n : Nat, iv = .int .i64 (k : Int) ∧ k ≤ zs.length ∧ zs.length - k ≤ g1 ∧ wr = w.drewN n)
  case atStart => exact ⟨0, 0, rfl, Nat.zero_le _, Nat.le_refl _, rfl⟩
  case round =>
    obtain ⟨k, n, rfl, hk, hg, rfl⟩ := hrel
    by_cases hlt : k < zs.length
    · have hltz : (k : Int) < (zs.length : Int) := by omega
      obtain ⟨g1, o1, rfl, _, e1⟩ := h1 k hlt
      obtain ⟨g2, o2, rfl, _, e2⟩ := h2 k hlt
      clear h1 h2
      generalize zs[k]?.getD 0 = z at *
      go_wp2
      go_quiet (fail)
      go_wp2
      go_roundg (zs.length - (k + 1))
      case measure => omega
      case rel => exact ⟨k + 1, _, by go_num, by omega, Nat.le_refl _, rfl⟩
    · have hltz : ¬ (k : Int) < (zs.length : Int) := by omega
      go_wp2
      go_ret
      exact ⟨rfl, n, rfl⟩

/-- Numbers, as cells. -/
def cellsI (zs : List Int) : List Value := zs.map (Value.int .i64)
theorem cellsI_length (zs : List Int) : (cellsI zs).length = zs.length := by simp [cellsI]
theorem cellsI_one (zs : List Int) : ∀ u ∈ cellsI zs, u.oneCell' = true := fun u hu => by
  obtain ⟨x, _, rfl⟩ := List.mem_map.1 hu
  rfl

/-- Append of a list that came in (it may be nil) to one that has room: it stays in its block. -/
theorem wpList_append_readsI {w : World} {ops : Array Oper} {rest : List Oper} {o : Oper} {a : Act} {Q : Exit → Act → World → Prop} (hgd : o.guard = none) (s x : Operand)
    (ho : o.op = .call { callee := .builtin .append, args := #[s, x], argTypes := #[22, 22] })
    (base : Nat) (i : TypeInfo) (hi : Tryd.prog.info? 3 = some i) (hsize : i.size = 1)
    (g cap : Nat) (hs : a.eval s = .slice (some ⟨g, 0, none⟩) 0 cap) (hown : w.ownsRow base 3 1 (.slice (some ⟨g, 0, none⟩) 0 cap) 0 [])
    (zs : List Int) (ao : Option Addr) (c : Nat) (hx : a.eval x = .slice ao zs.length c) (hao : ao = none → c = 0) (hR : ReadsI w ao zs) (hroom : zs.length ≤ cap)
    (h : ∀ w', w'.ownsRow base 3 1 (.slice (some ⟨g, 0, none⟩) zs.length cap) zs.length (cellsI zs) → w.grownBy w' (some g) → wpList Tryd.prog ops Q rest (a.put o.dst (.slice (some ⟨g, 0, none⟩) zs.length cap)) w') : wpList Tryd.prog ops Q (o :: rest) a w := by
  cases ao with
  | none =>
    obtain rfl := hao rfl
    have hl0 : zs = [] := by
      cases zs with
      | nil => rfl
      | cons x r =>
        obtain ⟨g, o, h, _⟩ := hR 0 (by simp)
        cases h
    subst hl0
    exact wpList_append_own_none hgd s x _ ho base 3 i 1 Tryd.underlying22 hi _ 0 [] hs hown hx (h w hown ⟨rfl, rfl, rfl, Nat.le_refl _, fun _ _ _ => rfl⟩)
  | some ad =>
    refine wpList_append_own_spare _ hgd s x _ ho base 3 i 1 Tryd.underlying22 hi hsize g 0 cap [] hs hown ad zs.length c (cellsI zs) hx (by rw [cellsI_length]; omega) (fun j u hu => ?_) (cellsI_one zs) (by omega) (fun w' h1 h2 => ?_)
    · have hj : j < zs.length := by have := (List.getElem?_eq_some_iff.1 hu).1; rwa [cellsI_length] at this
      obtain ⟨g2, o2, h1, h2, h3⟩ := hR j hj
      injection h1 with h1
      subst h1
      rw [Addr.add_lit, h3, ← hu]
      simp [cellsI, List.getElem?_eq_getElem hj]
    · rw [Nat.zero_add, List.nil_append] at h1
      rw [Nat.zero_add]
      exact h w' h1 h2
end Go.Proofs.YtlgbpimmhnncgaaDoor.Msk
