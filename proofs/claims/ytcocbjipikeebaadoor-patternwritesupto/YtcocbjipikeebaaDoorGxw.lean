/-
  The program's Word and Text.
-/
import Derived.Test.YtcocbjipikeebaaDoorGxd
import Derived.Test.YtcocbjipikeebaaDoorScl
import Derived.OrdersHeld
namespace Go.Proofs.YtcocbjipikeebaaDoor.Utf
open Go Go.Lib Go.RowKit

theorem wpOp_call {P : Program} {ops : Array Oper} {Q : Exit → Act → World → Prop} {i d : Nat} {o : Oper} {K : Act → World → Prop} {a : Act} {w : World} {f : FuncId} {args : Array Value} {R : Ending → World → Prop} (q : ops[i]? = some o) (hw : Region.wanted o (yielded ops a.tmps) = true) (hd : o.dst = some d) (h : (execOp a.eval o).run P w = .ok (.enter f args) w) (hc : Calls P f args w R) (hK : ∀ e w', R e w' → ∃ v, e = .returned v ∧ K (a.put (some d) v) w') : wpOp P ops Q i K a w := by
  unfold wpOp
  simp only [q]
  rw [if_pos hw]
  refine .inl ?_
  unfold Oper.wp
  rw [h, Oper.upon_enter]
  refine hc.mono ?_
  intro e w' hR
  obtain ⟨v, rfl, hk⟩ := hK e w' hR
  rw [hd]
  exact hk
/-- A block of two cells. -/
structure Bx2 (W : World) (b : Nat) (t : TypeId) (x0 x1 : Value) : Prop where
  blk : W.heap[b]? = some (.cells #[x0, x1] t)
theorem Bx2.c0 {W : World} {b : Nat} {t : TypeId} {x0 x1 : Value} (h : Bx2 W b t x0 x1) : W.cell? ⟨b, 0, none⟩ = some x0 := by simp [World.cell?, h.blk]
theorem Bx2.c1 {W : World} {b : Nat} {t : TypeId} {x0 x1 : Value} (h : Bx2 W b t x0 x1) : W.cell? ⟨b, 1, none⟩ = some x1 := by simp [World.cell?, h.blk]
theorem Bx2.fr {W : World} {b : Nat} {t : TypeId} {x0 x1 : Value} (h : Bx2 W b t x0 x1) (j : Nat) : W.frozen? ⟨b, j, none⟩ = false := by simp [World.frozen?, h.blk]
theorem Bx2.lt {W : World} {b : Nat} {t : TypeId} {x0 x1 : Value} (h : Bx2 W b t x0 x1) : b < W.heap.size := (Array.getElem?_eq_some_iff.1 h.blk).1
theorem Bx2.keep {W W' : World} {b : Nat} {t : TypeId} {x0 x1 : Value} (h : Bx2 W b t x0 x1) (hb : Below W.heap.size W W') : Bx2 W' b t x0 x1 := ⟨(hb.block b h.lt).trans h.blk⟩
theorem Bx2.set0 {W : World} {b : Nat} {t : TypeId} {x0 x1 : Value} (h : Bx2 W b t x0 x1) (u : Value) : Bx2 (W.setCell ⟨b, 0, none⟩ u) b t u x1 := by
  obtain ⟨hlt, hk⟩ := Array.getElem?_eq_some_iff.1 h.blk
  constructor
  show (W.heap.modify b _)[b]? = _
  rw [Array.getElem?_eq_getElem (by rw [Array.size_modify]; exact hlt), Array.getElem_modify_self, hk]
  rfl
theorem Bx2.set1 {W : World} {b : Nat} {t : TypeId} {x0 x1 : Value} (h : Bx2 W b t x0 x1) (u : Value) : Bx2 (W.setCell ⟨b, 1, none⟩ u) b t x0 u := by
  obtain ⟨hlt, hk⟩ := Array.getElem?_eq_some_iff.1 h.blk
  constructor
  show (W.heap.modify b _)[b]? = _
  rw [Array.getElem?_eq_getElem (by rw [Array.size_modify]; exact hlt), Array.getElem_modify_self, hk]
  rfl
theorem gset (w : World) (b j : Nat) (u : Value) : w.grownBy (w.setCell ⟨b, j, none⟩ u) (some b) := ⟨rfl, rfl, rfl, by simp [World.setCell], fun k _ hk => Below.heap_setCell _ _ _ k (fun e => hk (by rw [e]))⟩
end Go.Proofs.YtcocbjipikeebaaDoor.Utf
/-
  Layer 9's own look that the program is there at all: a word is read.
-/
namespace Go.Proofs.YtcocbjipikeebaaDoor.Utf
open Go Go.Lib Go.RowKit

def abL : List ByteArray := [⟨#[65]⟩, ⟨#[66]⟩]
theorem capb {x : Nat} (h : 65 ≤ x ∧ x ≤ 90) : capR x := ⟨by unfold isL; omega, up_basic h⟩
theorem new_ab : newR abL = (0, 0) := by
  have n1 : nameP ⟨#[65]⟩ := by
    unfold nameP
    rw [show pairs ⟨#[65]⟩ = [(0, 65)] by kernel_rfl]
    exact ⟨by decide, by decide, fun x hx => by rw [List.mem_singleton.1 hx]; exact capb (by decide)⟩
  have n2 : nameP ⟨#[66]⟩ := by
    unfold nameP
    rw [show pairs ⟨#[66]⟩ = [(0, 66)] by kernel_rfl]
    exact ⟨by decide, by decide, fun x hx => by rw [List.mem_singleton.1 hx]; exact capb (by decide)⟩
  rw [newR_few (by decide) (by decide)]
  show newAt abL 2 0 = _
  rw [newAt_next (L := abL) (f := 1) (i := 0) (by decide) n1 (by simp [abL]), newAt_next (L := abL) (f := 0) (i := 1) (by decide) n2 (by simp [abL])]
  rfl
theorem ab_nodup : abL.Nodup := by simp [abL]
theorem ab_names : ∀ x ∈ abL, 1 ≤ x.size ∧ x.size ≤ 12 := by
  intro x hx
  simp only [abL, List.mem_cons, List.not_mem_nil, or_false] at hx
  rcases hx with rfl | rfl <;> decide
theorem ab_1 : best abL ((⟨#[65, 66]⟩ : ByteArray).extract 0 2) = some 0 := by
  refine best_some ab_nodup ⟨by decide, by kernel_rfl, fun j hj hb => ?_⟩
  match j, hj with
  | 0, _ => exact (show (1 : Nat) ≤ 1 by decide)
  | 1, _ => exact (show (1 : Nat) ≤ 1 by decide)
theorem ab_2 : best abL ((⟨#[65, 66]⟩ : ByteArray).extract 1 2) = some 1 := by
  refine best_some ab_nodup ⟨by decide, by kernel_rfl, fun j hj hb => ?_⟩
  match j, hj with
  | 0, _ => exact (show (1 : Nat) ≤ 1 by decide)
  | 1, _ => exact (show (1 : Nat) ≤ 1 by decide)
theorem ab_split : splitS abL ⟨#[65, 66]⟩ = ([0, 1], 0, 0) := by
  unfold splitS
  rw [splitR_next (i := 0) (by decide) (by decide) ab_1]
  show splitR abL ⟨#[65, 66]⟩ 32 1 [0] = _
  rw [splitR_next (i := 1) (by decide) (by decide) ab_2]
  exact splitR_end rfl
theorem x_split : splitS abL ⟨#[88]⟩ = ([], 0, 33) := by
  unfold splitS
  refine splitR_none (by decide) (by decide) ?_
  cases h : best abL ((⟨#[88]⟩ : ByteArray).extract 0 1) with
  | none => exact h
  | some i =>
    have hb := best_is h
    have hi := hb.lt
    match i, hi with
    | 0, _ => have := hb.pre; rw [show begins _ _ = false by kernel_rfl] at this; cases this
    | 1, _ => have := hb.pre; rw [show begins _ _ = false by kernel_rfl] at this; cases this
def abT : ByteArray := ⟨#[97, 98, 59, 55, 10, 120]⟩
theorem ab_lines : txts (lines abT.data.toList) = [⟨#[97, 98, 59, 55]⟩, ⟨#[120]⟩] := by
  have : lines abT.data.toList = [[97, 98, 59, 55], [120]] := by decide
  rw [this]
  rfl
theorem ab_r1 : readL abL ⟨#[97, 98, 59, 55]⟩ [] = (0, [([0, 1], 7)]) := by
  have hc : cutS ⟨#[97, 98, 59, 55]⟩ = (⟨#[97, 98]⟩, ⟨#[55]⟩) := by kernel_rfl
  have hf : foldS false ⟨#[97, 98]⟩ = ⟨#[65, 66]⟩ := by kernel_rfl
  have hs : scoreP ⟨#[55]⟩ = (7, true) := by kernel_rfl
  have hw : wordOf abL ⟨#[65, 66]⟩ = [0, 1] := by unfold wordOf; rw [ab_split]; rfl
  unfold readL
  rw [hc]
  show (if foldS false ⟨#[97, 98]⟩ = ⟨#[]⟩ then _ else _) = _
  rw [hf, hs, hw, ab_split, if_neg (by decide), if_neg (by decide), if_neg (by decide), if_neg (fun h => by have := h.2; cases this)]
  rfl
theorem ab_r2 (l : List (List Int × Int)) : readL abL ⟨#[120]⟩ l = (33, l) := by
  have hc : cutS ⟨#[120]⟩ = (⟨#[120]⟩, ⟨#[53, 48]⟩) := by kernel_rfl
  have hf : foldS false ⟨#[120]⟩ = ⟨#[88]⟩ := by kernel_rfl
  have hs : scoreP ⟨#[53, 48]⟩ = (50, true) := by kernel_rfl
  unfold readL
  rw [hc]
  show (if foldS false ⟨#[120]⟩ = ⟨#[]⟩ then _ else _) = _
  rw [hf, hs, x_split, if_neg (by decide), if_neg (by decide), if_pos (by decide)]
theorem ab_read : readT abL abT = ([([0, 1], 7)], [(1, 33)]) := by
  unfold readT
  rw [ab_lines, rdL, if_neg (by rw [show sayN (pairs ⟨#[97, 98, 59, 55]⟩) = false by kernel_rfl]; decide), ab_r1, if_pos rfl, rdL, if_neg (by rw [show sayN (pairs ⟨#[120]⟩) = false by kernel_rfl]; decide), ab_r2, if_neg (by decide)]
  rfl

end Go.Proofs.YtcocbjipikeebaaDoor.Utf
