/-
  Two worlds that differ in some blocks and in new ones alone; an append to a list whose box lies below the list.
-/
import Derived.Test.YtlgbpimmhnncgaaDoorProg
import Derived.WalkKit
import Derived.Lib.Walk
import Derived.RangeFuncBox
import Derived.RangeFuncNested
import Derived.ControlIn
namespace Go.Proofs.YtlgbpimmhnncgaaDoor.Msk
open Go Go.Lib Go.RowKit

/-- Two worlds that differ in some blocks and in new ones alone. -/
structure Els (O : Nat → Prop) (w w' : World) : Prop where
  os : w'.os = w.os
  tape : w'.tape = w.tape
  output : w'.output = w.output
  size : w.heap.size ≤ w'.heap.size
  block : ∀ k, k < w.heap.size → ¬ O k → w'.heap[k]? = w.heap[k]?
theorem Els.refl (O : Nat → Prop) (w : World) : Els O w w := ⟨rfl, rfl, rfl, Nat.le_refl _, fun _ _ _ => rfl⟩
theorem Els.trans {O : Nat → Prop} {a b c : World} (h : Els O a b) (k : Els O b c) : Els O a c := ⟨k.os.trans h.os, k.tape.trans h.tape, k.output.trans h.output, Nat.le_trans h.size k.size, fun i hi ho => (k.block i (by have := h.size; omega) ho).trans (h.block i hi ho)⟩
theorem Els.mono {O O' : Nat → Prop} {a b : World} (h : Els O a b) (hm : ∀ k, k < a.heap.size → O k → O' k) : Els O' a b := ⟨h.os, h.tape, h.output, h.size, fun k hk ho => h.block k hk fun h1 => ho (hm k hk h1)⟩
theorem Els.of_below {O : Nat → Prop} {a b : World} (h : Below a.heap.size a b) : Els O a b := ⟨h.os, h.tape, h.output, h.size, fun k hk _ => h.block k hk⟩
/-- New blocks may be changed again. -/
theorem Els.trans_new {O O' : Nat → Prop} {a b c : World} (h : Els O a b) (k : Els O' b c) (hm : ∀ i, i < a.heap.size → O' i → O i) : Els O a c := ⟨k.os.trans h.os, k.tape.trans h.tape, k.output.trans h.output, Nat.le_trans h.size k.size, fun i hi ho => (k.block i (by have := h.size; omega) fun h1 => ho (hm i hi h1)).trans (h.block i hi ho)⟩
theorem Els.grown {O : Nat → Prop} {a b : World} {row : Option Nat} (h : a.grownBy b row) (hr : ∀ j, row = some j → O j) : Els O a b := ⟨h.os, h.tape, h.output, h.size, fun k hk ho => h.block k hk fun e => ho (hr k e.symm)⟩
theorem Els.alloc {O : Nat → Prop} {a b : World} (h : Els O a b) (o : Obj) : Els O a (b.alloc o) := h.trans (Els.of_below ((Below.refl _ _).alloc (Nat.le_refl _) o))
theorem Els.cell {O : Nat → Prop} {a b : World} (h : Els O a b) {p : Addr} (hp : p.block < a.heap.size) (ho : ¬ O p.block) : b.cell? p = a.cell? p := by simp only [World.cell?, h.block p.block hp ho]
theorem Els.boxed {O : Nat → Prop} {a b : World} (h : Els O a b) {B : Nat} {t : TypeId} {v : Value} (hB : Boxed a B t v) (ho : ¬ O B) : Boxed b B t v := (h.block B hB.lt ho).trans hB
theorem Els.row {O : Nat → Prop} {a b : World} (h : Els O a b) {B : Nat} {e : TypeId} {v : Value} {n : Nat} {xs : List Value} (hr : a.ownsRow B e 1 v n xs) (ho : ∀ j, v.ownBlock = some j → ¬ O j) : b.ownsRow B e 1 v n xs := by
  rcases hr with ⟨h1, h2 | ⟨g, cap, cur, rfl, e2, e3, e4⟩⟩
  · exact ⟨h1, .inl h2⟩
  · exact ⟨h1, .inr ⟨g, cap, cur, rfl, e2, (h.block g (Array.getElem?_eq_some_iff.1 e3).1 (ho g rfl)).trans e3, e4⟩⟩
theorem Els.below {O : Nat → Prop} {a b : World} (h : Els O a b) {B : Nat} (hO : ∀ k, k < B → k < a.heap.size → ¬ O k) (hB : B ≤ a.heap.size) : Below B a b := ⟨h.os, h.tape, h.output, h.size, fun k hk => h.block k (by omega) (hO k hk (by omega))⟩
theorem Els.set {O : Nat → Prop} {a b : World} (h : Els O a b) (B : Nat) (v : Value) (hB : O B) : Els O a (b.setCell ⟨B, 0, none⟩ v) := h.trans (Els.grown (grownBy_setCell' b B v) fun _ hj => (Option.some.inj hj) ▸ hB)
theorem ownFrom_els {β : Type} {O : Nat → Prop} {w₀ : World} {B : Nat} (hB : w₀.heap.size ≤ B) : OwnFrom B (fun (_ : β) W => Els O w₀ W) :=
  fun _ _ _ _ hs hg hr => hs.trans_new (Els.grown (O := fun j => B ≤ j) hg fun j e => (hr j e).1) fun i hi h => by omega

/-- An append to a list whose box lies below the list's base. -/
theorem boxed_appendedLo {W w1 : World} {n₀ B : Nat} {t e : TypeId} {v v' : Value} {k m : Nat} {xs ys : List Value} {tmp : Obj}
    (hv : Boxed W B t v) (hB : B < n₀) (hrow : W.ownsRow n₀ e 1 v k xs)
    (hown' : w1.ownsRow n₀ e 1 v' m ys) (hgrow : (W.alloc tmp).grownBy w1 v.ownBlock) :
    Boxed w1 B t v ∧ Boxed (w1.setCell ⟨B, 0, none⟩ v') B t v' ∧ (w1.setCell ⟨B, 0, none⟩ v').ownsRow n₀ e 1 v' m ys ∧ KeepsOthers W (w1.setCell ⟨B, 0, none⟩ v') ∧ Els (fun j => j = B ∨ n₀ ≤ j) W (w1.setCell ⟨B, 0, none⟩ v') := by
  have hro : ∀ j, v.ownBlock = some j → n₀ ≤ j := fun j hj => (hrow.lt j hj).1
  have hv1 : Boxed w1 B t v := (hv.alloc tmp).kept hgrow (fun e => by have := hro _ e.symm; omega)
  refine ⟨hv1, hv1.set v', ?_, ?_, ?_⟩
  · refine hown'.kept (grownBy_setCell' w1 B v') ?_
    rcases hown'.2 with ⟨rfl, _⟩ | ⟨g, cap, cur, rfl, hb, _⟩
    · exact .inl rfl
    · refine .inr fun e' => ?_
      have : B = g := by simpa [Value.ownBlock] using e'.symm
      omega
  · refine ((KeepsOthers.alloc W tmp).trans (KeepsOthers.of_grownBy hgrow fun j o ej hj => ?_)).trans (KeepsOthers.setCell _ _ _)
    rcases (hrow.alloc tmp).2 with ⟨rfl, _⟩ | ⟨g, cap, cur, rfl, _, hgb, _⟩
    · simp [Value.ownBlock] at ej
    · obtain rfl : g = j := by simpa [Value.ownBlock] using ej
      rw [hgb] at hj; cases hj; rfl
  · have e1 : Els (fun j => j = B ∨ n₀ ≤ j) W w1 := ((Els.refl _ W).alloc tmp).trans (Els.grown hgrow fun j hj => .inr (hro j hj))
    exact e1.set B v' (.inl rfl)
theorem wpIn_blind {F : Fence} {rm : Nat} {P : Program} {c : Code} {K : Act → World → Prop} {Q' : Exit → Act → World → Prop} {a : Act} {w : World} (h : c.wpIn F rm P (Exit.then K (fun _ _ _ => False)) a w) : c.wpIn F rm P (Exit.then K Q') a w := by
  refine wpIn_mono h ?_
  intro e a' w' hq
  cases e with
  | normal => exact hq
  | exit id => exact hq.elim
  | goto l => exact hq.elim
  | ret => exact hq.elim
  | panic ch => exact hq.elim
  | outgrown => exact hq.elim
end Go.Proofs.YtlgbpimmhnncgaaDoor.Msk
