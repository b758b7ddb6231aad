/-
  A list of lists of numbers in memory of the call's own: what it is, what keeps it, and one list more.
-/
import Derived.Test.YtaijphanpolegaaDwgq
namespace Go.Proofs.Ytaijphanpolegaa.Utf
open Go Go.Lib Go.RowKit

theorem infoSl : (Try.prog.info? 37).map (fun i => (i.zero, i.size, i.bytes)) = some (some (.slice none 0 0), 1, 24) := by kernel_rfl
/-- Slice values whose cells are the lists, in blocks of some kind. -/
def RowsN (W : World) (B : Nat) (N : Nat → Prop) (us : List Value) (pre : List (List Nat)) : Prop :=
  us.length = pre.length ∧ ∀ i (h : i < pre.length), ∃ u, us[i]? = some u ∧ W.ownsRow B 3 1 u pre[i].length (nums pre[i]) ∧ ∀ j, u.ownBlock = some j → N j
structure LL (B : Nat) (N : Nat → Prop) (v : Value) (pre : List (List Nat)) (W : World) : Prop where
  row : ∃ us, W.ownsRow B 37 1 v pre.length us ∧ RowsN W B N us pre
  own : ∀ j, v.ownBlock = some j → N j
theorem RowsN.els {W W' : World} {B : Nat} {N O : Nat → Prop} {us : List Value} {pre : List (List Nat)} (h : RowsN W B N us pre) (he : Els O W W') (hn : ∀ j, N j → ¬ O j) : RowsN W' B N us pre :=
  ⟨h.1, fun i hi => by obtain ⟨u, h1, h2, h3⟩ := h.2 i hi; exact ⟨u, h1, he.row h2 (fun j hj => hn j (h3 j hj)), h3⟩⟩
theorem LL.els {W W' : World} {B : Nat} {N O : Nat → Prop} {v : Value} {pre : List (List Nat)} (h : LL B N v pre W) (he : Els O W W') (hn : ∀ j, N j → ¬ O j) : LL B N v pre W' := by
  obtain ⟨⟨us, h1, h2⟩, h3⟩ := h
  exact ⟨⟨us, he.row h1 (fun j hj => hn j (h3 j hj)), h2.els he hn⟩, h3⟩
theorem LL.mono {W : World} {B : Nat} {N N' : Nat → Prop} {v : Value} {pre : List (List Nat)} (h : LL B N v pre W) (hn : ∀ j, j < W.heap.size → N j → N' j) : LL B N' v pre W := by
  obtain ⟨⟨us, h1, h2⟩, h3⟩ := h
  exact ⟨⟨us, h1, h2.1, fun i hi => by obtain ⟨u, e1, e2, e3⟩ := h2.2 i hi; exact ⟨u, e1, e2, fun j hj => hn j (e2.lt j hj).2 (e3 j hj)⟩⟩, fun j hj => hn j (h1.lt j hj).2 (h3 j hj)⟩
theorem rows_apart {W : World} {B B' n m j : Nat} {v u : Value} {xs ys : List Value} (h1 : W.ownsRow B 37 1 v n xs) (h2 : W.ownsRow B' 3 1 u m ys) (e1 : u.ownBlock = some j) : v.ownBlock ≠ some j := by
  intro e2
  rcases h1.2 with ⟨rfl, _⟩ | ⟨g, cap, cur, rfl, _, k1, _⟩
  · cases e2
  · rcases h2.2 with ⟨rfl, _⟩ | ⟨g', cap', cur', rfl, _, k2, _⟩
    · cases e1
    · cases e1
      cases e2
      rw [k1] at k2
      cases k2
/-- One list more. -/
theorem LL.snoc {W w1 : World} {B : Nat} {N : Nat → Prop} {v v' u : Value} {pre : List (List Nat)} {us : List Value} {x : List Nat} {o : Obj} (hrow : W.ownsRow B 37 1 v pre.length us) (hus : RowsN W B N us pre) (hx : W.ownsRow B 3 1 u x.length (nums x)) (hxN : ∀ j, u.ownBlock = some j → N j) (hvN : ∀ j, v.ownBlock = some j → N j)
    (hg : (W.alloc o).grownBy w1 v.ownBlock) (hr : w1.ownsRow B 37 1 v' (pre.length + 1) (us ++ [u])) (ho : v'.ownBlock = v.ownBlock ∨ v'.ownBlock = some (W.alloc o).heap.size) (hN : N (W.heap.size + 1)) : LL B N v' (pre ++ [x]) w1 := by
  have he1 : Els (fun j => v.ownBlock = some j) W (W.alloc o) := (Els.refl _ W).alloc o
  have he : Els (fun j => v.ownBlock = some j) W w1 := he1.trans (Els.grown hg fun j hj => hj)
  refine ⟨⟨us ++ [u], by rw [List.length_append]; exact hr, by rw [List.length_append, List.length_append, hus.1]; rfl, fun i hi => ?_⟩, fun j hj => ?_⟩
  · rw [List.length_append, List.length_singleton] at hi
    by_cases e : i < pre.length
    · obtain ⟨u', e1, e2, e3⟩ := hus.2 i e
      refine ⟨u', by rw [List.getElem?_append_left (by rw [hus.1]; exact e)]; exact e1, ?_, e3⟩
      rw [List.getElem_append_left e]
      exact he.row e2 fun j hj => rows_apart hrow e2 hj
    · obtain rfl : i = pre.length := by omega
      refine ⟨u, by rw [List.getElem?_append_right (by rw [hus.1]; exact Nat.le_refl _), hus.1, Nat.sub_self]; rfl, ?_, hxN⟩
      rw [List.getElem_append_right (Nat.le_refl _)]
      simp only [Nat.sub_self, List.getElem_cons_zero]
      exact he.row hx fun j hj => rows_apart hrow hx hj
  · rcases ho with h | h
    · exact hvN j (h ▸ hj)
    · rw [h, World.size_alloc] at hj
      rw [← Option.some.inj hj]
      exact hN
theorem LL.nil (W : World) (B : Nat) (N : Nat → Prop) : LL B N (.slice none 0 0) [] W := ⟨⟨[], World.ownsRow_nil _ _ _ _, rfl, fun i hi => by cases hi⟩, fun j hj => nomatch hj⟩
end Go.Proofs.Ytaijphanpolegaa.Utf
