/-
  What lies where while the program's New makes an alphabet: two lists of its own behind one pointer, each grown by one value a round.
-/
import Derived.Test.YtcocbjipikeebaaDoorGal
import Derived.Test.YtcocbjipikeebaaDoorOwn
import Derived.Lib.OwnKind
import Derived.RangeFuncBox
namespace Go.Proofs.YtcocbjipikeebaaDoor.Utf
open Go Go.Lib Go.RowKit

theorem infoInt' : (Tryd.prog.info? 3).map (fun i => (i.zero, i.size, i.bytes)) = some (some (.int .i64 0), 1, 8) := by kernel_rfl
theorem infoStr' : (Tryd.prog.info? 9).map (fun i => (i.zero, i.size, i.bytes)) = some (some (.string ⟨#[]⟩), 1, 16) := by kernel_rfl

theorem row_keeps {W W' : World} {B : Nat} {e : TypeId} {v : Value} {n : Nat} {xs : List Value} (h : W.ownsRow B e 1 v n xs) (hb : Below W.heap.size W W') : W'.ownsRow B e 1 v n xs := by
  rcases h with ⟨h1, h2 | ⟨g, cap, cur, e1, e2, e3, e4⟩⟩
  · exact ⟨h1, .inl h2⟩
  · exact ⟨h1, .inr ⟨g, cap, cur, e1, e2, (hb.block g (Array.getElem?_eq_some_iff.1 e3).1).trans e3, e4⟩⟩
theorem row_reads {W : World} {B : Nat} {e : TypeId} {v : Value} {xs : List Value} {n : Nat} (h : W.ownsRow B e 1 v n xs) : ∃ ao cap, v = .slice ao n cap ∧ Reads W ao xs := by
  have hh := h
  rcases h.2 with ⟨rfl, h0⟩ | ⟨g, cap, cur, rfl, hb, _⟩
  · have hx := h.1
    exact ⟨none, 0, by rw [h0], fun j hj => by omega⟩
  · refine ⟨_, cap, rfl, fun j hj => ⟨g, rfl, (hh.lt g rfl).2, ?_⟩⟩
    have := hh.cells (g := g) rfl j xs[j] (by simp [hj])
    rw [show (⟨g, 0, none⟩ : Addr).add j = ⟨g, j, none⟩ by unfold Addr.add; split <;> simp_all] at this
    exact this
theorem rows_lie_apart {W : World} {B B' : Nat} {e e' : TypeId} {v v' : Value} {n n' : Nat} {xs xs' : List Value} (h : W.ownsRow B e 1 v n xs) (h' : W.ownsRow B' e' 1 v' n' xs') (hne : e ≠ e') : v'.ownBlock = none ∨ v'.ownBlock ≠ v.ownBlock := by
  cases hv : v'.ownBlock with
  | none => exact .inl rfl
  | some g =>
    refine .inr fun hc => ?_
    obtain ⟨c, fz, h1⟩ := ownsRow_kind h' g hv
    obtain ⟨c2, fz2, h2⟩ := ownsRow_kind h g hc.symm
    rw [h1] at h2
    injection h2 with h2
    injection h2 with _ h3 _
    exact hne h3.symm

structure NewSt (w wr : World) (X1 X2 : List Value) (v1 v2 : Value) : Prop where
  two : wr.heap[w.heap.size]? = some (.cells #[v1, v2] 60 (0, 0))
  box : Boxed wr (w.heap.size + 1) 30 (.pointer (some ⟨w.heap.size, 0, none⟩))
  r1 : wr.ownsRow (w.heap.size + 2) 9 1 v1 X1.length X1
  r2 : wr.ownsRow (w.heap.size + 2) 3 1 v2 X2.length X2
  below : Below w.heap.size w wr

theorem NewSt.size {w wr : World} {X1 X2 : List Value} {v1 v2 : Value} (h : NewSt w wr X1 X2 v1 v2) : w.heap.size + 2 ≤ wr.heap.size := h.box.lt
theorem NewSt.c0 {w wr : World} {X1 X2 : List Value} {v1 v2 : Value} (h : NewSt w wr X1 X2 v1 v2) : wr.cell? ⟨w.heap.size, 0, none⟩ = some v1 := (cells_two h.two).1
theorem NewSt.c1 {w wr : World} {X1 X2 : List Value} {v1 v2 : Value} (h : NewSt w wr X1 X2 v1 v2) : wr.cell? ⟨w.heap.size, 1, none⟩ = some v2 := (cells_two h.two).2
theorem two_frozen {W : World} {b : Nat} {x y : Value} {t : TypeId} (h : W.heap[b]? = some (.cells #[x, y] t (0, 0))) (o : Nat) : W.frozen? ⟨b, o, none⟩ = false := by
  simp [World.frozen?, h]
theorem NewSt.keeps {w wr w' : World} {X1 X2 : List Value} {v1 v2 : Value} (h : NewSt w wr X1 X2 v1 v2) (hb : Below wr.heap.size wr w') : NewSt w w' X1 X2 v1 v2 :=
  ⟨(hb.block _ (Array.getElem?_eq_some_iff.1 h.two).1).trans h.two, (hb.block _ h.box.lt).trans h.box, row_keeps h.r1 hb, row_keeps h.r2 hb, h.below.trans (hb.mono (by have := h.size; omega))⟩
theorem NewSt.drew {w wr : World} {X1 X2 : List Value} {v1 v2 : Value} (h : NewSt w wr X1 X2 v1 v2) : NewSt w wr.drew X1 X2 v1 v2 := h.keeps (Below.drew (Below.refl _ _))
theorem NewSt.alloc {w wr : World} {X1 X2 : List Value} {v1 v2 : Value} (h : NewSt w wr X1 X2 v1 v2) (o : Obj) : NewSt w (wr.alloc o) X1 X2 v1 v2 := h.keeps ((Below.refl _ _).alloc (Nat.le_refl _) o)

theorem setCell_two0 {W : World} {b : Nat} {x y z : Value} {t : TypeId} (h : W.heap[b]? = some (.cells #[x, y] t (0, 0))) : (W.setCell ⟨b, 0, none⟩ z).heap[b]? = some (.cells #[z, y] t (0, 0)) := by
  obtain ⟨hlt, hk⟩ := Array.getElem?_eq_some_iff.1 h
  show (W.heap.modify b _)[b]? = _
  rw [Array.getElem?_eq_getElem (by rw [Array.size_modify]; exact hlt), Array.getElem_modify_self, hk]
  rfl
theorem setCell_two1 {W : World} {b : Nat} {x y z : Value} {t : TypeId} (h : W.heap[b]? = some (.cells #[x, y] t (0, 0))) : (W.setCell ⟨b, 1, none⟩ z).heap[b]? = some (.cells #[x, z] t (0, 0)) := by
  obtain ⟨hlt, hk⟩ := Array.getElem?_eq_some_iff.1 h
  show (W.heap.modify b _)[b]? = _
  rw [Array.getElem?_eq_getElem (by rw [Array.size_modify]; exact hlt), Array.getElem_modify_self, hk]
  rfl

/-- Behind the append to one of the two lists, ahead of the store. -/
theorem NewSt.mid {w W w3 : World} {X1 X2 : List Value} {v1 v2 : Value} (h : NewSt w W X1 X2 v1 v2) {row : Option Nat} (hg : W.grownBy w3 row) (hr : ∀ g, row = some g → w.heap.size + 2 ≤ g) :
    w3.heap[w.heap.size]? = some (.cells #[v1, v2] 60 (0, 0)) ∧ Boxed w3 (w.heap.size + 1) 30 (.pointer (some ⟨w.heap.size, 0, none⟩)) ∧ Below w.heap.size w w3 := by
  have hz := h.size
  refine ⟨(hg.block _ (Array.getElem?_eq_some_iff.1 h.two).1 (fun e => by have := hr _ e.symm; omega)).trans h.two, h.box.kept hg (fun e => by have := hr _ e.symm; omega), Below.grown h.below hg (by omega) (fun j hj => by have := hr j hj; omega)⟩
theorem NewSt.step1 {w W w3 : World} {X1 X2 : List Value} {v1 v2 v' x : Value} (h : NewSt w W X1 X2 v1 v2) (hg : W.grownBy w3 v1.ownBlock) (hr : w3.ownsRow (w.heap.size + 2) 9 1 v' (X1.length + 1) (X1 ++ [x])) :
    w3.cell? ⟨w.heap.size, 0, none⟩ = some v1 ∧ w3.frozen? ⟨w.heap.size, 0, none⟩ = false ∧ w3.cell? ⟨w.heap.size + 1, 0, none⟩ = some (.pointer (some ⟨w.heap.size, 0, none⟩)) ∧ NewSt w (w3.setCell ⟨w.heap.size, 0, none⟩ v') (X1 ++ [x]) X2 v' v2 := by
  obtain ⟨m1, m2, m3⟩ := h.mid hg (fun g e => (h.r1.lt g e).1)
  refine ⟨(cells_two m1).1, two_frozen m1 0, m2.cell, setCell_two0 m1, ?_, ?_, ?_, m3.setCell (p := ⟨w.heap.size, 0, none⟩) (Nat.le_refl _) _⟩
  · exact (Below.heap_setCell _ _ _ _ (by show w.heap.size + 1 ≠ w.heap.size; omega)).trans m2
  · rw [List.length_append]; exact ownsRow_setCell_below hr (a := ⟨w.heap.size, 0, none⟩) (by show w.heap.size < _; omega) _
  · exact ownsRow_setCell_below (h.r2.kept hg (rows_lie_apart h.r1 h.r2 (by decide))) (a := ⟨w.heap.size, 0, none⟩) (by show w.heap.size < _; omega) _
theorem NewSt.step2 {w W w3 : World} {X1 X2 : List Value} {v1 v2 v' x : Value} (h : NewSt w W X1 X2 v1 v2) (hg : W.grownBy w3 v2.ownBlock) (hr : w3.ownsRow (w.heap.size + 2) 3 1 v' (X2.length + 1) (X2 ++ [x])) :
    w3.cell? ⟨w.heap.size, 1, none⟩ = some v2 ∧ w3.frozen? ⟨w.heap.size, 1, none⟩ = false ∧ w3.cell? ⟨w.heap.size + 1, 0, none⟩ = some (.pointer (some ⟨w.heap.size, 0, none⟩)) ∧ NewSt w (w3.setCell ⟨w.heap.size, 1, none⟩ v') X1 (X2 ++ [x]) v1 v' := by
  obtain ⟨m1, m2, m3⟩ := h.mid hg (fun g e => (h.r2.lt g e).1)
  refine ⟨(cells_two m1).2, two_frozen m1 1, m2.cell, setCell_two1 m1, ?_, ?_, ?_, m3.setCell (p := ⟨w.heap.size, 1, none⟩) (Nat.le_refl _) _⟩
  · exact (Below.heap_setCell _ _ _ _ (by show w.heap.size + 1 ≠ w.heap.size; omega)).trans m2
  · exact ownsRow_setCell_below (h.r1.kept hg (rows_lie_apart h.r2 h.r1 (by decide))) (a := ⟨w.heap.size, 1, none⟩) (by show w.heap.size < _; omega) _
  · rw [List.length_append]; exact ownsRow_setCell_below hr (a := ⟨w.heap.size, 1, none⟩) (by show w.heap.size < _; omega) _
theorem NewSt.start (w : World) : NewSt w ((w.alloc (.cells #[.slice none 0 0, .slice none 0 0] 60)).alloc (.cells #[.pointer (some ⟨w.heap.size, 0, none⟩)] 30)) [] [] (.slice none 0 0) (.slice none 0 0) := by
  have hb : Below w.heap.size w (w.alloc (.cells #[.slice none 0 0, .slice none 0 0] 60)) := (Below.refl _ w).alloc (Nat.le_refl _) _
  have hbx := Boxed.new (w.alloc (.cells #[.slice none 0 0, .slice none 0 0] 60)) 30 (.pointer (some ⟨w.heap.size, 0, none⟩))
  rw [World.size_alloc] at hbx
  exact ⟨(Below.heap_alloc _ _ _ (by simp)).trans (World.alloc_heap_new w _), hbx, World.ownsRow_nil _ _ _ _, World.ownsRow_nil _ _ _ _, hb.alloc (by simp) _⟩
end Go.Proofs.YtcocbjipikeebaaDoor.Utf
