/-
  The order of words walked: cmp.Compare, cmp.Or, slices.Compare at integers; the program's order of two words.
-/
import Derived.Test.YtcocbjipikeebaaDoorGxa
import Derived.Test.YtcocbjipikeebaaDoorNewq
import Derived.Test.YtcocbjipikeebaaDoorLsf
namespace Go.Proofs.YtcocbjipikeebaaDoor.Utf
open Go Go.Lib Go.RowKit

theorem cmpL_cons (a b : Int) (p q : List Int) : cmpL (a :: p) (b :: q) = if cmpI a b = 0 then cmpL p q else cmpI a b := by rw [cmpL]
theorem drop_at {p : List Int} {k : Nat} (h : k < p.length) : p.drop k = p[k] :: p.drop (k + 1) := List.drop_eq_getElem_cons h
theorem ints_at {p : List Int} {k : Nat} (h : k < (ints p).length) (h2 : k < p.length) : (ints p)[k] = .int .i64 p[k] := by simp [ints]
theorem ints_len (p : List Int) : (ints p).length = p.length := by simp [ints]

theorem heap_box (w : World) (o : Obj) : (w.alloc o).heap[w.heap.size]? = some o := by unfold World.alloc; simp
theorem box_at (w : World) (cs : Array Value) (t : TypeId) (j : Nat) {v : Value} (h : cs[j]? = some v) : (w.alloc (.cells cs t)).cell? ⟨w.heap.size, j, none⟩ = some v := by
  unfold World.cell?
  rw [heap_box]
  simp [h]
theorem below_box' (w : World) (o : Obj) : Below w.heap.size w (w.alloc o) := (Below.refl _ _).alloc (Nat.le_refl _) o
/-- The world has only grown: what was there lies there, and draws have gone on. -/
def Grw (w w' : World) : Prop := Below w.heap.size w w' ∧ w.drawn ≤ w'.drawn
theorem Grw.refl (w : World) : Grw w w := ⟨Below.refl _ _, Nat.le_refl _⟩
theorem Grw.trans {a b c : World} (h : Grw a b) (k : Grw b c) : Grw a c := ⟨h.1.trans (k.1.mono h.1.size), Nat.le_trans h.2 k.2⟩
end Go.Proofs.YtcocbjipikeebaaDoor.Utf
/-
  The entries are sorted: the program's comparison, the library's sort.
-/
namespace Go.Proofs.YtcocbjipikeebaaDoor.Utf
open Go Go.Lib Go.RowKit

/-- An entry as it lies in memory. -/
structure EntV where
  ao : Option Addr
  cap : Nat
  c : List Int
  t : ByteArray
  s : Int
def encE (x : EntV) : List Value := [.slice x.ao x.c.length x.cap, .string x.t, .int .i64 x.s]
theorem grw_grow {w w' : World} (h : Grw w w') : ∃ q os, w' = Go.Sort.grow (w.drewN q) os := by
  refine ⟨w'.drawn - w.drawn, w'.heap.extract w.heap.size w'.heap.size, ?_⟩
  obtain ⟨hb, hd⟩ := h
  have hh : w.heap ++ w'.heap.extract w.heap.size w'.heap.size = w'.heap := by
    apply Array.ext_getElem?
    intro i
    rw [Array.getElem?_append]
    by_cases h1 : i < w.heap.size
    · rw [if_pos h1]; exact (hb.block i h1).symm
    · rw [if_neg h1, Array.getElem?_extract]
      have := hb.size
      by_cases h2 : i < w'.heap.size
      · rw [if_pos (by omega)]
        congr 1
        omega
      · rw [if_neg (by omega)]
        exact (Array.getElem?_eq_none (by omega)).symm
  have h1 := hb.os
  have h2 := hb.tape
  have h3 := hb.output
  cases w
  cases w'
  simp only [World.drewN, Go.Sort.grow] at *
  subst h1 h2 h3
  rw [hh, show _ + (_ - _) = _ from Nat.add_sub_cancel' hd]

theorem ordI_irr (p : List Int) : ¬ ordI p p < 0 := by rw [ordI_zero.2 rfl]; decide
theorem ordI_ntr {p q r : List Int} (h1 : ¬ ordI p q < 0) (h2 : ¬ ordI q r < 0) : ¬ ordI p r < 0 := by
  by_cases e1 : ordI p q = 0
  · rw [ordI_zero.1 e1]; exact h2
  · by_cases e2 : ordI q r = 0
    · rw [← ordI_zero.1 e2]; exact h1
    · have n1 := ordI_neg p q
      have n2 := ordI_neg q r
      have n3 := ordI_neg p r
      have := ordI_trans (p := r) (q := q) (r := p) (by omega) (by omega)
      omega
section
variable (es : List EntV)
abbrev cfE (es : List EntV) (i j : Fin es.length) : Int := ordI es[i].c es[j].c
theorem swoE : Go.Sort.SWO (Go.Proofs.ltOf (cfE es)) where
  irrefl x := by unfold Go.Proofs.ltOf cfE; exact decide_eq_false (ordI_irr _)
  trans x y z h1 h2 := by
    unfold Go.Proofs.ltOf cfE at *
    exact decide_eq_true (ordI_trans (of_decide_eq_true h1) (of_decide_eq_true h2))
  ntrans x y z h1 h2 := by
    unfold Go.Proofs.ltOf cfE at *
    exact decide_eq_false (ordI_ntr (of_decide_eq_false h1) (of_decide_eq_false h2))
end
/-- The row of entries in block g. -/
def RowE (w : World) (g : Nat) (es : List EntV) : Prop := ∀ (i : Nat) (hi : i < es.length),
  (w.cell? ⟨g, i * 3 + 0, none⟩ = some (.slice es[i].ao es[i].c.length es[i].cap) ∧ w.frozen? ⟨g, i * 3 + 0, none⟩ = false) ∧
  (w.cell? ⟨g, i * 3 + 1, none⟩ = some (.string es[i].t) ∧ w.frozen? ⟨g, i * 3 + 1, none⟩ = false) ∧
  (w.cell? ⟨g, i * 3 + 2, none⟩ = some (.int .i64 es[i].s) ∧ w.frozen? ⟨g, i * 3 + 2, none⟩ = false)
theorem flat_at {α : Type} [Inhabited α] (enc : α → List Value) (d : Array α) (i r : Nat) (hi : i < d.size) (hr : r < 3) : (Go.Sort.flatK enc 3 d)[i * 3 + r]! = (enc d[i]!)[r]! := by
  rw [Go.Sort.get_flatK enc 3 d _ (by omega), show (i * 3 + r) / 3 = i by omega, show (i * 3 + r) % 3 = r by omega]
theorem rowE_holds {w : World} {g : Nat} {α : Type} [Inhabited α] (f : α → EntV) (d : Array α) : Go.Sort.HoldsK (fun x => encE (f x)) 3 w g 0 d ↔ RowE w g (d.toList.map f) := by
  have key : ∀ i r, i < d.size → r < 3 → (Go.Sort.flatK (fun x => encE (f x)) 3 d)[i * 3 + r]! = (encE (f d[i]!))[r]! := fun i r hi hr => flat_at _ d i r hi hr
  have hsz : (Go.Sort.flatK (fun x => encE (f x)) 3 d).size = d.size * 3 := Go.Sort.size_flatK _ _ _
  have hat : ∀ i (hi : i < (d.toList.map f).length) (hd : i < d.size), (d.toList.map f)[i] = f d[i]! := fun i hi hd => by
    rw [List.getElem_map, getElem!_pos d i hd]
    simp
  constructor
  · intro h i hi
    have hd : i < d.size := by simpa using hi
    rw [hat i hi hd]
    have k0 := h (i * 3 + 0) (by rw [hsz]; omega)
    have k1 := h (i * 3 + 1) (by rw [hsz]; omega)
    have k2 := h (i * 3 + 2) (by rw [hsz]; omega)
    rw [key i 0 hd (by decide), Nat.zero_add] at k0
    rw [key i 1 hd (by decide), Nat.zero_add] at k1
    rw [key i 2 hd (by decide), Nat.zero_add] at k2
    exact ⟨k0, k1, k2⟩
  · intro h j hj
    rw [hsz] at hj
    obtain ⟨i, r, hr, rfl⟩ : ∃ i r, r < 3 ∧ j = i * 3 + r := ⟨j / 3, j % 3, by omega, by omega⟩
    have hd : i < d.size := by omega
    obtain ⟨k0, k1, k2⟩ := h i (by simpa using hd)
    rw [hat i (by simpa using hd) hd] at k0 k1 k2
    rw [Nat.zero_add, key i r hd hr]
    have hr : r = 0 ∨ r = 1 ∨ r = 2 := by omega
    rcases hr with rfl | rfl | rfl
    · exact k0
    · exact k1
    · exact k2
/-- Sorted: the same entries, in their order. -/
structure Sorts (es es' : List EntV) : Prop where
  perm : es'.Perm es
  sort : es'.Pairwise fun x y => ordI x.c y.c < 0

end Go.Proofs.YtcocbjipikeebaaDoor.Utf
