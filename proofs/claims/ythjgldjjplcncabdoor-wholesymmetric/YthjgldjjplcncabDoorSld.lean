/-
  A list of slots in memory of the call's own.
-/
import Derived.Test.YthjgldjjplcncabDoorSlc
namespace Go.Proofs.YthjgldjjplcncabDoor.Grd
open Go Go.Lib Go.RowKit

theorem infoSlot : (Tryd.prog.info? 39).map (fun i => (i.zero, i.size, i.bytes)) = some (some (.agg #[.int .i64 0, .bool false, .slice none 0 0]), 3, 40) := by kernel_rfl
theorem infoSeat : (Tryd.prog.info? 77).map (fun i => (i.zero, i.size, i.bytes)) = some (some (.agg #[.int .i64 0, .int .i64 0]), 2, 16) := by kernel_rfl
/-- The cells of a list of slots: the slots' lists lie elsewhere. -/
def slCells : List Sl → List Value → List Value
  | s :: r, u :: us => .int .i64 (s.num : Int) :: .bool s.dn :: u :: slCells r us
  | _, _ => []
theorem slCells_length : ∀ (L : List Sl) (us : List Value), us.length = L.length → (slCells L us).length = L.length * 3
  | [], [], _ => rfl
  | s :: r, u :: us, h => by
    simp only [slCells, List.length_cons] at h ⊢
    rw [slCells_length r us (by omega)]
    omega
theorem slCells_snoc (s : Sl) (u : Value) : ∀ (L : List Sl) (us : List Value), us.length = L.length → slCells (L ++ [s]) (us ++ [u]) = slCells L us ++ [.int .i64 (s.num : Int), .bool s.dn, u]
  | [], [], _ => rfl
  | _ :: r, _ :: us, h => by
    simp only [slCells, List.cons_append]
    rw [slCells_snoc s u r us (by simpa using h)]
theorem slCells_at : ∀ (L : List Sl) (us : List Value) (k : Nat) (s : Sl) (u : Value), L[k]? = some s → us[k]? = some u → (slCells L us)[3 * k]? = some (.int .i64 (s.num : Int)) ∧ (slCells L us)[3 * k + 1]? = some (.bool s.dn) ∧ (slCells L us)[3 * k + 2]? = some u
  | [], _, k, s, u, h, _ => by simp at h
  | _ :: _, [], k, s, u, _, h => by simp at h
  | x :: r, y :: us, 0, s, u, h, h2 => by
    simp only [List.getElem?_cons_zero, Option.some.injEq] at h h2
    subst h h2
    simp [slCells]
  | x :: r, y :: us, k + 1, s, u, h, h2 => by
    have := slCells_at r us k s u (by simpa using h) (by simpa using h2)
    simp only [slCells]
    refine ⟨?_, ?_, ?_⟩
    · rw [show 3 * (k + 1) = 3 * k + 1 + 1 + 1 by omega]; simpa using this.1
    · rw [show 3 * (k + 1) + 1 = 3 * k + 1 + 1 + 1 + 1 by omega]; simpa using this.2.1
    · rw [show 3 * (k + 1) + 2 = 3 * k + 2 + 1 + 1 + 1 by omega]; simpa using this.2.2
/-- A list of slots, in memory from B on; the slots' lists, no two in one block. -/
structure OwnL (W : World) (B : Nat) (v : Value) (L : List Sl) (us : List Value) : Prop where
  row : W.ownsRow B 39 3 v L.length (slCells L us)
  len : us.length = L.length
  each : ∀ (k : Nat) (s : Sl) (u : Value), L[k]? = some s → us[k]? = some u → W.ownsRow B 3 1 u s.cs.length (cellsI (ints s.cs))
  two : (us.map Value.ownBlock).Nodup
theorem row_keeps3 {W W' : World} {B n z : Nat} {e : TypeId} {v : Value} {xs : List Value} (h : W.ownsRow B e z v n xs) (hb : Below W.heap.size W W') : W'.ownsRow B e z v n xs := by
  rcases h with ⟨h1, h2 | ⟨g, cap, cur, e1, e2, e3, e4⟩⟩
  · exact ⟨h1, .inl h2⟩
  · exact ⟨h1, .inr ⟨g, cap, cur, e1, e2, (hb.block g (Array.getElem?_eq_some_iff.1 e3).1).trans e3, e4⟩⟩
theorem row_base3 {W : World} {B B' n z : Nat} {e : TypeId} {v : Value} {xs : List Value} (h : W.ownsRow B e z v n xs) (hb : B' ≤ B) : W.ownsRow B' e z v n xs := by
  rcases h with ⟨h1, h2 | ⟨g, cap, cur, e1, e2, e3, e4⟩⟩
  · exact ⟨h1, .inl h2⟩
  · exact ⟨h1, .inr ⟨g, cap, cur, e1, Nat.le_trans hb e2, e3, e4⟩⟩
theorem OwnL.keep {W W' : World} {B : Nat} {v : Value} {L : List Sl} {us : List Value} (h : OwnL W B v L us) (hb : Below W.heap.size W W') : OwnL W' B v L us :=
  ⟨row_keeps3 h.row hb, h.len, fun k s u h1 h2 => row_keeps3 (h.each k s u h1 h2) hb, h.two⟩
theorem OwnL.alloc {W : World} {B : Nat} {v : Value} {L : List Sl} {us : List Value} (h : OwnL W B v L us) (o : Obj) : OwnL (W.alloc o) B v L us := h.keep ((Below.refl _ _).alloc (Nat.le_refl _) o)
theorem OwnL.base {W : World} {B B' : Nat} {v : Value} {L : List Sl} {us : List Value} (h : OwnL W B v L us) (hb : B' ≤ B) : OwnL W B' v L us :=
  ⟨row_base3 h.row hb, h.len, fun k s u h1 h2 => row_base3 (h.each k s u h1 h2) hb, h.two⟩
theorem OwnL.nil (W : World) (B : Nat) : OwnL W B (.slice none 0 0) [] [] := ⟨World.ownsRow_nil _ _ _ _, rfl, fun k s u h => by simp at h, List.nodup_nil⟩
theorem slot_apart {W : World} {B B' n m j : Nat} {v u : Value} {xs ys : List Value} (h1 : W.ownsRow B 39 3 v n xs) (h2 : W.ownsRow B' 3 1 u m ys) (e1 : u.ownBlock = some j) : v.ownBlock ≠ some j := by
  intro e2
  rcases h1.2 with ⟨rfl, _⟩ | ⟨g, cap, cur, rfl, _, k1, _⟩
  · cases e2
  · rcases h2.2 with ⟨rfl, _⟩ | ⟨g', cap', cur', rfl, _, k2, _⟩
    · cases e1
    · cases e1
      cases e2
      rw [k1] at k2
      cases k2
theorem row_grown {W W' : World} {B n z : Nat} {e : TypeId} {v : Value} {xs : List Value} {b : Option Nat} (h : W.ownsRow B e z v n xs) (hg : W.grownBy W' b) (hne : ∀ j, v.ownBlock = some j → b ≠ some j) : W'.ownsRow B e z v n xs := by
  rcases h with ⟨h1, h2 | ⟨g, cap, cur, e1, e2, e3, e4⟩⟩
  · exact ⟨h1, .inl h2⟩
  · refine ⟨h1, .inr ⟨g, cap, cur, e1, e2, (hg.block g (Array.getElem?_eq_some_iff.1 e3).1 fun h => ?_).trans e3, e4⟩⟩
    subst e1
    exact hne g rfl h.symm
/-- One slot more. -/
theorem OwnL.snoc {W w1 : World} {B : Nat} {v v' u : Value} {L : List Sl} {us : List Value} {s : Sl} (h : OwnL W B v L us)
    (hx : W.ownsRow B 3 1 u s.cs.length (cellsI (ints s.cs))) (hnew : ∀ j, u.ownBlock = some j → ∀ y ∈ us, y.ownBlock ≠ some j) (hsome : ∃ j, u.ownBlock = some j)
    (hg : W.grownBy w1 v.ownBlock) (hr : w1.ownsRow B 39 3 v' (L.length + 1) (slCells L us ++ [.int .i64 (s.num : Int), .bool s.dn, u])) : OwnL w1 B v' (L ++ [s]) (us ++ [u]) := by
  refine ⟨by rw [List.length_append, slCells_snoc s u L us h.len]; exact hr, by rw [List.length_append, List.length_append, h.len]; rfl, fun k t y h1 h2 => ?_, ?_⟩
  · by_cases e : k < L.length
    · rw [List.getElem?_append_left e] at h1
      rw [List.getElem?_append_left (by rw [h.len]; exact e)] at h2
      have hy := h.each k t y h1 h2
      exact row_grown hy hg fun j hj => slot_apart h.row hy hj
    · have hk : k = L.length := by have := (List.getElem?_eq_some_iff.1 h1).1; simp at this; omega
      subst hk
      rw [List.getElem?_append_right (Nat.le_refl _), Nat.sub_self] at h1
      rw [List.getElem?_append_right (by rw [h.len]; exact Nat.le_refl _), h.len, Nat.sub_self] at h2
      simp at h1 h2
      subst h1 h2
      exact row_grown hx hg fun j hj => slot_apart h.row hx hj
  · rw [List.map_append, List.nodup_append]
    refine ⟨h.two, by simp, fun a ha b hb => ?_⟩
    obtain ⟨y, hy, rfl⟩ := List.mem_map.1 ha
    obtain ⟨j, hj⟩ := hsome
    simp at hb
    subst hb
    intro e
    exact hnew j hj y hy (e.trans hj)
end Go.Proofs.YthjgldjjplcncabDoor.Grd
