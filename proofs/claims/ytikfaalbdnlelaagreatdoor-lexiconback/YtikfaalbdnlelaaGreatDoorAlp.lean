/-
  The program's alphabets as they lie: letters by number, numbers by rank; Size, Name, Number, nameOf; whether a list has a text.
-/
import Derived.Test.YtikfaalbdnlelaaGreatDoorRds
import Derived.Test.YtikfaalbdnlelaaGreatDoorHpx
namespace Go.Proofs.YtikfaalbdnlelaaGreatDoor.Utf
open Go Go.Lib Go.RowKit

/-- An alphabet that lies in a block: its letters, and their numbers by rank. -/
structure IsAlpha (W : World) (b : Nat) (L : List ByteArray) (rk : List Nat) : Prop where
  obj : ∃ a1 c1 a2 c2, W.heap[b]? = some (.cells #[.slice a1 L.length c1, .slice a2 L.length c2] 59) ∧ Reads W a1 (L.map Value.string) ∧ Reads W a2 (rk.map fun r : Nat => Value.int .i64 (r : Int))
  len : rk.length = L.length
  small : L.length ≤ 40
  ranks : ∀ r ∈ rk, r < L.length

theorem IsAlpha.below {W W' : World} {b : Nat} {L : List ByteArray} {rk : List Nat} (h : IsAlpha W b L rk) (hb : Below W.heap.size W W') : IsAlpha W' b L rk := by
  obtain ⟨⟨a1, c1, a2, c2, h1, h2, h3⟩, h4, h5, h6⟩ := h
  exact ⟨⟨a1, c1, a2, c2, (hb.block b (Array.getElem?_eq_some_iff.1 h1).1).trans h1, h2.below hb, h3.below hb⟩, h4, h5, h6⟩

theorem cells_two {W : World} {b : Nat} {x y : Value} {t : TypeId} (h : W.heap[b]? = some (.cells #[x, y] t)) : W.cell? ⟨b, 0, none⟩ = some x ∧ W.cell? ⟨b, 1, none⟩ = some y := by
  simp [World.cell?, h]

set_option maxHeartbeats 400000 in
theorem size_any {W : World} {b : Nat} {L : List ByteArray} {rk : List Nat} (h : IsAlpha W b L rk) :
    Calls Tryz.prog 56 #[.pointer (some ⟨b, 0, none⟩)] W fun e w' => e = .returned (.int .i64 L.length) ∧ w' = W := by
  obtain ⟨⟨a1, c1, a2, c2, h1, _, _⟩, h4, h5, _⟩ := h
  obtain ⟨e1, e2⟩ := cells_two h1
  clear h1
  go_enter Tryz.func56, Tryz.ntmps56
  go_wp2
  go_ret
  exact ⟨rfl, rfl⟩
set_option maxHeartbeats 400000 in
theorem size_nil (W : World) :
    Calls Tryz.prog 56 #[.pointer none] W fun e w' => e = .returned (.int .i64 0) ∧ w' = W := by
  go_enter Tryz.func56, Tryz.ntmps56
  go_wp2
  go_ret
  exact ⟨rfl, rfl⟩

/-- The text of a letter, an empty one where there is none. -/
def nameAt (L : List ByteArray) (i : Int) : ByteArray := if 0 ≤ i then (L[i.toNat]?).getD ⟨#[]⟩ else ⟨#[]⟩

end Go.Proofs.YtikfaalbdnlelaaGreatDoor.Utf
