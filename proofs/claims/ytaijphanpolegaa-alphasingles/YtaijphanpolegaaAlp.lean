/-
  The program's alphabets as they lie: letters by number, numbers by rank; Size, Name, Number, nameOf; whether a list has a text.
-/
import Derived.Test.YtaijphanpolegaaRds
import Derived.Test.YtaijphanpolegaaHpx
namespace Go.Proofs.Ytaijphanpolegaa.Utf
open Go Go.Lib Go.RowKit

/-- An alphabet that lies in a block: its letters, and their numbers by rank. -/
structure IsAlpha (W : World) (b : Nat) (L : List ByteArray) (rk : List Nat) : Prop where
  obj : ∃ a1 c1 a2 c2, W.heap[b]? = some (.cells #[.slice a1 L.length c1, .slice a2 L.length c2] 58) ∧ Reads W a1 (L.map Value.string) ∧ Reads W a2 (rk.map fun r : Nat => Value.int .i64 (r : Int))
  len : rk.length = L.length
  small : L.length ≤ 40
  ranks : ∀ r ∈ rk, r < L.length

theorem IsAlpha.below {W W' : World} {b : Nat} {L : List ByteArray} {rk : List Nat} (h : IsAlpha W b L rk) (hb : Below W.heap.size W W') : IsAlpha W' b L rk := by
  obtain ⟨⟨a1, c1, a2, c2, h1, h2, h3⟩, h4, h5, h6⟩ := h
  exact ⟨⟨a1, c1, a2, c2, (hb.block b (Array.getElem?_eq_some_iff.1 h1).1).trans h1, h2.below hb, h3.below hb⟩, h4, h5, h6⟩

theorem cells_two {W : World} {b : Nat} {x y : Value} {t : TypeId} (h : W.heap[b]? = some (.cells #[x, y] t)) : W.cell? ⟨b, 0, none⟩ = some x ∧ W.cell? ⟨b, 1, none⟩ = some y := by
  simp [World.cell?, h]

set_option maxHeartbeats 400000 in
theorem size_any {W : World} {b : Nat} {L : List ByteArray} {rk : List Nat} (h : IsAlpha W b L rk) :
    Calls Try.prog 14 #[.pointer (some ⟨b, 0, none⟩)] W fun e w' => e = .returned (.int .i64 L.length) ∧ w' = W := by
  obtain ⟨⟨a1, c1, a2, c2, h1, _, _⟩, h4, h5, _⟩ := h
  obtain ⟨e1, e2⟩ := cells_two h1
  clear h1
  go_enter Try.func14, Try.ntmps14
  go_wp2
  go_ret
  exact ⟨rfl, rfl⟩
set_option maxHeartbeats 400000 in
theorem size_nil (W : World) :
    Calls Try.prog 14 #[.pointer none] W fun e w' => e = .returned (.int .i64 0) ∧ w' = W := by
  go_enter Try.func14, Try.ntmps14
  go_wp2
  go_ret
  exact ⟨rfl, rfl⟩

/-- The text of a letter, an empty one where there is none. -/
def nameAt (L : List ByteArray) (i : Int) : ByteArray := if 0 ≤ i then (L[i.toNat]?).getD ⟨#[]⟩ else ⟨#[]⟩

set_option maxHeartbeats 1000000 in
theorem name_any {W : World} {b : Nat} {L : List ByteArray} {rk : List Nat} (h : IsAlpha W b L rk) (i : Int) (h0 : -9223372036854775808 ≤ i) (h1 : i ≤ 9223372036854775807) :
    Calls Try.prog 15 #[.pointer (some ⟨b, 0, none⟩), .int .i64 i] W fun e w' => e = .returned (.string (nameAt L i)) ∧ Below W.heap.size W w' := by
  have cS := size_any h
  obtain ⟨⟨a1, c1, a2, c2, g1, g2, _⟩, h4, h5, _⟩ := h
  obtain ⟨e1, e2⟩ := cells_two g1
  clear g1
  go_enter Try.func15, Try.ntmps15
  by_cases hi : i < 0
  · have HX : Hid (nameAt L i = ⟨#[]⟩) := by show _ = _; unfold nameAt; rw [if_neg (by omega)]
    go_wp2
    go_ret
    rw [HX.out]
    exact ⟨rfl, Below.refl _ _⟩
  · obtain ⟨k, rfl⟩ := Int.eq_ofNat_of_zero_le (by omega : 0 ≤ i)
    by_cases hk : k < L.length
    · have hkz : (k : Int) < (L.length : Int) := by omega
      obtain ⟨g, rfl, _, ec⟩ := g2 k (by simpa using hk)
      rw [List.getElem_map] at ec
      have HX : Hid (nameAt L (k : Int) = L[k]) := by show _ = _; unfold nameAt; rw [if_pos (by omega), Int.toNat_natCast, List.getElem?_eq_getElem hk]; rfl
      clear g2
      generalize L[k] = X at *
      go_wp2_with (go_at_call 14; refine cS.mono ?_; rintro e w' ⟨rfl, hw⟩; obtain rfl := hw.symm)
      (try go_quiet (fail))
      go_wp2
      go_ret
      rw [HX.out]
      exact ⟨rfl, by first | exact Below.refl _ _ | exact below_drewN (Below.refl _ _) _⟩
    · have hkz : ¬ (k : Int) < (L.length : Int) := by omega
      have HX : Hid (nameAt L (k : Int) = ⟨#[]⟩) := by show _ = _; unfold nameAt; rw [if_pos (by omega), Int.toNat_natCast, List.getElem?_eq_none (by omega)]; rfl
      go_wp2_with (go_at_call 14; refine cS.mono ?_; rintro e w' ⟨rfl, hw⟩; obtain rfl := hw.symm)
      go_ret
      rw [HX.out]
      exact ⟨rfl, Below.refl _ _⟩
set_option maxHeartbeats 400000 in
theorem name_nil (i : Int) (W : World) :
    Calls Try.prog 15 #[.pointer none, .int .i64 i] W fun e w' => e = .returned (.string ⟨#[]⟩) ∧ w' = W := by
  have cS := size_nil W
  go_enter Try.func15, Try.ntmps15
  by_cases hi : i < 0
  · go_wp2
    go_ret
    exact ⟨rfl, rfl⟩
  · have hk : (0 : Int) ≤ i := by omega
    go_wp2_with (go_at_call 14; refine cS.mono ?_; rintro e w' ⟨rfl, hw⟩; obtain rfl := hw.symm)
    go_ret
    exact ⟨rfl, rfl⟩
end Go.Proofs.Ytaijphanpolegaa.Utf
