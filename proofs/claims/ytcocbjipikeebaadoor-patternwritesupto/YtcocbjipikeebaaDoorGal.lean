/-
  The program's alphabets as they lie: letters by number, numbers by rank; Size, Name, Number, nameOf; whether a list has a text.
-/
import Derived.Test.YtcocbjipikeebaaDoorRds
import Derived.Test.YtcocbjipikeebaaDoorHpx
import Derived.Deep.LoopGhost
namespace Go.Proofs.YtcocbjipikeebaaDoor.Utf
open Go Go.Lib Go.RowKit

/-- An alphabet that lies in a block: its letters, and their numbers by rank. -/
structure IsAlpha (W : World) (b : Nat) (L : List ByteArray) (rk : List Nat) : Prop where
  obj : ∃ a1 c1 a2 c2, W.heap[b]? = some (.cells #[.slice a1 L.length c1, .slice a2 L.length c2] 60) ∧ Reads W a1 (L.map Value.string) ∧ Reads W a2 (rk.map fun r : Nat => Value.int .i64 (r : Int))
  len : rk.length = L.length
  small : L.length ≤ 40
  ranks : ∀ r ∈ rk, r < L.length

theorem IsAlpha.below {W W' : World} {b : Nat} {L : List ByteArray} {rk : List Nat} (h : IsAlpha W b L rk) (hb : Below W.heap.size W W') : IsAlpha W' b L rk := by
  obtain ⟨⟨a1, c1, a2, c2, h1, h2, h3⟩, h4, h5, h6⟩ := h
  exact ⟨⟨a1, c1, a2, c2, (hb.block b (Array.getElem?_eq_some_iff.1 h1).1).trans h1, h2.below hb, h3.below hb⟩, h4, h5, h6⟩

theorem cells_two {W : World} {b : Nat} {x y : Value} {t : TypeId} (h : W.heap[b]? = some (.cells #[x, y] t)) : W.cell? ⟨b, 0, none⟩ = some x ∧ W.cell? ⟨b, 1, none⟩ = some y := by
  simp [World.cell?, h]

set_option maxHeartbeats 400000 in
theorem size_any {W : World} {b : Nat} {L : List ByteArray} {rk : List Nat} (h : IsAlpha W b L rk) :
    Calls Tryd.prog 16 #[.pointer (some ⟨b, 0, none⟩)] W fun e w' => e = .returned (.int .i64 L.length) ∧ w' = W := by
  obtain ⟨⟨a1, c1, a2, c2, h1, _, _⟩, h4, h5, _⟩ := h
  obtain ⟨e1, e2⟩ := cells_two h1
  clear h1
  go_enter Tryd.func16, Tryd.ntmps16
  go_wp2
  go_ret
  exact ⟨rfl, rfl⟩
set_option maxHeartbeats 400000 in
theorem size_nil (W : World) :
    Calls Tryd.prog 16 #[.pointer none] W fun e w' => e = .returned (.int .i64 0) ∧ w' = W := by
  go_enter Tryd.func16, Tryd.ntmps16
  go_wp2
  go_ret
  exact ⟨rfl, rfl⟩

/-- The text of a letter, an empty one where there is none. -/
def nameAt (L : List ByteArray) (i : Int) : ByteArray := if 0 ≤ i then (L[i.toNat]?).getD ⟨#[]⟩ else ⟨#[]⟩

set_option maxHeartbeats 1000000 in
theorem name_any {W : World} {b : Nat} {L : List ByteArray} {rk : List Nat} (h : IsAlpha W b L rk) (i : Int) (h0 : -9223372036854775808 ≤ i) (h1 : i ≤ 9223372036854775807) :
    Calls Tryd.prog 37 #[.pointer (some ⟨b, 0, none⟩), .int .i64 i] W fun e w' => e = .returned (.string (nameAt L i)) ∧ Below W.heap.size W w' := by
  have cS := size_any h
  obtain ⟨⟨a1, c1, a2, c2, g1, g2, _⟩, h4, h5, _⟩ := h
  obtain ⟨e1, e2⟩ := cells_two g1
  clear g1
  go_enter Tryd.func37, Tryd.ntmps37
  by_cases hi : i < 0
  · have HX : Hid (nameAt L i = ⟨#[]⟩) := by show _ = _; unfold nameAt; rw [if_neg (by omega)]
    go_wp2
    go_ret
    rw [HX.out]
    exact ⟨rfl, Below.refl _ _⟩
  · obtain ⟨k, rfl⟩ := Int.eq_ofNat_of_zero_le (by omega : 0 ≤ i)
    by_cases hk : k < L.length
    · have hkz : (k : Int) < (L.length : Int) := by omega
      obtain ⟨g, rfl, _, ec⟩ := g2 k (by simpa using hk)
      rw [List.getElem_map] at ec
      have HX : Hid (nameAt L (k : Int) = L[k]) := by show _ = _; unfold nameAt; rw [if_pos (by omega), Int.toNat_natCast, List.getElem?_eq_getElem hk]; rfl
      clear g2
      generalize L[k] = X at *
      go_wp2_with (go_at_call 16; refine cS.mono ?_; rintro e w' ⟨rfl, hw⟩; obtain rfl := hw.symm)
      (try go_quiet (fail))
      go_wp2
      go_ret
      rw [HX.out]
      exact ⟨rfl, by first | exact Below.refl _ _ | exact below_drewN (Below.refl _ _) _⟩
    · have hkz : ¬ (k : Int) < (L.length : Int) := by omega
      have HX : Hid (nameAt L (k : Int) = ⟨#[]⟩) := by show _ = _; unfold nameAt; rw [if_pos (by omega), Int.toNat_natCast, List.getElem?_eq_none (by omega)]; rfl
      go_wp2_with (go_at_call 16; refine cS.mono ?_; rintro e w' ⟨rfl, hw⟩; obtain rfl := hw.symm)
      go_ret
      rw [HX.out]
      exact ⟨rfl, Below.refl _ _⟩
set_option maxHeartbeats 400000 in
theorem name_nil (i : Int) (W : World) :
    Calls Tryd.prog 37 #[.pointer none, .int .i64 i] W fun e w' => e = .returned (.string ⟨#[]⟩) ∧ w' = W := by
  have cS := size_nil W
  go_enter Tryd.func37, Tryd.ntmps37
  by_cases hi : i < 0
  · go_wp2
    go_ret
    exact ⟨rfl, rfl⟩
  · have hk : (0 : Int) ≤ i := by omega
    go_wp2_with (go_at_call 16; refine cS.mono ?_; rintro e w' ⟨rfl, hw⟩; obtain rfl := hw.symm)
    go_ret
    exact ⟨rfl, rfl⟩
end Go.Proofs.YtcocbjipikeebaaDoor.Utf
/-
  The program's alphabets: Number, nameOf, standing; whether a list of texts has a text (slices.Index, slices.Contains).
-/
namespace Go.Proofs.YtcocbjipikeebaaDoor.Utf
open Go Go.Lib Go.RowKit

/-- The letter of a rank. -/
def nmR (L : List ByteArray) (rk : List Nat) (r : Nat) : ByteArray := (L[(rk[r]?).getD 0]?).getD ⟨#[]⟩
/-- A text begins with another. -/
abbrev begins (t p : ByteArray) : Bool := Lib.hasPrefix t.data.toList p.data.toList

theorem IsAlpha.nm {W : World} {b : Nat} {L : List ByteArray} {rk : List Nat} (h : IsAlpha W b L rk) (r : Nat) (hr : r < L.length) : ∃ k, rk[r]? = some k ∧ ∃ hk : k < L.length, nmR L rk r = L[k] := by
  have hl := h.len
  have hr' : r < rk.length := by omega
  have hk := h.ranks rk[r] (List.getElem_mem hr')
  refine ⟨rk[r], List.getElem?_eq_getElem hr', hk, ?_⟩
  unfold nmR
  rw [List.getElem?_eq_getElem hr', Option.getD_some, List.getElem?_eq_getElem hk]
  rfl

theorem toList_inj {a b : ByteArray} (h : a.toList = b.toList) : a = b := by
  rw [Lib.toList_data, Lib.toList_data] at h
  exact ByteArray.ext (Array.ext' h)

set_option maxHeartbeats 1000000 in
theorem index_any (zs : List ByteArray) (v : ByteArray) (a1 : Option Addr) (c1 : Nat) (w : World) (hl : zs.length ≤ 16777216) (h1 : Reads w a1 (zs.map Value.string)) :
    Calls Tryd.prog 45 #[.slice a1 zs.length c1, .string v] w fun e w' => (∃ z : Int, e = .returned (.int .i64 z) ∧ (v ∈ zs → 0 ≤ z) ∧ (v ∉ zs → z = -1)) ∧ Below w.heap.size w w' := by
  go_enter Tryd.func45, Tryd.ntmps45
  go_wp2
  go_loopg [8] zs.length (fun g1 vi wr => ∃ k : Nat, vi = .int .i64 (k : Int) ∧ k ≤ zs.length ∧ zs.length - k ≤ g1 ∧ Aside (Below w.heap.size w wr) ∧ Aside (∀ j (h : j < zs.length), j < k → v ≠ zs[j]))
  case atStart => exact ⟨0, rfl, Nat.zero_le _, Nat.le_refl _, Below.refl _ _, fun j _ h => by omega⟩
  case round =>
    obtain ⟨k, rfl, hk, hg1, hB, HN⟩ := hrel
    by_cases hlt : k < zs.length
    · have hltz : (k : Int) < (zs.length : Int) := by omega
      obtain ⟨g, rfl, _, e1⟩ := (h1.below hB.out) k (by simpa using hlt)
      rw [List.getElem_map] at e1
      by_cases hv : v = zs[k]
      · have HM : Aside (v ∈ zs) := by show v ∈ zs; rw [hv]; exact List.getElem_mem hlt
        rw [← hv] at e1
        clear h1 hv HN
        go_wp2
        (try go_quiet (fail))
        go_wp2
        go_ret
        exact ⟨⟨k, rfl, fun _ => by omega, fun h => absurd HM.out h⟩, by first | exact hB.out | exact below_drewN hB.out _⟩
      · have hne : (v.toList == zs[k].toList) = false := by rw [beq_eq_false_iff_ne]; exact fun h => hv (toList_inj h)
        have HX : Aside (∀ j (h : j < zs.length), j < k + 1 → v ≠ zs[j]) := fun j h h2 => by
          by_cases hj : j = k
          · subst hj; exact hv
          · exact HN.out j h (by omega)
        clear h1 HN hv
        generalize zs[k] = z at *
        go_wp2
        (try go_quiet (fail))
        go_wp2
        go_roundg (zs.length - (k + 1))
        case measure => omega
        case rel => exact ⟨k + 1, by go_num, by omega, Nat.le_refl _, by first | exact hB | exact below_drewN hB.out _, HX⟩
    · have hltz : ¬ (k : Int) < (zs.length : Int) := by omega
      have HM : Aside (v ∉ zs) := fun h => by
        obtain ⟨j, hj, e⟩ := List.getElem_of_mem h
        exact HN.out j hj (by omega) e.symm
      go_wp2
      go_ret
      exact ⟨⟨-1, rfl, fun h => absurd h HM.out, fun _ => rfl⟩, hB.out⟩

open Classical in
set_option maxHeartbeats 400000 in
theorem contains_any (zs : List ByteArray) (v : ByteArray) (a1 : Option Addr) (c1 : Nat) (w : World) (hl : zs.length ≤ 16777216) (h1 : Reads w a1 (zs.map Value.string)) :
    Calls Tryd.prog 22 #[.slice a1 zs.length c1, .string v] w fun e w' => e = .returned (.bool (decide (v ∈ zs))) ∧ Below w.heap.size w w' := by
  have cI := index_any zs v a1 c1 w hl h1
  clear h1
  go_enter Tryd.func22, Tryd.ntmps22
  go_wp2_with fail
  refine cI.mono ?_
  rintro e w' ⟨⟨z, rfl, h1, h2⟩, hb⟩
  clear cI
  by_cases hv : v ∈ zs
  · have hz := h1 hv
    have HX : Hid (decide (v ∈ zs) = true) := decide_eq_true hv
    clear h1 h2
    go_wp2
    go_ret
    rw [HX.out]
    exact ⟨rfl, hb⟩
  · obtain rfl := h2 hv
    have HX : Hid (decide (v ∈ zs) = false) := decide_eq_false hv
    clear h1 h2
    go_wp2
    go_ret
    rw [HX.out]
    exact ⟨rfl, hb⟩
end Go.Proofs.YtcocbjipikeebaaDoor.Utf
