/-
  The program's Back: what is written for the runes at the text's places, the last one first, for every text of up to 16777216 bytes.
-/
import Derived.Test.YtkjhjkpnkcnbgaaDoorPlc
import Derived.Test.YtkjhjkpnkcnbgaaDoorFix
namespace Go.Proofs.YtkjhjkpnkcnbgaaDoor.Utf
open Go Go.Lib Go.RowKit Go.Shelf

theorem pairs_mem (s : ByteArray) : ∀ fuel pos, ∀ x ∈ pairsFrom s fuel pos, x.1 < s.size ∧ x.2 = (Utf8.decode s x.1).1
  | 0, _, _, h => by simp [pairsFrom] at h
  | f + 1, pos, x, h => by
    by_cases hp : pos < s.size
    · rw [pairsFrom_step hp] at h
      rcases List.mem_cons.1 h with rfl | h
      · exact ⟨hp, rfl⟩
      · exact pairs_mem s f _ x h
    · rw [pairsFrom_end s _ pos hp] at h; cases h
/-- A builder that the call has made stands where all that lay has stood. -/
theorem builderAtF_below {T e : TypeId} {B b : Nat} {p : Value} {bs : List Value} {W W' : World} (h : Lib.BuilderAtF T e B b p bs W) (hb : Below W.heap.size W W') : Lib.BuilderAtF T e B b p bs W' := by
  obtain ⟨hB, v, hbk, hown, hne⟩ := h
  refine ⟨hB, v, (hb.block b (Array.getElem?_eq_some_iff.1 hbk).1).trans hbk, ⟨hown.1, ?_⟩, hne⟩
  rcases hown.2 with hn | ⟨g, cap, cur, fz, hv, hbg, hg, rest⟩
  · exact .inl hn
  · exact .inr ⟨g, cap, cur, fz, hv, hbg, (hb.block g (Array.getElem?_eq_some_iff.1 hg).1).trans hg, rest⟩
theorem isBuilderF_below {T e : TypeId} {B b : Nat} {bs : List Value} {W W' : World} (h : Lib.IsBuilderF T e B b bs W) (hb : Below W.heap.size W W') : Lib.IsBuilderF T e B b bs W' :=
  h.elim (fun x => .inl (builderAtF_below x hb)) (fun x => .inr (builderAtF_below x hb))
theorem drop_rev {α : Type} (l : List α) (j : Nat) (h : j < l.length) : (l.drop j).reverse = (l.drop (j + 1)).reverse ++ [l[j]] := by
  rw [List.drop_eq_getElem_cons h, List.reverse_cons]

set_option maxHeartbeats 1000000 in
theorem back_any (s : ByteArray) (w : World) (hs : s.size ≤ 16777216) (hT : Lib.Utf8Tabs 0 1 w) :
    Calls Tryd.prog 23 #[.string s] w fun e w' => e = .returned (.string ⟨(encs (pairs s).reverse).toArray⟩) ∧ Below w.heap.size w w' := by
  have hsz := tabs_size hT
  have hpl := pairs_le s
  have cP := places_any s w hs
  have hm : ∀ x ∈ pairs s, x.1 < s.size ∧ x.2 = (Utf8.decode s x.1).1 := pairs_mem s _ _
  generalize hL : pairs s = L at *
  clear hL
  go_enter Tryd.func23, Tryd.ntmps23
  go_wp2_with fail
  refine cP.mono ?_
  rintro e w1 ⟨v, rfl, hown, hb1⟩
  obtain ⟨ao, cap, rfl, hcell⟩ : ∃ ao cap, v = .slice ao L.length cap ∧ ∀ j (h : j < L.length), ∃ g, ao = some ⟨g, 0, none⟩ ∧ g < w1.heap.size ∧ w1.cell? ⟨g, j, none⟩ = some (.int .i64 (L[j].1 : Int)) := by
    have hh := hown
    rcases hown.2 with ⟨rfl, h0⟩ | ⟨g, cap, cur, rfl, _⟩
    · exact ⟨none, 0, by rw [h0], fun j h => by omega⟩
    · refine ⟨_, cap, rfl, fun j h => ⟨g, rfl, (hh.lt g rfl).2, ?_⟩⟩
      have := hh.cells (g := g) rfl j (.int .i64 (L[j].1 : Int)) (by simp [plc, h])
      rw [show (⟨g, 0, none⟩ : Addr).add j = ⟨g, j, none⟩ by unfold Addr.add; split <;> simp_all] at this
      exact this
  clear hown cP
  have hI0 := isBuilderF_new 49 5 w1
  have hB0 : Below w1.heap.size w1 (w1.alloc (.cells #[.pointer none, .slice none 0 0] 49)) := (Below.refl _ w1).alloc (Nat.le_refl _) _
  have hT1 := tabs_below hb1 hsz hT
  have hsz1 := hb1.size
  clear hT
  go_wp2
  go_loopw [5] (fun i wr => ∃ (k : Nat) (z : Int), i = .int .i64 z ∧ Hid (z + 1 = k) ∧ -1 ≤ z ∧ z < L.length ∧ Lib.IsBuilderF 49 5 w1.heap.size w1.heap.size (Lib.byteCells (encs (L.drop k).reverse)) wr ∧ Below w1.heap.size w1 wr)
    (fun i _ => (RowKit.intOf i + 1).toNat)
  case atStart =>
    refine ⟨L.length, _, rfl, by show _ = _; omega, by omega, by omega, ?_, hB0⟩
    rw [List.drop_length]; exact hI0
  case round =>
    obtain ⟨k, z, rfl, HZ, hz1, hz2, hI, hB⟩ := hrel
    by_cases hz : 0 ≤ z
    · obtain ⟨j, rfl⟩ := Int.eq_ofNat_of_zero_le hz
      obtain rfl : k = j + 1 := by have := HZ.out; omega
      have hj : j < L.length := by omega
      obtain ⟨g, rfl, hg, hc⟩ := hcell j hj
      have hc' : wr.cell? ⟨g, j, none⟩ = some (.int .i64 (L[j].1 : Int)) := (hB.cell (p := ⟨g, j, none⟩) hg).trans hc
      obtain ⟨m1, m2⟩ := hm L[j] (List.getElem_mem hj)
      have hd := drop_rev L j hj
      generalize L[j] = x at *
      have hTr := tabs_below hB (by omega) hT1
      have cN := next_any s (x.1 : Int) wr hTr
      rw [nextR_in m1, nextW_in m1, ← m2] at cN
      have cE := fun w => encode_any (x.2 : Int) w
      have hEl : (Utf8.encode (x.2 : Int)).data.toList = encB x.2 := by rw [encB]
      generalize Utf8.encode (x.2 : Int) = E at cE hEl
      have hE4 : E.size ≤ 4 := by rw [← ba_len, hEl]; exact encB_le _
      have hle : (encs (L.drop (j + 1)).reverse).length ≤ 4 * L.length := by
        have := encs_le (L.drop (j + 1)).reverse
        rw [List.length_reverse, List.length_drop] at this
        omega
      have HE : Hid (encs (L.drop (j + 1)).reverse ++ E.data.toList = encs (L.drop j).reverse) := by
        show _ = _
        rw [hd, encs_snoc, hEl]
      clear hd HZ hc hcell hm hEl m2
      go_wp2_with fail
      refine cN.mono ?_
      rintro e w2 ⟨rfl, hb2⟩
      go_wp2_with fail
      refine (cE _).mono ?_
      rintro e w3 ⟨rfl, rfl⟩
      have hI2 := isBuilderF_below hI hb2
      have hB2 := hB.trans (hb2.mono hB.size)
      have cW := writeString_any w1.heap.size w1.heap.size (Lib.byteCells (encs (L.drop (j + 1)).reverse)) E w3 hI2 (by rw [Lib.byteCells_length]; omega) hB2.size
      rw [strCells_bytes, ← byteCells_append, HE.out] at cW
      clear HE hI hI2 hb2 cN hle cE
      go_wp2_with fail
      refine cW.mono ?_
      rintro e w4 ⟨rfl, hA4, hb4, _⟩
      clear cW
      go_wp2
      go_roundw
      case rel => exact ⟨j, (j : Int) - 1, rfl, by show _ = _; omega, by omega, by omega, .inr hA4, hB2.trans hb4⟩
      case measure => simp [RowKit.intOf]
    · obtain rfl : k = 0 := by have := HZ.out; omega
      rw [List.drop_zero] at hI
      have cS := string_any w1.heap.size w1.heap.size (encs L.reverse) wr hI hB.size
      go_wp2_with fail
      refine cS.mono ?_
      rintro e w2 ⟨rfl, hb2, _⟩
      go_wp2
      go_ret
      exact ⟨rfl, hb1.trans ((hB.trans hb2).mono hb1.size)⟩
end Go.Proofs.YtkjhjkpnkcnbgaaDoor.Utf
