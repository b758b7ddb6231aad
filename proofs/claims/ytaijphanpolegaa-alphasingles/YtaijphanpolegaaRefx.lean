/-
  The document's Places, Count, Valid and Cut walked, for every text of up to 16777216 bytes.
-/
import Derived.Test.YtaijphanpolegaaRefw
import Derived.Test.YtaijphanpolegaaPlc
import Derived.Test.YtaijphanpolegaaCutw
import Derived.Test.YtaijphanpolegaaBck
namespace Go.Proofs.Ytaijphanpolegaa.Utf
open Go Go.Lib Go.RowKit

/-- A list that the call has made, as a slice value whose cells are read. -/
theorem own_slice {W : World} {B : Nat} {e : TypeId} {v : Value} {xs : List Value} {n : Nat} (h : W.ownsRow B e 1 v n xs) :
    ∃ ao cap, v = .slice ao n cap ∧ ∀ j (hj : j < xs.length), ∃ g, ao = some ⟨g, 0, none⟩ ∧ B ≤ g ∧ g < W.heap.size ∧ W.cell? ⟨g, j, none⟩ = some xs[j] := by
  have hh := h
  rcases h.2 with ⟨rfl, h0⟩ | ⟨g, cap, cur, rfl, hb, _⟩
  · have hx := h.1
    exact ⟨none, 0, by rw [h0], fun j hj => by omega⟩
  · refine ⟨_, cap, rfl, fun j hj => ⟨g, rfl, hb, (hh.lt g rfl).2, ?_⟩⟩
    have := hh.cells (g := g) rfl j xs[j] (by simp [hj])
    rw [show (⟨g, 0, none⟩ : Addr).add j = ⟨g, j, none⟩ by unfold Addr.add; split <;> simp_all] at this
    exact this

set_option maxHeartbeats 1000000 in
theorem refPlaces_any (s : ByteArray) (w : World) (hs : s.size ≤ 16777216) :
    Calls Try.prog 49 #[.string s] w fun e w' => ∃ v, e = .returned v ∧ w'.ownsRow w.heap.size 3 1 v (pairs s).length (plc (pairs s)) ∧ Below w.heap.size w w' := by
  obtain ⟨i0, hi, hz0, hz1, hz2⟩ := info_parts infoInt
  go_enter Try.func49, Try.ntmps49
  go_wp2
  go_loopw [3, 4] (fun v av wr => ∃ (pre : List (Nat × Nat)) (pos b : Nat), av = .int .i64 (pos : Int) ∧ wr.ownsRow w.heap.size 3 1 v pre.length (plc pre) ∧ Below w.heap.size w wr ∧ Hid (pre ++ pairsFrom s b pos = pairs s) ∧ s.size ≤ pos + b ∧ pos ≤ s.size ∧ pre.length ≤ pos)
    (fun _ av _ => s.size - (RowKit.intOf av).toNat)
  case atStart => exact ⟨[], 0, s.size, rfl, World.ownsRow_nil _ _ _ _, Below.refl _ _, rfl, by omega, Nat.zero_le _, Nat.le_refl _⟩
  case round =>
    obtain ⟨pre, pos, b, rfl, hown, hB, HP, hb, hps, hpl⟩ := hrel
    by_cases hp : pos < s.size
    · have hwd := decode_fits s pos hp
      obtain ⟨b, rfl⟩ : ∃ f', b = f' + 1 := ⟨b - 1, by omega⟩
      have HP2 : Hid ((pre ++ [(pos, (Utf8.decode s pos).1)]) ++ pairsFrom s b (pos + (Utf8.decode s pos).2) = pairs s) := by
        have := HP.out
        rw [pairsFrom_step hp] at this
        show _ = _
        rw [← this]; simp
      have cN := fun w => refNext_any s (pos : Int) w (by omega)
      rw [nextR_in hp, nextW_in hp] at cN
      clear HP
      go_wp2_with (at_builtin; refine wpList_append_own _ rfl _ _ 37 rfl w.heap.size 3 i0 (.int .i64 0) 1 8 Try.underlying37 hi hz0 hz1 hz2 rfl (by decide) _ _ _ rfl (hown.alloc _) ⟨wr.heap.size, 0, none⟩ 1 1 [.int .i64 (pos : Int)] rfl rfl (cell_one_new _ _ _) (by simp [Value.oneCell']) (by unfold maxLen; omega) (by omega) (by have := hB.size; simp; omega) ?_)
      intro v' w1 hown' hgrow _
      have hB3 : Below w.heap.size w w1 := Below.grown (hB.alloc (by have := hB.size; omega) _) hgrow (by have := hB.size; simp; omega) (fun j hj => (hown.lt _ hj).1)
      have hown3 : w1.ownsRow w.heap.size 3 1 v' (pre ++ [(pos, (Utf8.decode s pos).1)]).length (plc (pre ++ [(pos, (Utf8.decode s pos).1)])) := by
        rw [plc_snoc, List.length_append]; exact hown'
      obtain ⟨g', cap', rfl⟩ := ownsRow_succ hown'
      clear hown' hgrow hown hB
      go_wp2_with fail
      refine (cN _).mono ?_
      rintro e w2 ⟨rfl, rfl⟩
      clear cN
      generalize (Utf8.decode s pos).1 = r at *
      generalize (Utf8.decode s pos).2 = d at *
      go_wp2
      go_roundw
      case rel => exact ⟨_, pos + d, b, by go_num, hown3, hB3, HP2, by omega, by omega, by simp; omega⟩
      case measure => simp [RowKit.intOf]; omega
    · have HE : Hid (pre = pairs s) := by
        have := HP.out
        rw [pairsFrom_end s b pos hp, List.append_nil] at this
        exact this
      clear HP
      go_wp2
      go_ret
      exact ⟨_, rfl, HE.out ▸ hown, hB⟩

set_option maxHeartbeats 400000 in
theorem refCount_any (s : ByteArray) (w : World) (hs : s.size ≤ 16777216) :
    Calls Try.prog 28 #[.string s] w fun e w' => e = .returned (.int .i64 (Lib.runeCount s)) ∧ Below w.heap.size w w' := by
  have cP := refPlaces_any s w hs
  rw [pairs_length] at cP
  go_enter Try.func28, Try.ntmps28
  go_wp2_with fail
  refine cP.mono ?_
  rintro e w1 ⟨v, rfl, hown, hb1⟩
  obtain ⟨ao, cap, rfl, _⟩ := own_slice hown
  clear hown cP
  go_wp2
  go_ret
  exact ⟨rfl, hb1⟩

theorem cutFrom_at (s : ByteArray) : ∀ fuel pos (n : Int), s.size ≤ pos + fuel → 0 ≤ n → cutFrom s fuel pos n = (((pairsFrom s fuel pos)[n.toNat]?).map fun x => x.1).getD s.size
  | 0, pos, n, _, _ => by rw [pairsFrom_end s 0 pos (by omega)]; rfl
  | f + 1, pos, n, h1, h2 => by
    by_cases hp : pos < s.size
    · have hd := decode_fits s pos hp
      rw [pairsFrom_step hp]
      by_cases hn : n < 1
      · obtain rfl : n = 0 := by omega
        rw [cutFrom_stop hp (by omega)]; rfl
      · rw [cutFrom_step hp hn, cutFrom_at s f _ (n - 1) (by omega) (by omega), show n.toNat = (n - 1).toNat + 1 by omega, List.getElem?_cons_succ]
    · rw [cutFrom_end hp, pairsFrom_end _ _ _ hp]; rfl
theorem cutPos_low (s : ByteArray) (n : Int) (h : n < 1) : cutPos s n = 0 := by
  unfold cutPos
  by_cases hp : 0 < s.size
  · obtain ⟨f, hf⟩ : ∃ f, s.size = f + 1 := ⟨s.size - 1, by omega⟩
    rw [show cutFrom s s.size 0 n = cutFrom s (f + 1) 0 n by rw [hf], cutFrom_stop hp h]
  · rw [cutFrom_end hp]; omega
theorem extract_none (s : ByteArray) : s.extract 0 0 = ⟨#[]⟩ := by
  apply ByteArray.ext
  rw [ByteArray.data_extract]
  simp

end Go.Proofs.Ytaijphanpolegaa.Utf
