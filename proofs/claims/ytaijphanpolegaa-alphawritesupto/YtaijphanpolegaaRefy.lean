/-
  The document's Runes, Of, Fix and Back walked, for every text of up to 1048576 bytes.
-/
import Derived.Test.YtaijphanpolegaaRefx
import Derived.Test.YtaijphanpolegaaFixm
import Derived.Lib.AppendStr
namespace Go.Proofs.Ytaijphanpolegaa.Utf
open Go Go.Lib Go.RowKit

theorem infoRune : (Try.prog.info? 21).map (fun i => (i.zero, i.size, i.bytes)) = some (some (.int .i32 0), 1, 4) := by kernel_rfl
/-- A list of runes, as cells. -/
def rnc (l : List Nat) : List Value := l.map fun r : Nat => Value.int .i32 (r : Int)
theorem rnc_snoc (l : List Nat) (x : Nat) : rnc (l ++ [x]) = rnc l ++ [Value.int .i32 (x : Int)] := by simp [rnc]
theorem rnc_length (l : List Nat) : (rnc l).length = l.length := by simp [rnc]
/-- The runes at the text's places. -/
def rns (l : List (Nat × Nat)) : List Nat := l.map fun x => x.2
theorem rns_snoc (l : List (Nat × Nat)) (x : Nat × Nat) : rns (l ++ [x]) = rns l ++ [x.2] := by simp [rns]
theorem rns_length (l : List (Nat × Nat)) : (rns l).length = l.length := by simp [rns]

set_option maxHeartbeats 1000000 in
theorem refRunes_any (s : ByteArray) (w : World) (hs : s.size ≤ 16777216) :
    Calls Try.prog 56 #[.string s] w fun e w' => ∃ v, e = .returned v ∧ w'.ownsRow w.heap.size 21 1 v (pairs s).length (rnc (rns (pairs s))) ∧ Below w.heap.size w w' := by
  obtain ⟨i0, hi, hz0, hz1, hz2⟩ := info_parts infoRune
  go_enter Try.func56, Try.ntmps56
  go_wp2
  go_loopw [3, 4] (fun v av wr => ∃ (pre : List (Nat × Nat)) (pos b : Nat), av = .int .i64 (pos : Int) ∧ wr.ownsRow w.heap.size 21 1 v pre.length (rnc (rns pre)) ∧ Below w.heap.size w wr ∧ Hid (pre ++ pairsFrom s b pos = pairs s) ∧ s.size ≤ pos + b ∧ pos ≤ s.size ∧ pre.length ≤ pos)
    (fun _ av _ => s.size - (RowKit.intOf av).toNat)
  case atStart => exact ⟨[], 0, s.size, rfl, World.ownsRow_nil _ _ _ _, Below.refl _ _, rfl, by omega, Nat.zero_le _, Nat.le_refl _⟩
  case round =>
    obtain ⟨pre, pos, b, rfl, hown, hB, HP, hb, hps, hpl⟩ := hrel
    by_cases hp : pos < s.size
    · have hwd := decode_fits s pos hp
      obtain ⟨b, rfl⟩ : ∃ f', b = f' + 1 := ⟨b - 1, by omega⟩
      have HP2 : Hid ((pre ++ [(pos, (Utf8.decode s pos).1)]) ++ pairsFrom s b (pos + (Utf8.decode s pos).2) = pairs s) := by
        have := HP.out
        rw [pairsFrom_step hp] at this
        show _ = _
        rw [← this]; simp
      have cN := fun w => refNext_any s (pos : Int) w (by omega)
      rw [nextR_in hp, nextW_in hp] at cN
      clear HP
      generalize (Utf8.decode s pos).1 = r at *
      generalize (Utf8.decode s pos).2 = d at *
      go_wp2_with fail
      refine (cN _).mono ?_
      rintro e w2 ⟨rfl, rfl⟩
      clear cN
      go_wp2_with (at_builtin; refine wpList_append_own _ rfl _ _ 66 rfl w.heap.size 21 i0 (.int .i32 0) 1 4 Try.underlying66 hi hz0 hz1 hz2 rfl (by decide) _ _ _ rfl (hown.alloc _) ⟨w2.heap.size, 0, none⟩ 1 1 [.int .i32 (r : Int)] rfl rfl (cell_one_new _ _ _) (by simp [Value.oneCell']) (by unfold maxLen; omega) (by omega) (by have := hB.size; simp; omega) ?_)
      intro v' w1 hown' hgrow _
      have hB3 : Below w.heap.size w w1 := Below.grown (hB.alloc (by have := hB.size; omega) _) hgrow (by have := hB.size; simp; omega) (fun j hj => (hown.lt _ hj).1)
      have hown3 : w1.ownsRow w.heap.size 21 1 v' (pre ++ [(pos, r)]).length (rnc (rns (pre ++ [(pos, r)]))) := by
        rw [rns_snoc, rnc_snoc, List.length_append]; exact hown'
      obtain ⟨g', cap', rfl⟩ := ownsRow_succ hown'
      clear hown' hgrow hown hB
      go_wp2
      go_roundw
      case rel => exact ⟨_, pos + d, b, by go_num, hown3, hB3, HP2, by omega, by omega, by simp; omega⟩
      case measure => simp [RowKit.intOf]; omega
    · have HE : Hid (pre = pairs s) := by
        have := HP.out
        rw [pairsFrom_end s b pos hp, List.append_nil] at this
        exact this
      clear HP
      go_wp2
      go_ret
      exact ⟨_, rfl, HE.out ▸ hown, hB⟩

theorem ownsRow_below {W W' : World} {B : Nat} {e : TypeId} {sz : Nat} {v : Value} {n : Nat} {xs : List Value} (h : W.ownsRow B e sz v n xs) (hb : Below W.heap.size W W') : W'.ownsRow B e sz v n xs := by
  refine ⟨h.1, ?_⟩
  rcases h.2 with hn | ⟨g, cap, cur, hv, hbg, hg, rest⟩
  · exact .inl hn
  · exact .inr ⟨g, cap, cur, hv, hbg, (hb.block g (Array.getElem?_eq_some_iff.1 hg).1).trans hg, rest⟩
/-- Bytes that the call has put together, as a string. -/
theorem own_convert {W : World} {B : Nat} {v : Value} {l : List UInt8} (h : W.ownsRow B 5 1 v l.length (Lib.byteCells l)) :
    (convert 73 9 v).run Try.prog W = .ok (.string ⟨l.toArray⟩) W := by
  have hh := h
  rcases h.2 with ⟨rfl, h0⟩ | ⟨g, cap, cur, rfl, hb, _⟩
  · have : l = [] := List.eq_nil_of_length_eq_zero h0
    subst this
    exact run_convert_bytes_nil W 73 5 Try.underlying73 Try.underlying5 0 0 9 Try.underlying9
  · exact run_convert_bytes_back W 73 9 5 ⟨g, 0, none⟩ cap l Try.underlying73 Try.underlying5 Try.underlying9 (fun j hj => hh.cells (g := g) rfl j (.int .u8 (l[j].toNat : Int)) (by simp [Lib.byteCells, hj]))

theorem rune_le (s : ByteArray) : ∀ r ∈ rns (pairs s), r ≤ 2147483647 := by
  intro r hr
  unfold rns at hr
  obtain ⟨x, hx, rfl⟩ := List.mem_map.1 hr
  have := (pairs_mem s _ _ x hx).2
  rw [this]
  exact decode_le s x.1

end Go.Proofs.Ytaijphanpolegaa.Utf
