/-
  The document's Runes, Of, Fix and Back walked, for every text of up to 1048576 bytes.
-/
import Derived.Test.YtkjhjkpnkcnbgaaDoorRefx
import Derived.Test.YtkjhjkpnkcnbgaaDoorFixm
import Derived.Lib.AppendStr
namespace Go.Proofs.YtkjhjkpnkcnbgaaDoor.Utf
open Go Go.Lib Go.RowKit

theorem infoRune : (Tryd.prog.info? 21).map (fun i => (i.zero, i.size, i.bytes)) = some (some (.int .i32 0), 1, 4) := by kernel_rfl
/-- A list of runes, as cells. -/
def rnc (l : List Nat) : List Value := l.map fun r : Nat => Value.int .i32 (r : Int)
theorem rnc_snoc (l : List Nat) (x : Nat) : rnc (l ++ [x]) = rnc l ++ [Value.int .i32 (x : Int)] := by simp [rnc]
theorem rnc_length (l : List Nat) : (rnc l).length = l.length := by simp [rnc]
/-- The runes at the text's places. -/
def rns (l : List (Nat × Nat)) : List Nat := l.map fun x => x.2
theorem rns_snoc (l : List (Nat × Nat)) (x : Nat × Nat) : rns (l ++ [x]) = rns l ++ [x.2] := by simp [rns]
theorem rns_length (l : List (Nat × Nat)) : (rns l).length = l.length := by simp [rns]

set_option maxHeartbeats 1000000 in
theorem refRunes_any (s : ByteArray) (w : World) (hs : s.size ≤ 16777216) :
    Calls Tryd.prog 37 #[.string s] w fun e w' => ∃ v, e = .returned v ∧ w'.ownsRow w.heap.size 21 1 v (pairs s).length (rnc (rns (pairs s))) ∧ Below w.heap.size w w' := by
  obtain ⟨i0, hi, hz0, hz1, hz2⟩ := info_parts infoRune
  go_enter Tryd.func37, Tryd.ntmps37
  go_wp2
  go_loopw [3, 4] (fun v av wr => ∃ (pre : List (Nat × Nat)) (pos b : Nat), av = .int .i64 (pos : Int) ∧ wr.ownsRow w.heap.size 21 1 v pre.length (rnc (rns pre)) ∧ Below w.heap.size w wr ∧ Hid (pre ++ pairsFrom s b pos = pairs s) ∧ s.size ≤ pos + b ∧ pos ≤ s.size ∧ pre.length ≤ pos)
    (fun _ av _ => s.size - (RowKit.intOf av).toNat)
  case atStart => exact ⟨[], 0, s.size, rfl, World.ownsRow_nil _ _ _ _, Below.refl _ _, rfl, by omega, Nat.zero_le _, Nat.le_refl _⟩
  case round =>
    obtain ⟨pre, pos, b, rfl, hown, hB, HP, hb, hps, hpl⟩ := hrel
    by_cases hp : pos < s.size
    · have hwd := decode_fits s pos hp
      obtain ⟨b, rfl⟩ : ∃ f', b = f' + 1 := ⟨b - 1, by omega⟩
      have HP2 : Hid ((pre ++ [(pos, (Utf8.decode s pos).1)]) ++ pairsFrom s b (pos + (Utf8.decode s pos).2) = pairs s) := by
        have := HP.out
        rw [pairsFrom_step hp] at this
        show _ = _
        rw [← this]; simp
      have cN := fun w => refNext_any s (pos : Int) w (by omega)
      rw [nextR_in hp, nextW_in hp] at cN
      clear HP
      generalize (Utf8.decode s pos).1 = r at *
      generalize (Utf8.decode s pos).2 = d at *
      go_wp2_with fail
      refine (cN _).mono ?_
      rintro e w2 ⟨rfl, rfl⟩
      clear cN
      go_wp2_with (at_builtin; refine wpList_append_own _ rfl _ _ 38 rfl w.heap.size 21 i0 (.int .i32 0) 1 4 Tryd.underlying38 hi hz0 hz1 hz2 rfl (by decide) _ _ _ rfl (hown.alloc _) ⟨w2.heap.size, 0, none⟩ 1 1 [.int .i32 (r : Int)] rfl rfl (cell_one_new _ _ _) (by simp [Value.oneCell']) (by unfold maxLen; omega) (by omega) (by have := hB.size; simp; omega) ?_)
      intro v' w1 hown' hgrow _
      have hB3 : Below w.heap.size w w1 := Below.grown (hB.alloc (by have := hB.size; omega) _) hgrow (by have := hB.size; simp; omega) (fun j hj => (hown.lt _ hj).1)
      have hown3 : w1.ownsRow w.heap.size 21 1 v' (pre ++ [(pos, r)]).length (rnc (rns (pre ++ [(pos, r)]))) := by
        rw [rns_snoc, rnc_snoc, List.length_append]; exact hown'
      obtain ⟨g', cap', rfl⟩ := ownsRow_succ hown'
      clear hown' hgrow hown hB
      go_wp2
      go_roundw
      case rel => exact ⟨_, pos + d, b, by go_num, hown3, hB3, HP2, by omega, by omega, by simp; omega⟩
      case measure => simp [RowKit.intOf]; omega
    · have HE : Hid (pre = pairs s) := by
        have := HP.out
        rw [pairsFrom_end s b pos hp, List.append_nil] at this
        exact this
      clear HP
      go_wp2
      go_ret
      exact ⟨_, rfl, HE.out ▸ hown, hB⟩

theorem ownsRow_below {W W' : World} {B : Nat} {e : TypeId} {sz : Nat} {v : Value} {n : Nat} {xs : List Value} (h : W.ownsRow B e sz v n xs) (hb : Below W.heap.size W W') : W'.ownsRow B e sz v n xs := by
  refine ⟨h.1, ?_⟩
  rcases h.2 with hn | ⟨g, cap, cur, hv, hbg, hg, rest⟩
  · exact .inl hn
  · exact .inr ⟨g, cap, cur, hv, hbg, (hb.block g (Array.getElem?_eq_some_iff.1 hg).1).trans hg, rest⟩
/-- Bytes that the call has put together, as a string. -/
theorem own_convert {W : World} {B : Nat} {v : Value} {l : List UInt8} (h : W.ownsRow B 5 1 v l.length (Lib.byteCells l)) :
    (convert 47 9 v).run Tryd.prog W = .ok (.string ⟨l.toArray⟩) W := by
  have hh := h
  rcases h.2 with ⟨rfl, h0⟩ | ⟨g, cap, cur, rfl, hb, _⟩
  · have : l = [] := List.eq_nil_of_length_eq_zero h0
    subst this
    exact run_convert_bytes_nil W 47 5 Tryd.underlying47 Tryd.underlying5 0 0 9 Tryd.underlying9
  · exact run_convert_bytes_back W 47 9 5 ⟨g, 0, none⟩ cap l Tryd.underlying47 Tryd.underlying5 Tryd.underlying9 (fun j hj => hh.cells (g := g) rfl j (.int .u8 (l[j].toNat : Int)) (by simp [Lib.byteCells, hj]))

set_option maxHeartbeats 1000000 in
theorem refOf_any (vals : List Nat) (ao : Option Addr) (cap : Nat) (w : World) (hlen : vals.length ≤ 16777216) (hv : ∀ r ∈ vals, r ≤ 2147483647)
    (hcell : ∀ j (hj : j < vals.length), ∃ g, ao = some ⟨g, 0, none⟩ ∧ g < w.heap.size ∧ w.cell? ⟨g, j, none⟩ = some (.int .i32 (vals[j] : Int))) :
    Calls Tryd.prog 36 #[.slice ao vals.length cap] w fun e w' => e = .returned (.string ⟨(encR vals).toArray⟩) ∧ Below w.heap.size w w' := by
  obtain ⟨i0, hi, hz0, hz1, hz2⟩ := info_parts infoByte
  go_enter Tryd.func36, Tryd.ntmps36
  go_wp2
  go_loopw [3, 4] (fun v iv wr => ∃ k : Nat, iv = .int .i64 (k : Int) ∧ k ≤ vals.length ∧ wr.ownsRow w.heap.size 5 1 v (encR (vals.take k)).length (Lib.byteCells (encR (vals.take k))) ∧ Below w.heap.size w wr ∧ (encR (vals.take k)).length ≤ 4 * k)
    (fun _ iv _ => vals.length - (RowKit.intOf iv).toNat)
  case atStart => exact ⟨0, rfl, Nat.zero_le _, World.ownsRow_nil _ _ _ _, Below.refl _ _, Nat.le_refl _⟩
  case round =>
    obtain ⟨k, rfl, hk, hown, hB, hel⟩ := hrel
    by_cases hlt : k < vals.length
    · obtain ⟨g, rfl, hg, hc⟩ := hcell k hlt
      have hc' : wr.cell? ⟨g, k, none⟩ = some (.int .i32 (vals[k] : Int)) := (hB.cell (p := ⟨g, k, none⟩) hg).trans hc
      have hr := hv vals[k] (List.getElem_mem hlt)
      have cE := fun w => refEncode_any (vals[k] : Int) w (by omega) (by omega)
      have hEl : (Utf8.encode (vals[k] : Int)).data.toList = encB vals[k] := by rw [encB]
      have hts : vals.take (k + 1) = vals.take k ++ [vals[k]] := by rw [List.take_succ_eq_append_getElem hlt]
      generalize vals[k] = x at *
      generalize Utf8.encode (x : Int) = E at cE hEl
      have hE4 : E.size ≤ 4 := by rw [← ba_len, hEl]; exact encB_le _
      have HT : Hid (encR (vals.take (k + 1)) = encR (vals.take k) ++ E.data.toList) := by
        show _ = _
        rw [hts, encR_append, encR_cons, hEl]
        have : encR [] = [] := rfl
        rw [this, List.append_nil]
      clear hts hcell hv hEl hc
      generalize encR (vals.take k) = L at *
      go_wp2_with fail
      refine (cE _).mono ?_
      rintro e w2 ⟨rfl, hb2⟩
      have hown2 := ownsRow_below hown hb2
      have hB2 := hB.trans (hb2.mono hB.size)
      clear cE hown hB hb2
      go_wp2_with (at_builtin; refine Lib.wpList_append_own_string _ rfl _ _ 47 9 rfl w.heap.size 5 i0 Tryd.underlying47 Tryd.underlying9 hi hz0 hz1 hz2 _ _ _ rfl hown2 E rfl (by unfold maxLen; omega) (by omega) hB2.size ?_)
      intro v' w3 hown3 hgrow _
      have hB3 : Below w.heap.size w w3 := hB2.grown hgrow hB2.size (fun j hj => (hown2.lt _ hj).1)
      have hown4 : w3.ownsRow w.heap.size 5 1 v' (encR (vals.take (k + 1))).length (Lib.byteCells (encR (vals.take (k + 1)))) := by
        rw [HT.out, List.length_append, ba_len, byteCells_append, ← strCells_bytes]; exact hown3
      have hle4 : (encR (vals.take (k + 1))).length ≤ 4 * (k + 1) := by
        rw [HT.out, List.length_append, ba_len]; omega
      obtain ⟨ao', n', cap', rfl⟩ : ∃ ao n' cap, v' = .slice ao n' cap := by
        rcases hown3.2 with ⟨hv, _⟩ | ⟨g, cap, cur, hv, _⟩
        · exact ⟨_, _, _, hv⟩
        · exact ⟨_, _, _, hv⟩
      clear hown3 hgrow hown2 hB2 HT
      go_wp2
      go_roundw
      case rel => exact ⟨k + 1, by go_num, by omega, hown4, hB3, hle4⟩
      case measure => simp [RowKit.intOf]; omega
    · obtain rfl : k = vals.length := by omega
      rw [List.take_length] at hown
      have hcv := own_convert hown
      clear hcell hv
      go_wp2
      go_ret
      exact ⟨rfl, hB⟩

theorem rune_le (s : ByteArray) : ∀ r ∈ rns (pairs s), r ≤ 2147483647 := by
  intro r hr
  unfold rns at hr
  obtain ⟨x, hx, rfl⟩ := List.mem_map.1 hr
  have := (pairs_mem s _ _ x hx).2
  rw [this]
  exact decode_le s x.1

set_option maxHeartbeats 1000000 in
theorem refFix_any (s : ByteArray) (w : World) (hs : s.size ≤ 16777216) :
    Calls Tryd.prog 22 #[.string s] w fun e w' => e = .returned (.string ⟨(encs (pairs s)).toArray⟩) ∧ Below w.heap.size w w' := by
  have cR := refRunes_any s w hs
  have hpl := pairs_le s
  have hrl := rune_le s
  have hel := encs_eq (pairs s)
  have hrn : (rns (pairs s)).length = (pairs s).length := rns_length _
  rw [show encs (pairs s) = encR (rns (pairs s)) from hel]
  generalize rns (pairs s) = R at *
  rw [← hrn] at cR
  have hRl : R.length ≤ 16777216 := by omega
  clear hrn hel
  go_enter Tryd.func22, Tryd.ntmps22
  go_wp2_with fail
  refine cR.mono ?_
  rintro e w1 ⟨v, rfl, hown, hb1⟩
  obtain ⟨ao, cap, rfl, hcell⟩ := own_slice hown
  have cO := refOf_any R ao cap w1 hRl hrl (fun j hj => by
    obtain ⟨g, h1, _, h3, h4⟩ := hcell j (by rw [rnc_length]; exact hj)
    refine ⟨g, h1, h3, h4.trans ?_⟩
    simp [rnc])
  clear hown cR hcell hrl
  go_wp2_with fail
  refine cO.mono ?_
  rintro e w2 ⟨rfl, hb2⟩
  go_wp2
  go_ret
  exact ⟨rfl, hb1.trans (hb2.mono hb1.size)⟩

set_option maxHeartbeats 1000000 in
theorem refBack_any (s : ByteArray) (w : World) (hs : s.size ≤ 16777216) :
    Calls Tryd.prog 24 #[.string s] w fun e w' => e = .returned (.string ⟨(encs (pairs s).reverse).toArray⟩) ∧ Below w.heap.size w w' := by
  obtain ⟨i0, hi, hz0, hz1, hz2⟩ := info_parts infoRune
  have cR := refRunes_any s w hs
  have hpl := pairs_le s
  have hrl := rune_le s
  have hel := encs_eq (pairs s).reverse
  have hrn : (rns (pairs s)).length = (pairs s).length := rns_length _
  rw [List.map_reverse] at hel
  rw [show encs (pairs s).reverse = encR (rns (pairs s)).reverse from hel]
  generalize rns (pairs s) = R at *
  rw [← hrn] at cR
  have hRl : R.length ≤ 16777216 := by omega
  clear hel hrn
  go_enter Tryd.func24, Tryd.ntmps24
  go_wp2_with fail
  refine cR.mono ?_
  rintro e w1 ⟨v, rfl, hown, hb1⟩
  obtain ⟨ao, cap, rfl, hcell0⟩ := own_slice hown
  have hcell : ∀ j (hj : j < R.length), ∃ g, ao = some ⟨g, 0, none⟩ ∧ g < w1.heap.size ∧ w1.cell? ⟨g, j, none⟩ = some (.int .i32 (R[j] : Int)) := fun j hj => by
    obtain ⟨g, h1, _, h3, h4⟩ := hcell0 j (by rw [rnc_length]; exact hj)
    refine ⟨g, h1, h3, h4.trans ?_⟩
    simp [rnc]
  clear hown cR hcell0
  have hsz1 := hb1.size
  go_wp2
  go_loopw [4, 5] (fun v iv wr => ∃ (k : Nat) (z : Int), iv = .int .i64 z ∧ Hid (z + 1 = k) ∧ -1 ≤ z ∧ z < R.length ∧ wr.ownsRow w1.heap.size 21 1 v (R.drop k).reverse.length (rnc (R.drop k).reverse) ∧ Below w1.heap.size w1 wr)
    (fun _ iv _ => (RowKit.intOf iv + 1).toNat)
  case atStart =>
    refine ⟨R.length, _, rfl, by show _ = _; omega, by omega, by omega, ?_, Below.refl _ _⟩
    rw [List.drop_length]; exact World.ownsRow_nil _ _ _ _
  case round =>
    obtain ⟨k, z, rfl, HZ, hz1', hz2', hown, hB⟩ := hrel
    by_cases hz : 0 ≤ z
    · obtain ⟨j, rfl⟩ := Int.eq_ofNat_of_zero_le hz
      obtain rfl : k = j + 1 := by have := HZ.out; omega
      have hj : j < R.length := by omega
      obtain ⟨g, rfl, hg, hc⟩ := hcell j hj
      have hc' : wr.cell? ⟨g, j, none⟩ = some (.int .i32 (R[j] : Int)) := (hB.cell (p := ⟨g, j, none⟩) hg).trans hc
      have hd := drop_rev R j hj
      have hle : (R.drop (j + 1)).reverse.length ≤ R.length := by rw [List.length_reverse, List.length_drop]; omega
      generalize R[j] = x at *
      have HD : Hid ((R.drop j).reverse = (R.drop (j + 1)).reverse ++ [x]) := hd
      clear hd hc hcell HZ hrl
      generalize (R.drop (j + 1)).reverse = L at *
      go_wp2_with (at_builtin; refine wpList_append_own _ rfl _ _ 38 rfl w1.heap.size 21 i0 (.int .i32 0) 1 4 Tryd.underlying38 hi hz0 hz1 hz2 rfl (by decide) _ _ _ rfl (hown.alloc _) ⟨wr.heap.size, 0, none⟩ 1 1 [.int .i32 (x : Int)] rfl rfl (cell_one_new _ _ _) (by simp [Value.oneCell']) (by unfold maxLen; omega) (by omega) (by have := hB.size; simp; omega) ?_)
      intro v' w3 hown' hgrow _
      have hB3 : Below w1.heap.size w1 w3 := Below.grown (hB.alloc (by have := hB.size; omega) _) hgrow (by have := hB.size; simp; omega) (fun j hj => (hown.lt _ hj).1)
      have hown3 : w3.ownsRow w1.heap.size 21 1 v' (R.drop j).reverse.length (rnc (R.drop j).reverse) := by
        rw [HD.out, rnc_snoc, List.length_append]; exact hown'
      obtain ⟨g', cap', rfl⟩ := ownsRow_succ hown'
      clear hown' hgrow hown hB HD
      go_wp2
      go_roundw
      case rel => exact ⟨j, (j : Int) - 1, rfl, by show _ = _; omega, by omega, by omega, hown3, hB3⟩
      case measure => simp [RowKit.intOf]
    · obtain rfl : k = 0 := by have := HZ.out; omega
      rw [List.drop_zero] at hown
      have hrl2 : ∀ r ∈ R.reverse, r ≤ 2147483647 := fun r hr => hrl r (List.mem_reverse.1 hr)
      have hll : R.reverse.length = R.length := List.length_reverse
      obtain ⟨ao2, cap2, rfl, hcell2⟩ := own_slice hown
      have cO := refOf_any R.reverse ao2 cap2 wr (by omega) hrl2 (fun j hj => by
        obtain ⟨g, h1, _, h3, h4⟩ := hcell2 j (by rw [rnc_length]; exact hj)
        refine ⟨g, h1, h3, h4.trans ?_⟩
        simp [rnc])
      clear hll hown hcell2 hrl hrl2 hcell
      generalize hR2 : R.reverse = R2 at cO ⊢
      have HR2 : Hid (R.reverse = R2) := hR2
      clear hR2
      go_wp2_with fail
      refine cO.mono ?_
      rintro e w2 ⟨rfl, hb2⟩
      go_wp2
      go_ret
      rw [HR2.out]
      exact ⟨rfl, hb1.trans ((hB.trans (hb2.mono hB.size)).mono hb1.size)⟩
end Go.Proofs.YtkjhjkpnkcnbgaaDoor.Utf
