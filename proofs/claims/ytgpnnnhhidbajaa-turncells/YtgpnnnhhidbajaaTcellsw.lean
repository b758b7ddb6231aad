/-
  TurnCells walked: a turn takes the cells of a grid to its cells, no two to one.
-/
import Derived.Test.YtgpnnnhhidbajaaTrne
import Derived.Test.YtgpnnnhhidbajaaTrni
import Derived.Deep.RegionWith
import Derived.Laws.OwnMore
namespace Go.Proofs.Ytgpnnnhhidbajaa.Grd
open Go Go.Lib Go.RowKit

theorem infoBoolC : (Try.prog.info? 4).map (fun i => (i.zero, i.size, i.bytes)) = some (some (.bool false), 1, 1) := by kernel_rfl
def cellsC (zs : List Bool) : List Value := zs.map Value.bool
theorem cellsC_at {zs : List Bool} {j : Nat} (h : j < zs.length) : (cellsC zs)[j]? = some (.bool (bt zs j)) := by
  simp [cellsC, bt, List.getElem?_eq_getElem h]
theorem row_blockC {W : World} {B g n : Nat} {M : Array Value} {xs : List Bool} (hB : B ≤ g) (h : W.heap[g]? = some (.cells M 4)) (hM : M.size = n * 1) (hn : n ≤ 256) (hl : M.toList = cellsC xs) : W.ownsRow B 4 1 (.slice (some ⟨g, 0, none⟩) n n) n (cellsC xs) := by
  refine ⟨by rw [← hl, Array.length_toList, hM], .inr ⟨g, n, M, rfl, hB, h, Nat.le_refl _, by unfold maxLen; omega, hM, ?_⟩⟩
  rw [← hl]
  exact List.take_of_length_le (by rw [Array.length_toList, hM]; exact Nat.le_refl _)
theorem row_keepsC {W W' : World} {B : Nat} {v : Value} {n : Nat} {xs : List Value} (h : W.ownsRow B 4 1 v n xs) (hb : Below W.heap.size W W') : W'.ownsRow B 4 1 v n xs := by
  rcases h with ⟨h1, h2 | ⟨g, cap, cur, rfl, e2, e3, e4⟩⟩
  · exact ⟨h1, .inl h2⟩
  · exact ⟨h1, .inr ⟨g, cap, cur, rfl, e2, (hb.block g (Array.getElem?_eq_some_iff.1 e3).1).trans e3, e4⟩⟩
/-- Which cells came so far. -/
def SeenTo (h w k i : Nat) (Z : List Bool) : Prop := Z.length = h * w ∧ ∀ j, j < h * w → (bt Z j = true ↔ ∃ a, a < i ∧ plc h w a k = j)
theorem SeenTo.zero (h w k : Nat) : SeenTo h w k 0 (List.replicate (h * w) false) :=
  ⟨by simp, fun j hj => ⟨fun e => by simp [bt, hj] at e, fun ⟨a, ha, _⟩ => absurd ha (Nat.not_lt_zero a)⟩⟩
theorem SeenTo.next {h w k i : Nat} {Z : List Bool} (hk : k < 8) (hi : i < h * w) (hZ : SeenTo h w k i Z) : bt Z (plc h w i k) = false ∧ SeenTo h w k (i + 1) (Z.set (plc h w i k) true) := by
  have hl := plc_lt hi k
  refine ⟨Bool.eq_false_iff.2 fun e => ?_, by rw [List.length_set]; exact hZ.1, fun j hj => ?_⟩
  · obtain ⟨a, ha, e2⟩ := (hZ.2 _ hl).1 e
    have := plc_inj (by omega) hi hk e2
    omega
  · by_cases hjp : plc h w i k = j
    · constructor
      · intro _; exact ⟨i, by omega, hjp⟩
      · intro _
        rw [hjp]
        simp [bt, hZ.1, hj]
    · have e : bt (Z.set (plc h w i k) true) j = bt Z j := by simp [bt, hjp]
      rw [e, hZ.2 j hj]
      constructor
      · rintro ⟨a, ha, e2⟩; exact ⟨a, by omega, e2⟩
      · rintro ⟨a, ha, e2⟩
        refine ⟨a, ?_, e2⟩
        by_cases ea : a = i
        · subst ea; exact absurd e2 hjp
        · omega

theorem place_in (h w i k : Nat) (h1 : 1 ≤ h ∧ h ≤ 16) (w1 : 1 ≤ w ∧ w ≤ 16) (hi : i < h * w) (hk : k < 8) (W : World) :
    Calls Try.prog 6 #[.int .i64 h, .int .i64 w, .int .i64 i, .int .i64 k] W fun e W' => e = .returned (.tuple #[.int .i64 (plc h w i k : Nat), .int .i64 0]) ∧ Below W.heap.size W W' := by
  have := Place_any h w i k W
  have e : pAns h w i k = (((plc h w i k : Nat) : Int), (0 : Int)) := by
    unfold pAns sideOk
    have hmul : (h : Int) * (w : Int) = ((h * w : Nat) : Int) := (Int.natCast_mul _ _).symm
    rw [if_neg (by omega), if_neg (by omega), if_neg (by rw [hmul]; omega)]
    simp only [Int.toNat_natCast]
  rw [e] at this
  exact this
theorem place_past (h w k : Nat) (h1 : 1 ≤ h ∧ h ≤ 16) (w1 : 1 ≤ w ∧ w ≤ 16) (hk : k < 8) (W : World) :
    Calls Try.prog 6 #[.int .i64 h, .int .i64 w, .int .i64 ((h * w : Nat) : Int), .int .i64 k] W fun e W' => e = .returned (.tuple #[.int .i64 0, .int .i64 51]) ∧ Below W.heap.size W W' := by
  have := Place_any h w ((h * w : Nat) : Int) k W
  have e : pAns h w ((h * w : Nat) : Int) k = ((0 : Int), (51 : Int)) := by
    unfold pAns sideOk
    have hmul : (h : Int) * (w : Int) = ((h * w : Nat) : Int) := (Int.natCast_mul _ _).symm
    rw [if_neg (by omega), if_neg (by omega), if_pos (by rw [hmul]; omega)]
  rw [e] at this
  exact this

set_option maxHeartbeats 2000000 in
theorem turnCells_walk (x y z : Int) (W : World) :
    Calls Try.prog 4 #[.int .i64 x, .int .i64 y, .int .i64 z] W fun e W' => e = .returned (.bool true) ∧ Below W.heap.size W W' := by
  obtain ⟨i0, hi0, hz0, hz1, hz2⟩ := info_parts infoBoolC
  have cA := fun W => awake6_any W
  obtain ⟨a, ha, hal⟩ := low_bits x 15 (by omega)
  obtain ⟨b, hb, hbl⟩ := low_bits y 15 (by omega)
  obtain ⟨k, hk, hkl⟩ := low_bits z 7 (by omega)
  have hmul : ((a : Int) + 1) * ((b : Int) + 1) = (((a + 1) * (b + 1) : Nat) : Int) := by simp
  have hml : (a + 1) * (b + 1) ≤ 256 := Nat.mul_le_mul (show a + 1 ≤ 16 by omega) (show b + 1 ≤ 16 by omega)
  have CP : Aside (∀ i, i < (a + 1) * (b + 1) → ∀ W, Calls Try.prog 6 #[.int .i64 ((a : Int) + 1), .int .i64 ((b : Int) + 1), .int .i64 (i : Nat), .int .i64 k] W fun e W' => e = .returned (.tuple #[.int .i64 (plc (a + 1) (b + 1) i k : Nat), .int .i64 0]) ∧ Below W.heap.size W W') := fun i hi W => place_in (a + 1) (b + 1) i k (by omega) (by omega) hi (by omega) W
  have CQ := fun W => place_past (a + 1) (b + 1) k (by omega) (by omega) (by omega) W
  have HN : Aside (∀ i Z, i < (a + 1) * (b + 1) → SeenTo (a + 1) (b + 1) k i Z → bt Z (plc (a + 1) (b + 1) i k) = false ∧ SeenTo (a + 1) (b + 1) k (i + 1) (Z.set (plc (a + 1) (b + 1) i k) true)) := fun i Z hi hZ => hZ.next (by omega) hi
  have HPL : Aside (∀ i, i < (a + 1) * (b + 1) → plc (a + 1) (b + 1) i k < (a + 1) * (b + 1)) := fun i hi => plc_lt hi k
  have HZ0 : Aside (SeenTo (a + 1) (b + 1) k 0 (List.replicate ((a + 1) * (b + 1)) false)) := SeenTo.zero _ _ _
  have HLN : Aside (∀ i Z, SeenTo (a + 1) (b + 1) k i Z → Z.length = (a + 1) * (b + 1)) := fun i Z h => h.1
  simp only [Int.natCast_add, Int.natCast_one] at CQ
  rw [show ((15 : Nat) : Int) = 15 from rfl] at ha hb
  rw [show ((7 : Nat) : Int) = 7 from rfl] at hk
  generalize (a + 1) * (b + 1) = n at *
  obtain ⟨M, hM⟩ : ∃ M, M = madeCells (Value.bool false).cells (n * i0.size) := ⟨_, rfl⟩
  have hMs : M.size = n * 1 := by rw [hM, size_madeCells, hz1]
  have hMl : M.toList = cellsC (List.replicate n false) := by
    rw [hM, hz1, Nat.mul_one]
    show (madeCells #[Value.bool false] n).toList = _
    rw [toList_madeCells_one]
    simp [cellsC]
  have hmk : ∀ W : World, (Instr.makeSlice 32 (.int .i64 (n : Int)) (.int .i64 (n : Int))).run Try.prog W = .ok (.slice (some ⟨W.heap.size, 0, none⟩) n n) (W.alloc (.cells M 4)) := fun W => by
    have h := run_make (P := Try.prog) W 32 4 i0 (.bool false) Try.underlying32 hi0 hz0 .i64 .i64 n n (by omega) (by omega) (by rw [hz2]; omega) (by omega)
    rw [Int.toNat_natCast, ← hM] at h
    exact h
  clear hM hi0 hz0 hz1 hz2
  go_enter Try.func4, Try.ntmps4
  go_wp2_with fail
  refine (cA _).mono ?_
  rintro e w1 ⟨rfl, hb1⟩
  clear cA
  have HB1 : Aside (Below W.heap.size W w1) := hb1
  clear hb1
  go_wp2
  try rw [ha]
  try rw [hb]
  try rw [hk]
  try rw [hmul]
  have HMU : Aside (((a : Int) + 1) * ((b : Int) + 1) = (n : Int)) := hmul
  clear ha hb hk hmul hmk
  have HR0 : Aside ((w1.alloc (.cells M 4)).ownsRow w1.heap.size 4 1 (.slice (some ⟨w1.heap.size, 0, none⟩) n n) n (cellsC (List.replicate n false))) := row_blockC (Nat.le_refl _) (by unfold World.alloc; simp) hMs hml hMl
  have HB2 : Aside (Below w1.heap.size w1 (w1.alloc (.cells M 4))) := below_one w1 _
  clear hMs hMl
  go_loopg [30] n (fun g1 iv wr => ∃ (i : Nat) (Z : List Bool), iv = .int .i64 (i : Int) ∧ i ≤ n ∧ n - i ≤ g1 ∧ Aside (SeenTo (a + 1) (b + 1) k i Z) ∧ Aside (wr.ownsRow w1.heap.size 4 1 (.slice (some ⟨w1.heap.size, 0, none⟩) n n) n (cellsC Z)) ∧ Aside (Below w1.heap.size w1 wr))
  case atStart => exact ⟨0, _, rfl, Nat.zero_le _, Nat.le_refl _, HZ0, HR0, HB2⟩
  case round =>
    obtain ⟨i, Z, rfl, hi, hg, HZ, HR, HB⟩ := hrel
    by_cases hlt : i < n
    · have hltz : (i : Int) < (n : Int) := by omega
      have cP := CP.out i hlt wr
      have hpl := HPL.out i hlt
      obtain ⟨hf, hn⟩ := HN.out i Z hlt HZ.out
      have hzl := HLN.out i Z HZ.out
      have HNZ : Aside (SeenTo (a + 1) (b + 1) k (i + 1) (Z.set (plc (a + 1) (b + 1) i k) true)) := hn
      generalize plc (a + 1) (b + 1) i k = q at *
      clear hn
      go_wp2_with fail
      refine cP.mono ?_
      rintro e w3 ⟨rfl, hb3⟩
      have hR3 := row_keepsC HR.out hb3
      have HB3 : Below w1.heap.size w1 w3 := HB.out.trans (hb3.mono HB.out.size)
      have ck : w3.cell? ⟨w1.heap.size, q, none⟩ = some (.bool false) := by
        rw [hR3.cellAt q (by omega), cellsC_at (by omega), hf]
      have fk := hR3.frozenAt q
      obtain ⟨hy, hgr⟩ := hR3.stored q (.bool true)
      have hset : (cellsC Z).set q (.bool true) = cellsC (Z.set q true) := by simp [cellsC, List.map_set]
      rw [hset] at hy
      have HY : Aside ((w3.setCell ⟨w1.heap.size, q, none⟩ (.bool true)).ownsRow w1.heap.size 4 1 (.slice (some ⟨w1.heap.size, 0, none⟩) n n) n (cellsC (Z.set q true))) := hy
      have HB4 : Aside (Below w1.heap.size w1 (w3.setCell ⟨w1.heap.size, q, none⟩ (.bool true))) := Below.put HB3 (Nat.le_refl _) HB3.size
      clear cP hb3 hR3 HB3 hy hgr hset hf hzl
      go_wp2
      go_roundg (n - (i + 1))
      case measure => omega
      case rel => exact ⟨i + 1, _, by go_num, by omega, Nat.le_refl _, HNZ, HY, HB4⟩
    · have hltz : ¬ (i : Int) < (n : Int) := by omega
      have cQ := CQ wr
      have hmul := HMU.out
      go_wp2_with fail
      refine cQ.mono ?_
      rintro e w3 ⟨rfl, hb3⟩
      have HB3 : Below w1.heap.size w1 w3 := HB.out.trans (hb3.mono HB.out.size)
      have HBE : Aside (Below W.heap.size W w3) := HB1.out.trans (HB3.mono HB1.out.size)
      clear cQ hb3 HB3
      go_wp2
      go_ret
      exact ⟨rfl, HBE.out⟩
end Go.Proofs.Ytgpnnnhhidbajaa.Grd
