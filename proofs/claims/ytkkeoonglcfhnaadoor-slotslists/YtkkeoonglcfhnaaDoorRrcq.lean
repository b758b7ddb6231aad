/-
  The document's seat of a cell.
-/
import Derived.Test.YtkkeoonglcfhnaaDoorRrbq
import Derived.Test.YtkkeoonglcfhnaaDoorSlj
namespace Go.Proofs.YtkkeoonglcfhnaaDoor.Grd
open Go Go.Lib Go.RowKit

/-- What is left to be searched. -/
theorem seatL_at {dn : Bool} {i : Nat} {L : List Sl} {k : Nat} {s : Sl} (h : L[k]? = some s) : seatL dn i (L.drop k) k = (match (if s.dn = dn then ixOf i s.cs 0 else none) with | some a => some (k, a) | none => seatL dn i (L.drop (k + 1)) (k + 1)) := by
  have e : L.drop k = s :: L.drop (k + 1) := by
    obtain ⟨hl, rfl⟩ := List.getElem?_eq_some_iff.1 h
    exact List.drop_eq_getElem_cons hl
  rw [e]
  rfl
theorem ixOf_at {i : Nat} {l : List Nat} {k c : Nat} (h : l[k]? = some c) : ixOf i (l.drop k) k = if c = i then some k else ixOf i (l.drop (k + 1)) (k + 1) := by
  have e : l.drop k = c :: l.drop (k + 1) := by
    obtain ⟨hl, rfl⟩ := List.getElem?_eq_some_iff.1 h
    exact List.drop_eq_getElem_cons hl
  rw [e]
  rfl

/-- A seat that lies in a cell of its own is handed back. -/
theorem results_seat {fn : Func} {p : Tmp} (h : fn.results = #[.cell p 38]) (tmps : Array Value) (w : World) (b : Nat) (x0 x1 : Value)
    (hp : tmps.getD p undef = .pointer (some ⟨b, 0, none⟩)) (h0 : w.cell? ⟨b, 0, none⟩ = some x0) (h1 : w.cell? ⟨b, 1, none⟩ = some x1) :
    (results fn tmps).run Tryd.prog w = .ok (.agg #[x0, x1]) w := by
  have hp' : tmps[p]?.getD undef = .pointer (some ⟨b, 0, none⟩) := by simpa using hp
  simp only [results, h]
  simp [hp', asAddr]
  go_simp
set_option maxRecDepth 20000 in
set_option maxHeartbeats 4000000 in
theorem refSeat_any (L : List Sl) (ao : Option Addr) (cap i : Nat) (dn : Bool) (w : World) (hl : L.length ≤ 512) (hcs : ∀ (k : Nat) (s : Sl), L[k]? = some s → s.cs.length ≤ 257 ∧ ∀ (a c : Nat), s.cs[a]? = some c → c < 256) (hR : ReadsL w ao L) :
    Calls Tryd.prog 35 #[.slice ao L.length cap, .int .i64 i, .bool dn] w fun e w' => e = .returned (.agg #[.int .i64 (seatV (seatL dn i L 0)).1, .int .i64 (seatV (seatL dn i L 0)).2]) ∧ Below w.heap.size w w' := by
  obtain ⟨i0, hi0, hz0, hz1, hz2⟩ := info_parts infoSeat
  have HR0 : Aside (ReadsL (w.alloc (.cells #[.int .i64 0, .int .i64 0] 38)) ao L) := hR.below (below_box _ _)
  have HB0 : Aside (Below w.heap.size w (w.alloc (.cells #[.int .i64 0, .int .i64 0] 38))) := below_box _ _
  have HQ0 : Aside ((w.alloc (.cells #[.int .i64 0, .int .i64 0] 38)).ownsRow w.heap.size 38 2 (.slice (some ⟨w.heap.size, 0, none⟩) 1 1) 1 (cellsS (fun _ => (0, 0)) 1)) := World.ownsRow_lit _ _ _ (Nat.le_refl _) (by unfold maxLen; omega) rfl
  clear hR
  go_enter Tryd.func35, Tryd.ntmps35
  go_wp2
  generalize w.alloc (.cells #[.int .i64 0, .int .i64 0] 38) = w1 at *
  have hsz : w.heap.size < w1.heap.size := (HQ0.out.lt _ rfl).2
  have c0 : w1.cell? ⟨w.heap.size, 0, none⟩ = some (.int .i64 0) := (HQ0.out.cellAt (0 * 2) (by omega)).trans (cellsS_at (by omega)).1
  have c1 : w1.cell? ⟨w.heap.size, 1, none⟩ = some (.int .i64 0) := (HQ0.out.cellAt (0 * 2 + 1) (by omega)).trans (cellsS_at (i := 0) (by omega)).2
  have f0 : w1.frozen? ⟨w.heap.size, 0, none⟩ = false := HQ0.out.frozenAt 0
  have f1 : w1.frozen? ⟨w.heap.size, 1, none⟩ = false := HQ0.out.frozenAt 1
  have HST : Aside (∀ x y : Int, (((w1.setCell ⟨w.heap.size, 0, none⟩ (.int .i64 x)).setCell ⟨w.heap.size, 1, none⟩ (.int .i64 y)).cell? ⟨w.heap.size, 0, none⟩ = some (.int .i64 x) ∧ ((w1.setCell ⟨w.heap.size, 0, none⟩ (.int .i64 x)).setCell ⟨w.heap.size, 1, none⟩ (.int .i64 y)).cell? ⟨w.heap.size, 1, none⟩ = some (.int .i64 y)) ∧ Below w.heap.size w ((w1.setCell ⟨w.heap.size, 0, none⟩ (.int .i64 x)).setCell ⟨w.heap.size, 1, none⟩ (.int .i64 y))) := fun x y => by
    have h := seat_stored (i := 0) (f' := fun _ => (x, y)) HQ0.out (by omega) x y HB0.out (Nat.le_refl _) (fun j hj => by rw [if_pos (by omega)])
    exact ⟨⟨(h.1.cellAt (0 * 2) (by omega)).trans (cellsS_at (by omega)).1, (h.1.cellAt (0 * 2 + 1) (by omega)).trans (cellsS_at (i := 0) (by omega)).2⟩, h.2⟩
  go_loopg [7] L.length (fun g1 iv wr => ∃ k : Nat, iv = .int .i64 (k : Int) ∧ k ≤ L.length ∧ L.length - k ≤ g1 ∧ wr = w1 ∧ Aside (seatL dn i (L.drop k) k = seatL dn i L 0))
  case atStart => exact ⟨0, rfl, Nat.zero_le _, Nat.le_refl _, rfl, rfl⟩
  case round =>
    obtain ⟨k, rfl, hk, hg, hwr, HF⟩ := hrel
    obtain rfl := hwr
    by_cases hlt : k < L.length
    · have hltz : (k : Int) < (L.length : Int) := by omega
      have hs : L[k]? = some (L[k]'hlt) := List.getElem?_eq_getElem hlt
      generalize L[k]'hlt = s at hs
      have HFA : Aside _ := seatL_at (dn := dn) (i := i) hs
      obtain ⟨hcl, hcc⟩ := hcs k s hs
      have HCC : Aside (∀ (a c : Nat), s.cs[a]? = some c → c < 256) := hcc
      obtain ⟨b, a', c', rfl, hb, e0, e1, e2, hI⟩ := HR0.out k s hs
      have HI : Aside (ReadsI wr a' (ints s.cs)) := hI
      have HG1 : Aside _ := hg
      have HK : Aside (k < L.length) := hlt
      have HCS : Aside (∀ (k : Nat) (s : Sl), L[k]? = some s → s.cs.length ≤ 257 ∧ ∀ (a c : Nat), s.cs[a]? = some c → c < 256) := hcs
      clear hs hI hcc hcs hg
      go_wp2
      generalize hwq : wr = wq at *
      go_loopg [8] s.cs.length (fun g1 iv wr => ∃ a : Nat, iv = .int .i64 (a : Int) ∧ a ≤ s.cs.length ∧ s.cs.length - a ≤ g1 ∧ wr = wq ∧ Aside (s.dn = dn → ixOf i (s.cs.drop a) a = ixOf i s.cs 0))
      case atStart => exact ⟨0, rfl, Nat.zero_le _, Nat.le_refl _, rfl, fun _ => rfl⟩
      case round =>
        obtain ⟨a, rfl, ha, hg2, hwr2, HX⟩ := hrel
        obtain rfl := hwr2
        clear hwq
        by_cases hla : a < s.cs.length
        · have hlaz : (a : Int) < (s.cs.length : Int) := by omega
          have hc : s.cs[a]? = some (s.cs[a]'hla) := List.getElem?_eq_getElem hla
          generalize s.cs[a]'hla = c at hc
          have hc256 := HCC.out a c hc
          obtain ⟨b7, o7, rfl, hb7, e7⟩ := HI.out a (by rw [ints_length]; exact hla)
          rw [show (ints s.cs)[a]?.getD 0 = (c : Int) by simp [ints, hc]] at e7
          have HXA : Aside _ := ixOf_at (i := i) hc
          have HE : Aside (s.dn = dn ↔ (s.dn == dn) = true) := (beq_iff_eq).symm
          clear hc
          cases hd : (s.dn == dn) with
          | false =>
            have HX2 : Aside (s.dn = dn → ixOf i (s.cs.drop (a + 1)) (a + 1) = ixOf i s.cs 0) := fun h => by have := HE.out.1 h; rw [hd] at this; cases this
            go_wp2
            go_roundg (s.cs.length - (a + 1))
            case measure => omega
            case rel => exact ⟨a + 1, by go_num, by omega, Nat.le_refl _, rfl, HX2⟩
          | true =>
            by_cases hci : c = i
            · have hciz : (c : Int) = (i : Int) := by omega
              have HV : Aside (seatL dn i L 0 = some (k, a)) := by
                show _ = _
                have h1 := HX.out (HE.out.2 hd)
                rw [HXA.out, if_pos hci] at h1
                rw [← HF.out, HFA.out, if_pos (HE.out.2 hd), ← h1]
              clear hci
              have HZ := HST.out ((k : Nat) : Int) ((a : Nat) : Int)
              go_wp2
              refine bodyPost_ret (results_seat rfl _ _ w.heap.size _ _ rfl HZ.1.1 HZ.1.2) rfl ⟨?_, HZ.2⟩
              rw [HV.out]
              rfl
            · have hciz : ¬ (c : Int) = (i : Int) := by omega
              have HX2 : Aside (s.dn = dn → ixOf i (s.cs.drop (a + 1)) (a + 1) = ixOf i s.cs 0) := fun h => by rw [← HX.out h, HXA.out, if_neg hci]
              go_wp2
              go_roundg (s.cs.length - (a + 1))
              case measure => omega
              case rel => exact ⟨a + 1, by go_num, by omega, Nat.le_refl _, rfl, HX2⟩
        · have hlaz : ¬ (a : Int) < (s.cs.length : Int) := by omega
          obtain rfl : a = s.cs.length := by omega
          have HF2 : Aside (seatL dn i (L.drop (k + 1)) (k + 1) = seatL dn i L 0) := by
            show _ = _
            rw [← HF.out, HFA.out]
            by_cases hd : s.dn = dn
            · rw [if_pos hd, ← HX.out hd, List.drop_length]
              rfl
            · rw [if_neg hd]
          go_wp2
          go_roundg (L.length - (k + 1))
          case measure => have := HK.out; have := HG1.out; omega
          case rel => exact ⟨k + 1, by go_num, HK.out, Nat.le_refl _, rfl, HF2⟩
    · have hltz : ¬ (k : Int) < (L.length : Int) := by omega
      obtain rfl : k = L.length := by omega
      have HV : Aside (seatL dn i L 0 = none) := by show _ = _; rw [← HF.out, List.drop_length]; rfl
      have HZ := HST.out (-1) (0)
      go_wp2
      refine bodyPost_ret (results_seat rfl _ _ w.heap.size _ _ rfl HZ.1.1 HZ.1.2) rfl ⟨?_, HZ.2⟩
      rw [HV.out]
      rfl
end Go.Proofs.YtkkeoonglcfhnaaDoor.Grd
