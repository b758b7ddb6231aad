/-
  Numbers in lists of a call's own; the document's comparison of two lists; the program's Near of any grid.
-/
import Derived.Test.YtaepndaboefbeaaDoorGrdf
import Derived.Lib.OthersKept
import Derived.Maps.AppendAt
import Derived.Maps.OwnIn
import Derived.RangeFuncBox
import Derived.Laws.MakeOwn
import Derived.Deep.DeepAppendRoom
import Derived.Laws.AppendOwnNone
import Derived.Laws.OwnMore
namespace Go.Proofs.YtaepndaboefbeaaDoor.Grd
open Go Go.Lib Go.RowKit

theorem infoInt : (Tryd.prog.info? 3).map (fun i => (i.zero, i.size, i.bytes)) = some (some (.int .i64 0), 1, 8) := by kernel_rfl
/-- Numbers, as cells. -/
def cellsI (zs : List Int) : List Value := zs.map (Value.int .i64)
theorem cellsI_length (zs : List Int) : (cellsI zs).length = zs.length := by simp [cellsI]
theorem cellsI_snoc (zs : List Int) (x : Int) : cellsI (zs ++ [x]) = cellsI zs ++ [.int .i64 x] := by simp [cellsI]
def ints (l : List Nat) : List Int := l.map fun i : Nat => (i : Int)
theorem ints_length (l : List Nat) : (ints l).length = l.length := by simp [ints]
theorem ints_snoc (l : List Nat) (i : Nat) : ints (l ++ [i]) = ints l ++ [(i : Int)] := by simp [ints]

/-- A list of numbers, wherever it lies. -/
def ReadsI (W : World) (ao : Option Addr) (zs : List Int) : Prop := ∀ i (_ : i < zs.length), ∃ b off, ao = some ⟨b, off, none⟩ ∧ b < W.heap.size ∧ W.cell? ⟨b, off + i, none⟩ = some (.int .i64 (zs[i]?.getD 0))
theorem ReadsI.below {W W' : World} {ao : Option Addr} {zs : List Int} (h : ReadsI W ao zs) (hb : Below W.heap.size W W') : ReadsI W' ao zs := fun j hj => by
  obtain ⟨g, o, h1, h2, h3⟩ := h j hj
  exact ⟨g, o, h1, Nat.lt_of_lt_of_le h2 hb.size, (hb.cell (p := ⟨g, o + j, none⟩) h2).trans h3⟩
theorem row_reads {W : World} {B : Nat} {v : Value} {zs : List Int} {n : Nat} (h : W.ownsRow B 3 1 v n (cellsI zs)) : ∃ ao cap, v = .slice ao zs.length cap ∧ n = zs.length ∧ ReadsI W ao zs := by
  have hh := h
  have hn : n = zs.length := by have := h.1; rw [cellsI_length] at this; omega
  rcases h.2 with ⟨rfl, h0⟩ | ⟨g, cap, cur, rfl, hb, _⟩
  · exact ⟨none, 0, by rw [← hn, h0], hn, fun j hj => by omega⟩
  · refine ⟨_, cap, by rw [hn], hn, fun j hj => ⟨g, 0, rfl, (hh.lt g rfl).2, ?_⟩⟩
    have := hh.cells (g := g) rfl j (.int .i64 zs[j]) (by simp [cellsI, hj])
    rw [show (⟨g, 0, none⟩ : Addr).add j = ⟨g, j, none⟩ by unfold Addr.add; split <;> simp_all] at this
    rw [Nat.zero_add, this]
    simp [hj]
theorem row_base {W : World} {B B' : Nat} {e : TypeId} {v : Value} {n : Nat} {xs : List Value} (h : W.ownsRow B e 1 v n xs) (hb : B' ≤ B) : W.ownsRow B' e 1 v n xs := by
  rcases h with ⟨h1, h2 | ⟨g, cap, cur, e1, e2, e3, e4⟩⟩
  · exact ⟨h1, .inl h2⟩
  · exact ⟨h1, .inr ⟨g, cap, cur, e1, Nat.le_trans hb e2, e3, e4⟩⟩
theorem row_keeps {W W' : World} {B : Nat} {e : TypeId} {v : Value} {n : Nat} {xs : List Value} (h : W.ownsRow B e 1 v n xs) (hb : Below W.heap.size W W') : W'.ownsRow B e 1 v n xs := by
  rcases h with ⟨h1, h2 | ⟨g, cap, cur, e1, e2, e3, e4⟩⟩
  · exact ⟨h1, .inl h2⟩
  · exact ⟨h1, .inr ⟨g, cap, cur, e1, e2, (hb.block g (Array.getElem?_eq_some_iff.1 e3).1).trans e3, e4⟩⟩

set_option maxHeartbeats 1000000 in
theorem sameInts_any (zs : List Int) (a1 a2 : Option Addr) (c1 c2 : Nat) (w : World) (hl : zs.length ≤ 4611686018427387904) (h1 : ReadsI w a1 zs) (h2 : ReadsI w a2 zs) :
    Calls Tryd.prog 24 #[.slice a1 zs.length c1, .slice a2 zs.length c2] w fun e w' => e = .returned (.bool true) ∧ Below w.heap.size w w' := by
  go_enter Tryd.func24, Tryd.ntmps24
  go_wp2
  go_loopg [5] zs.length (fun g1 iv wr => ∃ k : Nat, iv = .int .i64 (k : Int) ∧ k ≤ zs.length ∧ zs.length - k ≤ g1 ∧ Aside (Below w.heap.size w wr))
  case atStart => exact ⟨0, rfl, Nat.zero_le _, Nat.le_refl _, Below.refl _ _⟩
  case round =>
    obtain ⟨k, rfl, hk, hg, hB⟩ := hrel
    by_cases hlt : k < zs.length
    · have hltz : (k : Int) < (zs.length : Int) := by omega
      obtain ⟨g1, o1, rfl, _, e1⟩ := (h1.below hB.out) k hlt
      obtain ⟨g2, o2, rfl, _, e2⟩ := (h2.below hB.out) k hlt
      clear h1 h2
      generalize zs[k]?.getD 0 = z at *
      go_wp2
      go_quiet (fail)
      go_wp2
      go_roundg (zs.length - (k + 1))
      case measure => omega
      case rel => exact ⟨k + 1, by go_num, by omega, Nat.le_refl _, below_drewN hB.out _⟩
    · have hltz : ¬ (k : Int) < (zs.length : Int) := by omega
      go_wp2
      go_ret
      exact ⟨rfl, hB.out⟩

/-- What Near answers, at any number. -/
def Gr.nearI (g : Gr) (i : Int) : List Nat := if g.opI i then g.near i.toNat else []
def Gr.nearK (g : Gr) (i k : Nat) : List Nat := (List.range k).filterMap (g.stp i)
theorem Gr.nearK_succ (g : Gr) (i k : Nat) : g.nearK i (k + 1) = g.nearK i k ++ (g.stp i k).toList := by
  unfold Gr.nearK
  rw [List.range_succ, List.filterMap_append]
  congr 1
theorem Gr.nearK_len (g : Gr) (i k : Nat) : (g.nearK i k).length ≤ k := by
  unfold Gr.nearK
  have := List.length_filterMap_le (g.stp i) (List.range k)
  rw [List.length_range] at this
  exact this
theorem Gr.nearK_four {g : Gr} {i : Nat} (ho : g.opn i = true) : g.nearK i 4 = g.near i := by
  unfold Gr.nearK Gr.near
  have : g.st i = g.stp i := funext fun way => Gr.st_stp ho
  rw [this, show List.range 4 = [0, 1, 2, 3] from rfl]

set_option maxHeartbeats 1000000 in
theorem near_open (g : Gr) (p : Ad) (hok : g.ok) (i : Nat) (hi : g.opn i = true) (w : World) (hw : Wy w) (hR : RG w g p) :
    Calls Tryd.prog 22 #[gv g p, .int .i64 i] w fun e w' => ∃ v, e = .returned v ∧ w'.ownsRow w.heap.size 3 1 v (g.near i).length (cellsI (ints (g.near i))) ∧ Below w.heap.size w w' := by
  obtain ⟨i0, hi0, hz0, hz1, hz2⟩ := info_parts infoInt
  have hz := (Gr.right_of hok).sz
  have cC := check_any g p (w.alloc (.cells #[.int .i64 g.h, .int .i64 g.w, .slice p.a1 g.B.length p.c1, .slice p.a2 g.R.length p.c2, .slice p.a3 g.D.length p.c3] 24)) (hw.below hw.size (below_box w _)) (hR.below (below_box w _))
  rw [show g.chk = 0 from hok] at cC
  have hoi : g.opI (i : Int) = true := Gr.opI_iff.2 ⟨hok, i, rfl, hi⟩
  have HO : Aside (∀ W, Below w.heap.size w W → Calls Tryd.prog 34 #[gv g p, .int .i64 i] W fun e w' => e = .returned (.bool true) ∧ Below W.heap.size W w') := fun W h => by
    have := isOpen_any g p i W (hR.b.below h)
    unfold Gr.opI at hoi
    rw [decide_eq_true hok, Bool.true_and] at hoi
    rw [hoi] at this
    exact this
  have HS : Aside (∀ W k, k < 4 → Below w.heap.size w W → Calls Tryd.prog 37 #[gv g p, .int .i64 i, .int .i64 (k : Nat)] W fun e w' => e = .returned (opt (g.stp i k)) ∧ Below W.heap.size W w') := fun W k hk h => step_any g p hz i k (Gr.opn_iff.1 hi).1 hk W (hw.below hw.size h) (hR.below h)
  have HN : Aside (g.nearK i 4 = g.near i) := Gr.nearK_four hi
  have HJ : Aside (∀ k j, g.stp i k = some j → j < 256) := fun k j hj => by
    have := Gr.nb_lt hz.sw.1 (Gr.opn_iff.1 hi).1 (Gr.bes_nb (Gr.stp_bes hj).1).1
    have := hz.n_le
    omega
  have hin : i < 256 := by
    have := (Gr.opn_iff.1 hi).1
    have := hz.n_le
    omega
  obtain ⟨M, hM⟩ : ∃ M, M = madeCells (Value.int .i64 0).cells (4 * i0.size) := ⟨_, rfl⟩
  have hMs : M.size = 4 * 1 := by rw [hM, size_madeCells, hz1]
  have hmk : ∀ W : World, (Instr.makeSlice 35 (.int .i64 0) (.int .i64 4)).run Tryd.prog W = .ok (.slice (some ⟨W.heap.size, 0, none⟩) 0 4) (W.alloc (.cells M 3)) := fun W => by
    have h := run_make (P := Tryd.prog) W 35 3 i0 (.int .i64 0) Tryd.underlying35 hi0 hz0 .i64 .i64 0 4 (by omega) (by omega) (by rw [hz2]; omega) (by omega)
    rw [show (4 : Int).toNat = 4 from rfl, ← hM] at h
    exact h
  have o0 := fun W : World => World.ownsRow_made (e := 3) (size := 1) (base := W.heap.size) W M 4 (Nat.le_refl _) (by unfold maxLen; omega) hMs
  unfold gv at cC HO
  unfold gv opt at HS
  unfold gv
  clear hM hoi hz hok hi hR hw
  go_enter Tryd.func22, Tryd.ntmps22
  go_wp2_with fail
  refine cC.mono ?_
  rintro e w1 ⟨rfl, hb1⟩
  have HBX1 : Aside (Bx w1 w.heap.size g p) := (Bx.new w g p _).keep hb1
  obtain ⟨_, k0, k1, k2, k3, k4⟩ := HBX1.out
  have HB1 : Aside (Below w.heap.size w w1) := (below_box w _).trans (hb1.mono (below_box w _).size)
  have cO := HO.out w1 HB1.out
  clear HO hb1 cC
  go_wp2_with fail
  refine cO.mono ?_
  rintro e w2 ⟨rfl, hb2⟩
  clear cO k0 k1 k2 k3 k4
  have HBX2 : Aside (Bx w2 w.heap.size g p) := HBX1.out.keep hb2
  have HB2 : Aside (Below w.heap.size w w2) := HB1.out.trans (hb2.mono HB1.out.size)
  clear hb2 HBX1
  have oN := o0 w2
  clear o0
  go_wp2
  have hws : w2.heap.size < (w2.alloc (.cells M 3)).heap.size := by rw [World.size_alloc]; omega
  have HBn : Aside (Below w2.heap.size w2 (w2.alloc (.cells M 3))) := below_box w2 _
  clear hmk
  go_loopg [5, 19] 4 (fun g1 nv iv wr => ∃ k : Nat, iv = .int .i64 (k : Int) ∧ k ≤ 4 ∧ 4 - k ≤ g1 ∧ Aside (wr.ownsRow w2.heap.size 3 1 nv (g.nearK i k).length (cellsI (ints (g.nearK i k)))) ∧ Aside (Below w2.heap.size w2 wr))
  case atStart => exact ⟨0, rfl, Nat.zero_le _, Nat.le_refl _, oN, HBn⟩
  case round =>
    obtain ⟨k, rfl, hk, hg, HOW, HBk⟩ := hrel
    have HBw : Aside (Below w.heap.size w wr) := HB2.out.trans (HBk.out.mono HB2.out.size)
    by_cases hlt : k < 4
    · have hltz : (k : Int) < 4 := by omega
      have cS := HS.out wr k hlt HBw.out
      obtain ⟨_, k0, k1, k2, k3, k4⟩ := HBX2.out.keep HBk.out
      have HSU : Aside (g.nearK i (k + 1) = g.nearK i k ++ (g.stp i k).toList) := g.nearK_succ i k
      have hln := g.nearK_len i k
      have HJ1 := HJ.out k
      generalize g.stp i k = o at *
      cases o with
      | none =>
        go_wp2_with fail
        refine cS.mono ?_
        rintro e w4 ⟨rfl, hb4⟩
        have HBz : Aside (Below w2.heap.size w2 w4) := HBk.out.trans (hb4.mono HBk.out.size)
        have HOW4 : Aside (w4.ownsRow w2.heap.size 3 1 u5 (g.nearK i k).length (cellsI (ints (g.nearK i k)))) := row_keeps HOW.out hb4
        clear cS hb4 HOW
        go_wp2
        go_roundg (4 - (k + 1))
        case measure => omega
        case rel => exact ⟨k + 1, by go_num, by omega, Nat.le_refl _, by rw [HSU.out, Option.toList_none, List.append_nil]; exact HOW4.out, HBz⟩
      | some j =>
        have hj := HJ1 j rfl
        go_wp2_with fail
        refine cS.mono ?_
        rintro e w4 ⟨rfl, hb4⟩
        have HBz : Aside (Below w2.heap.size w2 w4) := HBk.out.trans (hb4.mono HBk.out.size)
        have HOW4 : Aside (w4.ownsRow w2.heap.size 3 1 u5 (g.nearK i k).length (cellsI (ints (g.nearK i k)))) := row_keeps HOW.out hb4
        have hz4 := HBz.out.size
        clear cS hb4 HOW HJ1
        go_wp2_with (at_builtin; refine wpList_append_own _ rfl _ _ 35 rfl w2.heap.size 3 i0 (.int .i64 0) 1 8 Tryd.underlying35 hi0 hz0 hz1 hz2 rfl (by decide) _ _ _ rfl (HOW4.out.alloc _) ⟨w4.heap.size, 0, none⟩ 1 1 [.int .i64 (j : Int)] rfl rfl (cell_one_new _ _ _) (by simp [Value.oneCell']) (by unfold maxLen; omega) (by omega) (by simp; omega) ?_)
        intro v' wa hown' hgrow _
        have HBa : Aside (Below w2.heap.size w2 wa) := Below.grown (HBz.out.alloc hz4 _) hgrow (by simp; omega) (fun j hj => (HOW4.out.lt _ hj).1)
        have HOWa : Aside (wa.ownsRow w2.heap.size 3 1 v' (g.nearK i (k + 1)).length (cellsI (ints (g.nearK i (k + 1))))) := by
          show wa.ownsRow _ _ _ _ _ _
          rw [HSU.out]
          simp only [Option.toList_some, List.length_append, List.length_cons, List.length_nil, ints_snoc, cellsI_snoc]
          exact hown'
        clear hown' hgrow
        go_wp2
        go_roundg (4 - (k + 1))
        case measure => omega
        case rel => exact ⟨k + 1, by go_num, by omega, Nat.le_refl _, HOWa, HBa⟩
    · have hltz : ¬ (k : Int) < 4 := by omega
      obtain rfl : k = 4 := by omega
      go_wp2
      go_ret
      refine ⟨_, rfl, ?_, HBw.out⟩
      have := HOW.out
      rw [HN.out] at this
      exact row_base this HB2.out.size

set_option maxHeartbeats 1000000 in
theorem near_shut (g : Gr) (p : Ad) (i : Int) (hi : g.opI i = false) (w : World) (hw : Wy w) (hR : RG w g p) :
    Calls Tryd.prog 22 #[gv g p, .int .i64 i] w fun e w' => e = .returned (.slice none 0 0) ∧ Below w.heap.size w w' := by
  have cC := check_any g p (w.alloc (.cells #[.int .i64 g.h, .int .i64 g.w, .slice p.a1 g.B.length p.c1, .slice p.a2 g.R.length p.c2, .slice p.a3 g.D.length p.c3] 24)) (hw.below hw.size (below_box w _)) (hR.below (below_box w _))
  have hcl := g.chk_le
  by_cases hc : g.chk = 0
  · have HO : Aside (∀ W, Below w.heap.size w W → Calls Tryd.prog 34 #[gv g p, .int .i64 i] W fun e w' => e = .returned (.bool false) ∧ Below W.heap.size W w') := fun W h => by
      have := isOpen_any g p i W (hR.b.below h)
      unfold Gr.opI at hi
      rw [decide_eq_true (show g.ok from hc), Bool.true_and] at hi
      rw [hi] at this
      exact this
    rw [hc] at cC
    unfold gv at cC HO
    unfold gv
    clear hcl hc hi hR hw
    go_enter Tryd.func22, Tryd.ntmps22
    go_wp2_with fail
    refine cC.mono ?_
    rintro e w1 ⟨rfl, hb1⟩
    obtain ⟨_, k0, k1, k2, k3, k4⟩ := (Bx.new w g p _).keep hb1
    have HB1 : Aside (Below w.heap.size w w1) := (below_box w _).trans (hb1.mono (below_box w _).size)
    have cO := HO.out w1 HB1.out
    clear HO hb1 cC
    go_wp2_with fail
    refine cO.mono ?_
    rintro e w2 ⟨rfl, hb2⟩
    clear cO
    go_wp2
    go_ret
    exact ⟨rfl, HB1.out.trans (hb2.mono HB1.out.size)⟩
  · have hc2 : ¬ ((g.chk : Nat) : Int) = 0 := by omega
    unfold gv at cC
    unfold gv
    clear hi hR hw
    go_enter Tryd.func22, Tryd.ntmps22
    go_wp2_with fail
    refine cC.mono ?_
    rintro e w1 ⟨rfl, hb1⟩
    have HB1 : Aside (Below w.heap.size w w1) := (below_box w _).trans (hb1.mono (below_box w _).size)
    clear hb1 cC
    go_wp2
    go_ret
    exact ⟨rfl, HB1.out⟩

theorem near_any (g : Gr) (p : Ad) (i : Int) (w : World) (hw : Wy w) (hR : RG w g p) :
    Calls Tryd.prog 22 #[gv g p, .int .i64 i] w fun e w' => ∃ v, e = .returned v ∧ w'.ownsRow w.heap.size 3 1 v (g.nearI i).length (cellsI (ints (g.nearI i))) ∧ Below w.heap.size w w' := by
  cases ho : g.opI i with
  | true =>
    obtain ⟨hok, k, rfl, hk⟩ := Gr.opI_iff.1 ho
    have e : g.nearI (k : Int) = g.near k := by unfold Gr.nearI; rw [if_pos ho, Int.toNat_natCast]
    rw [e]
    exact near_open g p hok k hk w hw hR
  | false =>
    have e : g.nearI i = [] := by unfold Gr.nearI; rw [if_neg (by rw [ho]; simp)]
    rw [e]
    refine (near_shut g p i ho w hw hR).mono ?_
    rintro e w' ⟨rfl, hb⟩
    exact ⟨_, rfl, World.ownsRow_nil _ _ _ _, hb⟩
end Go.Proofs.YtaepndaboefbeaaDoor.Grd
