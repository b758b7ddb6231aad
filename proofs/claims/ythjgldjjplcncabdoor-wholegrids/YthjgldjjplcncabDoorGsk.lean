/-
  The program's Print walked.
-/
import Derived.Test.YthjgldjjplcncabDoorSbd
import Derived.Test.YthjgldjjplcncabDoorGse
import Derived.Test.YthjgldjjplcncabDoorGrdjq
namespace Go.Proofs.YthjgldjjplcncabDoor.Skt
open Go Go.Lib Go.RowKit Utf Grd

/-- What is written of a cell. -/
def cellT (x y z e : Bool) : List UInt8 := (if x then [35] else [46]) ++ ((if y then [124] else []) ++ ((if z then [95] else []) ++ (if e then [10] else [])))
def cellB (g : Gr) (i : Nat) : List UInt8 := cellT (bt g.B i) (bt g.R i) (bt g.D i) (decide (i % g.W = g.W - 1))
def prB (g : Gr) : Nat → List UInt8
  | 0 => []
  | k + 1 => prB g k ++ cellB g k
theorem cellB_len (g : Gr) (i : Nat) : (cellB g i).length ≤ 4 := by
  unfold cellB cellT
  simp only [List.length_append]
  repeat' split
  all_goals simp
theorem prB_len (g : Gr) : ∀ k, (prB g k).length ≤ 4 * k
  | 0 => by simp [prB]
  | k + 1 => by
    have h1 := prB_len g k
    have h2 := cellB_len g k
    rw [prB, List.length_append]
    omega
/-- What Print answers. -/
def prT (g : Gr) : List UInt8 := if g.chk = 0 then prB g g.n else []

theorem bcl {l : List UInt8} (h : l.length ≤ 1030) : (Lib.byteCells l).length + 1 ≤ 140737488355328 := by rw [Lib.byteCells_length]; omega
theorem isBuilderF_below2 {T e : TypeId} {B b : Nat} {bs : List Value} {W W' : World} (h : Lib.IsBuilderF T e B b bs W) (hb : Below W.heap.size W W') : Lib.IsBuilderF T e B b bs W' := by
  have key : ∀ {p : Value}, Lib.BuilderAtF T e B b p bs W → Lib.BuilderAtF T e B b p bs W' := by
    rintro p ⟨hB, v, hbk, hown, hne⟩
    refine ⟨hB, v, (hb.block b (Array.getElem?_eq_some_iff.1 hbk).1).trans hbk, ⟨hown.1, ?_⟩, hne⟩
    rcases hown.2 with hn | ⟨g, cap, cur, fz, hv, hbg, hg, rest⟩
    · exact .inl hn
    · exact .inr ⟨g, cap, cur, fz, hv, hbg, (hb.block g (Array.getElem?_eq_some_iff.1 hg).1).trans hg, rest⟩
  exact h.imp key key
theorem byteCells_snoc (l : List UInt8) (c : UInt8) (n : Int) (h : n = c.toNat) : Lib.byteCells l ++ [.int .u8 n] = Lib.byteCells (l ++ [c]) := by
  subst h
  simp [Lib.byteCells]

set_option maxRecDepth 100000 in
set_option maxHeartbeats 4000000 in
theorem print_any (g : Gr) (p : Ad) (W : World) (hw : Wy W) (hR : RG W g p) :
    Calls Tryd.prog 5 #[gv g p] W fun e W' => e = .returned (.tuple #[.string ⟨(prT g).toArray⟩, .int .i64 (g.chk : Nat)]) ∧ Below W.heap.size W W' := by
  unfold gv
  have hX0 := Bx.new W g p 27
  have hb0 := below_box W (.cells #[.int .i64 g.h, .int .i64 g.w, .slice p.a1 g.B.length p.c1, .slice p.a2 g.R.length p.c2, .slice p.a3 g.D.length p.c3] 27)
  have cC := check_any g p (W.alloc (.cells #[.int .i64 g.h, .int .i64 g.w, .slice p.a1 g.B.length p.c1, .slice p.a2 g.R.length p.c2, .slice p.a3 g.D.length p.c3] 27)) (hw.below hw.size hb0) (hR.below hb0)
  have HR : Aside (RG W g p) := hR
  unfold gv at cC
  by_cases hok : g.chk = 0
  · have HP : Aside (prT g = prB g g.n) := if_pos hok
    rw [hok] at cC ⊢
    have hr := Gr.right_of (g := g) hok
    have hz := hr.sz
    have hn := hz.n_le
    obtain ⟨b1, o1, c1, b2, o2, c2, b3, o3, c3, rfl, hRA⟩ := RG.open hz hR
    go_enter Tryd.func5, Tryd.ntmps5
    obtain ⟨_, k0, k1, k2, k3, k4⟩ := hX0
    go_wp2_with fail
    refine cC.mono ?_
    rintro e w1 ⟨rfl, hb1⟩
    have hX1 : Bx w1 W.heap.size g ⟨some ⟨b1, o1, none⟩, c1, some ⟨b2, o2, none⟩, c2, some ⟨b3, o3, none⟩, c3⟩ := (Bx.new W g ⟨some ⟨b1, o1, none⟩, c1, some ⟨b2, o2, none⟩, c2, some ⟨b3, o3, none⟩, c3⟩ 27).keep hb1
    have hB1 : Below W.heap.size W w1 := hb0.trans (hb1.mono hb0.size)
    have HF : Aside (∀ Z, Below w1.heap.size w1 Z → Bx Z W.heap.size g _ ∧ RA Z g b1 o1 b2 o2 b3 o3) := fun Z hZ => ⟨hX1.keep hZ, (hRA.below hB1).below hZ⟩
    have HB1 : Aside (Below W.heap.size W w1) := hB1
    have hI0 := builder_new 53 5 w1
    have hBb : Below w1.heap.size w1 (w1.alloc (.cells #[.pointer none, .slice none 0 0] 53)) := (Below.refl _ w1).alloc (Nat.le_refl _) _
    have HI0 : Aside (Lib.IsBuilderF 53 5 w1.heap.size w1.heap.size (Lib.byteCells (prB g 0)) (w1.alloc (.cells #[.pointer none, .slice none 0 0] 53)) ∧ Below w1.heap.size w1 (w1.alloc (.cells #[.pointer none, .slice none 0 0] 53))) := ⟨hI0, hBb⟩
    have F1 := (HF.out _ hBb).1
    obtain ⟨_, k0, k1, k2, k3, k4⟩ := F1
    have HBL : Aside (g.B.length = g.n ∧ g.R.length = g.n ∧ g.D.length = g.n) := ⟨hr.bl, hr.rl, hr.dl⟩
    rw [hr.bl] at k2
    have HSW : Aside (1 ≤ g.W ∧ g.W ≤ 16 ∧ (g.W : Int) = g.w) := hr.sw

    clear hX1 hB1 hI0 hBb hb1 hb0 cC hR hw hRA
    go_wp2
    go_loopg [16] g.n (fun g1 iv wr => ∃ k : Nat, iv = .int .i64 (k : Int) ∧ k ≤ g.n ∧ g.n - k ≤ g1 ∧ Aside (Lib.IsBuilderF 53 5 w1.heap.size w1.heap.size (Lib.byteCells (prB g k)) wr ∧ Below w1.heap.size w1 wr))
    case atStart => exact ⟨0, rfl, Nat.zero_le _, Nat.le_refl _, HI0⟩
    case round =>
      obtain ⟨k, rfl, hk, hg, HI⟩ := hrel
      by_cases hlt : k < g.n
      · have hltz : (k : Int) < (g.n : Int) := by omega
        have hlen := prB_len g k
        have hW16 : 1 ≤ g.W ∧ g.W ≤ 16 := ⟨HSW.out.1, HSW.out.2.1⟩
        have hcl : prB g (k + 1) = prB g k ++ cellB g k := rfl
        have hrem : (k : Int) % (g.W : Int) = ((k % g.W : Nat) : Int) := int_mod k g.W
        have hsub : (g.W : Int) - 1 = ((g.W - 1 : Nat) : Int) := by omega
        have hW0 : ¬ (g.W : Int) = 0 := by omega
        have hml : k % g.W ≤ 16 := by have := Nat.mod_lt k (y := g.W) (by omega); omega
        have HHW : Aside ((g.W : Int) = g.w) := HSW.out.2.2
        unfold cellB at hcl
        generalize hx : bt g.B k = x at hcl
        generalize hy : bt g.R k = y at hcl
        generalize hz : bt g.D k = z at hcl
        have hee : (((k % g.W : Nat) : Int) == ((g.W - 1 : Nat) : Int)) = decide (k % g.W = g.W - 1) := by
          by_cases e : k % g.W = g.W - 1
          · rw [decide_eq_true e, beq_iff_eq]; omega
          · rw [decide_eq_false e, beq_eq_false_iff_ne]; omega
        generalize decide (k % g.W = g.W - 1) = ew at hcl hee
        generalize k % g.W = rm at *
        generalize g.W - 1 = wm at *
        have HCL : Aside (prB g (k + 1) = prB g k ++ cellT x y z ew) := hcl
        have HLN : Aside ((prB g k).length ≤ 1024) := by show _ ≤ _; omega
        have HXY : Aside (bt g.B k = x ∧ bt g.R k = y ∧ bt g.D k = z) := ⟨hx, hy, hz⟩
        clear hcl hlen hx hy hz
        cases x <;> cases y <;> cases z <;> cases ew
        · have F := HF.out wr HI.out.2
          obtain ⟨⟨_, k0, k1, k2, k3, k4⟩, R⟩ := F
          rw [HBL.out.1] at k2
          rw [HBL.out.2.1] at k3
          rw [HBL.out.2.2] at k4
          rw [← HHW.out] at k1
          have r1 := R.e1 k hlt
          have r2 := R.e2 k hlt
          have r3 := R.e3 k hlt
          rw [HXY.out.1] at r1
          rw [HXY.out.2.1] at r2
          rw [HXY.out.2.2] at r3
          clear R
          go_wp2_with fail
          refine (writeByte_any w1.heap.size w1.heap.size _ 46 wr HI.out.1 (bcl (by have := HLN.out; first | omega | (simp; omega))) (HI.out.2).size).mono ?_
          rintro e2 v1 ⟨rfl, hA, hbV⟩
          rw [byteCells_snoc _ 46 46 rfl] at hA
          have HV1 : Aside (Lib.IsBuilderF 53 5 w1.heap.size w1.heap.size (Lib.byteCells (prB g k ++ [46])) v1 ∧ Below w1.heap.size w1 v1) := ⟨.inr hA, (HI.out.2).trans hbV⟩
          clear hA hbV k0 k1 k2 k3 k4 r1 r2 r3
          have F := HF.out v1 HV1.out.2
          obtain ⟨⟨_, k0, k1, k2, k3, k4⟩, R⟩ := F
          rw [HBL.out.1] at k2
          rw [HBL.out.2.1] at k3
          rw [HBL.out.2.2] at k4
          rw [← HHW.out] at k1
          have r1 := R.e1 k hlt
          have r2 := R.e2 k hlt
          have r3 := R.e3 k hlt
          rw [HXY.out.1] at r1
          rw [HXY.out.2.1] at r2
          rw [HXY.out.2.2] at r3
          clear R
          go_wp2
          go_big_region
          have HZ : Aside (Lib.IsBuilderF 53 5 w1.heap.size w1.heap.size (Lib.byteCells (prB g k ++ [46])) v1.drew ∧ Below w1.heap.size w1 v1.drew) := ⟨isBuilderF_below2 HV1.out.1 (Below.drew (Below.refl _ _)), Below.drew (HV1.out.2)⟩
          clear k0 k1 k2 k3 k4 r1 r2 r3
          have hfin : prB g (k + 1) = prB g k ++ [46] := by rw [HCL.out]; simp [cellT]
          rw [← hfin] at HZ
          clear hfin
          go_wp2
          go_roundg (g.n - (k + 1))
          case measure => omega
          case rel => exact ⟨k + 1, by go_num, by omega, Nat.le_refl _, HZ⟩
        · have F := HF.out wr HI.out.2
          obtain ⟨⟨_, k0, k1, k2, k3, k4⟩, R⟩ := F
          rw [HBL.out.1] at k2
          rw [HBL.out.2.1] at k3
          rw [HBL.out.2.2] at k4
          rw [← HHW.out] at k1
          have r1 := R.e1 k hlt
          have r2 := R.e2 k hlt
          have r3 := R.e3 k hlt
          rw [HXY.out.1] at r1
          rw [HXY.out.2.1] at r2
          rw [HXY.out.2.2] at r3
          clear R
          go_wp2_with fail
          refine (writeByte_any w1.heap.size w1.heap.size _ 46 wr HI.out.1 (bcl (by have := HLN.out; first | omega | (simp; omega))) (HI.out.2).size).mono ?_
          rintro e2 v1 ⟨rfl, hA, hbV⟩
          rw [byteCells_snoc _ 46 46 rfl] at hA
          have HV1 : Aside (Lib.IsBuilderF 53 5 w1.heap.size w1.heap.size (Lib.byteCells (prB g k ++ [46])) v1 ∧ Below w1.heap.size w1 v1) := ⟨.inr hA, (HI.out.2).trans hbV⟩
          clear hA hbV k0 k1 k2 k3 k4 r1 r2 r3
          have F := HF.out v1 HV1.out.2
          obtain ⟨⟨_, k0, k1, k2, k3, k4⟩, R⟩ := F
          rw [HBL.out.1] at k2
          rw [HBL.out.2.1] at k3
          rw [HBL.out.2.2] at k4
          rw [← HHW.out] at k1
          have r1 := R.e1 k hlt
          have r2 := R.e2 k hlt
          have r3 := R.e3 k hlt
          rw [HXY.out.1] at r1
          rw [HXY.out.2.1] at r2
          rw [HXY.out.2.2] at r3
          clear R
          go_wp2
          go_big_region
          have HD : Aside (Lib.IsBuilderF 53 5 w1.heap.size w1.heap.size (Lib.byteCells (prB g k ++ [46])) v1.drew ∧ Below w1.heap.size w1 v1.drew) := ⟨isBuilderF_below2 HV1.out.1 (Below.drew (Below.refl _ _)), Below.drew (HV1.out.2)⟩
          clear k0 k1 k2 k3 k4 r1 r2 r3
          go_wp2_with fail
          refine (writeByte_any w1.heap.size w1.heap.size _ 10 v1.drew HD.out.1 (bcl (by have := HLN.out; first | omega | (simp; omega))) HD.out.2.size).mono ?_
          rintro e2 vz ⟨rfl, hA, hbV⟩
          rw [byteCells_snoc _ 10 10 rfl] at hA
          have HZ : Aside (Lib.IsBuilderF 53 5 w1.heap.size w1.heap.size (Lib.byteCells (prB g k ++ [46] ++ [10])) vz ∧ Below w1.heap.size w1 vz) := ⟨.inr hA, HD.out.2.trans hbV⟩
          clear hA hbV
          have hfin : prB g (k + 1) = prB g k ++ [46] ++ [10] := by rw [HCL.out]; simp [cellT]
          rw [← hfin] at HZ
          clear hfin
          go_wp2
          go_roundg (g.n - (k + 1))
          case measure => omega
          case rel => exact ⟨k + 1, by go_num, by omega, Nat.le_refl _, HZ⟩
        · have F := HF.out wr HI.out.2
          obtain ⟨⟨_, k0, k1, k2, k3, k4⟩, R⟩ := F
          rw [HBL.out.1] at k2
          rw [HBL.out.2.1] at k3
          rw [HBL.out.2.2] at k4
          rw [← HHW.out] at k1
          have r1 := R.e1 k hlt
          have r2 := R.e2 k hlt
          have r3 := R.e3 k hlt
          rw [HXY.out.1] at r1
          rw [HXY.out.2.1] at r2
          rw [HXY.out.2.2] at r3
          clear R
          go_wp2_with fail
          refine (writeByte_any w1.heap.size w1.heap.size _ 46 wr HI.out.1 (bcl (by have := HLN.out; first | omega | (simp; omega))) (HI.out.2).size).mono ?_
          rintro e2 v1 ⟨rfl, hA, hbV⟩
          rw [byteCells_snoc _ 46 46 rfl] at hA
          have HV1 : Aside (Lib.IsBuilderF 53 5 w1.heap.size w1.heap.size (Lib.byteCells (prB g k ++ [46])) v1 ∧ Below w1.heap.size w1 v1) := ⟨.inr hA, (HI.out.2).trans hbV⟩
          clear hA hbV k0 k1 k2 k3 k4 r1 r2 r3
          have F := HF.out v1 HV1.out.2
          obtain ⟨⟨_, k0, k1, k2, k3, k4⟩, R⟩ := F
          rw [HBL.out.1] at k2
          rw [HBL.out.2.1] at k3
          rw [HBL.out.2.2] at k4
          rw [← HHW.out] at k1
          have r1 := R.e1 k hlt
          have r2 := R.e2 k hlt
          have r3 := R.e3 k hlt
          rw [HXY.out.1] at r1
          rw [HXY.out.2.1] at r2
          rw [HXY.out.2.2] at r3
          clear R
          go_wp2_with fail
          refine (writeByte_any w1.heap.size w1.heap.size _ 95 v1 HV1.out.1 (bcl (by have := HLN.out; first | omega | (simp; omega))) (HV1.out.2).size).mono ?_
          rintro e2 v2 ⟨rfl, hA, hbV⟩
          rw [byteCells_snoc _ 95 95 rfl] at hA
          have HV2 : Aside (Lib.IsBuilderF 53 5 w1.heap.size w1.heap.size (Lib.byteCells (prB g k ++ [46] ++ [95])) v2 ∧ Below w1.heap.size w1 v2) := ⟨.inr hA, (HV1.out.2).trans hbV⟩
          clear hA hbV k0 k1 k2 k3 k4 r1 r2 r3
          have F := HF.out v2 HV2.out.2
          obtain ⟨⟨_, k0, k1, k2, k3, k4⟩, R⟩ := F
          rw [HBL.out.1] at k2
          rw [HBL.out.2.1] at k3
          rw [HBL.out.2.2] at k4
          rw [← HHW.out] at k1
          have r1 := R.e1 k hlt
          have r2 := R.e2 k hlt
          have r3 := R.e3 k hlt
          rw [HXY.out.1] at r1
          rw [HXY.out.2.1] at r2
          rw [HXY.out.2.2] at r3
          clear R
          go_wp2
          go_big_region
          have HZ : Aside (Lib.IsBuilderF 53 5 w1.heap.size w1.heap.size (Lib.byteCells (prB g k ++ [46] ++ [95])) v2.drew ∧ Below w1.heap.size w1 v2.drew) := ⟨isBuilderF_below2 HV2.out.1 (Below.drew (Below.refl _ _)), Below.drew (HV2.out.2)⟩
          clear k0 k1 k2 k3 k4 r1 r2 r3
          have hfin : prB g (k + 1) = prB g k ++ [46] ++ [95] := by rw [HCL.out]; simp [cellT]
          rw [← hfin] at HZ
          clear hfin
          go_wp2
          go_roundg (g.n - (k + 1))
          case measure => omega
          case rel => exact ⟨k + 1, by go_num, by omega, Nat.le_refl _, HZ⟩
        · have F := HF.out wr HI.out.2
          obtain ⟨⟨_, k0, k1, k2, k3, k4⟩, R⟩ := F
          rw [HBL.out.1] at k2
          rw [HBL.out.2.1] at k3
          rw [HBL.out.2.2] at k4
          rw [← HHW.out] at k1
          have r1 := R.e1 k hlt
          have r2 := R.e2 k hlt
          have r3 := R.e3 k hlt
          rw [HXY.out.1] at r1
          rw [HXY.out.2.1] at r2
          rw [HXY.out.2.2] at r3
          clear R
          go_wp2_with fail
          refine (writeByte_any w1.heap.size w1.heap.size _ 46 wr HI.out.1 (bcl (by have := HLN.out; first | omega | (simp; omega))) (HI.out.2).size).mono ?_
          rintro e2 v1 ⟨rfl, hA, hbV⟩
          rw [byteCells_snoc _ 46 46 rfl] at hA
          have HV1 : Aside (Lib.IsBuilderF 53 5 w1.heap.size w1.heap.size (Lib.byteCells (prB g k ++ [46])) v1 ∧ Below w1.heap.size w1 v1) := ⟨.inr hA, (HI.out.2).trans hbV⟩
          clear hA hbV k0 k1 k2 k3 k4 r1 r2 r3
          have F := HF.out v1 HV1.out.2
          obtain ⟨⟨_, k0, k1, k2, k3, k4⟩, R⟩ := F
          rw [HBL.out.1] at k2
          rw [HBL.out.2.1] at k3
          rw [HBL.out.2.2] at k4
          rw [← HHW.out] at k1
          have r1 := R.e1 k hlt
          have r2 := R.e2 k hlt
          have r3 := R.e3 k hlt
          rw [HXY.out.1] at r1
          rw [HXY.out.2.1] at r2
          rw [HXY.out.2.2] at r3
          clear R
          go_wp2_with fail
          refine (writeByte_any w1.heap.size w1.heap.size _ 95 v1 HV1.out.1 (bcl (by have := HLN.out; first | omega | (simp; omega))) (HV1.out.2).size).mono ?_
          rintro e2 v2 ⟨rfl, hA, hbV⟩
          rw [byteCells_snoc _ 95 95 rfl] at hA
          have HV2 : Aside (Lib.IsBuilderF 53 5 w1.heap.size w1.heap.size (Lib.byteCells (prB g k ++ [46] ++ [95])) v2 ∧ Below w1.heap.size w1 v2) := ⟨.inr hA, (HV1.out.2).trans hbV⟩
          clear hA hbV k0 k1 k2 k3 k4 r1 r2 r3
          have F := HF.out v2 HV2.out.2
          obtain ⟨⟨_, k0, k1, k2, k3, k4⟩, R⟩ := F
          rw [HBL.out.1] at k2
          rw [HBL.out.2.1] at k3
          rw [HBL.out.2.2] at k4
          rw [← HHW.out] at k1
          have r1 := R.e1 k hlt
          have r2 := R.e2 k hlt
          have r3 := R.e3 k hlt
          rw [HXY.out.1] at r1
          rw [HXY.out.2.1] at r2
          rw [HXY.out.2.2] at r3
          clear R
          go_wp2
          go_big_region
          have HD : Aside (Lib.IsBuilderF 53 5 w1.heap.size w1.heap.size (Lib.byteCells (prB g k ++ [46] ++ [95])) v2.drew ∧ Below w1.heap.size w1 v2.drew) := ⟨isBuilderF_below2 HV2.out.1 (Below.drew (Below.refl _ _)), Below.drew (HV2.out.2)⟩
          clear k0 k1 k2 k3 k4 r1 r2 r3
          go_wp2_with fail
          refine (writeByte_any w1.heap.size w1.heap.size _ 10 v2.drew HD.out.1 (bcl (by have := HLN.out; first | omega | (simp; omega))) HD.out.2.size).mono ?_
          rintro e2 vz ⟨rfl, hA, hbV⟩
          rw [byteCells_snoc _ 10 10 rfl] at hA
          have HZ : Aside (Lib.IsBuilderF 53 5 w1.heap.size w1.heap.size (Lib.byteCells (prB g k ++ [46] ++ [95] ++ [10])) vz ∧ Below w1.heap.size w1 vz) := ⟨.inr hA, HD.out.2.trans hbV⟩
          clear hA hbV
          have hfin : prB g (k + 1) = prB g k ++ [46] ++ [95] ++ [10] := by rw [HCL.out]; simp [cellT]
          rw [← hfin] at HZ
          clear hfin
          go_wp2
          go_roundg (g.n - (k + 1))
          case measure => omega
          case rel => exact ⟨k + 1, by go_num, by omega, Nat.le_refl _, HZ⟩
        · have F := HF.out wr HI.out.2
          obtain ⟨⟨_, k0, k1, k2, k3, k4⟩, R⟩ := F
          rw [HBL.out.1] at k2
          rw [HBL.out.2.1] at k3
          rw [HBL.out.2.2] at k4
          rw [← HHW.out] at k1
          have r1 := R.e1 k hlt
          have r2 := R.e2 k hlt
          have r3 := R.e3 k hlt
          rw [HXY.out.1] at r1
          rw [HXY.out.2.1] at r2
          rw [HXY.out.2.2] at r3
          clear R
          go_wp2_with fail
          refine (writeByte_any w1.heap.size w1.heap.size _ 46 wr HI.out.1 (bcl (by have := HLN.out; first | omega | (simp; omega))) (HI.out.2).size).mono ?_
          rintro e2 v1 ⟨rfl, hA, hbV⟩
          rw [byteCells_snoc _ 46 46 rfl] at hA
          have HV1 : Aside (Lib.IsBuilderF 53 5 w1.heap.size w1.heap.size (Lib.byteCells (prB g k ++ [46])) v1 ∧ Below w1.heap.size w1 v1) := ⟨.inr hA, (HI.out.2).trans hbV⟩
          clear hA hbV k0 k1 k2 k3 k4 r1 r2 r3
          have F := HF.out v1 HV1.out.2
          obtain ⟨⟨_, k0, k1, k2, k3, k4⟩, R⟩ := F
          rw [HBL.out.1] at k2
          rw [HBL.out.2.1] at k3
          rw [HBL.out.2.2] at k4
          rw [← HHW.out] at k1
          have r1 := R.e1 k hlt
          have r2 := R.e2 k hlt
          have r3 := R.e3 k hlt
          rw [HXY.out.1] at r1
          rw [HXY.out.2.1] at r2
          rw [HXY.out.2.2] at r3
          clear R
          go_wp2_with fail
          refine (writeByte_any w1.heap.size w1.heap.size _ 124 v1 HV1.out.1 (bcl (by have := HLN.out; first | omega | (simp; omega))) (HV1.out.2).size).mono ?_
          rintro e2 v2 ⟨rfl, hA, hbV⟩
          rw [byteCells_snoc _ 124 124 rfl] at hA
          have HV2 : Aside (Lib.IsBuilderF 53 5 w1.heap.size w1.heap.size (Lib.byteCells (prB g k ++ [46] ++ [124])) v2 ∧ Below w1.heap.size w1 v2) := ⟨.inr hA, (HV1.out.2).trans hbV⟩
          clear hA hbV k0 k1 k2 k3 k4 r1 r2 r3
          have F := HF.out v2 HV2.out.2
          obtain ⟨⟨_, k0, k1, k2, k3, k4⟩, R⟩ := F
          rw [HBL.out.1] at k2
          rw [HBL.out.2.1] at k3
          rw [HBL.out.2.2] at k4
          rw [← HHW.out] at k1
          have r1 := R.e1 k hlt
          have r2 := R.e2 k hlt
          have r3 := R.e3 k hlt
          rw [HXY.out.1] at r1
          rw [HXY.out.2.1] at r2
          rw [HXY.out.2.2] at r3
          clear R
          go_wp2
          go_big_region
          have HZ : Aside (Lib.IsBuilderF 53 5 w1.heap.size w1.heap.size (Lib.byteCells (prB g k ++ [46] ++ [124])) v2.drew ∧ Below w1.heap.size w1 v2.drew) := ⟨isBuilderF_below2 HV2.out.1 (Below.drew (Below.refl _ _)), Below.drew (HV2.out.2)⟩
          clear k0 k1 k2 k3 k4 r1 r2 r3
          have hfin : prB g (k + 1) = prB g k ++ [46] ++ [124] := by rw [HCL.out]; simp [cellT]
          rw [← hfin] at HZ
          clear hfin
          go_wp2
          go_roundg (g.n - (k + 1))
          case measure => omega
          case rel => exact ⟨k + 1, by go_num, by omega, Nat.le_refl _, HZ⟩
        · have F := HF.out wr HI.out.2
          obtain ⟨⟨_, k0, k1, k2, k3, k4⟩, R⟩ := F
          rw [HBL.out.1] at k2
          rw [HBL.out.2.1] at k3
          rw [HBL.out.2.2] at k4
          rw [← HHW.out] at k1
          have r1 := R.e1 k hlt
          have r2 := R.e2 k hlt
          have r3 := R.e3 k hlt
          rw [HXY.out.1] at r1
          rw [HXY.out.2.1] at r2
          rw [HXY.out.2.2] at r3
          clear R
          go_wp2_with fail
          refine (writeByte_any w1.heap.size w1.heap.size _ 46 wr HI.out.1 (bcl (by have := HLN.out; first | omega | (simp; omega))) (HI.out.2).size).mono ?_
          rintro e2 v1 ⟨rfl, hA, hbV⟩
          rw [byteCells_snoc _ 46 46 rfl] at hA
          have HV1 : Aside (Lib.IsBuilderF 53 5 w1.heap.size w1.heap.size (Lib.byteCells (prB g k ++ [46])) v1 ∧ Below w1.heap.size w1 v1) := ⟨.inr hA, (HI.out.2).trans hbV⟩
          clear hA hbV k0 k1 k2 k3 k4 r1 r2 r3
          have F := HF.out v1 HV1.out.2
          obtain ⟨⟨_, k0, k1, k2, k3, k4⟩, R⟩ := F
          rw [HBL.out.1] at k2
          rw [HBL.out.2.1] at k3
          rw [HBL.out.2.2] at k4
          rw [← HHW.out] at k1
          have r1 := R.e1 k hlt
          have r2 := R.e2 k hlt
          have r3 := R.e3 k hlt
          rw [HXY.out.1] at r1
          rw [HXY.out.2.1] at r2
          rw [HXY.out.2.2] at r3
          clear R
          go_wp2_with fail
          refine (writeByte_any w1.heap.size w1.heap.size _ 124 v1 HV1.out.1 (bcl (by have := HLN.out; first | omega | (simp; omega))) (HV1.out.2).size).mono ?_
          rintro e2 v2 ⟨rfl, hA, hbV⟩
          rw [byteCells_snoc _ 124 124 rfl] at hA
          have HV2 : Aside (Lib.IsBuilderF 53 5 w1.heap.size w1.heap.size (Lib.byteCells (prB g k ++ [46] ++ [124])) v2 ∧ Below w1.heap.size w1 v2) := ⟨.inr hA, (HV1.out.2).trans hbV⟩
          clear hA hbV k0 k1 k2 k3 k4 r1 r2 r3
          have F := HF.out v2 HV2.out.2
          obtain ⟨⟨_, k0, k1, k2, k3, k4⟩, R⟩ := F
          rw [HBL.out.1] at k2
          rw [HBL.out.2.1] at k3
          rw [HBL.out.2.2] at k4
          rw [← HHW.out] at k1
          have r1 := R.e1 k hlt
          have r2 := R.e2 k hlt
          have r3 := R.e3 k hlt
          rw [HXY.out.1] at r1
          rw [HXY.out.2.1] at r2
          rw [HXY.out.2.2] at r3
          clear R
          go_wp2
          go_big_region
          have HD : Aside (Lib.IsBuilderF 53 5 w1.heap.size w1.heap.size (Lib.byteCells (prB g k ++ [46] ++ [124])) v2.drew ∧ Below w1.heap.size w1 v2.drew) := ⟨isBuilderF_below2 HV2.out.1 (Below.drew (Below.refl _ _)), Below.drew (HV2.out.2)⟩
          clear k0 k1 k2 k3 k4 r1 r2 r3
          go_wp2_with fail
          refine (writeByte_any w1.heap.size w1.heap.size _ 10 v2.drew HD.out.1 (bcl (by have := HLN.out; first | omega | (simp; omega))) HD.out.2.size).mono ?_
          rintro e2 vz ⟨rfl, hA, hbV⟩
          rw [byteCells_snoc _ 10 10 rfl] at hA
          have HZ : Aside (Lib.IsBuilderF 53 5 w1.heap.size w1.heap.size (Lib.byteCells (prB g k ++ [46] ++ [124] ++ [10])) vz ∧ Below w1.heap.size w1 vz) := ⟨.inr hA, HD.out.2.trans hbV⟩
          clear hA hbV
          have hfin : prB g (k + 1) = prB g k ++ [46] ++ [124] ++ [10] := by rw [HCL.out]; simp [cellT]
          rw [← hfin] at HZ
          clear hfin
          go_wp2
          go_roundg (g.n - (k + 1))
          case measure => omega
          case rel => exact ⟨k + 1, by go_num, by omega, Nat.le_refl _, HZ⟩
        · have F := HF.out wr HI.out.2
          obtain ⟨⟨_, k0, k1, k2, k3, k4⟩, R⟩ := F
          rw [HBL.out.1] at k2
          rw [HBL.out.2.1] at k3
          rw [HBL.out.2.2] at k4
          rw [← HHW.out] at k1
          have r1 := R.e1 k hlt
          have r2 := R.e2 k hlt
          have r3 := R.e3 k hlt
          rw [HXY.out.1] at r1
          rw [HXY.out.2.1] at r2
          rw [HXY.out.2.2] at r3
          clear R
          go_wp2_with fail
          refine (writeByte_any w1.heap.size w1.heap.size _ 46 wr HI.out.1 (bcl (by have := HLN.out; first | omega | (simp; omega))) (HI.out.2).size).mono ?_
          rintro e2 v1 ⟨rfl, hA, hbV⟩
          rw [byteCells_snoc _ 46 46 rfl] at hA
          have HV1 : Aside (Lib.IsBuilderF 53 5 w1.heap.size w1.heap.size (Lib.byteCells (prB g k ++ [46])) v1 ∧ Below w1.heap.size w1 v1) := ⟨.inr hA, (HI.out.2).trans hbV⟩
          clear hA hbV k0 k1 k2 k3 k4 r1 r2 r3
          have F := HF.out v1 HV1.out.2
          obtain ⟨⟨_, k0, k1, k2, k3, k4⟩, R⟩ := F
          rw [HBL.out.1] at k2
          rw [HBL.out.2.1] at k3
          rw [HBL.out.2.2] at k4
          rw [← HHW.out] at k1
          have r1 := R.e1 k hlt
          have r2 := R.e2 k hlt
          have r3 := R.e3 k hlt
          rw [HXY.out.1] at r1
          rw [HXY.out.2.1] at r2
          rw [HXY.out.2.2] at r3
          clear R
          go_wp2_with fail
          refine (writeByte_any w1.heap.size w1.heap.size _ 124 v1 HV1.out.1 (bcl (by have := HLN.out; first | omega | (simp; omega))) (HV1.out.2).size).mono ?_
          rintro e2 v2 ⟨rfl, hA, hbV⟩
          rw [byteCells_snoc _ 124 124 rfl] at hA
          have HV2 : Aside (Lib.IsBuilderF 53 5 w1.heap.size w1.heap.size (Lib.byteCells (prB g k ++ [46] ++ [124])) v2 ∧ Below w1.heap.size w1 v2) := ⟨.inr hA, (HV1.out.2).trans hbV⟩
          clear hA hbV k0 k1 k2 k3 k4 r1 r2 r3
          have F := HF.out v2 HV2.out.2
          obtain ⟨⟨_, k0, k1, k2, k3, k4⟩, R⟩ := F
          rw [HBL.out.1] at k2
          rw [HBL.out.2.1] at k3
          rw [HBL.out.2.2] at k4
          rw [← HHW.out] at k1
          have r1 := R.e1 k hlt
          have r2 := R.e2 k hlt
          have r3 := R.e3 k hlt
          rw [HXY.out.1] at r1
          rw [HXY.out.2.1] at r2
          rw [HXY.out.2.2] at r3
          clear R
          go_wp2_with fail
          refine (writeByte_any w1.heap.size w1.heap.size _ 95 v2 HV2.out.1 (bcl (by have := HLN.out; first | omega | (simp; omega))) (HV2.out.2).size).mono ?_
          rintro e2 v3 ⟨rfl, hA, hbV⟩
          rw [byteCells_snoc _ 95 95 rfl] at hA
          have HV3 : Aside (Lib.IsBuilderF 53 5 w1.heap.size w1.heap.size (Lib.byteCells (prB g k ++ [46] ++ [124] ++ [95])) v3 ∧ Below w1.heap.size w1 v3) := ⟨.inr hA, (HV2.out.2).trans hbV⟩
          clear hA hbV k0 k1 k2 k3 k4 r1 r2 r3
          have F := HF.out v3 HV3.out.2
          obtain ⟨⟨_, k0, k1, k2, k3, k4⟩, R⟩ := F
          rw [HBL.out.1] at k2
          rw [HBL.out.2.1] at k3
          rw [HBL.out.2.2] at k4
          rw [← HHW.out] at k1
          have r1 := R.e1 k hlt
          have r2 := R.e2 k hlt
          have r3 := R.e3 k hlt
          rw [HXY.out.1] at r1
          rw [HXY.out.2.1] at r2
          rw [HXY.out.2.2] at r3
          clear R
          go_wp2
          go_big_region
          have HZ : Aside (Lib.IsBuilderF 53 5 w1.heap.size w1.heap.size (Lib.byteCells (prB g k ++ [46] ++ [124] ++ [95])) v3.drew ∧ Below w1.heap.size w1 v3.drew) := ⟨isBuilderF_below2 HV3.out.1 (Below.drew (Below.refl _ _)), Below.drew (HV3.out.2)⟩
          clear k0 k1 k2 k3 k4 r1 r2 r3
          have hfin : prB g (k + 1) = prB g k ++ [46] ++ [124] ++ [95] := by rw [HCL.out]; simp [cellT]
          rw [← hfin] at HZ
          clear hfin
          go_wp2
          go_roundg (g.n - (k + 1))
          case measure => omega
          case rel => exact ⟨k + 1, by go_num, by omega, Nat.le_refl _, HZ⟩
        · have F := HF.out wr HI.out.2
          obtain ⟨⟨_, k0, k1, k2, k3, k4⟩, R⟩ := F
          rw [HBL.out.1] at k2
          rw [HBL.out.2.1] at k3
          rw [HBL.out.2.2] at k4
          rw [← HHW.out] at k1
          have r1 := R.e1 k hlt
          have r2 := R.e2 k hlt
          have r3 := R.e3 k hlt
          rw [HXY.out.1] at r1
          rw [HXY.out.2.1] at r2
          rw [HXY.out.2.2] at r3
          clear R
          go_wp2_with fail
          refine (writeByte_any w1.heap.size w1.heap.size _ 46 wr HI.out.1 (bcl (by have := HLN.out; first | omega | (simp; omega))) (HI.out.2).size).mono ?_
          rintro e2 v1 ⟨rfl, hA, hbV⟩
          rw [byteCells_snoc _ 46 46 rfl] at hA
          have HV1 : Aside (Lib.IsBuilderF 53 5 w1.heap.size w1.heap.size (Lib.byteCells (prB g k ++ [46])) v1 ∧ Below w1.heap.size w1 v1) := ⟨.inr hA, (HI.out.2).trans hbV⟩
          clear hA hbV k0 k1 k2 k3 k4 r1 r2 r3
          have F := HF.out v1 HV1.out.2
          obtain ⟨⟨_, k0, k1, k2, k3, k4⟩, R⟩ := F
          rw [HBL.out.1] at k2
          rw [HBL.out.2.1] at k3
          rw [HBL.out.2.2] at k4
          rw [← HHW.out] at k1
          have r1 := R.e1 k hlt
          have r2 := R.e2 k hlt
          have r3 := R.e3 k hlt
          rw [HXY.out.1] at r1
          rw [HXY.out.2.1] at r2
          rw [HXY.out.2.2] at r3
          clear R
          go_wp2_with fail
          refine (writeByte_any w1.heap.size w1.heap.size _ 124 v1 HV1.out.1 (bcl (by have := HLN.out; first | omega | (simp; omega))) (HV1.out.2).size).mono ?_
          rintro e2 v2 ⟨rfl, hA, hbV⟩
          rw [byteCells_snoc _ 124 124 rfl] at hA
          have HV2 : Aside (Lib.IsBuilderF 53 5 w1.heap.size w1.heap.size (Lib.byteCells (prB g k ++ [46] ++ [124])) v2 ∧ Below w1.heap.size w1 v2) := ⟨.inr hA, (HV1.out.2).trans hbV⟩
          clear hA hbV k0 k1 k2 k3 k4 r1 r2 r3
          have F := HF.out v2 HV2.out.2
          obtain ⟨⟨_, k0, k1, k2, k3, k4⟩, R⟩ := F
          rw [HBL.out.1] at k2
          rw [HBL.out.2.1] at k3
          rw [HBL.out.2.2] at k4
          rw [← HHW.out] at k1
          have r1 := R.e1 k hlt
          have r2 := R.e2 k hlt
          have r3 := R.e3 k hlt
          rw [HXY.out.1] at r1
          rw [HXY.out.2.1] at r2
          rw [HXY.out.2.2] at r3
          clear R
          go_wp2_with fail
          refine (writeByte_any w1.heap.size w1.heap.size _ 95 v2 HV2.out.1 (bcl (by have := HLN.out; first | omega | (simp; omega))) (HV2.out.2).size).mono ?_
          rintro e2 v3 ⟨rfl, hA, hbV⟩
          rw [byteCells_snoc _ 95 95 rfl] at hA
          have HV3 : Aside (Lib.IsBuilderF 53 5 w1.heap.size w1.heap.size (Lib.byteCells (prB g k ++ [46] ++ [124] ++ [95])) v3 ∧ Below w1.heap.size w1 v3) := ⟨.inr hA, (HV2.out.2).trans hbV⟩
          clear hA hbV k0 k1 k2 k3 k4 r1 r2 r3
          have F := HF.out v3 HV3.out.2
          obtain ⟨⟨_, k0, k1, k2, k3, k4⟩, R⟩ := F
          rw [HBL.out.1] at k2
          rw [HBL.out.2.1] at k3
          rw [HBL.out.2.2] at k4
          rw [← HHW.out] at k1
          have r1 := R.e1 k hlt
          have r2 := R.e2 k hlt
          have r3 := R.e3 k hlt
          rw [HXY.out.1] at r1
          rw [HXY.out.2.1] at r2
          rw [HXY.out.2.2] at r3
          clear R
          go_wp2
          go_big_region
          have HD : Aside (Lib.IsBuilderF 53 5 w1.heap.size w1.heap.size (Lib.byteCells (prB g k ++ [46] ++ [124] ++ [95])) v3.drew ∧ Below w1.heap.size w1 v3.drew) := ⟨isBuilderF_below2 HV3.out.1 (Below.drew (Below.refl _ _)), Below.drew (HV3.out.2)⟩
          clear k0 k1 k2 k3 k4 r1 r2 r3
          go_wp2_with fail
          refine (writeByte_any w1.heap.size w1.heap.size _ 10 v3.drew HD.out.1 (bcl (by have := HLN.out; first | omega | (simp; omega))) HD.out.2.size).mono ?_
          rintro e2 vz ⟨rfl, hA, hbV⟩
          rw [byteCells_snoc _ 10 10 rfl] at hA
          have HZ : Aside (Lib.IsBuilderF 53 5 w1.heap.size w1.heap.size (Lib.byteCells (prB g k ++ [46] ++ [124] ++ [95] ++ [10])) vz ∧ Below w1.heap.size w1 vz) := ⟨.inr hA, HD.out.2.trans hbV⟩
          clear hA hbV
          have hfin : prB g (k + 1) = prB g k ++ [46] ++ [124] ++ [95] ++ [10] := by rw [HCL.out]; simp [cellT]
          rw [← hfin] at HZ
          clear hfin
          go_wp2
          go_roundg (g.n - (k + 1))
          case measure => omega
          case rel => exact ⟨k + 1, by go_num, by omega, Nat.le_refl _, HZ⟩
        · have F := HF.out wr HI.out.2
          obtain ⟨⟨_, k0, k1, k2, k3, k4⟩, R⟩ := F
          rw [HBL.out.1] at k2
          rw [HBL.out.2.1] at k3
          rw [HBL.out.2.2] at k4
          rw [← HHW.out] at k1
          have r1 := R.e1 k hlt
          have r2 := R.e2 k hlt
          have r3 := R.e3 k hlt
          rw [HXY.out.1] at r1
          rw [HXY.out.2.1] at r2
          rw [HXY.out.2.2] at r3
          clear R
          go_wp2_with fail
          refine (writeByte_any w1.heap.size w1.heap.size _ 35 wr HI.out.1 (bcl (by have := HLN.out; first | omega | (simp; omega))) (HI.out.2).size).mono ?_
          rintro e2 v1 ⟨rfl, hA, hbV⟩
          rw [byteCells_snoc _ 35 35 rfl] at hA
          have HV1 : Aside (Lib.IsBuilderF 53 5 w1.heap.size w1.heap.size (Lib.byteCells (prB g k ++ [35])) v1 ∧ Below w1.heap.size w1 v1) := ⟨.inr hA, (HI.out.2).trans hbV⟩
          clear hA hbV k0 k1 k2 k3 k4 r1 r2 r3
          have F := HF.out v1 HV1.out.2
          obtain ⟨⟨_, k0, k1, k2, k3, k4⟩, R⟩ := F
          rw [HBL.out.1] at k2
          rw [HBL.out.2.1] at k3
          rw [HBL.out.2.2] at k4
          rw [← HHW.out] at k1
          have r1 := R.e1 k hlt
          have r2 := R.e2 k hlt
          have r3 := R.e3 k hlt
          rw [HXY.out.1] at r1
          rw [HXY.out.2.1] at r2
          rw [HXY.out.2.2] at r3
          clear R
          go_wp2
          go_big_region
          have HZ : Aside (Lib.IsBuilderF 53 5 w1.heap.size w1.heap.size (Lib.byteCells (prB g k ++ [35])) v1.drew ∧ Below w1.heap.size w1 v1.drew) := ⟨isBuilderF_below2 HV1.out.1 (Below.drew (Below.refl _ _)), Below.drew (HV1.out.2)⟩
          clear k0 k1 k2 k3 k4 r1 r2 r3
          have hfin : prB g (k + 1) = prB g k ++ [35] := by rw [HCL.out]; simp [cellT]
          rw [← hfin] at HZ
          clear hfin
          go_wp2
          go_roundg (g.n - (k + 1))
          case measure => omega
          case rel => exact ⟨k + 1, by go_num, by omega, Nat.le_refl _, HZ⟩
        · have F := HF.out wr HI.out.2
          obtain ⟨⟨_, k0, k1, k2, k3, k4⟩, R⟩ := F
          rw [HBL.out.1] at k2
          rw [HBL.out.2.1] at k3
          rw [HBL.out.2.2] at k4
          rw [← HHW.out] at k1
          have r1 := R.e1 k hlt
          have r2 := R.e2 k hlt
          have r3 := R.e3 k hlt
          rw [HXY.out.1] at r1
          rw [HXY.out.2.1] at r2
          rw [HXY.out.2.2] at r3
          clear R
          go_wp2_with fail
          refine (writeByte_any w1.heap.size w1.heap.size _ 35 wr HI.out.1 (bcl (by have := HLN.out; first | omega | (simp; omega))) (HI.out.2).size).mono ?_
          rintro e2 v1 ⟨rfl, hA, hbV⟩
          rw [byteCells_snoc _ 35 35 rfl] at hA
          have HV1 : Aside (Lib.IsBuilderF 53 5 w1.heap.size w1.heap.size (Lib.byteCells (prB g k ++ [35])) v1 ∧ Below w1.heap.size w1 v1) := ⟨.inr hA, (HI.out.2).trans hbV⟩
          clear hA hbV k0 k1 k2 k3 k4 r1 r2 r3
          have F := HF.out v1 HV1.out.2
          obtain ⟨⟨_, k0, k1, k2, k3, k4⟩, R⟩ := F
          rw [HBL.out.1] at k2
          rw [HBL.out.2.1] at k3
          rw [HBL.out.2.2] at k4
          rw [← HHW.out] at k1
          have r1 := R.e1 k hlt
          have r2 := R.e2 k hlt
          have r3 := R.e3 k hlt
          rw [HXY.out.1] at r1
          rw [HXY.out.2.1] at r2
          rw [HXY.out.2.2] at r3
          clear R
          go_wp2
          go_big_region
          have HD : Aside (Lib.IsBuilderF 53 5 w1.heap.size w1.heap.size (Lib.byteCells (prB g k ++ [35])) v1.drew ∧ Below w1.heap.size w1 v1.drew) := ⟨isBuilderF_below2 HV1.out.1 (Below.drew (Below.refl _ _)), Below.drew (HV1.out.2)⟩
          clear k0 k1 k2 k3 k4 r1 r2 r3
          go_wp2_with fail
          refine (writeByte_any w1.heap.size w1.heap.size _ 10 v1.drew HD.out.1 (bcl (by have := HLN.out; first | omega | (simp; omega))) HD.out.2.size).mono ?_
          rintro e2 vz ⟨rfl, hA, hbV⟩
          rw [byteCells_snoc _ 10 10 rfl] at hA
          have HZ : Aside (Lib.IsBuilderF 53 5 w1.heap.size w1.heap.size (Lib.byteCells (prB g k ++ [35] ++ [10])) vz ∧ Below w1.heap.size w1 vz) := ⟨.inr hA, HD.out.2.trans hbV⟩
          clear hA hbV
          have hfin : prB g (k + 1) = prB g k ++ [35] ++ [10] := by rw [HCL.out]; simp [cellT]
          rw [← hfin] at HZ
          clear hfin
          go_wp2
          go_roundg (g.n - (k + 1))
          case measure => omega
          case rel => exact ⟨k + 1, by go_num, by omega, Nat.le_refl _, HZ⟩
        · have F := HF.out wr HI.out.2
          obtain ⟨⟨_, k0, k1, k2, k3, k4⟩, R⟩ := F
          rw [HBL.out.1] at k2
          rw [HBL.out.2.1] at k3
          rw [HBL.out.2.2] at k4
          rw [← HHW.out] at k1
          have r1 := R.e1 k hlt
          have r2 := R.e2 k hlt
          have r3 := R.e3 k hlt
          rw [HXY.out.1] at r1
          rw [HXY.out.2.1] at r2
          rw [HXY.out.2.2] at r3
          clear R
          go_wp2_with fail
          refine (writeByte_any w1.heap.size w1.heap.size _ 35 wr HI.out.1 (bcl (by have := HLN.out; first | omega | (simp; omega))) (HI.out.2).size).mono ?_
          rintro e2 v1 ⟨rfl, hA, hbV⟩
          rw [byteCells_snoc _ 35 35 rfl] at hA
          have HV1 : Aside (Lib.IsBuilderF 53 5 w1.heap.size w1.heap.size (Lib.byteCells (prB g k ++ [35])) v1 ∧ Below w1.heap.size w1 v1) := ⟨.inr hA, (HI.out.2).trans hbV⟩
          clear hA hbV k0 k1 k2 k3 k4 r1 r2 r3
          have F := HF.out v1 HV1.out.2
          obtain ⟨⟨_, k0, k1, k2, k3, k4⟩, R⟩ := F
          rw [HBL.out.1] at k2
          rw [HBL.out.2.1] at k3
          rw [HBL.out.2.2] at k4
          rw [← HHW.out] at k1
          have r1 := R.e1 k hlt
          have r2 := R.e2 k hlt
          have r3 := R.e3 k hlt
          rw [HXY.out.1] at r1
          rw [HXY.out.2.1] at r2
          rw [HXY.out.2.2] at r3
          clear R
          go_wp2_with fail
          refine (writeByte_any w1.heap.size w1.heap.size _ 95 v1 HV1.out.1 (bcl (by have := HLN.out; first | omega | (simp; omega))) (HV1.out.2).size).mono ?_
          rintro e2 v2 ⟨rfl, hA, hbV⟩
          rw [byteCells_snoc _ 95 95 rfl] at hA
          have HV2 : Aside (Lib.IsBuilderF 53 5 w1.heap.size w1.heap.size (Lib.byteCells (prB g k ++ [35] ++ [95])) v2 ∧ Below w1.heap.size w1 v2) := ⟨.inr hA, (HV1.out.2).trans hbV⟩
          clear hA hbV k0 k1 k2 k3 k4 r1 r2 r3
          have F := HF.out v2 HV2.out.2
          obtain ⟨⟨_, k0, k1, k2, k3, k4⟩, R⟩ := F
          rw [HBL.out.1] at k2
          rw [HBL.out.2.1] at k3
          rw [HBL.out.2.2] at k4
          rw [← HHW.out] at k1
          have r1 := R.e1 k hlt
          have r2 := R.e2 k hlt
          have r3 := R.e3 k hlt
          rw [HXY.out.1] at r1
          rw [HXY.out.2.1] at r2
          rw [HXY.out.2.2] at r3
          clear R
          go_wp2
          go_big_region
          have HZ : Aside (Lib.IsBuilderF 53 5 w1.heap.size w1.heap.size (Lib.byteCells (prB g k ++ [35] ++ [95])) v2.drew ∧ Below w1.heap.size w1 v2.drew) := ⟨isBuilderF_below2 HV2.out.1 (Below.drew (Below.refl _ _)), Below.drew (HV2.out.2)⟩
          clear k0 k1 k2 k3 k4 r1 r2 r3
          have hfin : prB g (k + 1) = prB g k ++ [35] ++ [95] := by rw [HCL.out]; simp [cellT]
          rw [← hfin] at HZ
          clear hfin
          go_wp2
          go_roundg (g.n - (k + 1))
          case measure => omega
          case rel => exact ⟨k + 1, by go_num, by omega, Nat.le_refl _, HZ⟩
        · have F := HF.out wr HI.out.2
          obtain ⟨⟨_, k0, k1, k2, k3, k4⟩, R⟩ := F
          rw [HBL.out.1] at k2
          rw [HBL.out.2.1] at k3
          rw [HBL.out.2.2] at k4
          rw [← HHW.out] at k1
          have r1 := R.e1 k hlt
          have r2 := R.e2 k hlt
          have r3 := R.e3 k hlt
          rw [HXY.out.1] at r1
          rw [HXY.out.2.1] at r2
          rw [HXY.out.2.2] at r3
          clear R
          go_wp2_with fail
          refine (writeByte_any w1.heap.size w1.heap.size _ 35 wr HI.out.1 (bcl (by have := HLN.out; first | omega | (simp; omega))) (HI.out.2).size).mono ?_
          rintro e2 v1 ⟨rfl, hA, hbV⟩
          rw [byteCells_snoc _ 35 35 rfl] at hA
          have HV1 : Aside (Lib.IsBuilderF 53 5 w1.heap.size w1.heap.size (Lib.byteCells (prB g k ++ [35])) v1 ∧ Below w1.heap.size w1 v1) := ⟨.inr hA, (HI.out.2).trans hbV⟩
          clear hA hbV k0 k1 k2 k3 k4 r1 r2 r3
          have F := HF.out v1 HV1.out.2
          obtain ⟨⟨_, k0, k1, k2, k3, k4⟩, R⟩ := F
          rw [HBL.out.1] at k2
          rw [HBL.out.2.1] at k3
          rw [HBL.out.2.2] at k4
          rw [← HHW.out] at k1
          have r1 := R.e1 k hlt
          have r2 := R.e2 k hlt
          have r3 := R.e3 k hlt
          rw [HXY.out.1] at r1
          rw [HXY.out.2.1] at r2
          rw [HXY.out.2.2] at r3
          clear R
          go_wp2_with fail
          refine (writeByte_any w1.heap.size w1.heap.size _ 95 v1 HV1.out.1 (bcl (by have := HLN.out; first | omega | (simp; omega))) (HV1.out.2).size).mono ?_
          rintro e2 v2 ⟨rfl, hA, hbV⟩
          rw [byteCells_snoc _ 95 95 rfl] at hA
          have HV2 : Aside (Lib.IsBuilderF 53 5 w1.heap.size w1.heap.size (Lib.byteCells (prB g k ++ [35] ++ [95])) v2 ∧ Below w1.heap.size w1 v2) := ⟨.inr hA, (HV1.out.2).trans hbV⟩
          clear hA hbV k0 k1 k2 k3 k4 r1 r2 r3
          have F := HF.out v2 HV2.out.2
          obtain ⟨⟨_, k0, k1, k2, k3, k4⟩, R⟩ := F
          rw [HBL.out.1] at k2
          rw [HBL.out.2.1] at k3
          rw [HBL.out.2.2] at k4
          rw [← HHW.out] at k1
          have r1 := R.e1 k hlt
          have r2 := R.e2 k hlt
          have r3 := R.e3 k hlt
          rw [HXY.out.1] at r1
          rw [HXY.out.2.1] at r2
          rw [HXY.out.2.2] at r3
          clear R
          go_wp2
          go_big_region
          have HD : Aside (Lib.IsBuilderF 53 5 w1.heap.size w1.heap.size (Lib.byteCells (prB g k ++ [35] ++ [95])) v2.drew ∧ Below w1.heap.size w1 v2.drew) := ⟨isBuilderF_below2 HV2.out.1 (Below.drew (Below.refl _ _)), Below.drew (HV2.out.2)⟩
          clear k0 k1 k2 k3 k4 r1 r2 r3
          go_wp2_with fail
          refine (writeByte_any w1.heap.size w1.heap.size _ 10 v2.drew HD.out.1 (bcl (by have := HLN.out; first | omega | (simp; omega))) HD.out.2.size).mono ?_
          rintro e2 vz ⟨rfl, hA, hbV⟩
          rw [byteCells_snoc _ 10 10 rfl] at hA
          have HZ : Aside (Lib.IsBuilderF 53 5 w1.heap.size w1.heap.size (Lib.byteCells (prB g k ++ [35] ++ [95] ++ [10])) vz ∧ Below w1.heap.size w1 vz) := ⟨.inr hA, HD.out.2.trans hbV⟩
          clear hA hbV
          have hfin : prB g (k + 1) = prB g k ++ [35] ++ [95] ++ [10] := by rw [HCL.out]; simp [cellT]
          rw [← hfin] at HZ
          clear hfin
          go_wp2
          go_roundg (g.n - (k + 1))
          case measure => omega
          case rel => exact ⟨k + 1, by go_num, by omega, Nat.le_refl _, HZ⟩
        · have F := HF.out wr HI.out.2
          obtain ⟨⟨_, k0, k1, k2, k3, k4⟩, R⟩ := F
          rw [HBL.out.1] at k2
          rw [HBL.out.2.1] at k3
          rw [HBL.out.2.2] at k4
          rw [← HHW.out] at k1
          have r1 := R.e1 k hlt
          have r2 := R.e2 k hlt
          have r3 := R.e3 k hlt
          rw [HXY.out.1] at r1
          rw [HXY.out.2.1] at r2
          rw [HXY.out.2.2] at r3
          clear R
          go_wp2_with fail
          refine (writeByte_any w1.heap.size w1.heap.size _ 35 wr HI.out.1 (bcl (by have := HLN.out; first | omega | (simp; omega))) (HI.out.2).size).mono ?_
          rintro e2 v1 ⟨rfl, hA, hbV⟩
          rw [byteCells_snoc _ 35 35 rfl] at hA
          have HV1 : Aside (Lib.IsBuilderF 53 5 w1.heap.size w1.heap.size (Lib.byteCells (prB g k ++ [35])) v1 ∧ Below w1.heap.size w1 v1) := ⟨.inr hA, (HI.out.2).trans hbV⟩
          clear hA hbV k0 k1 k2 k3 k4 r1 r2 r3
          have F := HF.out v1 HV1.out.2
          obtain ⟨⟨_, k0, k1, k2, k3, k4⟩, R⟩ := F
          rw [HBL.out.1] at k2
          rw [HBL.out.2.1] at k3
          rw [HBL.out.2.2] at k4
          rw [← HHW.out] at k1
          have r1 := R.e1 k hlt
          have r2 := R.e2 k hlt
          have r3 := R.e3 k hlt
          rw [HXY.out.1] at r1
          rw [HXY.out.2.1] at r2
          rw [HXY.out.2.2] at r3
          clear R
          go_wp2_with fail
          refine (writeByte_any w1.heap.size w1.heap.size _ 124 v1 HV1.out.1 (bcl (by have := HLN.out; first | omega | (simp; omega))) (HV1.out.2).size).mono ?_
          rintro e2 v2 ⟨rfl, hA, hbV⟩
          rw [byteCells_snoc _ 124 124 rfl] at hA
          have HV2 : Aside (Lib.IsBuilderF 53 5 w1.heap.size w1.heap.size (Lib.byteCells (prB g k ++ [35] ++ [124])) v2 ∧ Below w1.heap.size w1 v2) := ⟨.inr hA, (HV1.out.2).trans hbV⟩
          clear hA hbV k0 k1 k2 k3 k4 r1 r2 r3
          have F := HF.out v2 HV2.out.2
          obtain ⟨⟨_, k0, k1, k2, k3, k4⟩, R⟩ := F
          rw [HBL.out.1] at k2
          rw [HBL.out.2.1] at k3
          rw [HBL.out.2.2] at k4
          rw [← HHW.out] at k1
          have r1 := R.e1 k hlt
          have r2 := R.e2 k hlt
          have r3 := R.e3 k hlt
          rw [HXY.out.1] at r1
          rw [HXY.out.2.1] at r2
          rw [HXY.out.2.2] at r3
          clear R
          go_wp2
          go_big_region
          have HZ : Aside (Lib.IsBuilderF 53 5 w1.heap.size w1.heap.size (Lib.byteCells (prB g k ++ [35] ++ [124])) v2.drew ∧ Below w1.heap.size w1 v2.drew) := ⟨isBuilderF_below2 HV2.out.1 (Below.drew (Below.refl _ _)), Below.drew (HV2.out.2)⟩
          clear k0 k1 k2 k3 k4 r1 r2 r3
          have hfin : prB g (k + 1) = prB g k ++ [35] ++ [124] := by rw [HCL.out]; simp [cellT]
          rw [← hfin] at HZ
          clear hfin
          go_wp2
          go_roundg (g.n - (k + 1))
          case measure => omega
          case rel => exact ⟨k + 1, by go_num, by omega, Nat.le_refl _, HZ⟩
        · have F := HF.out wr HI.out.2
          obtain ⟨⟨_, k0, k1, k2, k3, k4⟩, R⟩ := F
          rw [HBL.out.1] at k2
          rw [HBL.out.2.1] at k3
          rw [HBL.out.2.2] at k4
          rw [← HHW.out] at k1
          have r1 := R.e1 k hlt
          have r2 := R.e2 k hlt
          have r3 := R.e3 k hlt
          rw [HXY.out.1] at r1
          rw [HXY.out.2.1] at r2
          rw [HXY.out.2.2] at r3
          clear R
          go_wp2_with fail
          refine (writeByte_any w1.heap.size w1.heap.size _ 35 wr HI.out.1 (bcl (by have := HLN.out; first | omega | (simp; omega))) (HI.out.2).size).mono ?_
          rintro e2 v1 ⟨rfl, hA, hbV⟩
          rw [byteCells_snoc _ 35 35 rfl] at hA
          have HV1 : Aside (Lib.IsBuilderF 53 5 w1.heap.size w1.heap.size (Lib.byteCells (prB g k ++ [35])) v1 ∧ Below w1.heap.size w1 v1) := ⟨.inr hA, (HI.out.2).trans hbV⟩
          clear hA hbV k0 k1 k2 k3 k4 r1 r2 r3
          have F := HF.out v1 HV1.out.2
          obtain ⟨⟨_, k0, k1, k2, k3, k4⟩, R⟩ := F
          rw [HBL.out.1] at k2
          rw [HBL.out.2.1] at k3
          rw [HBL.out.2.2] at k4
          rw [← HHW.out] at k1
          have r1 := R.e1 k hlt
          have r2 := R.e2 k hlt
          have r3 := R.e3 k hlt
          rw [HXY.out.1] at r1
          rw [HXY.out.2.1] at r2
          rw [HXY.out.2.2] at r3
          clear R
          go_wp2_with fail
          refine (writeByte_any w1.heap.size w1.heap.size _ 124 v1 HV1.out.1 (bcl (by have := HLN.out; first | omega | (simp; omega))) (HV1.out.2).size).mono ?_
          rintro e2 v2 ⟨rfl, hA, hbV⟩
          rw [byteCells_snoc _ 124 124 rfl] at hA
          have HV2 : Aside (Lib.IsBuilderF 53 5 w1.heap.size w1.heap.size (Lib.byteCells (prB g k ++ [35] ++ [124])) v2 ∧ Below w1.heap.size w1 v2) := ⟨.inr hA, (HV1.out.2).trans hbV⟩
          clear hA hbV k0 k1 k2 k3 k4 r1 r2 r3
          have F := HF.out v2 HV2.out.2
          obtain ⟨⟨_, k0, k1, k2, k3, k4⟩, R⟩ := F
          rw [HBL.out.1] at k2
          rw [HBL.out.2.1] at k3
          rw [HBL.out.2.2] at k4
          rw [← HHW.out] at k1
          have r1 := R.e1 k hlt
          have r2 := R.e2 k hlt
          have r3 := R.e3 k hlt
          rw [HXY.out.1] at r1
          rw [HXY.out.2.1] at r2
          rw [HXY.out.2.2] at r3
          clear R
          go_wp2
          go_big_region
          have HD : Aside (Lib.IsBuilderF 53 5 w1.heap.size w1.heap.size (Lib.byteCells (prB g k ++ [35] ++ [124])) v2.drew ∧ Below w1.heap.size w1 v2.drew) := ⟨isBuilderF_below2 HV2.out.1 (Below.drew (Below.refl _ _)), Below.drew (HV2.out.2)⟩
          clear k0 k1 k2 k3 k4 r1 r2 r3
          go_wp2_with fail
          refine (writeByte_any w1.heap.size w1.heap.size _ 10 v2.drew HD.out.1 (bcl (by have := HLN.out; first | omega | (simp; omega))) HD.out.2.size).mono ?_
          rintro e2 vz ⟨rfl, hA, hbV⟩
          rw [byteCells_snoc _ 10 10 rfl] at hA
          have HZ : Aside (Lib.IsBuilderF 53 5 w1.heap.size w1.heap.size (Lib.byteCells (prB g k ++ [35] ++ [124] ++ [10])) vz ∧ Below w1.heap.size w1 vz) := ⟨.inr hA, HD.out.2.trans hbV⟩
          clear hA hbV
          have hfin : prB g (k + 1) = prB g k ++ [35] ++ [124] ++ [10] := by rw [HCL.out]; simp [cellT]
          rw [← hfin] at HZ
          clear hfin
          go_wp2
          go_roundg (g.n - (k + 1))
          case measure => omega
          case rel => exact ⟨k + 1, by go_num, by omega, Nat.le_refl _, HZ⟩
        · have F := HF.out wr HI.out.2
          obtain ⟨⟨_, k0, k1, k2, k3, k4⟩, R⟩ := F
          rw [HBL.out.1] at k2
          rw [HBL.out.2.1] at k3
          rw [HBL.out.2.2] at k4
          rw [← HHW.out] at k1
          have r1 := R.e1 k hlt
          have r2 := R.e2 k hlt
          have r3 := R.e3 k hlt
          rw [HXY.out.1] at r1
          rw [HXY.out.2.1] at r2
          rw [HXY.out.2.2] at r3
          clear R
          go_wp2_with fail
          refine (writeByte_any w1.heap.size w1.heap.size _ 35 wr HI.out.1 (bcl (by have := HLN.out; first | omega | (simp; omega))) (HI.out.2).size).mono ?_
          rintro e2 v1 ⟨rfl, hA, hbV⟩
          rw [byteCells_snoc _ 35 35 rfl] at hA
          have HV1 : Aside (Lib.IsBuilderF 53 5 w1.heap.size w1.heap.size (Lib.byteCells (prB g k ++ [35])) v1 ∧ Below w1.heap.size w1 v1) := ⟨.inr hA, (HI.out.2).trans hbV⟩
          clear hA hbV k0 k1 k2 k3 k4 r1 r2 r3
          have F := HF.out v1 HV1.out.2
          obtain ⟨⟨_, k0, k1, k2, k3, k4⟩, R⟩ := F
          rw [HBL.out.1] at k2
          rw [HBL.out.2.1] at k3
          rw [HBL.out.2.2] at k4
          rw [← HHW.out] at k1
          have r1 := R.e1 k hlt
          have r2 := R.e2 k hlt
          have r3 := R.e3 k hlt
          rw [HXY.out.1] at r1
          rw [HXY.out.2.1] at r2
          rw [HXY.out.2.2] at r3
          clear R
          go_wp2_with fail
          refine (writeByte_any w1.heap.size w1.heap.size _ 124 v1 HV1.out.1 (bcl (by have := HLN.out; first | omega | (simp; omega))) (HV1.out.2).size).mono ?_
          rintro e2 v2 ⟨rfl, hA, hbV⟩
          rw [byteCells_snoc _ 124 124 rfl] at hA
          have HV2 : Aside (Lib.IsBuilderF 53 5 w1.heap.size w1.heap.size (Lib.byteCells (prB g k ++ [35] ++ [124])) v2 ∧ Below w1.heap.size w1 v2) := ⟨.inr hA, (HV1.out.2).trans hbV⟩
          clear hA hbV k0 k1 k2 k3 k4 r1 r2 r3
          have F := HF.out v2 HV2.out.2
          obtain ⟨⟨_, k0, k1, k2, k3, k4⟩, R⟩ := F
          rw [HBL.out.1] at k2
          rw [HBL.out.2.1] at k3
          rw [HBL.out.2.2] at k4
          rw [← HHW.out] at k1
          have r1 := R.e1 k hlt
          have r2 := R.e2 k hlt
          have r3 := R.e3 k hlt
          rw [HXY.out.1] at r1
          rw [HXY.out.2.1] at r2
          rw [HXY.out.2.2] at r3
          clear R
          go_wp2_with fail
          refine (writeByte_any w1.heap.size w1.heap.size _ 95 v2 HV2.out.1 (bcl (by have := HLN.out; first | omega | (simp; omega))) (HV2.out.2).size).mono ?_
          rintro e2 v3 ⟨rfl, hA, hbV⟩
          rw [byteCells_snoc _ 95 95 rfl] at hA
          have HV3 : Aside (Lib.IsBuilderF 53 5 w1.heap.size w1.heap.size (Lib.byteCells (prB g k ++ [35] ++ [124] ++ [95])) v3 ∧ Below w1.heap.size w1 v3) := ⟨.inr hA, (HV2.out.2).trans hbV⟩
          clear hA hbV k0 k1 k2 k3 k4 r1 r2 r3
          have F := HF.out v3 HV3.out.2
          obtain ⟨⟨_, k0, k1, k2, k3, k4⟩, R⟩ := F
          rw [HBL.out.1] at k2
          rw [HBL.out.2.1] at k3
          rw [HBL.out.2.2] at k4
          rw [← HHW.out] at k1
          have r1 := R.e1 k hlt
          have r2 := R.e2 k hlt
          have r3 := R.e3 k hlt
          rw [HXY.out.1] at r1
          rw [HXY.out.2.1] at r2
          rw [HXY.out.2.2] at r3
          clear R
          go_wp2
          go_big_region
          have HZ : Aside (Lib.IsBuilderF 53 5 w1.heap.size w1.heap.size (Lib.byteCells (prB g k ++ [35] ++ [124] ++ [95])) v3.drew ∧ Below w1.heap.size w1 v3.drew) := ⟨isBuilderF_below2 HV3.out.1 (Below.drew (Below.refl _ _)), Below.drew (HV3.out.2)⟩
          clear k0 k1 k2 k3 k4 r1 r2 r3
          have hfin : prB g (k + 1) = prB g k ++ [35] ++ [124] ++ [95] := by rw [HCL.out]; simp [cellT]
          rw [← hfin] at HZ
          clear hfin
          go_wp2
          go_roundg (g.n - (k + 1))
          case measure => omega
          case rel => exact ⟨k + 1, by go_num, by omega, Nat.le_refl _, HZ⟩
        · have F := HF.out wr HI.out.2
          obtain ⟨⟨_, k0, k1, k2, k3, k4⟩, R⟩ := F
          rw [HBL.out.1] at k2
          rw [HBL.out.2.1] at k3
          rw [HBL.out.2.2] at k4
          rw [← HHW.out] at k1
          have r1 := R.e1 k hlt
          have r2 := R.e2 k hlt
          have r3 := R.e3 k hlt
          rw [HXY.out.1] at r1
          rw [HXY.out.2.1] at r2
          rw [HXY.out.2.2] at r3
          clear R
          go_wp2_with fail
          refine (writeByte_any w1.heap.size w1.heap.size _ 35 wr HI.out.1 (bcl (by have := HLN.out; first | omega | (simp; omega))) (HI.out.2).size).mono ?_
          rintro e2 v1 ⟨rfl, hA, hbV⟩
          rw [byteCells_snoc _ 35 35 rfl] at hA
          have HV1 : Aside (Lib.IsBuilderF 53 5 w1.heap.size w1.heap.size (Lib.byteCells (prB g k ++ [35])) v1 ∧ Below w1.heap.size w1 v1) := ⟨.inr hA, (HI.out.2).trans hbV⟩
          clear hA hbV k0 k1 k2 k3 k4 r1 r2 r3
          have F := HF.out v1 HV1.out.2
          obtain ⟨⟨_, k0, k1, k2, k3, k4⟩, R⟩ := F
          rw [HBL.out.1] at k2
          rw [HBL.out.2.1] at k3
          rw [HBL.out.2.2] at k4
          rw [← HHW.out] at k1
          have r1 := R.e1 k hlt
          have r2 := R.e2 k hlt
          have r3 := R.e3 k hlt
          rw [HXY.out.1] at r1
          rw [HXY.out.2.1] at r2
          rw [HXY.out.2.2] at r3
          clear R
          go_wp2_with fail
          refine (writeByte_any w1.heap.size w1.heap.size _ 124 v1 HV1.out.1 (bcl (by have := HLN.out; first | omega | (simp; omega))) (HV1.out.2).size).mono ?_
          rintro e2 v2 ⟨rfl, hA, hbV⟩
          rw [byteCells_snoc _ 124 124 rfl] at hA
          have HV2 : Aside (Lib.IsBuilderF 53 5 w1.heap.size w1.heap.size (Lib.byteCells (prB g k ++ [35] ++ [124])) v2 ∧ Below w1.heap.size w1 v2) := ⟨.inr hA, (HV1.out.2).trans hbV⟩
          clear hA hbV k0 k1 k2 k3 k4 r1 r2 r3
          have F := HF.out v2 HV2.out.2
          obtain ⟨⟨_, k0, k1, k2, k3, k4⟩, R⟩ := F
          rw [HBL.out.1] at k2
          rw [HBL.out.2.1] at k3
          rw [HBL.out.2.2] at k4
          rw [← HHW.out] at k1
          have r1 := R.e1 k hlt
          have r2 := R.e2 k hlt
          have r3 := R.e3 k hlt
          rw [HXY.out.1] at r1
          rw [HXY.out.2.1] at r2
          rw [HXY.out.2.2] at r3
          clear R
          go_wp2_with fail
          refine (writeByte_any w1.heap.size w1.heap.size _ 95 v2 HV2.out.1 (bcl (by have := HLN.out; first | omega | (simp; omega))) (HV2.out.2).size).mono ?_
          rintro e2 v3 ⟨rfl, hA, hbV⟩
          rw [byteCells_snoc _ 95 95 rfl] at hA
          have HV3 : Aside (Lib.IsBuilderF 53 5 w1.heap.size w1.heap.size (Lib.byteCells (prB g k ++ [35] ++ [124] ++ [95])) v3 ∧ Below w1.heap.size w1 v3) := ⟨.inr hA, (HV2.out.2).trans hbV⟩
          clear hA hbV k0 k1 k2 k3 k4 r1 r2 r3
          have F := HF.out v3 HV3.out.2
          obtain ⟨⟨_, k0, k1, k2, k3, k4⟩, R⟩ := F
          rw [HBL.out.1] at k2
          rw [HBL.out.2.1] at k3
          rw [HBL.out.2.2] at k4
          rw [← HHW.out] at k1
          have r1 := R.e1 k hlt
          have r2 := R.e2 k hlt
          have r3 := R.e3 k hlt
          rw [HXY.out.1] at r1
          rw [HXY.out.2.1] at r2
          rw [HXY.out.2.2] at r3
          clear R
          go_wp2
          go_big_region
          have HD : Aside (Lib.IsBuilderF 53 5 w1.heap.size w1.heap.size (Lib.byteCells (prB g k ++ [35] ++ [124] ++ [95])) v3.drew ∧ Below w1.heap.size w1 v3.drew) := ⟨isBuilderF_below2 HV3.out.1 (Below.drew (Below.refl _ _)), Below.drew (HV3.out.2)⟩
          clear k0 k1 k2 k3 k4 r1 r2 r3
          go_wp2_with fail
          refine (writeByte_any w1.heap.size w1.heap.size _ 10 v3.drew HD.out.1 (bcl (by have := HLN.out; first | omega | (simp; omega))) HD.out.2.size).mono ?_
          rintro e2 vz ⟨rfl, hA, hbV⟩
          rw [byteCells_snoc _ 10 10 rfl] at hA
          have HZ : Aside (Lib.IsBuilderF 53 5 w1.heap.size w1.heap.size (Lib.byteCells (prB g k ++ [35] ++ [124] ++ [95] ++ [10])) vz ∧ Below w1.heap.size w1 vz) := ⟨.inr hA, HD.out.2.trans hbV⟩
          clear hA hbV
          have hfin : prB g (k + 1) = prB g k ++ [35] ++ [124] ++ [95] ++ [10] := by rw [HCL.out]; simp [cellT]
          rw [← hfin] at HZ
          clear hfin
          go_wp2
          go_roundg (g.n - (k + 1))
          case measure => omega
          case rel => exact ⟨k + 1, by go_num, by omega, Nat.le_refl _, HZ⟩
      · have hltz : ¬ (k : Int) < (g.n : Int) := by omega
        obtain rfl : k = g.n := by omega
        have cS := string_any w1.heap.size w1.heap.size (prB g g.n) wr HI.out.1 HI.out.2.size
        have HBI : Aside (Below w1.heap.size w1 wr) := HI.out.2
        go_wp2_with fail
        refine cS.mono ?_
        rintro e w3 ⟨rfl, hb3, _⟩
        clear cS
        go_wp2
        go_ret2
        rw [HP.out]
        exact ⟨rfl, HB1.out.trans ((HBI.out.trans hb3).mono HB1.out.size)⟩
  · have HP : Aside (prT g = []) := if_neg hok
    have hcb : ((g.chk : Int) != 0) = true := by rw [bne_iff_ne]; omega
    have hcb2 : g.chk ≤ 52 := by
      unfold Gr.chk
      repeat' split
      all_goals omega
    have HB0 : Aside (Below W.heap.size W (W.alloc (.cells #[.int .i64 g.h, .int .i64 g.w, .slice p.a1 g.B.length p.c1, .slice p.a2 g.R.length p.c2, .slice p.a3 g.D.length p.c3] 27))) := hb0
    generalize g.chk = ck at *
    go_enter Tryd.func5, Tryd.ntmps5
    obtain ⟨_, k0, k1, k2, k3, k4⟩ := hX0
    clear hok hb0 hR hw
    go_wp2_with fail
    refine cC.mono ?_
    rintro e w1 ⟨rfl, hb1⟩
    clear cC k0 k1 k2 k3 k4
    go_wp2
    go_ret2
    rw [HP.out]
    exact ⟨rfl, HB0.out.trans (hb1.mono HB0.out.size)⟩
end Go.Proofs.YthjgldjjplcncabDoor.Skt
/-
  Of no program: what is drawn of a right grid is read as that grid.
-/
namespace Go.Proofs.YthjgldjjplcncabDoor.Skt
open Go Go.Lib Utf Grd

theorem dec_byte {s : ByteArray} {pre post : List UInt8} {c : UInt8} (h : s.data.toList = pre ++ c :: post) (hc : c.toNat < 128) : pre.length < s.size ∧ Utf8.decode s pre.length = (c.toNat, 1) := by
  have hsz : s.size = (pre ++ c :: post).length := by rw [← ba_len, h]
  refine ⟨by rw [hsz]; simp, ?_⟩
  have hg : s.get! pre.length = c := by
    rw [← Lib.getD_get!' s, h]
    simp [List.getD]
  rw [Lib.decode_at, hg, decodeN_1 hc]
/-- One plain byte read. -/
theorem scan_byte {s : ByteArray} {pre post : List UInt8} {c : UInt8} (h : s.data.toList = pre ++ c :: post) (hc : c.toNat < 128) (h10 : c.toNat ≠ 10) {ls : Nat} {rows : List (List C3)} {cur cur' : List C3} (hp : putC c.toNat pre.length rows.length cur = .inr cur') :
    scan s pre.length ls rows cur = scan s (pre ++ [c]).length ls rows cur' := by
  obtain ⟨hlt, hd⟩ := dec_byte h hc
  rw [scan_put hlt (by rw [hd]; exact h10), hd]
  simp only
  rw [hp, List.length_append, List.length_singleton]
theorem scan_nl {s : ByteArray} {pre post : List UInt8} (h : s.data.toList = pre ++ 10 :: post) {ls : Nat} {rows rows' : List (List C3)} {cur : List C3} (hp : endRow rows cur ls = .inr rows') :
    scan s pre.length ls rows cur = scan s (pre ++ [10]).length (pre ++ [10]).length rows' [] := by
  obtain ⟨hlt, hd⟩ := dec_byte h (by decide)
  rw [scan_line hlt (by rw [hd]; rfl), hd]
  simp only
  rw [hp, List.length_append, List.length_singleton]
theorem put_cell {x : Bool} {p n : Nat} {cur : List C3} (h : ¬ (cur.length = 16 ∨ n = 16)) : putC (if x then 35 else 46 : UInt8).toNat p n cur = .inr (cur ++ [⟨x, false, false⟩]) := by
  cases x
  · rw [show (if false = true then (35 : UInt8) else 46).toNat = 46 from rfl]
    unfold putC
    rw [show sgn 46 = 2 by decide, if_neg (by decide), if_pos (by decide), if_neg h]
    rfl
  · rw [show (if true = true then (35 : UInt8) else 46).toNat = 35 from rfl]
    unfold putC
    rw [show sgn 35 = 1 by decide, if_neg (by decide), if_pos (by decide), if_neg h]
    rfl
theorem put_right {p n : Nat} {cur : List C3} {c : C3} (h : c.r = false) : putC 124 p n (cur ++ [c]) = .inr (cur ++ [setR c]) := by
  unfold putC
  rw [show sgn 124 = 3 by decide, if_neg (by decide), if_neg (by decide), if_pos rfl, List.getLast?_concat]
  simp [h]
theorem put_below {p n : Nat} {cur : List C3} {c : C3} (h : c.d = false) : putC 95 p n (cur ++ [c]) = .inr (cur ++ [setD c]) := by
  unfold putC
  rw [show sgn 95 = 4 by decide, if_neg (by decide), if_neg (by decide), if_neg (by decide), if_pos rfl, List.getLast?_concat]
  simp [h]
/-- One drawn cell read. -/
theorem scan_cell {s : ByteArray} {pre post : List UInt8} {x y z e : Bool} (h : s.data.toList = pre ++ (cellT x y z e ++ post)) {ls : Nat} {rows : List (List C3)} {cur : List C3} (hn : ¬ (cur.length = 16 ∨ rows.length = 16))
    (hw : e = true → rows = [] ∨ (rows.headD []).length = cur.length + 1) :
    ∃ ls', scan s pre.length ls rows cur = scan s (pre ++ cellT x y z e).length ls' (if e then rows ++ [cur ++ [⟨x, y, z⟩]] else rows) (if e then [] else cur ++ [⟨x, y, z⟩]) := by
  have h1 : s.data.toList = pre ++ (if x then 35 else 46 : UInt8) :: ((if y then [124] else []) ++ ((if z then [95] else []) ++ ((if e then [10] else []) ++ post))) := by
    rw [h]; unfold cellT; cases x <;> simp
  have s1 := scan_byte (ls := ls) h1 (by cases x <;> decide) (by cases x <;> decide) (put_cell (x := x) hn)
  obtain ⟨p2, hp2⟩ : ∃ p2, p2 = pre ++ [(if x then 35 else 46 : UInt8)] := ⟨_, rfl⟩
  have h2 : s.data.toList = p2 ++ ((if y then [124] else []) ++ ((if z then [95] else []) ++ ((if e then [10] else []) ++ post))) := by
    rw [h1, hp2]; simp
  have s2 : scan s p2.length ls rows (cur ++ [⟨x, false, false⟩]) = scan s (p2 ++ (if y then [124] else [])).length ls rows (cur ++ [⟨x, y, false⟩]) := by
    cases y
    · simp
    · exact scan_byte (c := 124) (by simpa using h2) (by decide) (by decide) (put_right rfl)
  obtain ⟨p3, hp3⟩ : ∃ p3, p3 = p2 ++ (if y then [124] else []) := ⟨_, rfl⟩
  have h3 : s.data.toList = p3 ++ ((if z then [95] else []) ++ ((if e then [10] else []) ++ post)) := by
    rw [h2, hp3]; simp
  have s3 : scan s p3.length ls rows (cur ++ [⟨x, y, false⟩]) = scan s (p3 ++ (if z then [95] else [])).length ls rows (cur ++ [⟨x, y, z⟩]) := by
    cases z
    · simp
    · exact scan_byte (c := 95) (by simpa using h3) (by decide) (by decide) (put_below rfl)
  obtain ⟨p4, hp4⟩ : ∃ p4, p4 = p3 ++ (if z then [95] else []) := ⟨_, rfl⟩
  have h4 : s.data.toList = p4 ++ ((if e then [10] else []) ++ post) := by
    rw [h3, hp4]; simp
  have hall : pre ++ cellT x y z e = p4 ++ (if e then [10] else []) := by
    rw [hp4, hp3, hp2]; unfold cellT; cases x <;> simp
  have s13 : scan s pre.length ls rows cur = scan s p4.length ls rows (cur ++ [⟨x, y, z⟩]) := by
    rw [s1, ← hp2, s2, ← hp3, s3, ← hp4]
  rw [hall, s13]
  cases e with
  | false => exact ⟨ls, by simp⟩
  | true =>
    have he : endRow rows (cur ++ [⟨x, y, z⟩]) ls = .inr (rows ++ [cur ++ [⟨x, y, z⟩]]) := by
      unfold endRow
      rw [if_neg (by simp), if_pos]
      exact (hw rfl).imp id fun k => by rw [k]; simp
    exact ⟨_, scan_nl (by simpa using h4) he⟩

/-- The rows as they come. -/
def cellOf (g : Gr) (i : Nat) : C3 := ⟨bt g.B i, bt g.R i, bt g.D i⟩
def stp (g : Gr) : Nat → List (List C3) × List C3
  | 0 => ([], [])
  | k + 1 => if k % g.W = g.W - 1 then ((stp g k).1 ++ [(stp g k).2 ++ [cellOf g k]], []) else ((stp g k).1, (stp g k).2 ++ [cellOf g k])
theorem stp_inv {g : Gr} (hW : 1 ≤ g.W) : ∀ k, (stp g k).1.length = k / g.W ∧ (stp g k).2.length = k % g.W ∧ (∀ r ∈ (stp g k).1, r.length = g.W) ∧ (stp g k).1.flatten ++ (stp g k).2 = (List.range k).map (cellOf g)
  | 0 => by simp [stp]
  | k + 1 => by
    obtain ⟨h1, h2, h3, h4⟩ := stp_inv hW k
    have hm := Nat.mod_lt k (y := g.W) (by omega)
    have hk := Nat.div_add_mod k g.W
    have hmap : (List.range (k + 1)).map (cellOf g) = (List.range k).map (cellOf g) ++ [cellOf g k] := by rw [List.range_succ, List.map_append]; rfl
    by_cases e : k % g.W = g.W - 1
    · have e1 : (k + 1) / g.W = k / g.W + 1 := by
        rw [show k + 1 = (k / g.W + 1) * g.W by rw [Nat.add_mul, Nat.one_mul, Nat.mul_comm]; omega, Nat.mul_div_cancel _ (by omega)]
      have e2 : (k + 1) % g.W = 0 := by
        rw [show k + 1 = (k / g.W + 1) * g.W by rw [Nat.add_mul, Nat.one_mul, Nat.mul_comm]; omega, Nat.mul_mod_left]
      simp only [stp, if_pos e]
      refine ⟨by rw [List.length_append, h1, e1]; rfl, by rw [e2]; rfl, fun r hr => ?_, ?_⟩
      · rcases List.mem_append.1 hr with hr | hr
        · exact h3 r hr
        · rw [List.mem_singleton.1 hr, List.length_append, h2, List.length_singleton]
          omega
      · rw [hmap, ← h4]
        simp
    · have e1 : (k + 1) / g.W = k / g.W := by
        rw [show k + 1 = (k % g.W + 1) + g.W * (k / g.W) by omega, Nat.add_mul_div_left _ _ (by omega), Nat.div_eq_of_lt (by omega), Nat.zero_add]
      have e2 : (k + 1) % g.W = k % g.W + 1 := by
        rw [show k + 1 = (k % g.W + 1) + g.W * (k / g.W) by omega, Nat.add_mul_mod_self_left, Nat.mod_eq_of_lt (by omega)]
      simp only [stp, if_neg e]
      refine ⟨by rw [h1, e1], by rw [List.length_append, h2, e2]; rfl, h3, ?_⟩
      rw [hmap, ← h4]
      simp
theorem head_len {rows : List (List C3)} {w : Nat} (h : ∀ r ∈ rows, r.length = w) (hn : rows ≠ []) : (rows.headD []).length = w := by
  cases rows with
  | nil => exact absurd rfl hn
  | cons r rs => exact h r (List.mem_cons_self ..)
theorem scan_draw {g : Gr} (hr : g.Right) {s : ByteArray} (hs : s.data.toList = prB g g.n) : ∀ k, k ≤ g.n → ∃ ls, scan s 0 0 [] [] = scan s (prB g k).length ls (stp g k).1 (stp g k).2
  | 0, _ => ⟨0, rfl⟩
  | k + 1, hk => by
    obtain ⟨ls, e⟩ := scan_draw hr hs k (by omega)
    have hsw := hr.sw
    have hsh := hr.sh
    obtain ⟨i1, i2, i3, _⟩ := stp_inv (g := g) hsw.1 k
    have hm := Nat.mod_lt k (y := g.W) (by omega)
    have hdl : k / g.W < g.H := Nat.div_lt_of_lt_mul (by rw [Nat.mul_comm]; exact hk)
    have hpre : ∀ m, k + m ≤ g.n → ∃ post, prB g (k + m) = prB g k ++ post := by
      intro m
      induction m with
      | zero => exact fun _ => ⟨[], by simp⟩
      | succ m ih =>
        intro hm
        obtain ⟨post, hp⟩ := ih (by omega)
        exact ⟨post ++ cellB g (k + m), by rw [← Nat.add_assoc, prB, hp, List.append_assoc]⟩
    have hpre2 : ∃ post, prB g g.n = prB g k ++ (cellB g k ++ post) := by
      have : ∀ m, k + 1 + m ≤ g.n → ∃ post, prB g (k + 1 + m) = prB g k ++ (cellB g k ++ post) := by
        intro m
        induction m with
        | zero => exact fun _ => ⟨[], by rw [Nat.add_zero, prB, List.append_nil]⟩
        | succ m ih =>
          intro hm
          obtain ⟨post, hp⟩ := ih (by omega)
          exact ⟨post ++ cellB g (k + 1 + m), by rw [← Nat.add_assoc, prB, hp]; simp⟩
      have := this (g.n - (k + 1)) (by omega)
      rwa [show k + 1 + (g.n - (k + 1)) = g.n by omega] at this
    obtain ⟨post, hpost⟩ := hpre2
    unfold cellB at hpost
    obtain ⟨ls', e'⟩ := scan_cell (ls := ls) (rows := (stp g k).1) (cur := (stp g k).2) (hs.trans hpost) (by rw [i1, i2]; omega) (fun he => by
      by_cases h0 : (stp g k).1 = []
      · exact .inl h0
      · right
        rw [head_len i3 h0, i2]
        have := of_decide_eq_true he
        omega)
    refine ⟨ls', e.trans (e'.trans ?_)⟩
    by_cases ew : k % g.W = g.W - 1
    · rw [decide_eq_true ew]
      simp only [stp, if_pos ew, prB, cellB, decide_eq_true ew, if_true]
      rfl
    · rw [decide_eq_false ew]
      simp only [stp, if_neg ew, prB, cellB, decide_eq_false ew, Bool.false_eq_true, if_false]
      rfl
theorem bt_list (l : List Bool) : (List.range l.length).map (bt l) = l := by
  apply List.ext_getElem (by simp)
  intro i h1 h2
  simp [bt_in h2]
/-- What is drawn is read. -/
theorem prs_draw {g : Gr} (hok : g.chk = 0) {s : ByteArray} (hs : s.data.toList = prT g) : prs s = (g, 0, 0) := by
  have hr := Gr.right_of (g := g) hok
  have hs' : s.data.toList = prB g g.n := hs.trans (if_pos hok)
  have hsw := hr.sw
  have hsh := hr.sh
  have hn := hr.sz.n_le
  obtain ⟨ls, e⟩ := scan_draw hr hs' g.n (Nat.le_refl _)
  obtain ⟨i1, i2, i3, i4⟩ := stp_inv (g := g) hsw.1 g.n
  have hmod : g.n % g.W = 0 := Nat.mul_mod_left _ _
  have hdiv : g.n / g.W = g.H := Nat.mul_div_cancel _ (by omega)
  have hcur : (stp g g.n).2 = [] := List.eq_nil_of_length_eq_zero (by rw [i2, hmod])
  rw [hcur] at e i4
  rw [List.append_nil] at i4
  have hsize : s.size = (prB g g.n).length := by rw [← ba_len, hs']
  have hlen := prB_len g g.n
  have hrows : scan s 0 0 [] [] = .inr (stp g g.n).1 := by
    rw [e, ← hsize, scan_end (Nat.lt_irrefl _)]
    rfl
  have hne : (stp g g.n).1 ≠ [] := by
    intro k
    rw [k] at i1
    rw [hdiv] at i1
    simp at i1
    omega
  have hG : mkG (stp g g.n).1 = g := by
    unfold mkG
    rw [i1, hdiv, head_len i3 hne, i4]
    have e1 : ((List.range g.n).map (cellOf g)).map (·.b) = g.B := by
      rw [List.map_map, ← hr.bl]; exact bt_list g.B
    have e2 : ((List.range g.n).map (cellOf g)).map (·.r) = g.R := by
      rw [List.map_map, ← hr.rl]; exact bt_list g.R
    have e3 : ((List.range g.n).map (cellOf g)).map (·.d) = g.D := by
      rw [List.map_map, ← hr.dl]; exact bt_list g.D
    rw [e1, e2, e3, hsh.2.2, hsw.2.2]
  rw [prs_rows (by rw [hsize]; omega) hrows hne, hG, if_pos hok]
end Go.Proofs.YthjgldjjplcncabDoor.Skt
/-
  SketchCanon walked.
-/
namespace Go.Proofs.YthjgldjjplcncabDoor.Skt
open Go Go.Lib Go.RowKit Utf Grd

/-- "..#\n.|..\n" -/
def awkT : ByteArray := ⟨#[46, 46, 35, 10, 46, 124, 46, 46, 10]⟩
def awkG : Gr := ⟨2, 3, [false, false, true, false, false, false], [false, false, false, true, false, false], [false, false, false, false, false, false]⟩
theorem awk_chk : awkG.chk = 0 := by decide +kernel
theorem awk_draw : prT awkG = awkT.data.toList := by decide +kernel
theorem awk_eq : ((ByteArray.mk awkT.data).toList == [46, 46, 35, 10, 46, 124, 46, 46, 10]) = true := by decide +kernel
theorem awk_prs : prs awkT = (awkG, 0, 0) := prs_draw awk_chk awk_draw.symm

theorem prs_facts (s : ByteArray) : ((prs s).2.2 = 0 → (prs s).1.chk = 0 ∧ (prs s).2.1 = 0) ∧ ((prs s).2.2 ≠ 0 → (prs s).1 = zeroG ∧ (prs s).2.1 ≤ s.size ∧ (prs s).2.2 ≤ 100) := by
  by_cases hs : 65536 < s.size
  · have e : prs s = (zeroG, 65536, 1) := by unfold prs; rw [if_pos hs]
    rw [e]
    exact ⟨fun h => absurd h (by decide), fun _ => ⟨rfl, Nat.le_of_lt hs, by decide⟩⟩
  · cases hq : scan s 0 0 [] [] with
    | inl x =>
      obtain ⟨a, er⟩ := x
      obtain ⟨h1, h2⟩ := scan_err s 0 0 [] [] a er (Nat.zero_le _) (Nat.zero_le _) hq
      rw [prs_err hs hq]
      exact ⟨fun h => absurd h (by show er ≠ 0; omega), fun _ => ⟨rfl, h2, by show er ≤ 100; omega⟩⟩
    | inr rows =>
      by_cases hr : rows = []
      · subst hr
        rw [prs_none hs hq]
        exact ⟨fun h => absurd h (by show ¬ (82 : Nat) = 0; decide), fun _ => ⟨rfl, Nat.le_refl _, by show (82 : Nat) ≤ 100; decide⟩⟩
      · rw [prs_rows hs hq hr]
        by_cases hc : (mkG rows).chk = 0
        · rw [if_pos hc]
          exact ⟨fun _ => ⟨hc, rfl⟩, fun h => absurd rfl h⟩
        · rw [if_neg hc]
          refine ⟨fun h => absurd h hc, fun _ => ⟨rfl, Nat.zero_le _, ?_⟩⟩
          show (mkG rows).chk ≤ 100
          unfold Gr.chk
          repeat' split
          all_goals omega
theorem prT_len (g : Gr) : (prT g).length ≤ 4 * g.n := by
  unfold prT
  split
  · exact prB_len g _
  · simp
theorem len_ok {g : Gr} (h : g.chk = 0) : g.lenOk := by
  have hr := Gr.right_of (g := g) h
  have hn := hr.sz.n_le
  exact ⟨by rw [hr.bl]; omega, by rw [hr.rl]; omega, by rw [hr.dl]; omega⟩

end Go.Proofs.YthjgldjjplcncabDoor.Skt
