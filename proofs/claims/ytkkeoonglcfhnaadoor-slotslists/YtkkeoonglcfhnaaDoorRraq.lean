/-
  The document's run.
-/
import Derived.Test.YtkkeoonglcfhnaaDoorSlc
import Derived.Test.YtkkeoonglcfhnaaDoorGlt
import Derived.Test.YtkkeoonglcfhnaaDoorRfd
namespace Go.Proofs.YtkkeoonglcfhnaaDoor.Grd
open Go Go.Lib Go.RowKit

/-- The first cell of the run that a cell stands in. -/
def Gr.headF (g : Gr) (d : Nat) : Nat → Nat → Nat
  | 0, i => i
  | f + 1, i => match g.st i (d + 2) with | some j => g.headF d f j | none => i
def Gr.head (g : Gr) (d i : Nat) : Nat := g.headF d i i
theorem Gr.st_down {g : Gr} (hW : 0 < g.W) {d i j : Nat} (hd : d < 2) (h : g.st i (d + 2) = some j) : j < i := by
  have := Gr.st_back hW h
  rw [show (d + 2 + 2) % 4 = d by omega] at this
  exact (Gr.st_up hW hd this).1
theorem Gr.headF_enough {g : Gr} (hW : 0 < g.W) {d : Nat} (hd : d < 2) : ∀ i f, i ≤ f → g.headF d f i = g.headF d i i := by
  intro i
  induction i using Nat.strongRecOn with
  | _ i ih =>
    intro f hf
    cases i with
    | zero =>
      cases f with
      | zero => rfl
      | succ f =>
        simp only [Gr.headF]
        cases h : g.st 0 (d + 2) with
        | none => rfl
        | some j => have := Gr.st_down hW hd h; omega
    | succ i =>
      obtain ⟨f, rfl⟩ : ∃ f', f = f' + 1 := ⟨f - 1, by omega⟩
      simp only [Gr.headF]
      cases h : g.st (i + 1) (d + 2) with
      | none => rfl
      | some j =>
        have := Gr.st_down hW hd h
        simp only
        rw [ih j this f (by omega), ih j this i (by omega)]
theorem Gr.head_some {g : Gr} (hW : 0 < g.W) {d i j : Nat} (hd : d < 2) (h : g.st i (d + 2) = some j) : g.head d i = g.head d j := by
  have hj := Gr.st_down hW hd h
  unfold Gr.head
  obtain ⟨m, rfl⟩ : ∃ m, i = m + 1 := ⟨i - 1, by omega⟩
  show (match g.st (m + 1) (d + 2) with | some j => g.headF d m j | none => m + 1) = _
  rw [h]
  exact Gr.headF_enough hW hd j m (by omega)
theorem Gr.head_none {g : Gr} {d i : Nat} (h : g.st i (d + 2) = none) : g.head d i = i := by
  unfold Gr.head
  cases i with
  | zero => rfl
  | succ m => simp only [Gr.headF, h]
theorem Gr.head_le {g : Gr} (hW : 0 < g.W) {d : Nat} (hd : d < 2) : ∀ i, g.head d i ≤ i := by
  intro i
  induction i using Nat.strongRecOn with
  | _ i ih =>
    cases h : g.st i (d + 2) with
    | none => rw [Gr.head_none h]; exact Nat.le_refl _
    | some j =>
      have hj := Gr.st_down hW hd h
      rw [Gr.head_some hW hd h]
      have := ih j hj
      omega
theorem Gr.head_self {g : Gr} (hW : 0 < g.W) {d i : Nat} (hd : d < 2) : g.head d i = i ↔ g.st i (d + 2) = none := by
  constructor
  · intro e
    cases h : g.st i (d + 2) with
    | none => rfl
    | some j =>
      have hj := Gr.st_down hW hd h
      have := Gr.head_le hW hd j
      rw [Gr.head_some hW hd h] at e
      omega
  · exact Gr.head_none

set_option maxRecDepth 20000 in
set_option maxHeartbeats 2000000 in
theorem refRun_any (g : Gr) (p : Ad) (hok : g.ok) (i : Nat) (hi : g.opn i = true) (dn : Bool) (w : World) (hR : RG w g p) :
    Calls Tryd.prog 33 #[gv g p, .int .i64 i, .bool dn] w fun e w' => ∃ v, e = .returned v ∧ w'.ownsRow w.heap.size 3 1 v (g.run (way dn) (g.head (way dn) i)).length (cellsI (ints (g.run (way dn) (g.head (way dn) i)))) ∧ Below w.heap.size w w' := by
  obtain ⟨i0, hi0, hz0, hz1, hz2⟩ := info_parts infoInt
  have hz := (Gr.right_of hok).sz
  have hW := hz.sw.1
  have hn := hz.n_le.2
  have HS : Aside (∀ (b d : Nat), g.opn b = true → d < 4 → ∀ W, Below w.heap.size w W → Calls Tryd.prog 51 #[gv g p, .int .i64 (b : Nat), .int .i64 (d : Nat)] W fun e w' => e = .returned (opt (g.st b d)) ∧ Below W.heap.size W w') := fun b d hb hd W h => by
    have := refStep_any g p b d W (hR.below h)
    rwa [Gr.stI_st hok hb hd] at this
  unfold gv opt at HS
  unfold gv
  cases dn with
  | false =>
    simp only [way, Bool.false_eq_true, if_false]
    have HB : Aside (∀ b, g.opn b = true → ∀ W, Below w.heap.size w W → Calls Tryd.prog 51 #[.agg #[.int .i64 g.h, .int .i64 g.w, .slice p.a1 g.B.length p.c1, .slice p.a2 g.R.length p.c2, .slice p.a3 g.D.length p.c3], .int .i64 (b : Nat), .int .i64 2] W fun e w' => e = .returned (.tuple #[.int .i64 ((g.st b 2).getD 0 : Nat), .bool (g.st b 2).isSome]) ∧ Below W.heap.size W w') := fun b hb W h => HS.out b 2 hb (by omega) W h
    have HF : Aside (∀ b, g.opn b = true → ∀ W, Below w.heap.size w W → Calls Tryd.prog 51 #[.agg #[.int .i64 g.h, .int .i64 g.w, .slice p.a1 g.B.length p.c1, .slice p.a2 g.R.length p.c2, .slice p.a3 g.D.length p.c3], .int .i64 (b : Nat), .int .i64 0] W fun e w' => e = .returned (.tuple #[.int .i64 ((g.st b 0).getD 0 : Nat), .bool (g.st b 0).isSome]) ∧ Below W.heap.size W w') := fun b hb W h => HS.out b 0 hb (by omega) W h
    have HDN : Aside (∀ b j, g.st b 2 = some j → j < b ∧ g.opn j = true ∧ g.head 0 b = g.head 0 j) := fun b j h => ⟨Gr.st_down hW (d := 0) (by omega) h, Gr.st_to hW h, Gr.head_some hW (by omega) h⟩
    have HNO : Aside (∀ b, g.st b 2 = none → g.head 0 b = b) := fun b h => Gr.head_none (d := 0) h
    have HUP : Aside (∀ b j, g.st b 0 = some j → b < j ∧ j < g.n ∧ g.opn j = true) := fun b j h => ⟨(Gr.st_up hW (by omega) h).1, (Gr.st_up hW (by omega) h).2.1, Gr.st_to hW h⟩
    have HRR : Aside (∀ b, g.run 0 b = b :: g.rest 0 (g.st b 0)) := fun b => Gr.run_rest hW (by omega)
    have HLN : Aside (∀ b, (g.run 0 b).length ≤ 257) := fun b => Gr.run_len256 hz _ _
    have HON : Aside (∀ b, g.opn b = true → b < g.n) := fun b h => (Gr.opn_iff.1 h).1
    have HX0 : Aside (Bx (w.alloc (.cells #[.int .i64 g.h, .int .i64 g.w, .slice p.a1 g.B.length p.c1, .slice p.a2 g.R.length p.c2, .slice p.a3 g.D.length p.c3] 24)) w.heap.size g p) := Bx.new _ _ _ _
    have HB0 : Aside (Below w.heap.size w (w.alloc (.cells #[.int .i64 g.h, .int .i64 g.w, .slice p.a1 g.B.length p.c1, .slice p.a2 g.R.length p.c2, .slice p.a3 g.D.length p.c3] 24))) := below_box _ _
    have HI : Aside (g.opn i = true) := hi
    have hi256 : i < 256 := by have := HON.out i hi; omega
    clear HS hR hz hW hi
    go_enter Tryd.func33, Tryd.ntmps33
    go_wp2
    generalize w.alloc (.cells #[.int .i64 g.h, .int .i64 g.w, .slice p.a1 g.B.length p.c1, .slice p.a2 g.R.length p.c2, .slice p.a3 g.D.length p.c3] 24) = w1 at *
    go_loopg [1, 9] (i + 1) (fun g1 iv ov wr => ∃ (b : Nat) (o : Bool), iv = .int .i64 (b : Nat) ∧ ov = .bool o ∧ (if o then b + 1 else 0) ≤ g1 ∧ b < 256 ∧ Aside (g.opn b = true) ∧ Aside (g.head 0 i = g.head 0 b) ∧ Aside (o = false → g.head 0 b = b) ∧ Aside (Below w1.heap.size w1 wr))
    case atStart => exact ⟨i, true, rfl, rfl, Nat.le_refl _, hi256, HI, rfl, (fun h => by cases h), Below.refl _ _⟩
    case round =>
      obtain ⟨b, o, rfl, rfl, hg, hb256, HOb, HHb, HE, HBr⟩ := hrel
      have HBw : Aside (Below w.heap.size w wr) := HB0.out.trans (HBr.out.mono HB0.out.size)
      cases o with
      | true =>
        simp only [if_true] at hg
        obtain ⟨_, k0, k1, k2, k3, k4⟩ := HX0.out.keep HBr.out
        have cS := HB.out b HOb.out wr HBw.out
        cases hst : g.st b 2 with
        | none =>
          rw [hst] at cS
          have HE2 : Aside (false = false → g.head 0 b = b) := fun _ => HNO.out b hst
          simp only [Option.getD_none, Option.isSome_none] at cS
          clear hst
          go_wp2_with fail
          refine cS.mono ?_
          rintro e w3 ⟨rfl, hb3⟩
          have HB3 : Aside (Below w1.heap.size w1 w3) := HBr.out.trans (hb3.mono HBr.out.size)
          clear cS hb3 k0 k1 k2 k3 k4
          go_wp2
          go_roundg 0
          case measure => omega
          case rel => exact ⟨b, false, rfl, rfl, Nat.le_refl _, hb256, HOb, HHb, (fun _ => HE2.out (by first | trivial | rfl)), HB3⟩
        | some j =>
          rw [hst] at cS
          obtain ⟨hjb, hjo, hjh⟩ := HDN.out b j hst
          have HJO : Aside (g.opn j = true) := hjo
          have HJH : Aside (g.head 0 i = g.head 0 j) := HHb.out.trans hjh
          simp only [Option.getD_some, Option.isSome_some] at cS
          clear hst hjo hjh
          go_wp2_with fail
          refine cS.mono ?_
          rintro e w3 ⟨rfl, hb3⟩
          have HB3 : Aside (Below w1.heap.size w1 w3) := HBr.out.trans (hb3.mono HBr.out.size)
          clear cS hb3 k0 k1 k2 k3 k4
          go_wp2
          go_roundg (j + 1)
          case measure => omega
          case rel => exact ⟨j, true, rfl, rfl, Nat.le_refl _, by omega, HJO, HJH, (fun h => by cases h), HB3⟩
      | false =>
        have HHD : Aside (g.head 0 i = b) := HHb.out.trans (HE.out rfl)
        have HRb : Aside (g.run 0 (g.head 0 i) = [b] ++ g.rest 0 (g.st b 0)) := by show _ = _; rw [HHD.out, HRR.out b]; rfl
        generalize hww : wr = w2 at *
        clear hww
        have HX2 : Aside (Bx w2 w.heap.size g p) := HX0.out.keep HBr.out
        clear HX0 HB0 HHb HE hg HBr
        generalize hhh : g.head 0 i = h at *
        have HHH : Aside (g.head 0 i = h) := hhh
        clear hhh
        go_wp2
        have HOW : Aside ((w2.alloc (.cells #[.int .i64 (b : Int)] 3)).ownsRow w2.heap.size 3 1 (.slice (some ⟨w2.heap.size, 0, none⟩) 1 1) 1 (cellsI (ints [b]))) :=
          ⟨rfl, .inr ⟨w2.heap.size, 1, _, rfl, Nat.le_refl _, heap_alloc_new w2 _, Nat.le_refl _, by unfold maxLen; omega, rfl, rfl⟩⟩
        have HBn : Aside (Below w2.heap.size w2 (w2.alloc (.cells #[.int .i64 (b : Int)] 3))) := below_box _ _
        have hbn := HON.out b HOb.out
        go_loopg [1, 11, 12] (g.n + 1) (fun g1 iv lv ov wr => ∃ (c : Nat) (o : Bool) (L : List Nat), (o = true → iv = .int .i64 (c : Nat)) ∧ ov = .bool o ∧ (if o then g.n - c + 1 else 0) ≤ g1 ∧ Aside (o = true → g.opn c = true) ∧ Aside (wr.ownsRow w2.heap.size 3 1 lv L.length (cellsI (ints L))) ∧ Aside (g.run 0 h = L ++ (if o then g.rest 0 (g.st c 0) else [])) ∧ Aside (Below w2.heap.size w2 wr))
        case atStart => exact ⟨b, true, [b], (fun _ => rfl), rfl, by simp, (fun _ => HOb.out), HOW, HRb, HBn⟩
        case round =>
          obtain ⟨c, o, L, hc, rfl, hg, HOc, HOL, HRL, HBk⟩ := hrel
          have HBz : Aside (Below w.heap.size w wr) := HBw.out.trans (HBk.out.mono HBw.out.size)
          cases o with
          | true =>
            obtain rfl := hc rfl
            simp only [if_true] at hg HRL
            have hco := HOc.out rfl
            have hcn := HON.out c hco
            obtain ⟨_, k0, k1, k2, k3, k4⟩ := HX2.out.keep HBk.out
            have cS := HF.out c hco wr HBz.out
            clear hc hco
            cases hst : g.st c 0 with
            | none =>
              rw [hst] at cS HRL
              have HR2 : Aside (g.run 0 h = L ++ []) := HRL.out
              simp only [Option.getD_none, Option.isSome_none] at cS
              clear hst HRL
              go_wp2_with fail
              refine cS.mono ?_
              rintro e w3 ⟨rfl, hb3⟩
              have HB3 : Aside (Below w2.heap.size w2 w3) := HBk.out.trans (hb3.mono HBk.out.size)
              have HO3 : Aside (w3.ownsRow w2.heap.size 3 1 u11 L.length (cellsI (ints L))) := row_keeps HOL.out hb3
              clear cS hb3 k0 k1 k2 k3 k4
              go_wp2
              go_roundg 0
              case measure => omega
              case rel => exact ⟨0, false, L, (fun h => by cases h), rfl, Nat.le_refl _, (fun h => by cases h), HO3, HR2, HB3⟩
            | some j =>
              rw [hst] at cS HRL
              obtain ⟨hcj, hjn, hjo⟩ := HUP.out c j hst
              have HJO : Aside (true = true → g.opn j = true) := fun _ => hjo
              have HR2 : Aside (g.run 0 h = (L ++ [j]) ++ (if true = true then g.rest 0 (g.st j 0) else [])) := by
                show _ = _
                rw [HRL.out, if_pos rfl, List.append_assoc]
                show L ++ g.run 0 j = _
                rw [HRR.out j]
                rfl
              have hLL : L.length ≤ 257 := by have := HLN.out h; rw [HRL.out, List.length_append] at this; omega
              simp only [Option.getD_some, Option.isSome_some] at cS
              clear hst HRL hjo
              go_wp2_with fail
              refine cS.mono ?_
              rintro e w3 ⟨rfl, hb3⟩
              have HB3 : Aside (Below w2.heap.size w2 w3) := HBk.out.trans (hb3.mono HBk.out.size)
              have HO3 : Aside (w3.ownsRow w2.heap.size 3 1 u11 L.length (cellsI (ints L))) := row_keeps HOL.out hb3
              have hz3 := HB3.out.size
              clear cS hb3 k0 k1 k2 k3 k4 HOL
              go_wp2_with (at_builtin; refine wpList_append_own _ rfl _ _ 34 rfl w2.heap.size 3 i0 (.int .i64 0) 1 8 Tryd.underlying34 hi0 hz0 hz1 hz2 rfl (by decide) _ _ _ rfl (HO3.out.alloc _) ⟨w3.heap.size, 0, none⟩ 1 1 [.int .i64 (j : Int)] rfl rfl (cell_one_new _ _ _) (by simp [Value.oneCell']) (by unfold maxLen; omega) (by omega) (by simp; omega) ?_)
              intro v' wa hown' hgrow _
              have HBa : Aside (Below w2.heap.size w2 wa) := Below.grown (HB3.out.alloc hz3 _) hgrow (by simp; omega) (fun j hj => (HO3.out.lt _ hj).1)
              have HOWa : Aside (wa.ownsRow w2.heap.size 3 1 v' (L ++ [j]).length (cellsI (ints (L ++ [j])))) := by
                show wa.ownsRow _ _ _ _ _ _
                simp only [List.length_append, List.length_cons, List.length_nil, ints_snoc, cellsI_snoc]
                exact hown'
              clear hown' hgrow
              go_wp2
              go_roundg (g.n - j + 1)
              case measure => omega
              case rel => exact ⟨j, true, L ++ [j], (fun _ => rfl), rfl, Nat.le_refl _, (fun _ => HJO.out (by first | trivial | rfl)), HOWa, HR2, HBa⟩
          | false =>
            simp only [Bool.false_eq_true, if_false] at HRL
            clear hc
            go_wp2
            go_ret
            refine ⟨_, rfl, ?_, HBz.out⟩
            rw [HHH.out, HRL.out, List.append_nil]
            exact row_base HOL.out HBw.out.size
  | true =>
    simp only [way, if_true]
    have HB : Aside (∀ b, g.opn b = true → ∀ W, Below w.heap.size w W → Calls Tryd.prog 51 #[.agg #[.int .i64 g.h, .int .i64 g.w, .slice p.a1 g.B.length p.c1, .slice p.a2 g.R.length p.c2, .slice p.a3 g.D.length p.c3], .int .i64 (b : Nat), .int .i64 3] W fun e w' => e = .returned (.tuple #[.int .i64 ((g.st b 3).getD 0 : Nat), .bool (g.st b 3).isSome]) ∧ Below W.heap.size W w') := fun b hb W h => HS.out b 3 hb (by omega) W h
    have HF : Aside (∀ b, g.opn b = true → ∀ W, Below w.heap.size w W → Calls Tryd.prog 51 #[.agg #[.int .i64 g.h, .int .i64 g.w, .slice p.a1 g.B.length p.c1, .slice p.a2 g.R.length p.c2, .slice p.a3 g.D.length p.c3], .int .i64 (b : Nat), .int .i64 1] W fun e w' => e = .returned (.tuple #[.int .i64 ((g.st b 1).getD 0 : Nat), .bool (g.st b 1).isSome]) ∧ Below W.heap.size W w') := fun b hb W h => HS.out b 1 hb (by omega) W h
    have HDN : Aside (∀ b j, g.st b 3 = some j → j < b ∧ g.opn j = true ∧ g.head 1 b = g.head 1 j) := fun b j h => ⟨Gr.st_down hW (d := 1) (by omega) h, Gr.st_to hW h, Gr.head_some hW (by omega) h⟩
    have HNO : Aside (∀ b, g.st b 3 = none → g.head 1 b = b) := fun b h => Gr.head_none (d := 1) h
    have HUP : Aside (∀ b j, g.st b 1 = some j → b < j ∧ j < g.n ∧ g.opn j = true) := fun b j h => ⟨(Gr.st_up hW (by omega) h).1, (Gr.st_up hW (by omega) h).2.1, Gr.st_to hW h⟩
    have HRR : Aside (∀ b, g.run 1 b = b :: g.rest 1 (g.st b 1)) := fun b => Gr.run_rest hW (by omega)
    have HLN : Aside (∀ b, (g.run 1 b).length ≤ 257) := fun b => Gr.run_len256 hz _ _
    have HON : Aside (∀ b, g.opn b = true → b < g.n) := fun b h => (Gr.opn_iff.1 h).1
    have HX0 : Aside (Bx (w.alloc (.cells #[.int .i64 g.h, .int .i64 g.w, .slice p.a1 g.B.length p.c1, .slice p.a2 g.R.length p.c2, .slice p.a3 g.D.length p.c3] 24)) w.heap.size g p) := Bx.new _ _ _ _
    have HB0 : Aside (Below w.heap.size w (w.alloc (.cells #[.int .i64 g.h, .int .i64 g.w, .slice p.a1 g.B.length p.c1, .slice p.a2 g.R.length p.c2, .slice p.a3 g.D.length p.c3] 24))) := below_box _ _
    have HI : Aside (g.opn i = true) := hi
    have hi256 : i < 256 := by have := HON.out i hi; omega
    clear HS hR hz hW hi
    go_enter Tryd.func33, Tryd.ntmps33
    go_wp2
    generalize w.alloc (.cells #[.int .i64 g.h, .int .i64 g.w, .slice p.a1 g.B.length p.c1, .slice p.a2 g.R.length p.c2, .slice p.a3 g.D.length p.c3] 24) = w1 at *
    go_loopg [1, 9] (i + 1) (fun g1 iv ov wr => ∃ (b : Nat) (o : Bool), iv = .int .i64 (b : Nat) ∧ ov = .bool o ∧ (if o then b + 1 else 0) ≤ g1 ∧ b < 256 ∧ Aside (g.opn b = true) ∧ Aside (g.head 1 i = g.head 1 b) ∧ Aside (o = false → g.head 1 b = b) ∧ Aside (Below w1.heap.size w1 wr))
    case atStart => exact ⟨i, true, rfl, rfl, Nat.le_refl _, hi256, HI, rfl, (fun h => by cases h), Below.refl _ _⟩
    case round =>
      obtain ⟨b, o, rfl, rfl, hg, hb256, HOb, HHb, HE, HBr⟩ := hrel
      have HBw : Aside (Below w.heap.size w wr) := HB0.out.trans (HBr.out.mono HB0.out.size)
      cases o with
      | true =>
        simp only [if_true] at hg
        obtain ⟨_, k0, k1, k2, k3, k4⟩ := HX0.out.keep HBr.out
        have cS := HB.out b HOb.out wr HBw.out
        cases hst : g.st b 3 with
        | none =>
          rw [hst] at cS
          have HE2 : Aside (false = false → g.head 1 b = b) := fun _ => HNO.out b hst
          simp only [Option.getD_none, Option.isSome_none] at cS
          clear hst
          go_wp2_with fail
          refine cS.mono ?_
          rintro e w3 ⟨rfl, hb3⟩
          have HB3 : Aside (Below w1.heap.size w1 w3) := HBr.out.trans (hb3.mono HBr.out.size)
          clear cS hb3 k0 k1 k2 k3 k4
          go_wp2
          go_roundg 0
          case measure => omega
          case rel => exact ⟨b, false, rfl, rfl, Nat.le_refl _, hb256, HOb, HHb, (fun _ => HE2.out (by first | trivial | rfl)), HB3⟩
        | some j =>
          rw [hst] at cS
          obtain ⟨hjb, hjo, hjh⟩ := HDN.out b j hst
          have HJO : Aside (g.opn j = true) := hjo
          have HJH : Aside (g.head 1 i = g.head 1 j) := HHb.out.trans hjh
          simp only [Option.getD_some, Option.isSome_some] at cS
          clear hst hjo hjh
          go_wp2_with fail
          refine cS.mono ?_
          rintro e w3 ⟨rfl, hb3⟩
          have HB3 : Aside (Below w1.heap.size w1 w3) := HBr.out.trans (hb3.mono HBr.out.size)
          clear cS hb3 k0 k1 k2 k3 k4
          go_wp2
          go_roundg (j + 1)
          case measure => omega
          case rel => exact ⟨j, true, rfl, rfl, Nat.le_refl _, by omega, HJO, HJH, (fun h => by cases h), HB3⟩
      | false =>
        have HHD : Aside (g.head 1 i = b) := HHb.out.trans (HE.out rfl)
        have HRb : Aside (g.run 1 (g.head 1 i) = [b] ++ g.rest 1 (g.st b 1)) := by show _ = _; rw [HHD.out, HRR.out b]; rfl
        generalize hww : wr = w2 at *
        clear hww
        have HX2 : Aside (Bx w2 w.heap.size g p) := HX0.out.keep HBr.out
        clear HX0 HB0 HHb HE hg HBr
        generalize hhh : g.head 1 i = h at *
        have HHH : Aside (g.head 1 i = h) := hhh
        clear hhh
        go_wp2
        have HOW : Aside ((w2.alloc (.cells #[.int .i64 (b : Int)] 3)).ownsRow w2.heap.size 3 1 (.slice (some ⟨w2.heap.size, 0, none⟩) 1 1) 1 (cellsI (ints [b]))) :=
          ⟨rfl, .inr ⟨w2.heap.size, 1, _, rfl, Nat.le_refl _, heap_alloc_new w2 _, Nat.le_refl _, by unfold maxLen; omega, rfl, rfl⟩⟩
        have HBn : Aside (Below w2.heap.size w2 (w2.alloc (.cells #[.int .i64 (b : Int)] 3))) := below_box _ _
        have hbn := HON.out b HOb.out
        go_loopg [1, 11, 12] (g.n + 1) (fun g1 iv lv ov wr => ∃ (c : Nat) (o : Bool) (L : List Nat), (o = true → iv = .int .i64 (c : Nat)) ∧ ov = .bool o ∧ (if o then g.n - c + 1 else 0) ≤ g1 ∧ Aside (o = true → g.opn c = true) ∧ Aside (wr.ownsRow w2.heap.size 3 1 lv L.length (cellsI (ints L))) ∧ Aside (g.run 1 h = L ++ (if o then g.rest 1 (g.st c 1) else [])) ∧ Aside (Below w2.heap.size w2 wr))
        case atStart => exact ⟨b, true, [b], (fun _ => rfl), rfl, by simp, (fun _ => HOb.out), HOW, HRb, HBn⟩
        case round =>
          obtain ⟨c, o, L, hc, rfl, hg, HOc, HOL, HRL, HBk⟩ := hrel
          have HBz : Aside (Below w.heap.size w wr) := HBw.out.trans (HBk.out.mono HBw.out.size)
          cases o with
          | true =>
            obtain rfl := hc rfl
            simp only [if_true] at hg HRL
            have hco := HOc.out rfl
            have hcn := HON.out c hco
            obtain ⟨_, k0, k1, k2, k3, k4⟩ := HX2.out.keep HBk.out
            have cS := HF.out c hco wr HBz.out
            clear hc hco
            cases hst : g.st c 1 with
            | none =>
              rw [hst] at cS HRL
              have HR2 : Aside (g.run 1 h = L ++ []) := HRL.out
              simp only [Option.getD_none, Option.isSome_none] at cS
              clear hst HRL
              go_wp2_with fail
              refine cS.mono ?_
              rintro e w3 ⟨rfl, hb3⟩
              have HB3 : Aside (Below w2.heap.size w2 w3) := HBk.out.trans (hb3.mono HBk.out.size)
              have HO3 : Aside (w3.ownsRow w2.heap.size 3 1 u11 L.length (cellsI (ints L))) := row_keeps HOL.out hb3
              clear cS hb3 k0 k1 k2 k3 k4
              go_wp2
              go_roundg 0
              case measure => omega
              case rel => exact ⟨0, false, L, (fun h => by cases h), rfl, Nat.le_refl _, (fun h => by cases h), HO3, HR2, HB3⟩
            | some j =>
              rw [hst] at cS HRL
              obtain ⟨hcj, hjn, hjo⟩ := HUP.out c j hst
              have HJO : Aside (true = true → g.opn j = true) := fun _ => hjo
              have HR2 : Aside (g.run 1 h = (L ++ [j]) ++ (if true = true then g.rest 1 (g.st j 1) else [])) := by
                show _ = _
                rw [HRL.out, if_pos rfl, List.append_assoc]
                show L ++ g.run 1 j = _
                rw [HRR.out j]
                rfl
              have hLL : L.length ≤ 257 := by have := HLN.out h; rw [HRL.out, List.length_append] at this; omega
              simp only [Option.getD_some, Option.isSome_some] at cS
              clear hst HRL hjo
              go_wp2_with fail
              refine cS.mono ?_
              rintro e w3 ⟨rfl, hb3⟩
              have HB3 : Aside (Below w2.heap.size w2 w3) := HBk.out.trans (hb3.mono HBk.out.size)
              have HO3 : Aside (w3.ownsRow w2.heap.size 3 1 u11 L.length (cellsI (ints L))) := row_keeps HOL.out hb3
              have hz3 := HB3.out.size
              clear cS hb3 k0 k1 k2 k3 k4 HOL
              go_wp2_with (at_builtin; refine wpList_append_own _ rfl _ _ 34 rfl w2.heap.size 3 i0 (.int .i64 0) 1 8 Tryd.underlying34 hi0 hz0 hz1 hz2 rfl (by decide) _ _ _ rfl (HO3.out.alloc _) ⟨w3.heap.size, 0, none⟩ 1 1 [.int .i64 (j : Int)] rfl rfl (cell_one_new _ _ _) (by simp [Value.oneCell']) (by unfold maxLen; omega) (by omega) (by simp; omega) ?_)
              intro v' wa hown' hgrow _
              have HBa : Aside (Below w2.heap.size w2 wa) := Below.grown (HB3.out.alloc hz3 _) hgrow (by simp; omega) (fun j hj => (HO3.out.lt _ hj).1)
              have HOWa : Aside (wa.ownsRow w2.heap.size 3 1 v' (L ++ [j]).length (cellsI (ints (L ++ [j])))) := by
                show wa.ownsRow _ _ _ _ _ _
                simp only [List.length_append, List.length_cons, List.length_nil, ints_snoc, cellsI_snoc]
                exact hown'
              clear hown' hgrow
              go_wp2
              go_roundg (g.n - j + 1)
              case measure => omega
              case rel => exact ⟨j, true, L ++ [j], (fun _ => rfl), rfl, Nat.le_refl _, (fun _ => HJO.out (by first | trivial | rfl)), HOWa, HR2, HBa⟩
          | false =>
            simp only [Bool.false_eq_true, if_false] at HRL
            clear hc
            go_wp2
            go_ret
            refine ⟨_, rfl, ?_, HBz.out⟩
            rw [HHH.out, HRL.out, List.append_nil]
            exact row_base HOL.out HBw.out.size
end Go.Proofs.YtkkeoonglcfhnaaDoor.Grd
