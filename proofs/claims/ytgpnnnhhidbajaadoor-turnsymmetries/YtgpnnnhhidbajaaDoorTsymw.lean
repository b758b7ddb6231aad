/-
  TurnSymmetries walked: the turns that change nothing are closed under doing one behind the other.
-/
import Derived.Test.YtgpnnnhhidbajaaDoorTrnu
import Derived.Test.YtgpnnnhhidbajaaDoorTgroupw
namespace Go.Proofs.YtgpnnnhhidbajaaDoor.Grd
open Go Go.Lib Go.RowKit

/-- A block of eight Bools. -/
structure Egt (W : World) (b : Nat) (I : List Bool) : Prop where
  blk : W.heap[b]? = some (.cells (cellsB I).toArray 44)
  len : I.length = 8
theorem Egt.lt {W : World} {b : Nat} {I : List Bool} (h : Egt W b I) : b < W.heap.size := (Array.getElem?_eq_some_iff.1 h.blk).1
theorem Egt.at {W : World} {b : Nat} {I : List Bool} (h : Egt W b I) {j : Nat} (hj : j < 8) : W.cell? ⟨b, j, none⟩ = some (.bool (bt I j)) := by
  have hl := h.len
  simp only [World.cell?, h.blk]
  rw [List.getElem?_toArray]
  exact cellsB_at (by omega)
theorem Egt.fr {W : World} {b : Nat} {I : List Bool} (h : Egt W b I) (j : Nat) : W.frozen? ⟨b, j, none⟩ = false := frozen_of_row W b j _ _ h.blk
theorem Egt.keep {W W' : World} {b : Nat} {I : List Bool} (h : Egt W b I) (hb : Below W.heap.size W W') : Egt W' b I := ⟨(hb.block b h.lt).trans h.blk, h.len⟩
theorem Egt.set {W : World} {b : Nat} {I : List Bool} (h : Egt W b I) (j : Nat) (v : Bool) : Egt (W.setCell ⟨b, j, none⟩ (.bool v)) b (I.set j v) := by
  refine ⟨?_, by rw [List.length_set]; exact h.len⟩
  rw [heap_setCell_same W b j _ _ _ h.blk]
  rw [← cellsB_set]
  simp

set_option maxRecDepth 100000 in
set_option maxHeartbeats 2000000 in
theorem turnSym_shut (g : Gr) (p : Ad) (w : World) (hR : RG w g p) (hw : Wy w) (hc : ¬ g.ok) :
    Calls Tryd.prog 5 #[gv g p] w fun e w' => e = .returned (.bool true) ∧ Below w.heap.size w w' := by
  have cA := fun W => awake6_any W
  have CS : Aside (∀ W, Below w.heap.size w W → Calls Tryd.prog 12 #[gv g p] W fun e w' => e = .returned (.slice none 0 0) ∧ Below W.heap.size W w') := fun W h => Sym_shut g p W (hw.below hw.size h) (hR.below h) hc
  have CT : Aside (∀ W, Below w.heap.size w W → Calls Tryd.prog 8 #[gv g p, .int .i64 0] W fun e w' => e = .returned (.tuple #[zeroG, .int .i64 (g.chk : Nat)]) ∧ Below W.heap.size W w') := fun W h => Turn_shut g p 0 W (by omega) (hw.below hw.size h) (hR.below h) hc
  have hc2 : ¬ g.chk = 0 := hc
  unfold gv at CS
  unfold gv zeroG at CT
  have HG0 := Hs.new hR 24
  unfold gv
  clear hR hw hc
  go_enter Tryd.func5, Tryd.ntmps5
  go_wp2_with fail
  refine (cA _).mono ?_
  rintro e w1 ⟨rfl, hb1⟩
  have HG1 : Aside (Hs w1 w.heap.size g p) := HG0.keep hb1
  have HB1 : Aside (Below w.heap.size w w1) := (below_box w _).trans (hb1.mono (below_box w _).size)
  clear cA hb1 HG0
  obtain ⟨⟨_, k0, k1, k2, k3, k4⟩, _⟩ := HG1.out
  have cS := CS.out w1 HB1.out
  go_wp2_with fail
  refine cS.mono ?_
  rintro e w2 ⟨rfl, hb2⟩
  have HG2 : Aside (Hs w2 w.heap.size g p) := HG1.out.keep hb2
  have HB2 : Aside (Below w.heap.size w w2) := HB1.out.trans (hb2.mono HB1.out.size)
  clear cS hb2 k0 k1 k2 k3 k4
  obtain ⟨⟨_, k0, k1, k2, k3, k4⟩, _⟩ := HG2.out
  have cT := CT.out w2 HB2.out
  go_wp2_with fail
  refine cT.mono ?_
  rintro e w3 ⟨rfl, hb3⟩
  have HB3 : Aside (Below w.heap.size w w3) := HB2.out.trans (hb3.mono HB2.out.size)
  clear cT hb3 k0 k1 k2 k3 k4
  go_wp2
  go_ret
  exact ⟨rfl, HB3.out.alloc HB3.out.size _⟩

set_option maxRecDepth 100000 in
set_option maxHeartbeats 4000000 in
theorem turnSym_open (g : Gr) (p : Ad) (w : World) (hR : RG w g p) (hw : Wy w) (hc : g.ok) :
    Calls Tryd.prog 5 #[gv g p] w fun e w' => e = .returned (.bool true) ∧ Below w.heap.size w w' := by
  have cA := fun W => awake6_any W
  have CS : Aside (∀ W, Below w.heap.size w W → Calls Tryd.prog 12 #[gv g p] W fun e w' => ∃ v, e = .returned v ∧ w'.ownsRow W.heap.size 3 1 v (g.syK 8).length (cellsI (ints (g.syK 8))) ∧ Below W.heap.size W w') := fun W h => Sym_open g p W (hw.below hw.size h) (hR.below h) hc
  have CT : Aside (∀ W, Below w.heap.size w W → RG W g p → Calls Tryd.prog 8 #[gv g p, .int .i64 0] W fun e w' => ∃ r, e = .returned (.tuple #[gv (g.turn 0) r, .int .i64 0]) ∧ RG w' (g.turn 0) r ∧ r.fresh W.heap.size ∧ Below W.heap.size W w') := fun W h hG => Turn_val g p 0 W (by omega) (hw.below hw.size h) hG hc
  have HLC : Aside ((g.syK 8).length = 1 ∨ (g.syK 8).length = 2 ∨ (g.syK 8).length = 4 ∨ (g.syK 8).length = 8) := Gr.sy_count (Gr.right_of hc)
  have HNW : Aside (∀ m k, (g.syK 8)[m]? = some k → k < 8 ∧ bt (marks (g.syK 8) m) k = false) := fun m k h => Gr.syK_new h
  have HMK : Aside (∀ j, j < 8 → bt (marks (g.syK 8) (g.syK 8).length) j = g.syB j) := fun j hj => Gr.syK_marks hj
  have HTH : Aside (∀ a b, a < 8 → b < 8 → g.syB a = true → g.syB b = true → g.syB (thn a b) = true) := fun a b ha hb h1 h2 => Gr.syB_thn ha hb h1 h2
  have HZ : Aside (g.syB 0 = true) := Gr.syB_zero (Gr.right_of hc)
  unfold gv at CS CT
  have HG0 := Hs.new hR 24
  unfold gv
  clear hR hw hc
  go_enter Tryd.func5, Tryd.ntmps5
  go_wp2_with fail
  refine (cA _).mono ?_
  rintro e w1 ⟨rfl, hb1⟩
  have HG1 : Aside (Hs w1 w.heap.size g p) := HG0.keep hb1
  have HB1 : Aside (Below w.heap.size w w1) := (below_box w _).trans (hb1.mono (below_box w _).size)
  clear cA hb1 HG0
  obtain ⟨⟨_, k0, k1, k2, k3, k4⟩, _⟩ := HG1.out
  have cS := CS.out w1 HB1.out
  go_wp2_with fail
  refine cS.mono ?_
  rintro e w2 ⟨v, rfl, hown, hb2⟩
  obtain ⟨ao, cap, rfl, hln, hrd⟩ := row_reads hown
  rw [ints_length] at hln
  obtain ⟨b, off, rfl, hbl, _⟩ := hrd 0 (by rw [ints_length]; have := HLC.out; omega)
  have HG2 : Aside (Hs w2 w.heap.size g p) := HG1.out.keep hb2
  have HB2 : Aside (Below w.heap.size w w2) := HB1.out.trans (hb2.mono HB1.out.size)
  have HRD : Aside (ReadsI w2 (some ⟨b, off, none⟩) (ints (g.syK 8)) ∧ b < w2.heap.size) := ⟨hrd, hbl⟩
  have HIL : Aside ((ints (g.syK 8)).length = (g.syK 8).length) := ints_length _
  have hl8 : (g.syK 8).length ≤ 8 := g.syK_len 8
  rw [HIL.out]
  clear cS hb2 k0 k1 k2 k3 k4 hown hrd hln
  obtain ⟨⟨_, k0, k1, k2, k3, k4⟩, _⟩ := HG2.out
  have cT := CT.out w2 HB2.out HG2.out.rg
  go_wp2_with fail
  refine cT.mono ?_
  rintro e w3 ⟨r, rfl, _, _, hb3⟩
  have HB3 : Aside (Below w.heap.size w w3) := HB2.out.trans (hb3.mono HB2.out.size)
  have HCL : Aside (∀ W, Below w3.heap.size w3 W → ∀ m k, (g.syK 8)[m]? = some k → W.cell? ⟨b, off + m, none⟩ = some (.int .i64 (k : Nat))) := fun W hW m k hk => by
    have hm := (List.getElem?_eq_some_iff.1 hk).1
    obtain ⟨b', o', e', hb', hc⟩ := (HRD.out.1.below hb3).below hW m (by rw [ints_length]; exact hm)
    simp only [Option.some.injEq, Addr.mk.injEq, and_true] at e'
    obtain ⟨rfl, rfl⟩ := e'
    rw [hc]
    simp [ints, hk]
  clear cT hb3 k0 k1 k2 k3 k4 HRD HB2 HG2
  have HMS : Aside (∀ m k, (g.syK 8)[m]? = some k → (marks (g.syK 8) m).set k true = marks (g.syK 8) (m + 1)) := fun m k h => marks_set h
  have HEX : Aside (∀ m, m < (g.syK 8).length → ∃ k, (g.syK 8)[m]? = some k) := fun m hm => ⟨_, List.getElem?_eq_getElem hm⟩
  have HM0 : Aside (marks (g.syK 8) 0 = List.replicate 8 false) := by show _ = _; simp [marks]; rfl
  have hgt : ∃ T, g.turn 0 = T := ⟨_, rfl⟩
  obtain ⟨T, hT⟩ := hgt
  rw [hT]
  clear hT
  generalize g.syK 8 = L at *
  go_wp2
  obtain ⟨W4, hW4⟩ : ∃ W4, W4 = ((w3.alloc (.cells #[.int .i64 T.h, .int .i64 T.w, .slice r.a1 T.B.length r.c1, .slice r.a2 T.R.length r.c2, .slice r.a3 T.D.length r.c3] 24)).alloc (.cells #[.bool false, .bool false, .bool false, .bool false, .bool false, .bool false, .bool false, .bool false] 44)) := ⟨_, rfl⟩
  rw [← hW4]
  have HE4 : Aside (Egt W4 (w3.heap.size + 1) (marks L 0)) := by
    rw [HM0.out]
    exact ⟨by rw [hW4]; exact heap_alloc2_new w3 _ _, rfl⟩
  have HB4 : Aside (Below w3.heap.size w3 W4) := by rw [hW4]; exact (below_box w3 _).alloc (below_box w3 _).size _
  clear hW4
  have hBl : Aside (w3.heap.size ≤ w3.heap.size + 1) := Nat.le_succ _
  generalize w3.heap.size + 1 = B at *
  go_loopg [27] L.length (fun g1 iv wr => ∃ m : Nat, iv = .int .i64 (m : Int) ∧ m ≤ L.length ∧ L.length - m ≤ g1 ∧ Aside (Egt wr B (marks L m)) ∧ Aside (Below w3.heap.size w3 wr))
  case atStart => exact ⟨0, rfl, Nat.zero_le _, Nat.le_refl _, HE4, HB4⟩
  case round =>
    obtain ⟨m, rfl, hm, hg, HE, HBm⟩ := hrel
    by_cases hlt : m < L.length
    · have hltz : (m : Int) < (L.length : Int) := by omega
      obtain ⟨k, hk⟩ := HEX.out m hlt
      obtain ⟨hk8, hkf⟩ := HNW.out m k hk
      have ck := HCL.out wr HBm.out m k hk
      have ce := HE.out.at hk8
      rw [hkf] at ce
      have fe := HE.out.fr k
      have HE2 : Aside (Egt (wr.setCell ⟨B, k, none⟩ (.bool true)) B (marks L (m + 1))) := by
        show Egt _ _ _
        rw [← HMS.out m k hk]
        exact HE.out.set k true
      have HB2 : Aside (Below w3.heap.size w3 (wr.setCell ⟨B, k, none⟩ (.bool true))) := Below.setIn HBm.out hBl.out HBm.out.size
      clear hkf hk
      go_wp2
      go_roundg (L.length - (m + 1))
      case measure => omega
      case rel => exact ⟨m + 1, by go_num, by omega, Nat.le_refl _, HE2, HB2⟩
    · have hltz : ¬ (m : Int) < (L.length : Int) := by omega
      obtain rfl : m = L.length := by omega
      go_wp2
      go_loopg [45] 8 (fun g1 iv wx => ∃ a : Nat, iv = .int .i64 (a : Int) ∧ a ≤ 8 ∧ 8 - a ≤ g1 ∧ Aside (Egt wx B (marks L L.length)) ∧ Aside (Below w3.heap.size w3 wx))
      case atStart => exact ⟨0, rfl, Nat.zero_le _, by omega, HE, HBm⟩
      case round =>
        clear HE HBm
        obtain ⟨a, rfl, ha, hg2, HE, HBm⟩ := hrel
        by_cases hla : a < 8
        · have hlaz : (a : Int) < 8 := by omega
          go_wp2
          go_loopg [48] 8 (fun g3 iv wx => ∃ b : Nat, iv = .int .i64 (b : Int) ∧ b ≤ 8 ∧ 8 - b ≤ g3 ∧ Aside (Egt wx B (marks L L.length)) ∧ Aside (Below w3.heap.size w3 wx))
          case atStart => exact ⟨0, rfl, Nat.zero_le _, by omega, HE, HBm⟩
          case round =>
            clear HE HBm
            obtain ⟨c, rfl, hc, hg3, HE, HBm⟩ := hrel
            by_cases hlc : c < 8
            · have hlcz : (c : Int) < 8 := by omega
              have ca := HE.out.at hla
              have cc := HE.out.at hlc
              rw [HMK.out a hla] at ca
              rw [HMK.out c hlc] at cc
              cases h1 : g.syB a with
              | false =>
                rw [h1] at ca
                clear h1 cc
                go_wp2
                go_roundg (8 - (c + 1))
                case measure => omega
                case rel => exact ⟨c + 1, by go_num, by omega, Nat.le_refl _, HE, HBm⟩
              | true =>
                rw [h1] at ca
                cases h2 : g.syB c with
                | false =>
                  rw [h2] at cc
                  clear h1 h2
                  go_wp2
                  go_roundg (8 - (c + 1))
                  case measure => omega
                  case rel => exact ⟨c + 1, by go_num, by omega, Nat.le_refl _, HE, HBm⟩
                | true =>
                  rw [h2] at cc
                  have ht := HTH.out a c hla hlc h1 h2
                  have htl := thn_lt a hla c hlc
                  have ct := HE.out.at htl
                  rw [HMK.out _ htl, ht] at ct
                  have cT := Then_nat a c hla hlc wr
                  generalize thn a c = t at *
                  clear h1 h2 ht
                  go_wp2_with fail
                  refine cT.mono ?_
                  rintro e wT ⟨rfl, hwT⟩
                  obtain rfl := hwT.symm
                  clear hwT cT
                  go_wp2
                  go_roundg (8 - (c + 1))
                  case measure => omega
                  case rel => exact ⟨c + 1, by go_num, by omega, Nat.le_refl _, HE, HBm⟩
            · have hlcz : ¬ (c : Int) < 8 := by omega
              go_wp2
              go_roundg (8 - (a + 1))
              case measure => omega
              case rel => exact ⟨a + 1, by go_num, by omega, Nat.le_refl _, HE, HBm⟩
        · have hlaz : ¬ (a : Int) < 8 := by omega
          have c0 := HE.out.at (j := 0) (by omega)
          rw [HMK.out 0 (by omega), HZ.out] at c0
          have HBE : Aside (Below w.heap.size w wr) := HB3.out.trans (HBm.out.mono HB3.out.size)
          have hlc := HLC.out
          clear HLC
          rcases hlc with hl | hl | hl | hl
          all_goals (rw [hl]; go_wp2; go_ret; exact ⟨rfl, HBE.out⟩)

theorem turnSym_walk (g : Gr) (p : Ad) (w : World) (_hl : g.lenOk) (hR : RG w g p) (_hp : p.nz) (hw : Wy w) :
    Calls Tryd.prog 5 #[gv g p] w fun e w' => e = .returned (.bool true) ∧ Below w.heap.size w w' := by
  by_cases hc : g.ok
  · exact turnSym_open g p w hR hw hc
  · exact turnSym_shut g p w hR hw hc
end Go.Proofs.YtgpnnnhhidbajaaDoor.Grd
