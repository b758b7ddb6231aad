/-
  The document's Print walked.
-/
import Derived.Test.YtkkeoonglcfhnaaDoorGsk
import Derived.Test.YtkkeoonglcfhnaaDoorGrf
import Derived.Test.YtkkeoonglcfhnaaDoorGtz
namespace Go.Proofs.YtkkeoonglcfhnaaDoor.Skt
open Go Go.Lib Go.RowKit Utf Grd

theorem ba_cat2 (a b : ByteArray) : (a ++ b).data.toList = a.data.toList ++ b.data.toList := by
  rw [ByteArray.data_append, Array.toList_append]

theorem sz_one (t : ByteArray) (c : UInt8) : (t ++ (⟨#[c]⟩ : ByteArray)).size = t.size + 1 := by rw [ByteArray.size_append]; rfl

set_option maxRecDepth 100000 in
set_option maxHeartbeats 4000000 in
theorem refPrint_any (g : Gr) (p : Ad) (W : World) (hR : RG W g p) :
    Calls Tryd.prog 21 #[gv g p] W fun e W' => e = .returned (.tuple #[.string ⟨(prT g).toArray⟩, .int .i64 (g.chk : Nat)]) ∧ Below W.heap.size W W' := by
  unfold gv
  have hX0 := Bx.new W g p 24
  have hb0 := below_box W (.cells #[.int .i64 g.h, .int .i64 g.w, .slice p.a1 g.B.length p.c1, .slice p.a2 g.R.length p.c2, .slice p.a3 g.D.length p.c3] 24)
  have cC := refCheck_any g p (W.alloc (.cells #[.int .i64 g.h, .int .i64 g.w, .slice p.a1 g.B.length p.c1, .slice p.a2 g.R.length p.c2, .slice p.a3 g.D.length p.c3] 24)) (hR.below hb0)
  unfold gv at cC
  by_cases hok : g.chk = 0
  · have HP : Aside (prT g = prB g g.n) := if_pos hok
    rw [hok] at cC ⊢
    have hr := Gr.right_of (g := g) hok
    have hz := hr.sz
    have hn := hz.n_le
    obtain ⟨b1, o1, c1, b2, o2, c2, b3, o3, c3, rfl, hRA⟩ := RG.open hz hR
    go_enter Tryd.func21, Tryd.ntmps21
    obtain ⟨_, k0, k1, k2, k3, k4⟩ := hX0
    go_wp2_with fail
    refine cC.mono ?_
    rintro e w1 ⟨rfl, hb1⟩
    have hX1 : Bx w1 W.heap.size g ⟨some ⟨b1, o1, none⟩, c1, some ⟨b2, o2, none⟩, c2, some ⟨b3, o3, none⟩, c3⟩ := (Bx.new W g ⟨some ⟨b1, o1, none⟩, c1, some ⟨b2, o2, none⟩, c2, some ⟨b3, o3, none⟩, c3⟩ 24).keep hb1
    have hB1 : Below W.heap.size W w1 := hb0.trans (hb1.mono hb0.size)
    have HF : Aside (∀ Z, Below w1.heap.size w1 Z → Bx Z W.heap.size g _ ∧ RA Z g b1 o1 b2 o2 b3 o3) := fun Z hZ => ⟨hX1.keep hZ, (hRA.below hB1).below hZ⟩
    have HB1 : Aside (Below W.heap.size W w1) := hB1
    have HBL : Aside (g.B.length = g.n ∧ g.R.length = g.n ∧ g.D.length = g.n) := ⟨hr.bl, hr.rl, hr.dl⟩
    have HSW : Aside (1 ≤ g.W ∧ g.W ≤ 16 ∧ (g.W : Int) = g.w) := hr.sw
    have HSH : Aside (1 ≤ g.H ∧ g.H ≤ 16 ∧ (g.H : Int) = g.h) := hr.sh
    clear hX1 hB1 hb1 hb0 cC hR hRA k0 k1 k2 k3 k4
    go_wp2
    go_loopg [5, 6] g.n (fun g1 vs iv wr => ∃ (k : Nat) (t : ByteArray), iv = .int .i64 (k : Int) ∧ vs = .string t ∧ k ≤ g.n ∧ g.n - k ≤ g1 ∧ t.size ≤ 4 * k ∧ Aside (t.data.toList = prB g k) ∧ Aside (Below w1.heap.size w1 wr))
    case atStart => exact ⟨0, ⟨#[]⟩, rfl, rfl, Nat.zero_le _, Nat.le_refl _, Nat.zero_le _, rfl, Below.refl _ _⟩
    case round =>
      obtain ⟨k, t, rfl, rfl, hk, hg, hts, HT, HB⟩ := hrel
      have hmul : (g.H : Int) * (g.W : Int) = ((g.n : Nat) : Int) := (Int.natCast_mul _ _).symm
      have F := HF.out wr HB.out
      obtain ⟨⟨_, k0, k1, k2, k3, k4⟩, R⟩ := F
      rw [HBL.out.1] at k2
      rw [HBL.out.2.1] at k3
      rw [HBL.out.2.2] at k4
      rw [← HSW.out.2.2] at k1
      rw [← HSH.out.2.2] at k0
      have hW16 : 1 ≤ g.W ∧ g.W ≤ 16 := ⟨HSW.out.1, HSW.out.2.1⟩
      have hH16 : 1 ≤ g.H ∧ g.H ≤ 16 := ⟨HSH.out.1, HSH.out.2.1⟩
      by_cases hlt : k < g.n
      · have hltz : (k : Int) < (g.n : Int) := by omega
        have hcl : prB g (k + 1) = prB g k ++ cellB g k := rfl
        have hrem : (k : Int) % (g.W : Int) = ((k % g.W : Nat) : Int) := int_mod k g.W
        have hsub : (g.W : Int) - 1 = ((g.W - 1 : Nat) : Int) := by omega
        have hW0 : ¬ (g.W : Int) = 0 := by omega
        have hml : k % g.W ≤ 16 := by have := Nat.mod_lt k (y := g.W) (by omega); omega
        have r1 := R.e1 k hlt
        have r2 := R.e2 k hlt
        have r3 := R.e3 k hlt
        unfold cellB at hcl
        generalize bt g.B k = x at hcl r1
        generalize bt g.R k = y at hcl r2
        generalize bt g.D k = z at hcl r3
        have hee : (((k % g.W : Nat) : Int) == ((g.W - 1 : Nat) : Int)) = decide (k % g.W = g.W - 1) := by
          by_cases e : k % g.W = g.W - 1
          · rw [decide_eq_true e, beq_iff_eq]; omega
          · rw [decide_eq_false e, beq_eq_false_iff_ne]; omega
        generalize decide (k % g.W = g.W - 1) = ew at hcl hee
        generalize k % g.W = rm at *
        generalize g.W - 1 = wm at *
        have HCL : Aside (prB g (k + 1) = prB g k ++ cellT x y z ew) := hcl
        clear hcl R
        cases x <;> cases y <;> cases z <;> cases ew
        · have HC : Aside (((t ++ ⟨#[46]⟩) : ByteArray).data.toList = prB g (k + 1)) := by
            show _ = _
            rw [HCL.out, ba_cat2, HT.out]
            simp [cellT]
          have hsz : ((t ++ ⟨#[46]⟩) : ByteArray).size ≤ 4 * (k + 1) := by rw [sz_one]; omega
          clear HT
          go_wp2
          go_big_region
          go_wp2
          go_roundg (g.n - (k + 1))
          case measure => omega
          case rel => exact ⟨k + 1, _, by go_num, rfl, by omega, Nat.le_refl _, hsz, HC, Below.drew HB.out⟩
        · have HC : Aside ((((t ++ ⟨#[46]⟩) ++ ⟨#[10]⟩) : ByteArray).data.toList = prB g (k + 1)) := by
            show _ = _
            rw [HCL.out, ba_cat2, ba_cat2, HT.out]
            simp [cellT]
          have hsz : (((t ++ ⟨#[46]⟩) ++ ⟨#[10]⟩) : ByteArray).size ≤ 4 * (k + 1) := by rw [sz_one, sz_one]; omega
          clear HT
          go_wp2
          go_big_region
          go_wp2
          go_roundg (g.n - (k + 1))
          case measure => omega
          case rel => exact ⟨k + 1, _, by go_num, rfl, by omega, Nat.le_refl _, hsz, HC, Below.drew HB.out⟩
        · have HC : Aside ((((t ++ ⟨#[46]⟩) ++ ⟨#[95]⟩) : ByteArray).data.toList = prB g (k + 1)) := by
            show _ = _
            rw [HCL.out, ba_cat2, ba_cat2, HT.out]
            simp [cellT]
          have hsz : (((t ++ ⟨#[46]⟩) ++ ⟨#[95]⟩) : ByteArray).size ≤ 4 * (k + 1) := by rw [sz_one, sz_one]; omega
          clear HT
          go_wp2
          go_big_region
          go_wp2
          go_roundg (g.n - (k + 1))
          case measure => omega
          case rel => exact ⟨k + 1, _, by go_num, rfl, by omega, Nat.le_refl _, hsz, HC, Below.drew HB.out⟩
        · have HC : Aside (((((t ++ ⟨#[46]⟩) ++ ⟨#[95]⟩) ++ ⟨#[10]⟩) : ByteArray).data.toList = prB g (k + 1)) := by
            show _ = _
            rw [HCL.out, ba_cat2, ba_cat2, ba_cat2, HT.out]
            simp [cellT]
          have hsz : ((((t ++ ⟨#[46]⟩) ++ ⟨#[95]⟩) ++ ⟨#[10]⟩) : ByteArray).size ≤ 4 * (k + 1) := by rw [sz_one, sz_one, sz_one]; omega
          clear HT
          go_wp2
          go_big_region
          go_wp2
          go_roundg (g.n - (k + 1))
          case measure => omega
          case rel => exact ⟨k + 1, _, by go_num, rfl, by omega, Nat.le_refl _, hsz, HC, Below.drew HB.out⟩
        · have HC : Aside ((((t ++ ⟨#[46]⟩) ++ ⟨#[124]⟩) : ByteArray).data.toList = prB g (k + 1)) := by
            show _ = _
            rw [HCL.out, ba_cat2, ba_cat2, HT.out]
            simp [cellT]
          have hsz : (((t ++ ⟨#[46]⟩) ++ ⟨#[124]⟩) : ByteArray).size ≤ 4 * (k + 1) := by rw [sz_one, sz_one]; omega
          clear HT
          go_wp2
          go_big_region
          go_wp2
          go_roundg (g.n - (k + 1))
          case measure => omega
          case rel => exact ⟨k + 1, _, by go_num, rfl, by omega, Nat.le_refl _, hsz, HC, Below.drew HB.out⟩
        · have HC : Aside (((((t ++ ⟨#[46]⟩) ++ ⟨#[124]⟩) ++ ⟨#[10]⟩) : ByteArray).data.toList = prB g (k + 1)) := by
            show _ = _
            rw [HCL.out, ba_cat2, ba_cat2, ba_cat2, HT.out]
            simp [cellT]
          have hsz : ((((t ++ ⟨#[46]⟩) ++ ⟨#[124]⟩) ++ ⟨#[10]⟩) : ByteArray).size ≤ 4 * (k + 1) := by rw [sz_one, sz_one, sz_one]; omega
          clear HT
          go_wp2
          go_big_region
          go_wp2
          go_roundg (g.n - (k + 1))
          case measure => omega
          case rel => exact ⟨k + 1, _, by go_num, rfl, by omega, Nat.le_refl _, hsz, HC, Below.drew HB.out⟩
        · have HC : Aside (((((t ++ ⟨#[46]⟩) ++ ⟨#[124]⟩) ++ ⟨#[95]⟩) : ByteArray).data.toList = prB g (k + 1)) := by
            show _ = _
            rw [HCL.out, ba_cat2, ba_cat2, ba_cat2, HT.out]
            simp [cellT]
          have hsz : ((((t ++ ⟨#[46]⟩) ++ ⟨#[124]⟩) ++ ⟨#[95]⟩) : ByteArray).size ≤ 4 * (k + 1) := by rw [sz_one, sz_one, sz_one]; omega
          clear HT
          go_wp2
          go_big_region
          go_wp2
          go_roundg (g.n - (k + 1))
          case measure => omega
          case rel => exact ⟨k + 1, _, by go_num, rfl, by omega, Nat.le_refl _, hsz, HC, Below.drew HB.out⟩
        · have HC : Aside ((((((t ++ ⟨#[46]⟩) ++ ⟨#[124]⟩) ++ ⟨#[95]⟩) ++ ⟨#[10]⟩) : ByteArray).data.toList = prB g (k + 1)) := by
            show _ = _
            rw [HCL.out, ba_cat2, ba_cat2, ba_cat2, ba_cat2, HT.out]
            simp [cellT]
          have hsz : (((((t ++ ⟨#[46]⟩) ++ ⟨#[124]⟩) ++ ⟨#[95]⟩) ++ ⟨#[10]⟩) : ByteArray).size ≤ 4 * (k + 1) := by rw [sz_one, sz_one, sz_one, sz_one]; omega
          clear HT
          go_wp2
          go_big_region
          go_wp2
          go_roundg (g.n - (k + 1))
          case measure => omega
          case rel => exact ⟨k + 1, _, by go_num, rfl, by omega, Nat.le_refl _, hsz, HC, Below.drew HB.out⟩
        · have HC : Aside (((t ++ ⟨#[35]⟩) : ByteArray).data.toList = prB g (k + 1)) := by
            show _ = _
            rw [HCL.out, ba_cat2, HT.out]
            simp [cellT]
          have hsz : ((t ++ ⟨#[35]⟩) : ByteArray).size ≤ 4 * (k + 1) := by rw [sz_one]; omega
          clear HT
          go_wp2
          go_big_region
          go_wp2
          go_roundg (g.n - (k + 1))
          case measure => omega
          case rel => exact ⟨k + 1, _, by go_num, rfl, by omega, Nat.le_refl _, hsz, HC, Below.drew HB.out⟩
        · have HC : Aside ((((t ++ ⟨#[35]⟩) ++ ⟨#[10]⟩) : ByteArray).data.toList = prB g (k + 1)) := by
            show _ = _
            rw [HCL.out, ba_cat2, ba_cat2, HT.out]
            simp [cellT]
          have hsz : (((t ++ ⟨#[35]⟩) ++ ⟨#[10]⟩) : ByteArray).size ≤ 4 * (k + 1) := by rw [sz_one, sz_one]; omega
          clear HT
          go_wp2
          go_big_region
          go_wp2
          go_roundg (g.n - (k + 1))
          case measure => omega
          case rel => exact ⟨k + 1, _, by go_num, rfl, by omega, Nat.le_refl _, hsz, HC, Below.drew HB.out⟩
        · have HC : Aside ((((t ++ ⟨#[35]⟩) ++ ⟨#[95]⟩) : ByteArray).data.toList = prB g (k + 1)) := by
            show _ = _
            rw [HCL.out, ba_cat2, ba_cat2, HT.out]
            simp [cellT]
          have hsz : (((t ++ ⟨#[35]⟩) ++ ⟨#[95]⟩) : ByteArray).size ≤ 4 * (k + 1) := by rw [sz_one, sz_one]; omega
          clear HT
          go_wp2
          go_big_region
          go_wp2
          go_roundg (g.n - (k + 1))
          case measure => omega
          case rel => exact ⟨k + 1, _, by go_num, rfl, by omega, Nat.le_refl _, hsz, HC, Below.drew HB.out⟩
        · have HC : Aside (((((t ++ ⟨#[35]⟩) ++ ⟨#[95]⟩) ++ ⟨#[10]⟩) : ByteArray).data.toList = prB g (k + 1)) := by
            show _ = _
            rw [HCL.out, ba_cat2, ba_cat2, ba_cat2, HT.out]
            simp [cellT]
          have hsz : ((((t ++ ⟨#[35]⟩) ++ ⟨#[95]⟩) ++ ⟨#[10]⟩) : ByteArray).size ≤ 4 * (k + 1) := by rw [sz_one, sz_one, sz_one]; omega
          clear HT
          go_wp2
          go_big_region
          go_wp2
          go_roundg (g.n - (k + 1))
          case measure => omega
          case rel => exact ⟨k + 1, _, by go_num, rfl, by omega, Nat.le_refl _, hsz, HC, Below.drew HB.out⟩
        · have HC : Aside ((((t ++ ⟨#[35]⟩) ++ ⟨#[124]⟩) : ByteArray).data.toList = prB g (k + 1)) := by
            show _ = _
            rw [HCL.out, ba_cat2, ba_cat2, HT.out]
            simp [cellT]
          have hsz : (((t ++ ⟨#[35]⟩) ++ ⟨#[124]⟩) : ByteArray).size ≤ 4 * (k + 1) := by rw [sz_one, sz_one]; omega
          clear HT
          go_wp2
          go_big_region
          go_wp2
          go_roundg (g.n - (k + 1))
          case measure => omega
          case rel => exact ⟨k + 1, _, by go_num, rfl, by omega, Nat.le_refl _, hsz, HC, Below.drew HB.out⟩
        · have HC : Aside (((((t ++ ⟨#[35]⟩) ++ ⟨#[124]⟩) ++ ⟨#[10]⟩) : ByteArray).data.toList = prB g (k + 1)) := by
            show _ = _
            rw [HCL.out, ba_cat2, ba_cat2, ba_cat2, HT.out]
            simp [cellT]
          have hsz : ((((t ++ ⟨#[35]⟩) ++ ⟨#[124]⟩) ++ ⟨#[10]⟩) : ByteArray).size ≤ 4 * (k + 1) := by rw [sz_one, sz_one, sz_one]; omega
          clear HT
          go_wp2
          go_big_region
          go_wp2
          go_roundg (g.n - (k + 1))
          case measure => omega
          case rel => exact ⟨k + 1, _, by go_num, rfl, by omega, Nat.le_refl _, hsz, HC, Below.drew HB.out⟩
        · have HC : Aside (((((t ++ ⟨#[35]⟩) ++ ⟨#[124]⟩) ++ ⟨#[95]⟩) : ByteArray).data.toList = prB g (k + 1)) := by
            show _ = _
            rw [HCL.out, ba_cat2, ba_cat2, ba_cat2, HT.out]
            simp [cellT]
          have hsz : ((((t ++ ⟨#[35]⟩) ++ ⟨#[124]⟩) ++ ⟨#[95]⟩) : ByteArray).size ≤ 4 * (k + 1) := by rw [sz_one, sz_one, sz_one]; omega
          clear HT
          go_wp2
          go_big_region
          go_wp2
          go_roundg (g.n - (k + 1))
          case measure => omega
          case rel => exact ⟨k + 1, _, by go_num, rfl, by omega, Nat.le_refl _, hsz, HC, Below.drew HB.out⟩
        · have HC : Aside ((((((t ++ ⟨#[35]⟩) ++ ⟨#[124]⟩) ++ ⟨#[95]⟩) ++ ⟨#[10]⟩) : ByteArray).data.toList = prB g (k + 1)) := by
            show _ = _
            rw [HCL.out, ba_cat2, ba_cat2, ba_cat2, ba_cat2, HT.out]
            simp [cellT]
          have hsz : (((((t ++ ⟨#[35]⟩) ++ ⟨#[124]⟩) ++ ⟨#[95]⟩) ++ ⟨#[10]⟩) : ByteArray).size ≤ 4 * (k + 1) := by rw [sz_one, sz_one, sz_one, sz_one]; omega
          clear HT
          go_wp2
          go_big_region
          go_wp2
          go_roundg (g.n - (k + 1))
          case measure => omega
          case rel => exact ⟨k + 1, _, by go_num, rfl, by omega, Nat.le_refl _, hsz, HC, Below.drew HB.out⟩
      · have hltz : ¬ (k : Int) < (g.n : Int) := by omega
        obtain rfl : k = g.n := by omega
        clear R
        go_wp2
        go_ret2
        have e : t = ⟨(prB g g.n).toArray⟩ := by
          cases t with
          | mk d =>
            have := HT.out
            simp only at this
            rw [← this, Array.toArray_toList]
        rw [HP.out, ← e]
        exact ⟨rfl, HB1.out.trans (HB.out.mono HB1.out.size)⟩
  · have HP : Aside (prT g = []) := if_neg hok
    have hcb : ((g.chk : Int) != 0) = true := by rw [bne_iff_ne]; omega
    have hcb2 : g.chk ≤ 52 := by
      unfold Gr.chk
      repeat' split
      all_goals omega
    have HB0 : Aside (Below W.heap.size W (W.alloc (.cells #[.int .i64 g.h, .int .i64 g.w, .slice p.a1 g.B.length p.c1, .slice p.a2 g.R.length p.c2, .slice p.a3 g.D.length p.c3] 24))) := hb0
    generalize g.chk = ck at *
    go_enter Tryd.func21, Tryd.ntmps21
    obtain ⟨_, k0, k1, k2, k3, k4⟩ := hX0
    clear hok hb0 hR
    go_wp2_with fail
    refine cC.mono ?_
    rintro e w1 ⟨rfl, hb1⟩
    clear cC k0 k1 k2 k3 k4
    go_wp2
    go_ret2
    rw [HP.out]
    exact ⟨rfl, HB0.out.trans (hb1.mono HB0.out.size)⟩
end Go.Proofs.YtkkeoonglcfhnaaDoor.Skt
/-
  SketchWrites walked.
-/
namespace Go.Proofs.YtkkeoonglcfhnaaDoor.Skt
open Go Go.Lib Go.RowKit Utf Grd

set_option maxRecDepth 100000 in
set_option maxHeartbeats 4000000 in
theorem sketchWrites_walk (g : Gr) (p : Ad) (w : World) (hl : g.lenOk) (hR : RG w g p) (hp : p.nz) (hT : Lib.Utf8Tabs 2 3 w) (hw : Wy w) :
    Calls Tryd.prog 5 #[gv g p] w fun e w' => e = .returned (.bool true) ∧ Below w.heap.size w w' := by
  have HWB : Aside (∀ Z, Below w.heap.size w Z → Wy Z ∧ Lib.Utf8Tabs 2 3 Z) := fun Z hZ => ⟨hw.below hw.size hZ, tabs_below hZ (tabs_size hT) hT⟩
  have hb0 := below_box w (.cells #[.int .i64 g.h, .int .i64 g.w, .slice p.a1 g.B.length p.c1, .slice p.a2 g.R.length p.c2, .slice p.a3 g.D.length p.c3] 24)
  have cA := awake8_any _ (HWB.out _ hb0).2 (HWB.out _ hb0).1
  obtain ⟨i0, hi0, hz0, hz1, hz2⟩ := info_parts infoBool
  unfold gv
  have HG0 := Hs.new hR 24
  have HP : Aside (p.nz ∧ g.lenOk) := ⟨hp, hl⟩
  clear hR hp hl hT hw hb0
  go_enter Tryd.func5, Tryd.ntmps5
  go_wp2_with fail
  refine cA.mono ?_
  rintro e w1 ⟨rfl, hb1⟩
  have HG1 : Aside (Hs w1 w.heap.size g p) := HG0.keep hb1
  have HB1 : Aside (Below w.heap.size w w1) := (below_box w _).trans (hb1.mono (below_box w _).size)
  clear cA hb1 HG0
  go_wp2
  go_cut [3] from 13 to 29 (fun s3 wd => ∃ b q, s3 = .pointer (some ⟨b, 0, none⟩) ∧ Aside (Hs wd b g q ∧ Below w1.heap.size w1 wd))
  case first =>
    have hSS : ∀ W, Below w1.drew.heap.size w1.drew W → (W.cell? ⟨w.heap.size, 0, none⟩ = some (.int .i64 g.h) ∧ W.cell? ⟨w.heap.size, 1, none⟩ = some (.int .i64 g.w) ∧ W.cell? ⟨w.heap.size, 2, none⟩ = some (.slice p.a1 g.B.length p.c1) ∧ W.cell? ⟨w.heap.size, 3, none⟩ = some (.slice p.a2 g.R.length p.c2) ∧ W.cell? ⟨w.heap.size, 4, none⟩ = some (.slice p.a3 g.D.length p.c3)) := fun W h => by
      obtain ⟨_, k0, k1, k2, k3, k4⟩ := (HG1.out.keep (below_drew h)).bx
      exact ⟨k0, k1, k2, k3, k4⟩
    have hS0 := hSS w1.drew (Below.refl _ _)
    refine wp_region_held (S := fun W => W.cell? ⟨w.heap.size, 0, none⟩ = some (.int .i64 g.h) ∧ W.cell? ⟨w.heap.size, 1, none⟩ = some (.int .i64 g.w) ∧ W.cell? ⟨w.heap.size, 2, none⟩ = some (.slice p.a1 g.B.length p.c1) ∧ W.cell? ⟨w.heap.size, 3, none⟩ = some (.slice p.a2 g.R.length p.c2) ∧ W.cell? ⟨w.heap.size, 4, none⟩ = some (.slice p.a3 g.D.length p.c3)) (by kernel_rfl) ?_
    refine (show wpAnyH _ .any _ _ _ 19 (Array.replicate 19 false) _ w1.drew from ?_)
    refine takeD (i := 0) (d := 13) (v := .pointer (some ⟨w.heap.size, 0, none⟩)) rfl (by kernel_rfl) (by kernel_rfl) (by kernel_rfl) (fun _ _ _ h => h) (fun oi ho => yields_now ho rfl fun W hSw => ?_) hS0 ?_
    · obtain ⟨k0, k1, k2, k3, k4⟩ := hSw
      go_simp
    simp only [Act.put, List.setIfInBounds_toArray, List.set_cons_zero, List.set_cons_succ]
    refine takeD (i := 1) (d := 14) (v := .int .i64 g.h) rfl (by kernel_rfl) (by kernel_rfl) (by kernel_rfl) (fun _ _ _ h => h) (fun oi ho => yields_now ho rfl fun W hSw => ?_) hS0 ?_
    · obtain ⟨k0, k1, k2, k3, k4⟩ := hSw
      go_simp
    simp only [Act.put, List.setIfInBounds_toArray, List.set_cons_zero, List.set_cons_succ]
    refine takeD (i := 2) (d := 15) (v := .pointer (some ⟨w.heap.size, 1, none⟩)) rfl (by kernel_rfl) (by kernel_rfl) (by kernel_rfl) (fun _ _ _ h => h) (fun oi ho => yields_now ho rfl fun W hSw => ?_) hS0 ?_
    · obtain ⟨k0, k1, k2, k3, k4⟩ := hSw
      go_simp
    simp only [Act.put, List.setIfInBounds_toArray, List.set_cons_zero, List.set_cons_succ]
    refine takeD (i := 3) (d := 16) (v := .int .i64 g.w) rfl (by kernel_rfl) (by kernel_rfl) (by kernel_rfl) (fun _ _ _ h => h) (fun oi ho => yields_now ho rfl fun W hSw => ?_) hS0 ?_
    · obtain ⟨k0, k1, k2, k3, k4⟩ := hSw
      go_simp
    simp only [Act.put, List.setIfInBounds_toArray, List.set_cons_zero, List.set_cons_succ]
    refine takeD (i := 5) (d := 18) (v := .pointer (some ⟨w.heap.size, 2, none⟩)) rfl (by kernel_rfl) (by kernel_rfl) (by kernel_rfl) (fun _ _ _ h => h) (fun oi ho => yields_now ho rfl fun W hSw => ?_) hS0 ?_
    · obtain ⟨k0, k1, k2, k3, k4⟩ := hSw
      go_simp
    simp only [Act.put, List.setIfInBounds_toArray, List.set_cons_zero, List.set_cons_succ]
    refine takeD (i := 6) (d := 19) (v := .slice p.a1 g.B.length p.c1) rfl (by kernel_rfl) (by kernel_rfl) (by kernel_rfl) (fun _ _ _ h => h) (fun oi ho => yields_now ho rfl fun W hSw => ?_) hS0 ?_
    · obtain ⟨k0, k1, k2, k3, k4⟩ := hSw
      go_simp
    simp only [Act.put, List.setIfInBounds_toArray, List.set_cons_zero, List.set_cons_succ]
    refine takeD (i := 9) (d := 22) (v := .pointer (some ⟨w.heap.size, 3, none⟩)) rfl (by kernel_rfl) (by kernel_rfl) (by kernel_rfl) (fun _ _ _ h => h) (fun oi ho => yields_now ho rfl fun W hSw => ?_) hS0 ?_
    · obtain ⟨k0, k1, k2, k3, k4⟩ := hSw
      go_simp
    simp only [Act.put, List.setIfInBounds_toArray, List.set_cons_zero, List.set_cons_succ]
    refine takeD (i := 10) (d := 23) (v := .slice p.a2 g.R.length p.c2) rfl (by kernel_rfl) (by kernel_rfl) (by kernel_rfl) (fun _ _ _ h => h) (fun oi ho => yields_now ho rfl fun W hSw => ?_) hS0 ?_
    · obtain ⟨k0, k1, k2, k3, k4⟩ := hSw
      go_simp
    simp only [Act.put, List.setIfInBounds_toArray, List.set_cons_zero, List.set_cons_succ]
    refine takeD (i := 13) (d := 26) (v := .pointer (some ⟨w.heap.size, 4, none⟩)) rfl (by kernel_rfl) (by kernel_rfl) (by kernel_rfl) (fun _ _ _ h => h) (fun oi ho => yields_now ho rfl fun W hSw => ?_) hS0 ?_
    · obtain ⟨k0, k1, k2, k3, k4⟩ := hSw
      go_simp
    simp only [Act.put, List.setIfInBounds_toArray, List.set_cons_zero, List.set_cons_succ]
    refine takeD (i := 14) (d := 27) (v := .slice p.a3 g.D.length p.c3) rfl (by kernel_rfl) (by kernel_rfl) (by kernel_rfl) (fun _ _ _ h => h) (fun oi ho => yields_now ho rfl fun W hSw => ?_) hS0 ?_
    · obtain ⟨k0, k1, k2, k3, k4⟩ := hSw
      go_simp
    simp only [Act.put, List.setIfInBounds_toArray, List.set_cons_zero, List.set_cons_succ]
    have HN := HP.out.1
    refine apps_any (w0 := w1.drew) i0 hi0 hz0 hz1 hz2 rfl rfl rfl rfl rfl rfl rfl ⟨rfl, rfl⟩ ⟨rfl, rfl⟩ ⟨rfl, rfl⟩ ⟨rfl, rfl⟩ ⟨rfl, rfl⟩ ⟨rfl, rfl⟩ ⟨rfl, rfl⟩ ?b4 ?b8 ?b12 ?b17 rfl rfl rfl (by simp) (by kernel_rfl) g.B g.R g.D p.a1 p.a2 p.a3 p.c1 p.c2 p.c3 rfl rfl rfl ?n1 ?n2 ?n3 ?l1 ?l2 ?l3 ?r1 ?r2 ?r3 hSS ?hfin 7 ⟨false, false, false, false, false, false, false⟩ ⟨undef, undef, undef, undef, undef, undef, undef⟩ w1.drew rfl ?kp
    case b4 => intro ev W; go_simp
    case b8 => intro ev W; go_simp
    case b12 => intro ev W; go_simp
    case b17 => intro ev W; go_simp
    case n1 => exact HN.1
    case n2 => exact HN.2.1
    case n3 => exact HN.2.2
    case l1 => exact HP.out.2.1
    case l2 => exact HP.out.2.2.1
    case l3 => exact HP.out.2.2.2
    case r1 => exact (HG1.out.rg.b.below (Below.drew (Below.refl _ _)))
    case r2 => exact (HG1.out.rg.r.below (Below.drew (Below.refl _ _)))
    case r3 => exact (HG1.out.rg.d.below (Below.drew (Below.refl _ _)))
    case kp => exact ⟨rfl, Below.refl _ _, (fun h => nomatch h), (fun h => nomatch h), (fun h => nomatch h), (fun h => nomatch h), (fun h => nomatch h), (fun h => nomatch h), (fun h => nomatch h)⟩
    case hfin =>
      intro V W c hk
      obtain ⟨V1, V2, V3, V4, V5, V6, V7⟩ := V
      obtain ⟨q1, d1, e1, t1⟩ := hk.v1 rfl
      obtain ⟨q2, d2, e2, t2⟩ := hk.v2 rfl
      obtain ⟨q3, d3, e3, t3⟩ := hk.v3 rfl
      have hbw := hk.bw
      dsimp only at e1 e2 e3
      subst e1 e2 e3
      have hSW := hSS W hbw
      cases c with
      | true =>
        obtain ⟨b, e4, hlb, hF⟩ := hk.c rfl
        dsimp only at e4
        subst e4
        clear hk
        refine (show wpAnyH _ .any _ _ _ 2 _ _ W from ?_)
        simp only [Fl.act, puti, if_true, Act.put, Fl.L, List.setIfInBounds_toArray, List.set_cons_zero, List.set_cons_succ]
        refine takeD (i := 16) (d := 29) (v := .agg #[.int .i64 g.h, .int .i64 g.w, .slice q1 g.B.length d1, .slice q2 g.R.length d2, .slice q3 g.D.length d3]) rfl (by kernel_rfl) (by kernel_rfl) (by kernel_rfl) (fun _ _ _ h => h) (fun oi ho => yields_now ho rfl fun W hSw => ?_) hSW ?_
        · go_simp
        simp only [Act.put, List.setIfInBounds_toArray, List.set_cons_zero, List.set_cons_succ]
        refine wpAnyH_all (rs := [18]) (by kernel_rfl) (by simp) (fun i hi => ?_)
        obtain rfl := List.mem_singleton.1 hi
        have z0 := hF.c0
        have z1 := hF.c1
        have z2 := hF.c2
        have z3 := hF.c3
        have z4 := hF.c4
        have f0 := hF.fr 0
        have f1 := hF.fr 1
        have f2 := hF.fr 2
        have f3 := hF.fr 3
        have f4 := hF.fr 4
        have hB5 := Below.all hbw hlb hbw.size (.int .i64 g.h) (.int .i64 g.w) (.slice q1 g.B.length d1) (.slice q2 g.R.length d2) (.slice q3 g.D.length d3)
        refine wpOp_skip (w' := st5 W b (.int .i64 g.h) (.int .i64 g.w) (.slice q1 g.B.length d1) (.slice q2 g.R.length d2) (.slice q3 g.D.length d3)) rfl rfl rfl ?_ ⟨hSS _ hB5, wpAnyH_done (by kernel_rfl) ?_ _⟩
        · unfold st5
          go_simp
        refine ‹∀ (a' : Act) (w' : World), Met _ a' w' → _› _ _ ?_
        have HE : Aside (Hs (st5 W b (.int .i64 g.h) (.int .i64 g.w) (.slice q1 g.B.length d1) (.slice q2 g.R.length d2) (.slice q3 g.D.length d3)) b g ⟨q1, d1, q2, d2, q3, d3⟩ ∧ Below w1.heap.size w1 (st5 W b (.int .i64 g.h) (.int .i64 g.w) (.slice q1 g.B.length d1) (.slice q2 g.R.length d2) (.slice q3 g.D.length d3))) := ⟨Hs.made (p := ⟨q1, d1, q2, d2, q3, d3⟩) ⟨t1, t2, t3⟩ hF, below_drew hB5⟩
        go_meet
        exact ⟨_, ⟨q1, d1, q2, d2, q3, d3⟩, rfl, HE⟩
      | false =>
        clear hk
        refine (show wpAnyH _ .any _ _ _ 3 _ _ W from ?_)
        simp only [Fl.act, puti, if_true, Bool.false_eq_true, if_false, Act.put, Fl.L, List.setIfInBounds_toArray, List.set_cons_zero, List.set_cons_succ]
        refine takeD (i := 16) (d := 29) (v := .agg #[.int .i64 g.h, .int .i64 g.w, .slice q1 g.B.length d1, .slice q2 g.R.length d2, .slice q3 g.D.length d3]) rfl (by kernel_rfl) (by kernel_rfl) (by kernel_rfl) (fun _ _ _ h => h) (fun oi ho => yields_now ho rfl fun W hSw => ?_) hSW ?_
        · go_simp
        simp only [Act.put, List.setIfInBounds_toArray, List.set_cons_zero, List.set_cons_succ]
        refine wpAnyH_all (rs := [17]) (by kernel_rfl) (by simp) (fun i hi => ?_)
        obtain rfl := List.mem_singleton.1 hi
        have hbx := below_box W (.cells #[.int .i64 0, .int .i64 0, .slice none 0 0, .slice none 0 0, .slice none 0 0] 24)
        have hbw2 := hbw.trans (hbx.mono hbw.size)
        have hlb := hbw.size
        have hF : Five (W.alloc (.cells #[.int .i64 0, .int .i64 0, .slice none 0 0, .slice none 0 0, .slice none 0 0] 24)) W.heap.size (.int .i64 0) (.int .i64 0) (.slice none 0 0) (.slice none 0 0) (.slice none 0 0) := ⟨hp_at rfl⟩
        refine wpOp_val (v := .pointer (some ⟨W.heap.size, 0, none⟩)) (w' := W.alloc (.cells #[.int .i64 0, .int .i64 0, .slice none 0 0, .slice none 0 0, .slice none 0 0] 24)) rfl rfl ?_ ⟨hSS _ hbw2, ?_⟩
        · go_simp
        simp only [Act.put, List.setIfInBounds_toArray, List.set_cons_zero, List.set_cons_succ]
        have u1 := t1.below hbx
        have u2 := t2.below hbx
        have u3 := t3.below hbx
        generalize W.alloc (.cells #[.int .i64 0, .int .i64 0, .slice none 0 0, .slice none 0 0, .slice none 0 0] 24) = W2 at *
        generalize W.heap.size = b at *
        refine wpAnyH_all (rs := [18]) (by kernel_rfl) (by simp) (fun i hi => ?_)
        obtain rfl := List.mem_singleton.1 hi
        have z0 := hF.c0
        have z1 := hF.c1
        have z2 := hF.c2
        have z3 := hF.c3
        have z4 := hF.c4
        have f0 := hF.fr 0
        have f1 := hF.fr 1
        have f2 := hF.fr 2
        have f3 := hF.fr 3
        have f4 := hF.fr 4
        have hB5 := Below.all hbw2 hlb hbw2.size (.int .i64 g.h) (.int .i64 g.w) (.slice q1 g.B.length d1) (.slice q2 g.R.length d2) (.slice q3 g.D.length d3)
        refine wpOp_skip (w' := st5 W2 b (.int .i64 g.h) (.int .i64 g.w) (.slice q1 g.B.length d1) (.slice q2 g.R.length d2) (.slice q3 g.D.length d3)) rfl rfl rfl ?_ ⟨hSS _ hB5, wpAnyH_done (by kernel_rfl) ?_ _⟩
        · unfold st5
          go_simp
        refine ‹∀ (a' : Act) (w' : World), Met _ a' w' → _› _ _ ?_
        have HE : Aside (Hs (st5 W2 b (.int .i64 g.h) (.int .i64 g.w) (.slice q1 g.B.length d1) (.slice q2 g.R.length d2) (.slice q3 g.D.length d3)) b g ⟨q1, d1, q2, d2, q3, d3⟩ ∧ Below w1.heap.size w1 (st5 W2 b (.int .i64 g.h) (.int .i64 g.w) (.slice q1 g.B.length d1) (.slice q2 g.R.length d2) (.slice q3 g.D.length d3))) := ⟨Hs.made (p := ⟨q1, d1, q2, d2, q3, d3⟩) ⟨u1, u2, u3⟩ hF, below_drew hB5⟩
        go_meet
        exact ⟨_, ⟨q1, d1, q2, d2, q3, d3⟩, rfl, HE⟩
  case rest =>
  clear i0 hi0 hz0 hz1 hz2
  rename World => w2
  obtain ⟨b, q, rfl, HE⟩ := hcut
  have HB2 : Aside (Below w.heap.size w w2) := HB1.out.trans (HE.out.2.mono HB1.out.size)
  have HG2 : Aside (Hs w2 w.heap.size g p) := HG1.out.keep HE.out.2
  have HI2 : Aside (Hs w2 b g q) := HE.out.1
  clear HE HG1 HB1
  obtain ⟨⟨_, k0, k1, k2, k3, k4⟩, _⟩ := HI2.out
  have cL := print_any g q w2 (HWB.out w2 HB2.out).1 HI2.out.rg
  unfold gv at cL
  go_wp2_with fail
  refine cL.mono ?_
  rintro e w3 ⟨rfl, hb3⟩
  have HB3 : Aside (Below w.heap.size w w3) := HB2.out.trans (hb3.mono HB2.out.size)
  have HG3 : Aside (Hs w3 w.heap.size g p) := HG2.out.keep hb3
  have HI3 : Aside (Hs w3 b g q) := HI2.out.keep hb3
  clear cL hb3 k0 k1 k2 k3 k4 HG2 HI2
  obtain ⟨⟨_, k0, k1, k2, k3, k4⟩, _⟩ := HG3.out
  have cL := refPrint_any g p w3 HG3.out.rg
  unfold gv at cL
  go_wp2_with fail
  refine cL.mono ?_
  rintro e w4 ⟨rfl, hb4⟩
  have HB4 : Aside (Below w.heap.size w w4) := HB3.out.trans (hb4.mono HB3.out.size)
  have HG4 : Aside (Hs w4 w.heap.size g p) := HG3.out.keep hb4
  have HI4 : Aside (Hs w4 b g q) := HI3.out.keep hb4
  clear cL hb4 k0 k1 k2 k3 k4 HG3 HI3
  obtain ⟨⟨_, k0, k1, k2, k3, k4⟩, _⟩ := HG4.out
  obtain ⟨⟨_, j0, j1, j2, j3, j4⟩, _⟩ := HI4.out
  have cS := refSame_any g g q p w4 HP.out.2 HI4.out.rg HG4.out.rg
  rw [Gr.same_refl] at cS
  unfold gv at cS
  have hck : g.chk ≤ 52 := by
    unfold Gr.chk
    repeat' split
    all_goals omega
  have HT : Aside (∀ _ : g.chk = 0, prs ⟨(prT g).toArray⟩ = (g, 0, 0) ∧ (ByteArray.mk (prT g).toArray).size ≤ 140737488355328) := fun hG => ⟨prs_draw hG (by simp), by
    have h1 := prT_len g
    have h2 := (Gr.right_of (g := g) hG).sz.n_le
    show (prT g).toArray.size ≤ _
    rw [List.size_toArray]
    omega⟩
  go_wp2_with fail
  refine cS.mono ?_
  rintro e w5 ⟨rfl, hb5⟩
  have HB5 : Aside (Below w.heap.size w w5) := HB4.out.trans (hb5.mono HB4.out.size)
  have HG5 : Aside (Hs w5 w.heap.size g p) := HG4.out.keep hb5
  clear cS hb5 k0 k1 k2 k3 k4 j0 j1 j2 j3 j4 HG4 HI4
  by_cases hc : g.chk = 0
  · have HC : Aside (g.chk = 0) := hc
    obtain ⟨ht1, ht2⟩ := HT.out hc
    have cP := parse_any ⟨(prT g).toArray⟩ w5 (HWB.out w5 HB5.out).2 (HWB.out w5 HB5.out).1 ht2
    rw [ht1] at cP
    rw [hc]
    clear hc hck ht1 ht2
    go_wp2_with fail
    refine cP.mono ?_
    rintro e w6 ⟨r, rfl, hR6, hb6⟩
    have HB6 : Aside (Below w.heap.size w w6) := HB5.out.trans (hb6.mono HB5.out.size)
    have HG6 : Aside (Hs w6 w.heap.size g p) := HG5.out.keep hb6
    have HR6 : Aside (RG w6 g r) := hR6
    clear cP hb6 hR6 HG5
    unfold gv
    have hby := below_box w6 (.cells #[.int .i64 g.h, .int .i64 g.w, .slice r.a1 g.B.length r.c1, .slice r.a2 g.R.length r.c2, .slice r.a3 g.D.length r.c3] 24)
    have HB7 : Aside (Below w.heap.size w (w6.alloc (.cells #[.int .i64 g.h, .int .i64 g.w, .slice r.a1 g.B.length r.c1, .slice r.a2 g.R.length r.c2, .slice r.a3 g.D.length r.c3] 24))) := HB6.out.trans (hby.mono HB6.out.size)
    obtain ⟨_, k0, k1, k2, k3, k4⟩ := (HG6.out.keep hby).bx
    obtain ⟨_, j0, j1, j2, j3, j4⟩ := Bx.new w6 g r 24
    have cS := refSame_any g g r p _ HP.out.2 (HR6.out.below hby) (HG6.out.keep hby).rg
    rw [Gr.same_refl] at cS
    unfold gv at cS
    clear hby
    go_wp2_with fail
    refine cS.mono ?_
    rintro e w7 ⟨rfl, hb7⟩
    have HBZ : Aside (Below w.heap.size w w7) := HB7.out.trans (hb7.mono HB7.out.size)
    clear cS hb7 k0 k1 k2 k3 k4 j0 j1 j2 j3 j4
    go_wp2
    go_ret
    exact ⟨rfl, HBZ.out⟩
  · have hcb : ((g.chk : Int) != 0) = true := by rw [bne_iff_ne]; omega
    generalize g.chk = ck at *
    go_wp2_with fail
    go_ret
    exact ⟨rfl, HB5.out⟩
end Go.Proofs.YtkkeoonglcfhnaaDoor.Skt
