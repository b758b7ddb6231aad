/-
  Layer 6: slices.CompareFunc at trueFirst, isLess.
-/
import Derived.Test.YtgpnnnhhidbajaaDoorTrns
import Derived.Test.YtgpnnnhhidbajaaDoorTrnc
namespace Go.Proofs.YtgpnnnhhidbajaaDoor.Grd
open Go Go.Lib Go.RowKit

/-- The list that has true at the first unlike place is less. -/
def ordL : List Bool → List Bool → Int
  | a :: x, b :: y => if a = b then ordL x y else if a then -1 else 1
  | _, _ => 0
theorem bt_cons (a : Bool) (x : List Bool) (i : Nat) : bt (a :: x) (i + 1) = bt x i := rfl
theorem ordL_diff : ∀ (i : Nat) (x y : List Bool), i < x.length → i < y.length → (∀ j, j < i → bt x j = bt y j) → bt x i ≠ bt y i → ordL x y = if bt x i then -1 else 1
  | _, [], _, h, _, _, _ => by simp at h
  | _, _ :: _, [], _, h, _, _ => by simp at h
  | 0, a :: x, b :: y, _, _, _, hne => by
    have hn : ¬ a = b := hne
    unfold ordL
    rw [if_neg hn]
    rfl
  | i + 1, a :: x, b :: y, h1, h2, hp, hne => by
    have h0 : a = b := hp 0 (by omega)
    unfold ordL
    rw [if_pos h0]
    have := ordL_diff i x y (by simpa using h1) (by simpa using h2) (fun j hj => hp (j + 1) (by omega)) hne
    rw [this]
    rfl
theorem ordL_same : ∀ (x y : List Bool), x.length = y.length → (∀ j, j < x.length → bt x j = bt y j) → ordL x y = 0
  | [], [], _, _ => rfl
  | [], _ :: _, h, _ => by simp at h
  | _ :: _, [], h, _ => by simp at h
  | a :: x, b :: y, hl, hp => by
    have h0 : a = b := hp 0 (by simp)
    unfold ordL
    rw [if_pos h0]
    exact ordL_same x y (by simpa using hl) (fun j hj => hp (j + 1) (by simpa using hj))
theorem ordL_range (x y : List Bool) : ordL x y = -1 ∨ ordL x y = 0 ∨ ordL x y = 1 := by
  induction x generalizing y with
  | nil => exact .inr (.inl rfl)
  | cons a x ih =>
    cases y with
    | nil => exact .inr (.inl rfl)
    | cons b y =>
      unfold ordL
      by_cases h : a = b
      · rw [if_pos h]; exact ih y
      · rw [if_neg h]
        cases a
        · exact .inr (.inr rfl)
        · exact .inl rfl
theorem ltL_cons (a b : Nat) (l l' : List Nat) : ltL (a :: l) (b :: l') = if a = b then ltL l l' else decide (a < b) := rfl
theorem ordL_cons (a b : Bool) (x y : List Bool) : ordL (a :: x) (b :: y) = if a = b then ordL x y else if a then -1 else 1 := rfl
theorem ltL_zo : ∀ (x y : List Bool) (u v : List Nat), x.length = y.length → ltL (zo x ++ u) (zo y ++ v) = if ordL x y = 0 then ltL u v else decide (ordL x y < 0)
  | [], [], u, v, _ => rfl
  | [], _ :: _, _, _, h => by simp at h
  | _ :: _, [], _, _, h => by simp at h
  | a :: x, b :: y, u, v, hl => by
    have ih := ltL_zo x y u v (by simpa using hl)
    show ltL ((if a then 0 else 1) :: (zo x ++ u)) ((if b then 0 else 1) :: (zo y ++ v)) = _
    rw [ltL_cons, ordL_cons]
    by_cases h : a = b
    · subst h
      rw [if_pos rfl, if_pos (rfl : a = a)]
      exact ih
    · rw [if_neg h]
      cases a <;> cases b
      · exact absurd rfl h
      · rfl
      · rfl
      · exact absurd rfl h
def ord3 (a b : Gr) : Int := if ordL a.B b.B = 0 then (if ordL a.R b.R = 0 then ordL a.D b.D else ordL a.R b.R) else ordL a.B b.B
theorem Gr.less_eq {a b : Gr} (ha : a.Right) (hb : b.Right) (hn : a.n = b.n) : a.less b = if a.h = b.h then decide (ord3 a b < 0) else decide (a.h < b.h) := by
  have h1 := ha.sh
  have h2 := hb.sh
  unfold Gr.less Gr.key ltL
  by_cases e : a.h = b.h
  · have eH : a.H = b.H := by omega
    have eW : a.W = b.W := by
      unfold Gr.n at hn
      rw [eH] at hn
      exact Nat.eq_of_mul_eq_mul_left (by omega) hn
    rw [if_pos e, if_pos eH]
    unfold ltL
    rw [if_pos eW]
    have ez : ∀ g : Gr, zo (g.B ++ g.R ++ g.D) = zo g.B ++ (zo g.R ++ (zo g.D ++ [])) := fun g => by simp [zo]
    rw [ez a, ez b, ltL_zo _ _ _ _ (by rw [ha.bl, hb.bl, hn]), ltL_zo _ _ _ _ (by rw [ha.rl, hb.rl, hn]), ltL_zo _ _ _ _ (by rw [ha.dl, hb.dl, hn])]
    unfold ord3
    by_cases q1 : ordL a.B b.B = 0
    · rw [if_pos q1, if_pos q1]
      by_cases q2 : ordL a.R b.R = 0
      · rw [if_pos q2, if_pos q2]
        by_cases q3 : ordL a.D b.D = 0
        · rw [if_pos q3, q3]; rfl
        · rw [if_neg q3]
      · rw [if_neg q2, if_neg q2]
    · rw [if_neg q1, if_neg q1]
  · have eH : ¬ a.H = b.H := by omega
    rw [if_neg e, if_neg eH]
    apply decide_eq_decide.2
    omega

theorem trueFirst_any (a b : Bool) (w : World) :
    Calls Tryd.prog 43 #[.bool a, .bool b] w fun e w' => e = .returned (.int .i64 (if a = b then 0 else if a then -1 else 1)) ∧ w' = w := by
  go_enter Tryd.func43, Tryd.ntmps43
  cases a <;> cases b
  all_goals (go_wp2; go_ret; exact ⟨rfl, rfl⟩)

set_option maxHeartbeats 1000000 in
theorem compare_some (x y : List Bool) (b1 o1 b2 o2 c1 c2 : Nat) (w : World) (hl : x.length = y.length) (hn : x.length ≤ 256) (h1 : ∀ i, i < x.length → w.cell? ⟨b1, o1 + i, none⟩ = some (.bool (bt x i))) (h2 : ∀ i, i < x.length → w.cell? ⟨b2, o2 + i, none⟩ = some (.bool (bt y i))) :
    Calls Tryd.prog 42 #[.slice (some ⟨b1, o1, none⟩) x.length c1, .slice (some ⟨b2, o2, none⟩) y.length c2, .func (.func 43) #[] #[]] w fun e w' => e = .returned (.int .i64 (ordL x y)) ∧ w' = w := by
  have CF : Aside (∀ a b, Calls Tryd.prog 43 #[.bool a, .bool b] w fun e w' => e = .returned (.int .i64 (if a = b then 0 else if a then -1 else 1)) ∧ w' = w) := fun a b => trueFirst_any a b w
  have HR : Aside (∀ i, i < x.length → w.cell? ⟨b1, o1 + i, none⟩ = some (.bool (bt x i)) ∧ w.cell? ⟨b2, o2 + i, none⟩ = some (.bool (bt y i))) := fun i hi => ⟨h1 i hi, h2 i hi⟩
  have HD : Aside (∀ i, i < x.length → (∀ j, j < i → bt x j = bt y j) → bt x i ≠ bt y i → ordL x y = if bt x i then -1 else 1) := fun i hi hp hne => ordL_diff i x y hi (by omega) hp hne
  have HS : Aside ((∀ j, j < x.length → bt x j = bt y j) → ordL x y = 0) := fun h => ordL_same x y hl h
  rw [← hl]
  generalize x.length = n at *
  clear h1 h2 hl
  go_enter Tryd.func42, Tryd.ntmps42
  go_wp2
  go_loopg [13] n (fun g1 iv wr => ∃ i : Nat, iv = .int .i64 (i : Int) ∧ i ≤ n ∧ n - i ≤ g1 ∧ Aside (∀ j, j < i → bt x j = bt y j) ∧ wr = w)
  case atStart => exact ⟨0, rfl, Nat.zero_le _, Nat.le_refl _, (fun j hj => absurd hj (Nat.not_lt_zero j)), rfl⟩
  case round =>
    obtain ⟨i, rfl, hi, hg, HP, rfl⟩ := hrel
    by_cases hlt : i < n
    · have hltz : (i : Int) < (n : Int) := by omega
      obtain ⟨c1', c2'⟩ := HR.out i hlt
      have cF := CF.out (bt x i) (bt y i)
      by_cases he : bt x i = bt y i
      · rw [if_pos he] at cF
        have HP2 : Aside (∀ j, j < i + 1 → bt x j = bt y j) := fun j hj => by
          by_cases e : j = i
          · rw [e]; exact he
          · exact HP.out j (by omega)
        generalize bt x i = p at *
        generalize bt y i = q at *
        clear he
        go_wp2_with fail
        refine cF.mono ?_
        rintro e wT ⟨rfl, hwT⟩
        obtain rfl := hwT.symm
        clear hwT cF
        go_wp2
        go_roundg (n - (i + 1))
        case measure => omega
        case rel => exact ⟨i + 1, by go_num, by omega, Nat.le_refl _, HP2, rfl⟩
      · rw [if_neg he] at cF
        have HE : Aside (ordL x y = if bt x i then -1 else 1) := HD.out i hlt HP.out he
        clear he
        cases hx : bt x i with
        | false =>
          rw [hx] at cF c1' HE
          generalize bt y i = q at *
          clear hx
          simp only [Bool.false_eq_true, if_false] at cF
          go_wp2_with fail
          refine cF.mono ?_
          rintro e wT ⟨rfl, hwT⟩
          obtain rfl := hwT.symm
          clear hwT cF
          go_wp2
          go_ret
          refine ⟨?_, rfl⟩
          rw [HE.out]
          rfl
        | true =>
          rw [hx] at cF c1' HE
          generalize bt y i = q at *
          clear hx
          simp only [if_true] at cF
          go_wp2_with fail
          refine cF.mono ?_
          rintro e wT ⟨rfl, hwT⟩
          obtain rfl := hwT.symm
          clear hwT cF
          go_wp2
          go_ret
          refine ⟨?_, rfl⟩
          rw [HE.out]
          rfl
    · have hltz : ¬ (i : Int) < (n : Int) := by omega
      have HE : Aside (ordL x y = 0) := HS.out fun j hj => HP.out j (by omega)
      go_wp2
      go_ret
      refine ⟨?_, rfl⟩
      rw [HE.out]
      rfl
/-- CompareFunc of two lists as long as each other, somewhere. -/
theorem compare_any (x y : List Bool) (a1 a2 : Option Addr) (c1 c2 : Nat) (w : World) (hl : x.length = y.length) (hp : 0 < x.length) (hn : x.length ≤ 256) (h1 : ReadsB w a1 x) (h2 : ReadsB w a2 y) :
    Calls Tryd.prog 42 #[.slice a1 x.length c1, .slice a2 y.length c2, .func (.func 43) #[] #[]] w fun e w' => e = .returned (.int .i64 (ordL x y)) ∧ w' = w := by
  obtain ⟨b1, o1, rfl, _, _⟩ := h1 0 hp
  obtain ⟨b2, o2, rfl, _, _⟩ := h2 0 (by omega)
  refine compare_some x y b1 o1 b2 o2 c1 c2 w hl hn (fun i hi => ?_) (fun i hi => ?_)
  · obtain ⟨b, o, e, _, hc⟩ := h1 i hi
    simp only [Option.some.injEq, Addr.mk.injEq, and_true] at e
    obtain ⟨rfl, rfl⟩ := e
    exact hc
  · obtain ⟨b, o, e, _, hc⟩ := h2 i (by omega)
    simp only [Option.some.injEq, Addr.mk.injEq, and_true] at e
    obtain ⟨rfl, rfl⟩ := e
    exact hc

set_option maxHeartbeats 2000000 in
theorem isLess_any (a b : Gr) (p q : Ad) (w : World) (ha : a.Right) (hb : b.Right) (hn : a.n = b.n) (hR : RG w a p) (hS : RG w b q) :
    Calls Tryd.prog 29 #[gv a p, gv b q] w fun e w' => e = .returned (.bool (a.less b)) ∧ Below w.heap.size w w' := by
  have hn1 := ha.n_le
  have C1 : Aside (∀ W, Below w.heap.size w W → Calls Tryd.prog 42 #[.slice p.a1 a.B.length p.c1, .slice q.a1 b.B.length q.c1, .func (.func 43) #[] #[]] W fun e w' => e = .returned (.int .i64 (ordL a.B b.B)) ∧ w' = W) := fun W h => compare_any a.B b.B p.a1 q.a1 p.c1 q.c1 W (by rw [ha.bl, hb.bl, hn]) (by rw [ha.bl]; omega) (by rw [ha.bl]; omega) (hR.b.below h) (hS.b.below h)
  have C2 : Aside (∀ W, Below w.heap.size w W → Calls Tryd.prog 42 #[.slice p.a2 a.R.length p.c2, .slice q.a2 b.R.length q.c2, .func (.func 43) #[] #[]] W fun e w' => e = .returned (.int .i64 (ordL a.R b.R)) ∧ w' = W) := fun W h => compare_any a.R b.R p.a2 q.a2 p.c2 q.c2 W (by rw [ha.rl, hb.rl, hn]) (by rw [ha.rl]; omega) (by rw [ha.rl]; omega) (hR.r.below h) (hS.r.below h)
  have C3 : Aside (∀ W, Below w.heap.size w W → Calls Tryd.prog 42 #[.slice p.a3 a.D.length p.c3, .slice q.a3 b.D.length q.c3, .func (.func 43) #[] #[]] W fun e w' => e = .returned (.int .i64 (ordL a.D b.D)) ∧ w' = W) := fun W h => compare_any a.D b.D p.a3 q.a3 p.c3 q.c3 W (by rw [ha.dl, hb.dl, hn]) (by rw [ha.dl]; omega) (by rw [ha.dl]; omega) (hR.d.below h) (hS.d.below h)
  rw [Gr.less_eq ha hb hn]
  unfold ord3
  have r1 := ordL_range a.B b.B
  have r2 := ordL_range a.R b.R
  have r3 := ordL_range a.D b.D
  have HX : Aside (Below w.heap.size w ((w.alloc (.cells #[.int .i64 a.h, .int .i64 a.w, .slice p.a1 a.B.length p.c1, .slice p.a2 a.R.length p.c2, .slice p.a3 a.D.length p.c3] 24)).alloc (.cells #[.int .i64 b.h, .int .i64 b.w, .slice q.a1 b.B.length q.c1, .slice q.a2 b.R.length q.c2, .slice q.a3 b.D.length q.c3] 24))) := (below_box w _).alloc (below_box w _).size _
  unfold gv
  clear hR hS ha hb hn
  generalize ordL a.B b.B = x1 at *
  generalize ordL a.R b.R = x2 at *
  generalize ordL a.D b.D = x3 at *
  have cA := C1.out _ HX.out
  have cB := C2.out _ HX.out
  have cC := C3.out _ HX.out
  clear C1 C2 C3
  by_cases hh : a.h = b.h
  · rw [if_pos hh]
    generalize a.h = ah at *
    generalize b.h = bh at *
    subst hh
    by_cases q1 : x1 = 0
    · rw [if_pos q1]
      subst q1
      by_cases q2 : x2 = 0
      · rw [if_pos q2]
        subst q2
        go_enter Tryd.func29, Tryd.ntmps29
        go_wp2_with fail
        refine cA.mono ?_
        rintro e wT ⟨rfl, hwT⟩
        obtain rfl := hwT.symm
        clear hwT
        go_wp2_with fail
        refine cB.mono ?_
        rintro e wT ⟨rfl, hwT⟩
        obtain rfl := hwT.symm
        clear hwT
        go_wp2_with fail
        refine cC.mono ?_
        rintro e wT ⟨rfl, hwT⟩
        obtain rfl := hwT.symm
        clear hwT
        clear cA cB cC
        go_wp2
        go_ret
        exact ⟨rfl, HX.out⟩
      · rw [if_neg q2]
        go_enter Tryd.func29, Tryd.ntmps29
        go_wp2_with fail
        refine cA.mono ?_
        rintro e wT ⟨rfl, hwT⟩
        obtain rfl := hwT.symm
        clear hwT
        go_wp2_with fail
        refine cB.mono ?_
        rintro e wT ⟨rfl, hwT⟩
        obtain rfl := hwT.symm
        clear hwT
        clear cA cB cC
        go_wp2
        go_ret
        exact ⟨rfl, HX.out⟩
    · rw [if_neg q1]
      go_enter Tryd.func29, Tryd.ntmps29
      go_wp2_with fail
      refine cA.mono ?_
      rintro e wT ⟨rfl, hwT⟩
      obtain rfl := hwT.symm
      clear hwT
      clear cA cB cC
      go_wp2
      go_ret
      exact ⟨rfl, HX.out⟩
  · rw [if_neg hh]
    go_enter Tryd.func29, Tryd.ntmps29
    clear cA cB cC
    go_wp2
    go_ret
    exact ⟨rfl, HX.out⟩
end Go.Proofs.YtgpnnnhhidbajaaDoor.Grd
