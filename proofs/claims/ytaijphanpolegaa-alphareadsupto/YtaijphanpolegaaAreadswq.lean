/-
  The law on Split, Ways and the first ways walked: for every list of up to 1048576 texts of up to 1048576 bytes and every text of up to 1048576 bytes it answers true.
-/
import Derived.Test.YtaijphanpolegaaReaq
import Derived.Test.YtaijphanpolegaaRgeq
import Derived.Test.YtaijphanpolegaaAwk3q
import Derived.Test.YtaijphanpolegaaRnwq
namespace Go.Proofs.Ytaijphanpolegaa.Utf
open Go Go.Lib Go.RowKit Go.Shelf
attribute [local go_sem] Oper.semAt_some

/-- What the loop over the first ways keeps: how many came. -/
structure RdSt (W9 : World) (Ib : Nat) (O : Nat → Prop) (pre : List (List Nat)) (W : World) : Prop where
  els : Els (fun k => k = Ib) W9 W
  lo : ∀ k, O k → W9.heap.size ≤ k
  box : Boxed W Ib 3 (.int .i64 (pre.length : Int))
  lt : pre.length < 40
theorem RdSt.next {W9 : World} {Ib : Nat} (hQ : Ib < W9.heap.size) {O O' : Nat → Prop} {pre : List (List Nat)} {W1 W2 : World} (h : RdSt W9 Ib O pre W1) (he : Els (fun k => O k ∨ k = W9.heap.size ∨ k = W9.heap.size + 1) W1 W2) (ho : ∀ k, O' k → O k ∨ (W1.heap.size ≤ k ∧ k < W2.heap.size)) : RdSt W9 Ib O' pre W2 := by
  obtain ⟨h1, h2, h3, h4⟩ := h
  have hs1 := h1.size
  refine ⟨h1.trans_new he ?_, fun k hk => ?_, he.boxed h3 ?_, h4⟩
  · rintro i hi (h | h | h)
    · have := h2 i h; omega
    · omega
    · omega
  · rcases ho k hk with h | h
    · exact h2 k h
    · omega
  · rintro (h | h | h)
    · have := h2 Ib h; omega
    · omega
    · omega
theorem RdSt.step {W9 : World} {Ib : Nat} (hQ : Ib < W9.heap.size) {O : Nat → Prop} {pre : List (List Nat)} {W wr : World} {X : Nat} (h : RdSt W9 Ib O pre W) (hX : W9.heap.size + 2 ≤ X) (hXO : ¬ O X) (he : Els (fun k => k = X) W wr) (hW : W9.heap.size + 2 ≤ W.heap.size) (hO : ∀ k, O k → k < W.heap.size) (z : Int) :
    (W.heap.size ≤ (wr.setCell ⟨Ib, 0, none⟩ (.int .i64 z)).heap.size ∧ ∀ k, O k ∨ k = W9.heap.size ∨ k = W9.heap.size + 1 → (wr.setCell ⟨Ib, 0, none⟩ (.int .i64 z)).heap[k]? = W.heap[k]?) ∧ Els (fun k => k = Ib) W9 (wr.setCell ⟨Ib, 0, none⟩ (.int .i64 z)) ∧ Boxed (wr.setCell ⟨Ib, 0, none⟩ (.int .i64 z)) Ib 3 (.int .i64 z) := by
  obtain ⟨h1, h2, h3, h4⟩ := h
  have hs1 := h1.size
  have hs2 := he.size
  have b1 := he.boxed h3 (show ¬ Ib = X by omega)
  have eQ : Els (fun k => k = Ib) wr (wr.setCell ⟨Ib, 0, none⟩ (.int .i64 z)) := Els.grown (grownBy_setCell' wr Ib _) fun j hj => (Option.some.inj hj).symm
  have hs3 := eQ.size
  refine ⟨⟨by omega, fun k hk => ?_⟩, (h1.trans_new he fun i hi h => by omega).trans eQ, b1.set _⟩
  have hk2 : k < W.heap.size ∧ k ≠ Ib ∧ k ≠ X := by
    rcases hk with h | h | h
    · have := h2 k h
      exact ⟨hO k h, by omega, fun e => hXO (e ▸ h)⟩
    · exact ⟨by omega, by omega, by omega⟩
    · exact ⟨by omega, by omega, by omega⟩
  rw [eQ.block k (by omega) hk2.2.1, he.block k hk2.1 hk2.2.2]

set_option maxRecDepth 100000 in
set_option maxHeartbeats 4000000 in
theorem alphaReads_walk (L : List ByteArray) (al : Option Addr) (cl : Nat) (s : ByteArray) (w : World) (hlen : L.length ≤ 1048576) (hsm : ∀ s ∈ L, s.size ≤ 1048576) (hcap : L.length ≤ cl) (hs : s.size ≤ 1048576) (hRL : ReadsO w al (L.map Value.string)) :
    Calls Try.prog 4 #[.slice al L.length cl, .string s] w fun e w' => e = .returned (.bool true) ∧ Below w.heap.size w w' := by
  refine (callsIn_wide (n := 3)).1 ?_
  have hro : Fence.wide.round = none := rfl
  have HRL : Aside (∀ W, Below w.heap.size w W → ReadsO W al (L.map Value.string)) := fun W hb => hRL.below hb
  clear hRL
  have cA := awake3_any (w.alloc (.cells #[.bool false] 4))
  refine callsIn_of_wp_marks Try.func4 rfl trivial ?_ hro
  simp only [Try.ntmps4, List.size_toArray, List.length_cons, List.length_nil, Nat.reduceAdd, Nat.reduceSub, Array.replicate_succ, Array.replicate_zero, List.push_toArray, List.append_toArray, List.nil_append, List.cons_append]
  gi_wp2_with (refine ⟨trivial, ?_⟩; gi_at_call 9; refine (callsIn_wide.2 cA).mono ?_)
  rintro e w1 ⟨rfl, hb1⟩
  have bR : Boxed w1 w.heap.size 4 (.bool false) := (hb1.block _ (by simp)).trans (Boxed.new w 4 (.bool false))
  have HB1 : Aside (Below w.heap.size w w1) := ((Below.refl w.heap.size w).alloc (Nat.le_refl _) _).trans (hb1.mono (by simp))
  have hw1 : w.heap.size + 1 ≤ w1.heap.size := by have := hb1.size; simpa using this
  have cN := new_any L al cl w1 (by omega) (HRL.out _ HB1.out)
  have cFn := fun W h => refNew_any L al cl W hcap (by omega) (fun s hs => by have := hsm s hs; omega) h
  clear cA hb1
  have hG := @new_good L
  generalize (newR L).1 = N1 at *
  generalize (newR L).2 = E at *
  gi_wp2_with fail
  refine ⟨trivial, (callsIn_wide.2 cN).mono ?_⟩
  rintro e w2 ⟨⟨v, rfl, hv1, hv2⟩, hb2⟩
  have HB2 : Aside (Below w.heap.size w w2) := HB1.out.trans (hb2.mono HB1.out.size)
  have bR2 : Boxed w2 w.heap.size 4 (.bool false) := (hb2.block _ (by omega)).trans bR
  have hw2 : w.heap.size + 1 ≤ w2.heap.size := by have := hb2.size; omega
  have cF := cFn w2 (HRL.out _ HB2.out)
  clear cN hb2 bR cFn hsm
  by_cases hE : E = 0
  · subst hE
    obtain ⟨b, rk, rfl, hA, hRk⟩ := hv2 (by first | rfl | trivial)
    obtain ⟨_, hl40, hnm, hnd⟩ := hG (by first | rfl | trivial)
    have hLs : ∀ x ∈ L, 1 ≤ x.size ∧ x.size ≤ 12 := fun x hx => name_len (hnm x hx)
    have HA : Aside (∀ W, Below w2.heap.size w2 W → IsAlpha W b L rk) := fun W h => (hA.below h).is
    have HW1 : Aside (∀ r, r < L.length → 1 ≤ wid L rk r) := fun r hr => (nm_pos (HA.out w2 (Below.refl _ _)) hLs r hr).1
    clear hv1 hv2 hG hA
    gi_wp2_with fail
    refine ⟨trivial, (callsIn_wide.2 cF).mono ?_⟩
    rintro e w3 ⟨rfl, hb3⟩
    have HB3 : Aside (Below w.heap.size w w3) := HB2.out.trans (hb3.mono HB2.out.size)
    have bR3 : Boxed w3 w.heap.size 4 (.bool false) := (hb3.block _ (by omega)).trans bR2
    have hw3 : w.heap.size + 1 ≤ w3.heap.size := by have := hb3.size; omega
    have HA3 : Aside (∀ W, Below w3.heap.size w3 W → IsAlpha W b L rk) := fun W h => HA.out W (hb3.trans (h.mono hb3.size))
    have cS := split_any (HA3.out w3 (Below.refl _ _)) hRk hnd hLs s (by omega)
    have cSr := fun W h => refSplit_any L al cl W hl40 hnd hLs h s (by omega)
    have HSL : Aside ((splitS L s).1.length ≤ 33) := splitR_len L s 33 0 [] (Nat.zero_le _) (Nat.le_refl _)
    clear cF hb3 bR2 HA
    generalize (splitS L s).2.2 = E at *
    generalize (splitS L s).2.1 = N2 at *
    generalize (splitS L s).1 = l at *
    gi_wp2_with fail
    refine ⟨trivial, (callsIn_wide.2 cS).mono ?_⟩
    rintro e w4 ⟨vl, rfl, hb4, hown4⟩
    obtain ⟨ao, co, rfl, hrd4⟩ := row_reads hown4
    have HB4 : Aside (Below w.heap.size w w4) := HB3.out.trans (hb4.mono HB3.out.size)
    have bR4 : Boxed w4 w.heap.size 4 (.bool false) := (hb4.block _ (by omega)).trans bR3
    have hw4 := hb4.size
    have HA4 : Aside (∀ W, Below w4.heap.size w4 W → IsAlpha W b L rk) := fun W h => HA3.out W (hb4.trans (h.mono hw4))
    have cS4 := cSr w4 (HRL.out _ HB4.out)
    rw [nums_ints] at hrd4
    clear cS hb4 bR3 HA3 cSr hown4
    gi_wp2_with fail
    refine ⟨trivial, (callsIn_wide.2 cS4).mono ?_⟩
    rintro e w5 ⟨vm, rfl, hb5, hown5⟩
    obtain ⟨am, cm, rfl, hrd5⟩ := row_reads hown5
    have HB5 : Aside (Below w.heap.size w w5) := HB4.out.trans (hb5.mono HB4.out.size)
    have bR5 : Boxed w5 w.heap.size 4 (.bool false) := (hb5.block _ (by omega)).trans bR4
    have hw5 := hb5.size
    have HA5 : Aside (∀ W, Below w5.heap.size w5 W → IsAlpha W b L rk) := fun W h => HA4.out W (hb5.trans (h.mono hw5))
    rw [nums_ints] at hrd5
    have hml : (l.map fun r : Nat => (r : Int)).length = l.length := List.length_map _
    have cM := sameInts_any (l.map fun r : Nat => (r : Int)) (l.map fun r : Nat => (r : Int)) ao am co cm w5 (by rw [hml]; have := HSL.out; omega) (by rw [hml]; have := HSL.out; omega) (hrd4.any.below hb5) hrd5.any
    rw [hml] at cM
    clear cS4 hb5 bR4 HA4 hown5 hrd4 hrd5 HSL
    gi_wp2_with fail
    refine ⟨trivial, (callsIn_wide.2 cM).mono ?_⟩
    rintro e w6 ⟨hor, hb6⟩
    obtain rfl : e = .returned (.bool true) := by
      rcases hor with ⟨_, h⟩ | ⟨h, _⟩
      · exact h
      · exact absurd trivial h
    have HB6 : Aside (Below w.heap.size w w6) := HB5.out.trans (hb6.mono HB5.out.size)
    have bR6 : Boxed w6 w.heap.size 4 (.bool false) := (hb6.block _ (by omega)).trans bR5
    have hw6 := hb6.size
    have HA6 : Aside (∀ W, Below w6.heap.size w6 W → IsAlpha W b L rk) := fun W h => HA5.out W (hb6.trans (h.mono hw6))
    have cW := ways_any (HA6.out w6 (Below.refl _ _)) hLs s (by omega)
    clear hor cM hb6 bR5 HA5
    gi_wp2_with fail
    refine ⟨trivial, (callsIn_wide.2 cW).mono ?_⟩
    rintro e w7 ⟨⟨n, ws, rfl, h0, hW⟩, hb7⟩
    have HB7 : Aside (Below w.heap.size w w7) := HB6.out.trans (hb7.mono HB6.out.size)
    have bR7 : Boxed w7 w.heap.size 4 (.bool false) := (hb7.block _ (by omega)).trans bR6
    have hw7 := hb7.size
    have HA7 : Aside (∀ W, Below w7.heap.size w7 W → IsAlpha W b L rk) := fun W h => HA6.out W (hb7.trans (h.mono hw7))
    have HW : Aside (ws[0]? = some n ∧ WaysTo L rk s 0 ws) := ⟨h0, hW⟩
    have cWr := refWaysN_any L al cl hl40 hLs (HRL.out _ HB7.out) s (by omega)
    clear cW hb7 bR6 HA6 h0 hW
    gi_wp2_with fail
    refine ⟨trivial, (callsIn_wide.2 cWr).mono ?_⟩
    rintro e w8 ⟨⟨n', ws', rfl, h0', hW'⟩, hb8⟩
    obtain rfl : n = n' := by
      have := HW.out.1
      rw [(hW'.ways hRk).one HW1.out HW.out.2] at h0'
      rw [h0'] at this
      exact (Option.some.inj this).symm
    have HB8 : Aside (Below w.heap.size w w8) := HB7.out.trans (hb8.mono HB7.out.size)
    have bR8 : Boxed w8 w.heap.size 4 (.bool false) := (hb8.block _ (by omega)).trans bR7
    have hw8 := hb8.size
    have HA8 : Aside (∀ W, Below w8.heap.size w8 W → IsAlpha W b L rk) := fun W h => HA7.out W (hb8.trans (h.mono hw8))
    have cEr := refEach_any L al cl hl40 hnd hLs (HRL.out _ HB8.out) s (by omega) hRk HW1.out 40 (by omega)
    clear cWr hb8 bR7 HA7 h0' hW'
    gi_wp2_with fail
    refine ⟨trivial, (callsIn_wide.2 cEr).mono ?_⟩
    rintro e w9 ⟨⟨vw, ws9, rfl, hW9, hL9⟩, hb9⟩
    obtain rfl : ws9 = ws := hW9.one HW1.out HW.out.2
    obtain ⟨⟨us, hrow9, hus9⟩, _⟩ := hL9
    obtain ⟨av, cv, rfl, hrv⟩ := row_reads hrow9
    have hcv : ((waysN L rk s ws9).take 40).length ≤ cv := by
      rcases hrow9.2 with ⟨h1, h2⟩ | ⟨g, cap, cur, h1, _, _, h2, _⟩
      · omega
      · cases h1; exact h2
    have hwl : ((waysN L rk s ws9).take 40).length = min 40 (waysN L rk s ws9).length := List.length_take
    have HB9 : Aside (Below w.heap.size w w9) := HB8.out.trans (hb9.mono HB8.out.size)
    have bR9 : Boxed w9 w.heap.size 4 (.bool false) := (hb9.block _ (by omega)).trans bR8
    have hw9 := hb9.size
    have HA9 : Aside (∀ W, Below w9.heap.size w9 W → IsAlpha W b L rk) := fun W h => HA8.out W (hb9.trans (h.mono hw9))
    have HV : Aside (w9.ownsRow w8.heap.size 37 1 (.slice av ((waysN L rk s ws9).take 40).length cv) ((waysN L rk s ws9).take 40).length us ∧ RowsN w9 w8.heap.size (fun _ => True) us ((waysN L rk s ws9).take 40)) := ⟨hrow9, hus9⟩
    have HRV : Aside (∀ W', Below w9.heap.size w9 W' → Reads W' av us) := fun W' h => hrv.below h
    clear cEr hb9 bR8 HA8 hW9 hrow9 hus9 hrv
    obtain ⟨M, hM⟩ : ∃ M, M = ((waysN L rk s ws9).take 40).length := ⟨_, rfl⟩
    rw [← hM] at hcv hwl HV ⊢
    have HM : Aside (M = min 40 (waysN L rk s ws9).length) := hwl
    have HM2 : Aside (M = ((waysN L rk s ws9).take 40).length) := hM
    have hM40 : M ≤ 40 := by omega
    clear hwl hM
    have bW6 := (Boxed.new w9 45 (.slice av M cv)).alloc (.cells #[.int .i64 0] 3)
    have bI6 := Boxed.new (w9.alloc (.cells #[.slice av M cv] 45)) 3 (.int .i64 0)
    have bR6 := (bR9.alloc (.cells #[.slice av M cv] 45)).alloc (.cells #[.int .i64 0] 3)
    rw [World.size_alloc] at bI6
    have hB6 : Below w9.heap.size w9 ((w9.alloc (.cells #[.slice av M cv] 45)).alloc (.cells #[.int .i64 0] 3)) := ((Below.refl _ _).alloc (Nat.le_refl _) _).alloc (by simp) _
    gi_wp2_with (refine ⟨trivial, ?_⟩; gi_at_call 23; refine (each_in Fence.wide _ trivial hro _ _ _).mono ?_; rintro e w' ⟨rfl, rfl⟩)
    have bA9 := (Boxed.new ((w9.alloc (.cells #[.slice av M cv] 45)).alloc (.cells #[.int .i64 0] 3)) 25 (.pointer (some ⟨b, 0, none⟩))).alloc (.cells #[.string s] 9)
    have bT9 := Boxed.new (((w9.alloc (.cells #[.slice av M cv] 45)).alloc (.cells #[.int .i64 0] 3)).alloc (.cells #[.pointer (some ⟨b, 0, none⟩)] 25)) 9 (.string s)
    have bRz := (bR6.alloc (.cells #[.pointer (some ⟨b, 0, none⟩)] 25)).alloc (.cells #[.string s] 9)
    have bWz := (bW6.alloc (.cells #[.pointer (some ⟨b, 0, none⟩)] 25)).alloc (.cells #[.string s] 9)
    have bIz := (bI6.alloc (.cells #[.pointer (some ⟨b, 0, none⟩)] 25)).alloc (.cells #[.string s] 9)
    have hBz : Below w9.heap.size w9 ((((w9.alloc (.cells #[.slice av M cv] 45)).alloc (.cells #[.int .i64 0] 3)).alloc (.cells #[.pointer (some ⟨b, 0, none⟩)] 25)).alloc (.cells #[.string s] 9)) := (hB6.alloc (by simp; omega) _).alloc (by simp; omega) _
    simp only [World.size_alloc] at bA9 bT9
    obtain ⟨Wz, hWz⟩ : ∃ Wz, ((((w9.alloc (.cells #[.slice av M cv] 45)).alloc (.cells #[.int .i64 0] 3)).alloc (.cells #[.pointer (some ⟨b, 0, none⟩)] 25)).alloc (.cells #[.string s] 9)) = Wz := ⟨_, rfl⟩
    have hWzs : Wz.heap.size ≤ w9.heap.size + 4 ∧ w9.heap.size + 4 ≤ Wz.heap.size := by rw [← hWz]; simp
    rw [hWz] at bA9 bT9 bRz bWz bIz hBz ⊢
    clear hWz bW6 bI6 bR6 hB6 bR9
    have HBW : Aside (Below w.heap.size w Wz) := HB9.out.trans (hBz.mono HB9.out.size)
    have HBV : Aside (∀ W, Els (fun k => k = w9.heap.size + 1) Wz W → Below w9.heap.size w9 W) := fun W h => hBz.trans (h.below (fun k hk _ => by omega) (by omega))
    refine wpIn_rangeEach (by omega) (w9.heap.size + 1 + 1) (w9.heap.size + 1 + 1 + 1) b (by first | rfl | simp) hl40 hLs s (by omega) rfl
      (fun O pre W => RdSt Wz (w9.heap.size + 1) O pre W ∧ ∀ k, O k → k < W.heap.size) (fun c pre W => c = .exit 0 ∧ pre.length = 40 ∧ Els (fun k => k = w9.heap.size + 1) Wz W ∧ Boxed W (w9.heap.size + 1) 3 (.int .i64 40))
      (rk := rk) ?hIE ?hI ?hIx ⟨⟨Els.refl _ _, fun _ h => h.elim, bIz, by simp⟩, fun _ h => h.elim⟩ ?round ?done ?stop
    case hIE =>
      rintro O pre W ⟨⟨he, _, _, _⟩, _⟩
      exact ⟨HA9.out W (HBV.out W he), he.boxed bT9 (by omega), he.boxed bA9 (by omega)⟩
    case hI =>
      rintro O O' pre W1 W2 ⟨h, hlt⟩ he ho
      refine ⟨h.next (by omega) he ho, fun k hk => ?_⟩
      rcases ho k hk with e | e
      · have := hlt k e
        have := he.size
        omega
      · exact e.2
    case hIx =>
      rintro c pre W1 W2 ⟨h1, h2, h3, h4⟩ he
      exact ⟨h1, h2, h3.trans_new he (fun i hi h => by omega), he.boxed h4 (by omega)⟩
    case round =>
      rintro l' O pre x post X ws W0 W ⟨hst, hOlt⟩ hW hpre hrow hX hn hWs
      obtain rfl : ws = ws9 := hW.one HW1.out HW.out.2
      have hmem : x ∈ waysN L rk s ws := by rw [hpre]; simp
      have hxl := waysN_size HW1.out hmem
      have hp40 := hst.lt
      have hlenN : (waysN L rk s ws).length = pre.length + (post.length + 1) := by rw [hpre]; simp
      have hpM : pre.length < M := by have := HM.out; omega
      have hx40 : ((waysN L rk s ws).take 40)[pre.length]? = some x := by
        rw [List.getElem?_take, if_pos hp40, hpre, List.getElem?_append_right (Nat.le_refl _), Nat.sub_self]
        rfl
      obtain ⟨hx1, hx2⟩ := List.getElem?_eq_some_iff.1 hx40
      obtain ⟨u, hu1, hu2, _⟩ := HV.out.2.2 pre.length hx1
      rw [hx2] at hu2
      obtain ⟨au, cu, rfl, hru⟩ := row_reads hu2
      rw [nums_ints] at hru
      have hBV := HBV.out W hst.els
      obtain ⟨gv, rfl, _, ev⟩ := (HRV.out _ hBV) pre.length (List.getElem?_eq_some_iff.1 hu1).1
      rw [(List.getElem?_eq_some_iff.1 hu1).2] at ev
      obtain ⟨ax, cx, hvx, hrx⟩ := row_reads hrow
      rw [nums_ints] at hrx
      have hml : (x.map fun r : Nat => (r : Int)).length = x.length := List.length_map _
      have cM := sameInts_any (x.map fun r : Nat => (r : Int)) (x.map fun r : Nat => (r : Int)) ax au cx cu W (by rw [hml]; omega) (by rw [hml]; omega) hrx.any (hru.any.below hBV)
      rw [hml, ← hvx] at cM
      have bI := hst.box
      have bWx := hst.els.boxed bWz (by omega)
      have ci := bI.cell
      have cw := bWx.cell
      have HST : Aside (RdSt Wz (w9.heap.size + 1) O pre W ∧ ∀ k, O k → k < W.heap.size) := ⟨hst, hOlt⟩
      have hXl := hrow.lt X rfl
      have hpz : ¬ (pre.length : Int) ≥ (M : Int) := by omega
      have hpz2 : (pre.length : Int) < (M : Int) := by omega
      clear hmem hlenN hpre hW hx40 hx2 hu1 hu2 hru hvx hrx hst hOlt hml hx1 HV HRV
      gi_wp2
      refine ⟨trivial, (CallsIn.inRound l' (callsIn_wide.2 cM)).mono ?_⟩
      rintro e w10 ⟨hor, hb10⟩
      obtain rfl : e = .returned (.bool true) := by
        rcases hor with ⟨_, h⟩ | ⟨h, _⟩
        · exact h
        · exact absurd trivial h
      have hrow10 := row_keeps hrow hb10
      have HE10 : Aside (Els (fun k => k = X) W w10) := Els.of_below hb10
      have bI10 : Boxed w10 (w9.heap.size + 1) 3 (.int .i64 (pre.length : Int)) := (hb10.block _ bI.lt).trans bI
      clear hor cM hb10 ci cw ev hrow
      gi_wp2
      try rw [decide_eq_false (show ¬ M ≤ pre.length by omega)]
      gi_loopg [130] x.length (fun g1 vi wr => ∃ (k : Nat) (ys : List Value), vi = .int .i64 (k : Int) ∧ k ≤ x.length ∧ x.length - k ≤ g1 ∧ wr.ownsRow (Wz.heap.size + 2) 3 1 (.slice (some ⟨X, 0, none⟩) x.length x.length) x.length ys ∧ Aside (Els (fun k => k = X) W wr))
      case atStart => exact ⟨0, _, rfl, Nat.zero_le _, Nat.le_refl _, hrow10, HE10⟩
      case round =>
        clear hrow10 HE10 bI10
        obtain ⟨k, ys, rfl, hk, hg1, hown, HEr⟩ := hrel
        by_cases hlt : k < x.length
        · have hltz : (k : Int) < (x.length : Int) := by omega
          have hyl := hown.1
          obtain ⟨u, hcg⟩ : ∃ u, wr.cell? ⟨X, k, none⟩ = some u := ⟨ys[k]'(by omega), by rw [hown.cellAt k (by omega)]; exact List.getElem?_eq_getElem _⟩
          have hfg := hown.frozenAt k
          have st := (hown.stored k (.int .i64 (-1))).1
          have HE2 : Aside (Els (fun k => k = X) W (wr.setCell ⟨X, k, none⟩ (.int .i64 (-1)))) := HEr.out.trans (Els.grown (hown.stored k (.int .i64 (-1))).2 fun j hj => (Option.some.inj hj).symm)
          clear hown hyl
          gi_wp2
          gi_roundg (x.length - (k + 1))
          case measure => omega
          case rel => exact ⟨k + 1, _, by go_num, by omega, Nat.le_refl _, st, HE2⟩
        · have hltz : ¬ (k : Int) < (x.length : Int) := by omega
          have bIr := HEr.out.boxed bI (show ¬ w9.heap.size + 1 = X by omega)
          have ci := bIr.cell
          have fi := bIr.frozen
          have hcast : ((pre.length + 1 : Nat) : Int) = (pre.length : Int) + 1 := by omega
          have HS := HST.out.1.step (by omega) hXl.1 hX HEr.out hWs HST.out.2 ((pre.length : Int) + 1)
          have hci : (wr.setCell ⟨w9.heap.size + 1, 0, none⟩ (.int .i64 ((pre.length : Int) + 1))).cell? ⟨w9.heap.size + 1, 0, none⟩ = some (.int .i64 ((pre.length : Int) + 1)) := HS.2.2.cell
          have HS2 : Aside _ := HS
          clear HS hown
          by_cases h40 : pre.length + 1 = 40
          · have hb40 : (((pre.length : Int) + 1) == 40) = true := by rw [beq_iff_eq]; omega
            have hz40 : (pre.length : Int) + 1 = 40 := by omega
            have HZ : Aside ((pre ++ [x]).length = 40) := by show _ = _; rw [List.length_append, List.length_singleton]; exact h40
            have HZ2 : Aside ((pre.length : Int) + 1 = 40) := hz40
            clear hz40 h40
            gi_wp2
            exact ⟨HS2.out.1.1, fun k hk => HS2.out.1.2 k (.inr hk), rfl, HZ.out, HS2.out.2.1, by rw [← HZ2.out]; exact HS2.out.2.2⟩
          · have hb40 : (((pre.length : Int) + 1) == 40) = false := by rw [beq_eq_false_iff_ne]; omega
            have HZ : Aside ((pre ++ [x]).length = pre.length + 1) := by show _ = _; rw [List.length_append, List.length_singleton]
            have HZ3 : Aside (pre.length + 1 < 40) := by show _ < _; omega
            clear h40
            gi_wp2
            refine ⟨HS2.out.1.1, HS2.out.1.2, ⟨HS2.out.2.1, HST.out.1.lo, by rw [HZ.out, hcast]; exact HS2.out.2.2, by rw [HZ.out]; exact HZ3.out⟩, fun k hk => ?_⟩
            have := HST.out.2 k hk
            have := HS2.out.1.1
            omega
    case done =>
      rintro O ws W hW ⟨⟨he, _, hbI, hlt⟩, _⟩ hK hWs
      obtain rfl : ws = ws9 := hW.one HW1.out HW.out.2
      obtain rfl : M = (waysN L rk s ws).length := by have := HM.out; omega
      obtain ⟨N, hN⟩ : ∃ N, N = (waysN L rk s ws).length := ⟨_, rfl⟩
      rw [← hN] at hbI bWz
      have ci := hbI.cell
      have bWx := he.boxed bWz (by omega)
      have cw := bWx.cell
      have bRx := he.boxed bRz (by omega)
      have cr := bRx.cell
      have fr := bRx.frozen
      have HB : Aside (Below w.heap.size w W) := HBW.out.trans (he.below (fun k hk _ => by omega) (by omega))
      clear hN HM HM2 HV HRV
      have hKz : (W.setCell ⟨w.heap.size, 0, none⟩ (.bool true)).heap[Wz.heap.size]? = some (.deferred (some [])) := by
        rw [(grownBy_setCell' W w.heap.size (.bool true)).block Wz.heap.size (by omega) (fun h => by injection h; omega)]
        exact hK
      have HRz : Aside ((((W.setCell ⟨w.heap.size, 0, none⟩ (.bool true)).putObj Wz.heap.size (.deferred none)).cell? ⟨w.heap.size, 0, none⟩ = some (.bool true))) := by
        have : Boxed ((W.setCell ⟨w.heap.size, 0, none⟩ (.bool true)).putObj Wz.heap.size (.deferred none)) w.heap.size 4 (.bool true) := (World.putObj_heap_other (by omega)).trans (bRx.set _)
        exact this.cell
      have HBz : Aside (Below w.heap.size w (W.setCell ⟨w.heap.size, 0, none⟩ (.bool true))) := HB.out.setCell (p := ⟨w.heap.size, 0, none⟩) (Nat.le_refl _) _
      gi_wp2
      refine ⟨by simp, .inl ⟨_, _, rfl, run_takeDeferred hKz, ?_⟩⟩
      exact ⟨_, results_box4 rfl _ _ w.heap.size _ (by rfl) HRz.out, rfl, HBz.out.trans (belowK_b (w := w) (Nat.le_refl _) _ Wz.heap.size _ _ (by omega) hKz rfl rfl)⟩
    case stop =>
      rintro c pre ws W hW hpf ⟨rfl, hp40, he, hbI⟩ hK hWs
      obtain rfl : ws = ws9 := hW.one HW1.out HW.out.2
      obtain rfl : M = 40 := by have := HM.out; have := hpf.length_le; omega
      have ci := hbI.cell
      have bWx := he.boxed bWz (by omega)
      have cw := bWx.cell
      have bRx := he.boxed bRz (by omega)
      have cr := bRx.cell
      have fr := bRx.frozen
      have HB : Aside (Below w.heap.size w W) := HBW.out.trans (he.below (fun k hk _ => by omega) (by omega))
      clear HM HM2 HV HRV hpf
      have hKz : (W.setCell ⟨w.heap.size, 0, none⟩ (.bool true)).heap[Wz.heap.size]? = some (.deferred (some [])) := by
        rw [(grownBy_setCell' W w.heap.size (.bool true)).block Wz.heap.size (by omega) (fun h => by injection h; omega)]
        exact hK
      have HRz : Aside ((((W.setCell ⟨w.heap.size, 0, none⟩ (.bool true)).putObj Wz.heap.size (.deferred none)).cell? ⟨w.heap.size, 0, none⟩ = some (.bool true))) := by
        have : Boxed ((W.setCell ⟨w.heap.size, 0, none⟩ (.bool true)).putObj Wz.heap.size (.deferred none)) w.heap.size 4 (.bool true) := (World.putObj_heap_other (by omega)).trans (bRx.set _)
        exact this.cell
      have HBz : Aside (Below w.heap.size w (W.setCell ⟨w.heap.size, 0, none⟩ (.bool true))) := HB.out.setCell (p := ⟨w.heap.size, 0, none⟩) (Nat.le_refl _) _
      gi_wp2
      refine ⟨by simp, .inl ⟨_, _, rfl, run_takeDeferred hKz, ?_⟩⟩
      exact ⟨_, results_box4 rfl _ _ w.heap.size _ (by rfl) HRz.out, rfl, HBz.out.trans (belowK_b (w := w) (Nat.le_refl _) _ Wz.heap.size _ _ (by omega) hKz rfl rfl)⟩
  · obtain rfl := hv1 hE
    have hEb : (E == 0) = false := by rw [beq_eq_false_iff_ne]; exact hE
    have hEn : (E != 0) = true := by rw [bne, hEb]; rfl
    clear hv1 hv2 hG
    gi_wp2_with fail
    refine ⟨trivial, (callsIn_wide.2 cF).mono ?_⟩
    rintro e w3 ⟨rfl, hb3⟩
    have HB3 : Aside (Below w.heap.size w w3) := HB2.out.trans (hb3.mono HB2.out.size)
    have bR3 : Boxed w3 w.heap.size 4 (.bool false) := (hb3.block _ (by omega)).trans bR2
    have hw3 : w.heap.size + 1 ≤ w3.heap.size := by have := hb3.size; omega
    have cS := split_nil s w3
    clear cF hb3 bR2
    gi_wp2_with fail
    refine ⟨trivial, (callsIn_wide.2 cS).mono ?_⟩
    rintro e w4 ⟨rfl, hb4⟩
    have HB4 : Aside (Below w.heap.size w w4) := HB3.out.trans (hb4.mono HB3.out.size)
    have bR4 : Boxed w4 w.heap.size 4 (.bool false) := (hb4.block _ (by omega)).trans bR3
    have cr := bR4.cell
    have fr := bR4.frozen
    clear cS hb4 bR3
    by_cases h0 : s.size = 0
    · rw [if_pos h0]
      have h0z : ¬ (s.size : Int) > 0 := by omega
      clear h0
      gi_wp2
      exact ⟨_, results_box4 rfl _ _ w.heap.size (.bool true) (by rfl) (bR4.set _).cell, rfl, HB4.out.setCell (p := ⟨w.heap.size, 0, none⟩) (Nat.le_refl _) _⟩
    · rw [if_neg h0]
      have h0z : (s.size : Int) > 0 := by omega
      clear h0
      gi_wp2
      exact ⟨_, results_box4 rfl _ _ w.heap.size (.bool true) (by rfl) (bR4.set _).cell, rfl, HB4.out.setCell (p := ⟨w.heap.size, 0, none⟩) (Nat.le_refl _) _⟩
end Go.Proofs.Ytaijphanpolegaa.Utf
