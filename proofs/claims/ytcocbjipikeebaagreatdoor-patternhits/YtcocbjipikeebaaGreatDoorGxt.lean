/-
  The order of words walked: cmp.Compare, cmp.Or, slices.Compare at integers; the program's order of two words.
-/
import Derived.Test.YtcocbjipikeebaaGreatDoorGxa
import Derived.Test.YtcocbjipikeebaaGreatDoorNewq
import Derived.Test.YtcocbjipikeebaaGreatDoorLsf
namespace Go.Proofs.YtcocbjipikeebaaGreatDoor.Utf
open Go Go.Lib Go.RowKit

theorem isNaN_any (x : Int) (w : World) : Calls Tryz.prog 122 #[.int .i64 x] w fun e w' => e = .returned (.bool false) ∧ w' = w := by
  go_enter Tryz.func122, Tryz.ntmps122
  go_wp2
  go_ret
  exact ⟨by simp, rfl⟩
theorem compare_any (x y : Int) (w : World) : Calls Tryz.prog 95 #[.int .i64 x, .int .i64 y] w fun e w' => e = .returned (.int .i64 (cmpI x y)) ∧ w' = w := by
  have cN := fun z => isNaN_any z w
  by_cases h1 : x < y
  · have HC : Aside (cmpI x y = -1) := by show _ = _; unfold cmpI; rw [if_pos h1]
    go_enter Tryz.func95, Tryz.ntmps95
    go_wp2_with (go_at_call 122; refine (cN _).mono ?_; rintro e w1 ⟨rfl, hw⟩; obtain rfl := hw.symm)
    go_ret
    rw [HC.out]
    exact ⟨rfl, rfl⟩
  · by_cases h2 : y < x
    · have HC : Aside (cmpI x y = 1) := by show _ = _; unfold cmpI; rw [if_neg h1, if_pos h2]
      go_enter Tryz.func95, Tryz.ntmps95
      go_wp2_with (go_at_call 122; refine (cN _).mono ?_; rintro e w1 ⟨rfl, hw⟩; obtain rfl := hw.symm)
      go_ret
      rw [HC.out]
      exact ⟨rfl, rfl⟩
    · have HC : Aside (cmpI x y = 0) := by show _ = _; unfold cmpI; rw [if_neg h1, if_neg h2]
      go_enter Tryz.func95, Tryz.ntmps95
      go_wp2_with (go_at_call 122; refine (cN _).mono ?_; rintro e w1 ⟨rfl, hw⟩; obtain rfl := hw.symm)
      go_ret
      rw [HC.out]
      exact ⟨rfl, rfl⟩

set_option maxHeartbeats 1000000 in
theorem or_zero (y : Int) (g cap : Nat) (w : World) (h0 : w.cell? ⟨g, 0, none⟩ = some (.int .i64 0)) (h1 : w.cell? ⟨g, 1, none⟩ = some (.int .i64 y)) :
    Calls Tryz.prog 94 #[.slice (some ⟨g, 0, none⟩) 2 cap] w fun e w' => e = .returned (.int .i64 y) ∧ w' = w := by
  by_cases hy : y = 0
  · subst hy
    go_enter Tryz.func94, Tryz.ntmps94
    go_wp2
    refine wp_loop_rounds 3 ?_
    rw [rounds_succ]
    go_wp2
    rw [rounds_succ]
    go_wp2
    rw [rounds_succ]
    go_wp2
    go_ret
    exact ⟨rfl, rfl⟩
  · have hyb : (y == 0) = false := by simp [hy]
    have hyc : (y != 0) = true := by simp [hy]
    clear hy
    go_enter Tryz.func94, Tryz.ntmps94
    go_wp2
    refine wp_loop_rounds 2 ?_
    rw [rounds_succ]
    go_wp2
    rw [rounds_succ]
    go_wp2
    go_ret
    exact ⟨rfl, rfl⟩
set_option maxHeartbeats 1000000 in
theorem or_one (x : Int) (hx : x ≠ 0) (g cap : Nat) (w : World) (h0 : w.cell? ⟨g, 0, none⟩ = some (.int .i64 x)) :
    Calls Tryz.prog 94 #[.slice (some ⟨g, 0, none⟩) 2 cap] w fun e w' => e = .returned (.int .i64 x) ∧ w' = w := by
  have hxb : (x == 0) = false := by simp [hx]
  have hxc : (x != 0) = true := by simp [hx]
  go_enter Tryz.func94, Tryz.ntmps94
  go_wp2
  refine wp_loop_rounds 1 ?_
  rw [rounds_succ]
  go_wp2
  go_ret
  exact ⟨rfl, rfl⟩
theorem or_two (x y : Int) (g cap : Nat) (w : World) (h0 : w.cell? ⟨g, 0, none⟩ = some (.int .i64 x)) (h1 : w.cell? ⟨g, 1, none⟩ = some (.int .i64 y)) :
    Calls Tryz.prog 94 #[.slice (some ⟨g, 0, none⟩) 2 cap] w fun e w' => e = .returned (.int .i64 (if x = 0 then y else x)) ∧ w' = w := by
  by_cases hx : x = 0
  · subst hx
    rw [if_pos rfl]
    exact or_zero y g cap w h0 h1
  · rw [if_neg hx]
    exact or_one x hx g cap w h0

theorem cmpL_cons (a b : Int) (p q : List Int) : cmpL (a :: p) (b :: q) = if cmpI a b = 0 then cmpL p q else cmpI a b := by rw [cmpL]
theorem drop_at {p : List Int} {k : Nat} (h : k < p.length) : p.drop k = p[k] :: p.drop (k + 1) := List.drop_eq_getElem_cons h
theorem ints_at {p : List Int} {k : Nat} (h : k < (ints p).length) (h2 : k < p.length) : (ints p)[k] = .int .i64 p[k] := by simp [ints]
theorem ints_len (p : List Int) : (ints p).length = p.length := by simp [ints]

set_option maxRecDepth 10000 in
set_option maxHeartbeats 1000000 in
theorem slCompare_any (p q : List Int) (hl : p.length ≤ 4611686018427387904) (ap aq : Option Addr) (cp cq : Nat) (w : World) (hp : ReadsO w ap (ints p)) (hq : ReadsO w aq (ints q)) :
    Calls Tryz.prog 96 #[.slice ap p.length cp, .slice aq q.length cq] w fun e w' => e = .returned (.int .i64 (cmpL p q)) ∧ w' = w := by
  have HC : Aside (∀ x y : Int, Calls Tryz.prog 95 #[.int .i64 x, .int .i64 y] w fun e w' => e = .returned (.int .i64 (cmpI x y)) ∧ w' = w) := fun x y => compare_any x y w
  have hnl : cmpL [] [] = 0 := rfl
  go_enter Tryz.func96, Tryz.ntmps96
  go_wp2
  go_loopg [11] p.length (fun g1 iv wr => ∃ k : Nat, iv = .int .i64 (k : Int) ∧ k ≤ p.length ∧ k ≤ q.length ∧ p.length - k ≤ g1 ∧ Aside (cmpL p q = cmpL (p.drop k) (q.drop k)) ∧ wr = w)
  case atStart => exact ⟨0, rfl, Nat.zero_le _, Nat.zero_le _, Nat.le_refl _, rfl, rfl⟩
  case round =>
    obtain ⟨k, rfl, hk, hkq, hg1, HE, rfl⟩ := hrel
    by_cases hlt : k < p.length
    · have hltz : (k : Int) < (p.length : Int) := by omega
      obtain ⟨ga, oa, rfl, _, ea⟩ := hp k (by simpa [ints] using hlt)
      rw [ints_at _ hlt] at ea
      by_cases hlq : k < q.length
      · have hlqz : ¬ (q.length : Int) ≤ (k : Int) := by omega
        obtain ⟨gb, ob, rfl, _, eb⟩ := hq k (by simpa [ints] using hlq)
        rw [ints_at _ hlq] at eb
        have cC := HC.out p[k] q[k]
        have hN : cmpL p q = if cmpI p[k] q[k] = 0 then cmpL (p.drop (k + 1)) (q.drop (k + 1)) else cmpI p[k] q[k] := by
          rw [HE.out, drop_at hlt, drop_at hlq, cmpL_cons]
        by_cases hz : cmpI p[k] q[k] = 0
        · rw [if_pos hz] at hN
          have HN : Aside (cmpL p q = cmpL (p.drop (k + 1)) (q.drop (k + 1))) := hN
          have HK : Aside (k < p.length ∧ k < q.length) := ⟨hlt, hlq⟩
          rw [hz] at cC
          clear hN HE hz hp hq
          generalize p[k] = x at *
          generalize q[k] = y at *
          go_wp2_with fail
          refine cC.mono ?_
          rintro e w1 ⟨rfl, hw⟩
          obtain rfl := hw.symm
          clear hw cC
          go_wp2
          go_roundg (p.length - (k + 1))
          case measure => have := HK.out; omega
          case rel => exact ⟨k + 1, by go_num, by have := HK.out; omega, by have := HK.out; omega, Nat.le_refl _, HN, rfl⟩
        · rw [if_neg hz] at hN
          have HN : Aside (cmpL p q = cmpI p[k] q[k]) := hN
          have hzb : (cmpI p[k] q[k] == 0) = false := by simp [hz]
          have hzc : (cmpI p[k] q[k] != 0) = true := by simp [hz]
          clear hN HE hz hp hq
          generalize cmpI p[k] q[k] = c at *
          generalize p[k] = x at *
          generalize q[k] = y at *
          go_wp2_with fail
          refine cC.mono ?_
          rintro e w1 ⟨rfl, hw⟩
          obtain rfl := hw.symm
          clear hw cC
          go_wp2
          go_ret
          rw [HN.out]
          exact ⟨rfl, rfl⟩
      · have hlqz : (q.length : Int) ≤ (k : Int) := by omega
        have HN : Aside (cmpL p q = 1) := by
          show _ = _
          rw [HE.out, drop_at hlt, List.drop_eq_nil_of_le (by omega : q.length ≤ k)]
          rfl
        clear HE hp hq
        go_wp2
        go_ret
        rw [HN.out]
        exact ⟨rfl, rfl⟩
    · have hltz : ¬ (k : Int) < (p.length : Int) := by omega
      by_cases hlq : p.length < q.length
      · have hlqz : (p.length : Int) < (q.length : Int) := by omega
        have HN : Aside (cmpL p q = -1) := by
          show _ = _
          rw [HE.out, List.drop_eq_nil_of_le (by omega : p.length ≤ k), drop_at (show k < q.length by omega)]
          rfl
        clear HE hp hq
        go_wp2
        go_ret
        rw [HN.out]
        exact ⟨rfl, rfl⟩
      · have hlqz : ¬ (p.length : Int) < (q.length : Int) := by omega
        have HN : Aside (cmpL p q = 0) := by
          show _ = _
          rw [HE.out, List.drop_eq_nil_of_le (by omega : p.length ≤ k), List.drop_eq_nil_of_le (by omega : q.length ≤ k)]
          rfl
        clear HE hp hq
        go_wp2
        go_ret
        rw [HN.out]
        exact ⟨rfl, rfl⟩
theorem heap_box (w : World) (o : Obj) : (w.alloc o).heap[w.heap.size]? = some o := by unfold World.alloc; simp
theorem box_at (w : World) (cs : Array Value) (t : TypeId) (j : Nat) {v : Value} (h : cs[j]? = some v) : (w.alloc (.cells cs t)).cell? ⟨w.heap.size, j, none⟩ = some v := by
  unfold World.cell?
  rw [heap_box]
  simp [h]
theorem below_box' (w : World) (o : Obj) : Below w.heap.size w (w.alloc o) := (Below.refl _ _).alloc (Nat.le_refl _) o
/-- The world has only grown: what was there lies there, and draws have gone on. -/
def Grw (w w' : World) : Prop := Below w.heap.size w w' ∧ w.drawn ≤ w'.drawn
theorem Grw.refl (w : World) : Grw w w := ⟨Below.refl _ _, Nat.le_refl _⟩
theorem Grw.trans {a b c : World} (h : Grw a b) (k : Grw b c) : Grw a c := ⟨h.1.trans (k.1.mono h.1.size), Nat.le_trans h.2 k.2⟩
set_option maxRecDepth 10000 in
set_option maxHeartbeats 1000000 in
theorem order_any (p q : List Int) (hl : p.length ≤ 4611686018427387904) (ap aq : Option Addr) (cp cq : Nat) (w : World) (hp : ReadsO w ap (ints p)) (hq : ReadsO w aq (ints q)) :
    Calls Tryz.prog 66 #[.slice ap p.length cp, .slice aq q.length cq] w fun e w' => e = .returned (.int .i64 (ordI p q)) ∧ Grw w w' := by
  have cC := fun W => compare_any (p.length : Int) (q.length : Int) W
  have cS : ∀ W, Below w.heap.size w W → _ := fun W hb => slCompare_any p q hl ap aq cp cq W (hp.below hb) (hq.below hb)
  have HO : Aside (∀ (x y : Int) (g cap : Nat) (W : World), W.cell? ⟨g, 0, none⟩ = some (.int .i64 x) → W.cell? ⟨g, 1, none⟩ = some (.int .i64 y) → Calls Tryz.prog 94 #[.slice (some ⟨g, 0, none⟩) 2 cap] W fun e w' => e = .returned (.int .i64 (if x = 0 then y else x)) ∧ w' = W) := fun x y g cap W h0 h1 => or_two x y g cap W h0 h1
  have HR : Aside (ordI p q = if cmpI p.length q.length = 0 then cmpL p q else cmpI p.length q.length) := rfl
  generalize ordI p q = rr at *
  generalize cmpI (p.length : Int) (q.length : Int) = x at *
  generalize cmpL p q = y at *
  clear hp hq
  go_enter Tryz.func66, Tryz.ntmps66
  go_wp2_with fail
  refine (cC _).mono ?_
  rintro e w1 ⟨rfl, hw⟩
  obtain rfl := hw.symm
  clear hw
  have cS' := cS _ (Below.refl _ _)
  go_wp2_with fail
  refine cS'.mono ?_
  rintro e w2 ⟨rfl, hw⟩
  obtain rfl := hw.symm
  clear hw cS' cS cC
  have cO := HO.out x y w.heap.size 2 (w.alloc (.cells #[.int .i64 x, .int .i64 y] 3)) (box_at _ _ _ 0 rfl) (box_at _ _ _ 1 rfl)
  rw [← HR.out] at cO
  go_wp2_with fail
  refine cO.mono ?_
  rintro e w3 ⟨rfl, rfl⟩
  clear cO
  go_wp2
  go_ret
  exact ⟨rfl, below_box' _ _, Nat.le_refl _⟩
end Go.Proofs.YtcocbjipikeebaaGreatDoor.Utf
/-
  The entries are sorted: the program's comparison, the library's sort.
-/
namespace Go.Proofs.YtcocbjipikeebaaGreatDoor.Utf
open Go Go.Lib Go.RowKit

/-- An entry as it lies in memory. -/
structure EntV where
  ao : Option Addr
  cap : Nat
  c : List Int
  t : ByteArray
  s : Int
def encE (x : EntV) : List Value := [.slice x.ao x.c.length x.cap, .string x.t, .int .i64 x.s]
theorem grw_grow {w w' : World} (h : Grw w w') : ∃ q os, w' = Go.Sort.grow (w.drewN q) os := by
  refine ⟨w'.drawn - w.drawn, w'.heap.extract w.heap.size w'.heap.size, ?_⟩
  obtain ⟨hb, hd⟩ := h
  have hh : w.heap ++ w'.heap.extract w.heap.size w'.heap.size = w'.heap := by
    apply Array.ext_getElem?
    intro i
    rw [Array.getElem?_append]
    by_cases h1 : i < w.heap.size
    · rw [if_pos h1]; exact (hb.block i h1).symm
    · rw [if_neg h1, Array.getElem?_extract]
      have := hb.size
      by_cases h2 : i < w'.heap.size
      · rw [if_pos (by omega)]
        congr 1
        omega
      · rw [if_neg (by omega)]
        exact (Array.getElem?_eq_none (by omega)).symm
  have h1 := hb.os
  have h2 := hb.tape
  have h3 := hb.output
  cases w
  cases w'
  simp only [World.drewN, Go.Sort.grow] at *
  subst h1 h2 h3
  rw [hh, show _ + (_ - _) = _ from Nat.add_sub_cancel' hd]

set_option maxRecDepth 10000 in
set_option maxHeartbeats 1000000 in
theorem less_any (x y : EntV) (W : World) (hx : ReadsO W x.ao (ints x.c)) (hy : ReadsO W y.ao (ints y.c)) (hl : x.c.length ≤ 4611686018427387904) :
    Calls Tryz.prog 65 #[.agg (encE x).toArray, .agg (encE y).toArray] W fun e w' => e = .returned (.int .i64 (ordI x.c y.c)) ∧ ∃ q os, w' = Go.Sort.grow (W.drewN q) os := by
  have cO : ∀ w, Below W.heap.size W w → _ := fun w hb => order_any x.c y.c hl x.ao y.ao x.cap y.cap w (hx.below hb) (hy.below hb)
  obtain ⟨xao, xcap, xc, xt, xs⟩ := x
  obtain ⟨yao, ycap, yc, yt, ys⟩ := y
  simp only [encE] at *
  generalize ordI xc yc = r at *
  generalize xc.length = n at *
  generalize yc.length = m at *
  clear hx hy
  go_enter Tryz.func65, Tryz.ntmps65
  go_wp2_with fail
  have hb2 : Below W.heap.size W ((W.alloc (.cells #[.slice xao n xcap, .string xt, .int .i64 xs] 94)).alloc (.cells #[.slice yao m ycap, .string yt, .int .i64 ys] 94)) := (below_box' W _).alloc (by simp) _
  refine (cO _ hb2).mono ?_
  rintro e w3 ⟨rfl, hb3, hd3⟩
  have hg : Grw W w3 := ⟨hb2.trans (hb3.mono hb2.size), hd3⟩
  go_wp2
  go_ret
  exact ⟨rfl, grw_grow hg⟩

theorem ordI_irr (p : List Int) : ¬ ordI p p < 0 := by rw [ordI_zero.2 rfl]; decide
theorem ordI_ntr {p q r : List Int} (h1 : ¬ ordI p q < 0) (h2 : ¬ ordI q r < 0) : ¬ ordI p r < 0 := by
  by_cases e1 : ordI p q = 0
  · rw [ordI_zero.1 e1]; exact h2
  · by_cases e2 : ordI q r = 0
    · rw [← ordI_zero.1 e2]; exact h1
    · have n1 := ordI_neg p q
      have n2 := ordI_neg q r
      have n3 := ordI_neg p r
      have := ordI_trans (p := r) (q := q) (r := p) (by omega) (by omega)
      omega
section
variable (es : List EntV)
abbrev cfE (es : List EntV) (i j : Fin es.length) : Int := ordI es[i].c es[j].c
theorem swoE : Go.Sort.SWO (Go.Proofs.ltOf (cfE es)) where
  irrefl x := by unfold Go.Proofs.ltOf cfE; exact decide_eq_false (ordI_irr _)
  trans x y z h1 h2 := by
    unfold Go.Proofs.ltOf cfE at *
    exact decide_eq_true (ordI_trans (of_decide_eq_true h1) (of_decide_eq_true h2))
  ntrans x y z h1 h2 := by
    unfold Go.Proofs.ltOf cfE at *
    exact decide_eq_false (ordI_ntr (of_decide_eq_false h1) (of_decide_eq_false h2))
end
/-- The row of entries in block g. -/
def RowE (w : World) (g : Nat) (es : List EntV) : Prop := ∀ (i : Nat) (hi : i < es.length),
  (w.cell? ⟨g, i * 3 + 0, none⟩ = some (.slice es[i].ao es[i].c.length es[i].cap) ∧ w.frozen? ⟨g, i * 3 + 0, none⟩ = false) ∧
  (w.cell? ⟨g, i * 3 + 1, none⟩ = some (.string es[i].t) ∧ w.frozen? ⟨g, i * 3 + 1, none⟩ = false) ∧
  (w.cell? ⟨g, i * 3 + 2, none⟩ = some (.int .i64 es[i].s) ∧ w.frozen? ⟨g, i * 3 + 2, none⟩ = false)
theorem flat_at {α : Type} [Inhabited α] (enc : α → List Value) (d : Array α) (i r : Nat) (hi : i < d.size) (hr : r < 3) : (Go.Sort.flatK enc 3 d)[i * 3 + r]! = (enc d[i]!)[r]! := by
  rw [Go.Sort.get_flatK enc 3 d _ (by omega), show (i * 3 + r) / 3 = i by omega, show (i * 3 + r) % 3 = r by omega]
theorem rowE_holds {w : World} {g : Nat} {α : Type} [Inhabited α] (f : α → EntV) (d : Array α) : Go.Sort.HoldsK (fun x => encE (f x)) 3 w g 0 d ↔ RowE w g (d.toList.map f) := by
  have key : ∀ i r, i < d.size → r < 3 → (Go.Sort.flatK (fun x => encE (f x)) 3 d)[i * 3 + r]! = (encE (f d[i]!))[r]! := fun i r hi hr => flat_at _ d i r hi hr
  have hsz : (Go.Sort.flatK (fun x => encE (f x)) 3 d).size = d.size * 3 := Go.Sort.size_flatK _ _ _
  have hat : ∀ i (hi : i < (d.toList.map f).length) (hd : i < d.size), (d.toList.map f)[i] = f d[i]! := fun i hi hd => by
    rw [List.getElem_map, getElem!_pos d i hd]
    simp
  constructor
  · intro h i hi
    have hd : i < d.size := by simpa using hi
    rw [hat i hi hd]
    have k0 := h (i * 3 + 0) (by rw [hsz]; omega)
    have k1 := h (i * 3 + 1) (by rw [hsz]; omega)
    have k2 := h (i * 3 + 2) (by rw [hsz]; omega)
    rw [key i 0 hd (by decide), Nat.zero_add] at k0
    rw [key i 1 hd (by decide), Nat.zero_add] at k1
    rw [key i 2 hd (by decide), Nat.zero_add] at k2
    exact ⟨k0, k1, k2⟩
  · intro h j hj
    rw [hsz] at hj
    obtain ⟨i, r, hr, rfl⟩ : ∃ i r, r < 3 ∧ j = i * 3 + r := ⟨j / 3, j % 3, by omega, by omega⟩
    have hd : i < d.size := by omega
    obtain ⟨k0, k1, k2⟩ := h i (by simpa using hd)
    rw [hat i (by simpa using hd) hd] at k0 k1 k2
    rw [Nat.zero_add, key i r hd hr]
    have hr : r = 0 ∨ r = 1 ∨ r = 2 := by omega
    rcases hr with rfl | rfl | rfl
    · exact k0
    · exact k1
    · exact k2
/-- Sorted: the same entries, in their order. -/
structure Sorts (es es' : List EntV) : Prop where
  perm : es'.Perm es
  sort : es'.Pairwise fun x y => ordI x.c y.c < 0

set_option maxHeartbeats 1000000 in
theorem sort_any (es : List EntV) (h0 : 0 < es.length) (hsz : es.length < 4611686018427387904) (g cap : Nat) (w : World) (hg : g < w.heap.size) (hrow : RowE w g es) (hl : ∀ x ∈ es, x.c.length ≤ 4611686018427387904)
    (hreads : ∀ x ∈ es, ReadsO w x.ao (ints x.c) ∧ ∀ b o, x.ao = some ⟨b, o, none⟩ → b ≠ g) (hdist : es.Pairwise fun x y => x.c ≠ y.c) :
    Calls Tryz.prog 64 #[.slice (some ⟨g, 0, none⟩) es.length cap, .func (.func 65) #[] #[]] w fun e w' =>
      e = .returned (.tuple #[]) ∧ (∃ es', Sorts es es' ∧ RowE w' g es') ∧ w.grownBy w' (some g) := by
  obtain ⟨m, hm⟩ : ∃ m, es.length = m + 1 := ⟨es.length - 1, by omega⟩
  let f : Fin (m + 1) → EntV := fun i => es[i.val]'(by omega)
  let cf : Fin (m + 1) → Fin (m + 1) → Int := fun i j => ordI (f i).c (f j).c
  let d : Array (Fin (m + 1)) := Array.ofFn id
  have hds : d.size = es.length := by show (Array.ofFn id).size = _; rw [Array.size_ofFn, hm]
  have hdi : ∀ i (h : i < d.toList.length) (hi : i < m + 1), d.toList[i] = ⟨i, hi⟩ := fun i h hi => by
    rw [Array.getElem_toList]
    exact Array.getElem_ofFn _
  have hdl : d.toList.map f = es := by
    apply List.ext_getElem
    · rw [List.length_map, Array.length_toList, hds]
    · intro i h1 h2
      rw [List.getElem_map, hdi i _ (by omega)]
  have hfm : ∀ i, f i ∈ es := fun i => List.getElem_mem _
  have hO : Go.Sort.SWO (Go.Proofs.ltOf cf) := by
    constructor
    · intro x; exact decide_eq_false (ordI_irr _)
    · intro x y z h1 h2; exact decide_eq_true (ordI_trans (of_decide_eq_true h1) (of_decide_eq_true h2))
    · intro x y z h1 h2; exact decide_eq_false (ordI_ntr (of_decide_eq_false h1) (of_decide_eq_false h2))
  have hinj : ∀ i j, (f i).c = (f j).c → i = j := by
    intro i j h
    rw [List.pairwise_iff_getElem] at hdist
    rcases Nat.lt_trichotomy i.val j.val with h1 | h1 | h1
    · exact absurd h (hdist i.val j.val (by omega) (by omega) h1)
    · exact Fin.ext h1
    · exact absurd h.symm (hdist j.val i.val (by omega) (by omega) h1)
  have eg : ∀ args w, (callFunc 65 args).run Tryz.prog w = .ok (.enter 65 args) w := enters_of Tryz.func65 (by kernel_rfl) rfl
  have hro : ∀ (n : Nat) (os : Array Obj) (dk : Array (Fin (m + 1))) (i : Fin (m + 1)), ReadsO (Go.Proofs.sortWorldK (fun x => encE (f x)) 3 w g 0 n dk os) (f i).ao (ints (f i).c) := by
    intro n os dk i j hj
    obtain ⟨hr, hne⟩ := hreads _ (hfm i)
    obtain ⟨b, o, e1, e2, e3⟩ := hr j hj
    exact ⟨b, o, e1, Nat.lt_of_lt_of_le e2 (Go.Proofs.size_sortWorldK_c _ _ _ _ _ _ _ _), (Go.Proofs.cell?_sortWorldK_other _ 3 w g 0 n dk os ⟨b, o + j, none⟩ (hne b o e1) e2).trans e3⟩
  have hc : Go.Proofs.CmpLays Tryz.prog 65 #[] (fun x => encE (f x)) 3 cf g 0 d.size w := by
    intro n os dk _ x y
    exact less_any (f x) (f y) _ (hro n os dk x) (hro n os dk y) (hl _ (hfm x))
  have hH : Go.Sort.HoldsK (fun x => encE (f x)) 3 w g 0 d := (rowE_holds f d).2 (by rw [hdl]; exact hrow)
  have hcon := Go.Proofs.AnyQ.slices_SortFunc_total Go.Proofs.Tryz.sortEn 3 (fun w => by kernel_rfl) (fun w => by kernel_rfl) (fun x => encE (f x)) (fun _ => rfl) (fun x v hv => by simp only [encE, List.mem_cons, List.not_mem_nil, or_false] at hv; rcases hv with rfl | rfl | rfl <;> rfl) cf hO 65 #[] g 0 cap d w eg hc hH hg (by omega) (fun x y h1 h2 => hinj x y (by
    have a1 := of_decide_eq_false h1
    have a2 := of_decide_eq_false h2
    have a3 := ordI_neg (f x).c (f y).c
    exact ordI_zero.1 (by show ordI (f x).c (f y).c = 0; have a1' : ¬ ordI (f x).c (f y).c < 0 := a1; have a2' : ¬ ordI (f y).c (f x).c < 0 := a2; omega)))
  change Calls Tryz.prog 64 _ _ _ at hcon
  rw [hds] at hcon
  refine hcon.mono ?_
  rintro e w' ⟨rfl, n, os, rfl⟩
  have hperm := List.mergeSort_perm d.toList (fun x y => !(Go.Proofs.ltOf cf) y x)
  have hsrt := List.pairwise_mergeSort (le := fun x y => !(Go.Proofs.ltOf cf) y x) (by
    intro a b c h1 h2
    simp only [Bool.not_eq_true'] at h1 h2 ⊢
    exact hO.ntrans c b a h2 h1) (by
    intro a b
    simp only [Bool.or_eq_true, Bool.not_eq_true']
    cases h1 : Go.Proofs.ltOf cf b a with
    | false => exact .inl rfl
    | true =>
      right
      cases h2 : Go.Proofs.ltOf cf a b with
      | false => rfl
      | true => have := hO.trans _ _ _ h1 h2; rw [hO.irrefl] at this; cases this) d.toList
  generalize hrr : d.toList.mergeSort (fun x y => !(Go.Proofs.ltOf cf) y x) = rr at *
  have hnd : rr.Nodup := hperm.nodup_iff.2 (by
    refine List.pairwise_iff_getElem.2 fun i j hi hj hij h => ?_
    rw [Array.length_toList, hds] at hi hj
    rw [hdi i _ (by omega), hdi j _ (by omega)] at h
    injection h with h
    omega)
  refine ⟨rfl, ⟨rr.map f, ⟨?_, ?_⟩, ?_⟩, ?_⟩
  · have := hperm.map f
    rw [hdl] at this
    exact this
  · rw [List.pairwise_map]
    refine (hsrt.and hnd).imp ?_
    intro a b ⟨h1, h2⟩
    have h1' : ¬ ordI (f b).c (f a).c < 0 := by
      have : Go.Proofs.ltOf cf b a = false := by simpa using h1
      exact of_decide_eq_false this
    have h3 := ordI_neg (f a).c (f b).c
    have h4 : ordI (f a).c (f b).c ≠ 0 := fun h => h2 (hinj a b (ordI_zero.1 h))
    omega
  · have := Go.Proofs.holdsK_sortWorldK (fun x => encE (f x)) 3 w g 0 n d rr.toArray os hg hH (by rw [List.size_toArray, hperm.length_eq, Array.length_toList])
    have := (rowE_holds f rr.toArray).1 this
    simpa using this
  · refine ⟨rfl, rfl, rfl, Go.Proofs.size_sortWorldK_c _ _ _ _ _ _ _ _, fun k hk hne => ?_⟩
    have hgk : g ≠ k := fun e => hne (by rw [e])
    unfold Go.Proofs.sortWorldK
    rw [Go.Sort.heap_grow_old _ _ (by simp [Go.Sort.putRowK, Go.Sort.putRow, Go.Sort.mapBlock, Go.Sort.ahead]; exact hk)]
    simp [Go.Sort.putRowK, Go.Sort.putRow, Go.Sort.mapBlock, Go.Sort.ahead, Array.getElem?_modify, hgk]
end Go.Proofs.YtcocbjipikeebaaGreatDoor.Utf
