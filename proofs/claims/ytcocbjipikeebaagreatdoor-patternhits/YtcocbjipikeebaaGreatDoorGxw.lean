/-
  The program's Word and Text.
-/
import Derived.Test.YtcocbjipikeebaaGreatDoorGxd
import Derived.Test.YtcocbjipikeebaaGreatDoorScl
import Derived.OrdersHeld
namespace Go.Proofs.YtcocbjipikeebaaGreatDoor.Utf
open Go Go.Lib Go.RowKit

theorem wpOp_call {P : Program} {ops : Array Oper} {Q : Exit → Act → World → Prop} {i d : Nat} {o : Oper} {K : Act → World → Prop} {a : Act} {w : World} {f : FuncId} {args : Array Value} {R : Ending → World → Prop} (q : ops[i]? = some o) (hw : Region.wanted o (yielded ops a.tmps) = true) (hd : o.dst = some d) (h : (execOp a.eval o).run P w = .ok (.enter f args) w) (hc : Calls P f args w R) (hK : ∀ e w', R e w' → ∃ v, e = .returned v ∧ K (a.put (some d) v) w') : wpOp P ops Q i K a w := by
  unfold wpOp
  simp only [q]
  rw [if_pos hw]
  refine .inl ?_
  unfold Oper.wp
  rw [h, Oper.upon_enter]
  refine hc.mono ?_
  intro e w' hR
  obtain ⟨v, rfl, hk⟩ := hK e w' hR
  rw [hd]
  exact hk
/-- A block of two cells. -/
structure Bx2 (W : World) (b : Nat) (t : TypeId) (x0 x1 : Value) : Prop where
  blk : W.heap[b]? = some (.cells #[x0, x1] t)
theorem Bx2.c0 {W : World} {b : Nat} {t : TypeId} {x0 x1 : Value} (h : Bx2 W b t x0 x1) : W.cell? ⟨b, 0, none⟩ = some x0 := by simp [World.cell?, h.blk]
theorem Bx2.c1 {W : World} {b : Nat} {t : TypeId} {x0 x1 : Value} (h : Bx2 W b t x0 x1) : W.cell? ⟨b, 1, none⟩ = some x1 := by simp [World.cell?, h.blk]
theorem Bx2.fr {W : World} {b : Nat} {t : TypeId} {x0 x1 : Value} (h : Bx2 W b t x0 x1) (j : Nat) : W.frozen? ⟨b, j, none⟩ = false := by simp [World.frozen?, h.blk]
theorem Bx2.lt {W : World} {b : Nat} {t : TypeId} {x0 x1 : Value} (h : Bx2 W b t x0 x1) : b < W.heap.size := (Array.getElem?_eq_some_iff.1 h.blk).1
theorem Bx2.keep {W W' : World} {b : Nat} {t : TypeId} {x0 x1 : Value} (h : Bx2 W b t x0 x1) (hb : Below W.heap.size W W') : Bx2 W' b t x0 x1 := ⟨(hb.block b h.lt).trans h.blk⟩
theorem Bx2.set0 {W : World} {b : Nat} {t : TypeId} {x0 x1 : Value} (h : Bx2 W b t x0 x1) (u : Value) : Bx2 (W.setCell ⟨b, 0, none⟩ u) b t u x1 := by
  obtain ⟨hlt, hk⟩ := Array.getElem?_eq_some_iff.1 h.blk
  constructor
  show (W.heap.modify b _)[b]? = _
  rw [Array.getElem?_eq_getElem (by rw [Array.size_modify]; exact hlt), Array.getElem_modify_self, hk]
  rfl
theorem Bx2.set1 {W : World} {b : Nat} {t : TypeId} {x0 x1 : Value} (h : Bx2 W b t x0 x1) (u : Value) : Bx2 (W.setCell ⟨b, 1, none⟩ u) b t x0 u := by
  obtain ⟨hlt, hk⟩ := Array.getElem?_eq_some_iff.1 h.blk
  constructor
  show (W.heap.modify b _)[b]? = _
  rw [Array.getElem?_eq_getElem (by rw [Array.size_modify]; exact hlt), Array.getElem_modify_self, hk]
  rfl
theorem gset (w : World) (b j : Nat) (u : Value) : w.grownBy (w.setCell ⟨b, j, none⟩ u) (some b) := ⟨rfl, rfl, rfl, by simp [World.setCell], fun k _ hk => Below.heap_setCell _ _ _ k (fun e => hk (by rw [e]))⟩
theorem results_w {fn : Func} {p : Tmp} (h : fn.results = #[.cell p 32]) (tmps : Array Value) (w : World) (b : Nat) (x0 x1 : Value)
    (hp : tmps.getD p undef = .pointer (some ⟨b, 0, none⟩)) (c0 : w.cell? ⟨b, 0, none⟩ = some x0) (c1 : w.cell? ⟨b, 1, none⟩ = some x1) :
    (results fn tmps).run Tryz.prog w = .ok (.agg #[x0, x1]) w := by
  have hp' : tmps[p]?.getD undef = .pointer (some ⟨b, 0, none⟩) := by simpa using hp
  simp only [results, h]
  simp [hp', asAddr]
  go_simp

set_option maxRecDepth 100000 in
set_option maxHeartbeats 2000000 in
theorem word_any {W : World} {base xb : Nat} {L : List ByteArray} {l : List (List Int × Int)} (h : IsLex W base xb L l) (i : Nat) (hi : i < l.length) (hn : 1 ≤ l[i].1.length) (h32 : l[i].1.length ≤ 32) :
    Calls Tryz.prog 21 #[.pointer (some ⟨xb, 0, none⟩), .int .i64 (i : Nat)] W fun e w' => (∃ v, e = .returned (.agg #[v, .int .i64 l[i].2]) ∧ w'.ownsRow W.heap.size 3 1 v l[i].1.length (ints l[i].1)) ∧ Below W.heap.size W w' := by
  have hX1 := h.below (below_box' W (.cells #[.slice none 0 0, .int .i64 0] 32))
  have hB1 := below_box' W (.cells #[.slice none 0 0, .int .i64 0] 32)
  have hbx : Bx2 (W.alloc (.cells #[.slice none 0 0, .int .i64 0] 32)) W.heap.size 32 (.slice none 0 0) (.int .i64 0) := ⟨heap_box W _⟩
  have cL := len_any hX1
  have hz1 : ¬ ((i : Int) < 0) := by omega
  have hz2 : ¬ ((l.length : Int) ≤ (i : Int)) := by omega
  have hz3 : (i : Int) < (l.length : Int) := by omega
  have hlow : xb < W.heap.size ∧ ∀ g, (∃ ao cp, W.cell? ⟨g, i * 3 + 0, none⟩ = some (.slice ao l[i].1.length cp)) → g < W.heap.size := ⟨(Array.getElem?_eq_some_iff.1 h.obj.choose_spec.choose_spec.1).1, fun g ⟨ao, cp, hg⟩ => by
    unfold World.cell? at hg
    rcases Nat.lt_or_ge g W.heap.size with h1 | h1
    · exact h1
    · rw [Array.getElem?_eq_none h1] at hg; cases hg⟩
  have hgo : ∃ g ao cp wo cap, W.heap[xb]? = some (.cells #[.slice wo l.length cap] 91) ∧ wo = some ⟨g, 0, none⟩ ∧ W.cell? ⟨g, i * 3 + 0, none⟩ = some (.slice ao l[i].1.length cp) := by
    obtain ⟨⟨wo, cap, h1, h2⟩, _⟩ := h
    obtain ⟨g, ao, cp, e1, _, e3, _⟩ := h2 i hi
    exact ⟨g, ao, cp, wo, cap, h1, e1, e3⟩
  clear h
  go_enter Tryz.func21, Tryz.ntmps21
  go_wp2_with fail
  refine cL.mono ?_
  rintro e w1 ⟨rfl, hw⟩
  obtain rfl := hw.symm
  clear cL hw
  obtain ⟨⟨wo, cap, h1, h2⟩, _⟩ := hX1
  obtain ⟨gb, ao, cp, rfl, ⟨q1, e2⟩, e3, e4, q2, e6⟩ := h2 i hi
  clear q1 q2
  obtain ⟨ga, oa, rfl, q1, q2⟩ := e4.1 0 (by simp [ints]; omega)
  clear q1 q2
  have hra := e4.1
  rw [Nat.add_zero] at e3
  have cx : (W.alloc (.cells #[.slice none 0 0, .int .i64 0] 32)).cell? ⟨xb, 0, none⟩ = some (.slice (some ⟨gb, 0, none⟩) l.length cap) := (show Boxed (W.alloc (.cells #[.slice none 0 0, .int .i64 0] 32)) xb 91 _ from h1).cell
  have hxl : xb < (W.alloc (.cells #[.slice none 0 0, .int .i64 0] 32)).heap.size := (Array.getElem?_eq_some_iff.1 h1).1
  have hgb : gb < W.heap.size := by
    obtain ⟨g, ao, cp2, wo, cap2, k1, k2, k3⟩ := hgo
    have k4 := (hB1.block xb hlow.1).trans k1
    rw [h1] at k4
    injection k4 with k4
    injection k4 with k4
    simp at k4
    rw [k2] at k4
    have k5 : gb = g := by
      have := k4.1
      simpa using this
    rw [k5]
    exact hlow.2 g ⟨_, _, k3⟩
  have hxw : xb ≠ W.heap.size := by have := hlow.1; omega
  have hgw : gb ≠ W.heap.size := by omega
  clear h1 h2 e4 hgo hlow
  go_wp2
  generalize hwz : W.alloc (.cells #[.slice none 0 0, .int .i64 0] 32) = wz at *
  have HW : Aside (wz.heap.size = W.heap.size + 1) := by show _ = _; rw [← hwz]; simp
  clear hwz
  have cC : ∀ Z, Below wz.heap.size wz Z → Calls Tryz.prog 44 #[.slice (some ⟨ga, oa, none⟩) l[i].1.length cp] Z fun e w' => ∃ v', e = .returned v' ∧ w'.ownsRow Z.heap.size 3 1 v' l[i].1.length (ints l[i].1) ∧ Below Z.heap.size Z w' := fun Z hZ =>
    (Tryz.slices_Clone_int ga oa l[i].1.length cp l[i].1 Z (Nat.le_refl _) (by omega) (fun j hj => by
      obtain ⟨g', o', e1, _, e5⟩ := hra.below hZ j (by simp [ints]; exact hj)
      injection e1 with e1
      injection e1 with ea eb
      subst ea eb
      rw [e5, List.getD_eq_getElem?_getD, List.getElem?_eq_getElem hj]
      simp [ints])).mono (fun e w' ⟨v', k1, k2, _, k4⟩ => ⟨v', k1, by rw [List.take_length] at k2; exact k2, k4⟩)
  have HSC : Aside (l[i].2 = l[i].2 ∧ l[i].1 = l[i].1) := ⟨rfl, rfl⟩
  generalize hsc : l[i].2 = sc at e6
  generalize hcc : l[i].1 = c at *
  have hN : c.length ≤ 32 := h32
  generalize hNN : c.length = N at *
  have hSS : ∀ Z, Below wz.heap.size wz Z → Z.cell? ⟨xb, 0, none⟩ = some (.slice (some ⟨gb, 0, none⟩) l.length cap) ∧ Z.cell? ⟨gb, i * 3, none⟩ = some (.slice (some ⟨ga, oa, none⟩) N cp) ∧ Z.cell? ⟨gb, i * 3 + 2, none⟩ = some (.int .i64 sc) := fun Z hZ => ⟨(hZ.cell (p := ⟨xb, 0, none⟩) hxl).trans cx, (hZ.cell (p := ⟨gb, i * 3, none⟩) e2).trans e3, (hZ.cell (p := ⟨gb, i * 3 + 2, none⟩) e2).trans e6⟩
  have hS0 := hSS wz.drew (Below.drew (Below.refl _ _))
  have hb0 : Below wz.heap.size wz wz.drew := Below.drew (Below.refl _ _)
  refine wp_region_held (S := fun Z => Z.cell? ⟨xb, 0, none⟩ = some (.slice (some ⟨gb, 0, none⟩) l.length cap) ∧ Z.cell? ⟨gb, i * 3, none⟩ = some (.slice (some ⟨ga, oa, none⟩) N cp) ∧ Z.cell? ⟨gb, i * 3 + 2, none⟩ = some (.int .i64 sc)) (by kernel_rfl) ?_
  refine (show wpAnyH _ .any _ _ _ 19 (Array.replicate 19 false) _ wz.drew from ?_)
  refine takeD (i := 0) (d := 14) (v := .pointer (some ⟨xb, 0, none⟩)) rfl (by kernel_rfl) (by kernel_rfl) (by kernel_rfl) (fun _ _ _ h => h) (fun oi ho => yields_now ho rfl fun Z hSw => ?_) hS0 ?_
  · obtain ⟨s1, s2, s3⟩ := hSw
    go_simp
  simp only [Act.put, List.setIfInBounds_toArray, List.set_cons_zero, List.set_cons_succ]
  refine takeD (i := 1) (d := 15) (v := .pointer (some ⟨xb, 0, none⟩)) rfl (by kernel_rfl) (by kernel_rfl) (by kernel_rfl) (fun _ _ _ h => h) (fun oi ho => yields_now ho rfl fun Z hSw => ?_) hS0 ?_
  · obtain ⟨s1, s2, s3⟩ := hSw
    go_simp
  simp only [Act.put, List.setIfInBounds_toArray, List.set_cons_zero, List.set_cons_succ]
  refine takeD (i := 2) (d := 16) (v := .pointer (some ⟨xb, 0, none⟩)) rfl (by kernel_rfl) (by kernel_rfl) (by kernel_rfl) (fun _ _ _ h => h) (fun oi ho => yields_now ho rfl fun Z hSw => ?_) hS0 ?_
  · obtain ⟨s1, s2, s3⟩ := hSw
    go_simp
  simp only [Act.put, List.setIfInBounds_toArray, List.set_cons_zero, List.set_cons_succ]
  refine takeD (i := 3) (d := 17) (v := .slice (some ⟨gb, 0, none⟩) l.length cap) rfl (by kernel_rfl) (by kernel_rfl) (by kernel_rfl) (fun _ _ _ h => h) (fun oi ho => yields_now ho rfl fun Z hSw => ?_) hS0 ?_
  · obtain ⟨s1, s2, s3⟩ := hSw
    go_simp
  simp only [Act.put, List.setIfInBounds_toArray, List.set_cons_zero, List.set_cons_succ]
  refine takeD (i := 4) (d := 18) (v := .int .i64 (i : Int)) rfl (by kernel_rfl) (by kernel_rfl) (by kernel_rfl) (fun _ _ _ h => h) (fun oi ho => yields_now ho rfl fun Z hSw => ?_) hS0 ?_
  · obtain ⟨s1, s2, s3⟩ := hSw
    go_simp
  simp only [Act.put, List.setIfInBounds_toArray, List.set_cons_zero, List.set_cons_succ]
  refine takeD (i := 5) (d := 19) (v := .pointer (some ⟨gb, i * 3, none⟩)) rfl (by kernel_rfl) (by kernel_rfl) (by kernel_rfl) (fun _ _ _ h => h) (fun oi ho => yields_now ho rfl fun Z hSw => ?_) hS0 ?_
  · obtain ⟨s1, s2, s3⟩ := hSw
    go_simp
  simp only [Act.put, List.setIfInBounds_toArray, List.set_cons_zero, List.set_cons_succ]
  refine takeD (i := 6) (d := 20) (v := .pointer (some ⟨gb, i * 3, none⟩)) rfl (by kernel_rfl) (by kernel_rfl) (by kernel_rfl) (fun _ _ _ h => h) (fun oi ho => yields_now ho rfl fun Z hSw => ?_) hS0 ?_
  · obtain ⟨s1, s2, s3⟩ := hSw
    go_simp
  simp only [Act.put, List.setIfInBounds_toArray, List.set_cons_zero, List.set_cons_succ]
  refine takeD (i := 7) (d := 21) (v := .slice (some ⟨ga, oa, none⟩) N cp) rfl (by kernel_rfl) (by kernel_rfl) (by kernel_rfl) (fun _ _ _ h => h) (fun oi ho => yields_now ho rfl fun Z hSw => ?_) hS0 ?_
  · obtain ⟨s1, s2, s3⟩ := hSw
    go_simp
  simp only [Act.put, List.setIfInBounds_toArray, List.set_cons_zero, List.set_cons_succ]
  refine takeD (i := 9) (d := 23) (v := .pointer (some ⟨xb, 0, none⟩)) rfl (by kernel_rfl) (by kernel_rfl) (by kernel_rfl) (fun _ _ _ h => h) (fun oi ho => yields_now ho rfl fun Z hSw => ?_) hS0 ?_
  · obtain ⟨s1, s2, s3⟩ := hSw
    go_simp
  simp only [Act.put, List.setIfInBounds_toArray, List.set_cons_zero, List.set_cons_succ]
  refine takeD (i := 10) (d := 24) (v := .pointer (some ⟨xb, 0, none⟩)) rfl (by kernel_rfl) (by kernel_rfl) (by kernel_rfl) (fun _ _ _ h => h) (fun oi ho => yields_now ho rfl fun Z hSw => ?_) hS0 ?_
  · obtain ⟨s1, s2, s3⟩ := hSw
    go_simp
  simp only [Act.put, List.setIfInBounds_toArray, List.set_cons_zero, List.set_cons_succ]
  refine takeD (i := 11) (d := 25) (v := .pointer (some ⟨xb, 0, none⟩)) rfl (by kernel_rfl) (by kernel_rfl) (by kernel_rfl) (fun _ _ _ h => h) (fun oi ho => yields_now ho rfl fun Z hSw => ?_) hS0 ?_
  · obtain ⟨s1, s2, s3⟩ := hSw
    go_simp
  simp only [Act.put, List.setIfInBounds_toArray, List.set_cons_zero, List.set_cons_succ]
  refine takeD (i := 12) (d := 26) (v := .slice (some ⟨gb, 0, none⟩) l.length cap) rfl (by kernel_rfl) (by kernel_rfl) (by kernel_rfl) (fun _ _ _ h => h) (fun oi ho => yields_now ho rfl fun Z hSw => ?_) hS0 ?_
  · obtain ⟨s1, s2, s3⟩ := hSw
    go_simp
  simp only [Act.put, List.setIfInBounds_toArray, List.set_cons_zero, List.set_cons_succ]
  refine takeD (i := 13) (d := 27) (v := .int .i64 (i : Int)) rfl (by kernel_rfl) (by kernel_rfl) (by kernel_rfl) (fun _ _ _ h => h) (fun oi ho => yields_now ho rfl fun Z hSw => ?_) hS0 ?_
  · obtain ⟨s1, s2, s3⟩ := hSw
    go_simp
  simp only [Act.put, List.setIfInBounds_toArray, List.set_cons_zero, List.set_cons_succ]
  refine takeD (i := 14) (d := 28) (v := .pointer (some ⟨gb, i * 3, none⟩)) rfl (by kernel_rfl) (by kernel_rfl) (by kernel_rfl) (fun _ _ _ h => h) (fun oi ho => yields_now ho rfl fun Z hSw => ?_) hS0 ?_
  · obtain ⟨s1, s2, s3⟩ := hSw
    go_simp
  simp only [Act.put, List.setIfInBounds_toArray, List.set_cons_zero, List.set_cons_succ]
  refine takeD (i := 15) (d := 29) (v := .pointer (some ⟨gb, i * 3 + 2, none⟩)) rfl (by kernel_rfl) (by kernel_rfl) (by kernel_rfl) (fun _ _ _ h => h) (fun oi ho => yields_now ho rfl fun Z hSw => ?_) hS0 ?_
  · obtain ⟨s1, s2, s3⟩ := hSw
    go_simp
  simp only [Act.put, List.setIfInBounds_toArray, List.set_cons_zero, List.set_cons_succ]
  refine takeD (i := 16) (d := 30) (v := .int .i64 sc) rfl (by kernel_rfl) (by kernel_rfl) (by kernel_rfl) (fun _ _ _ h => h) (fun oi ho => yields_now ho rfl fun Z hSw => ?_) hS0 ?_
  · obtain ⟨s1, s2, s3⟩ := hSw
    go_simp
  simp only [Act.put, List.setIfInBounds_toArray, List.set_cons_zero, List.set_cons_succ]
  refine wpAnyH_all (rs := [8]) (by kernel_rfl) (by simp) (fun i hi => ?_)
  obtain rfl := List.mem_singleton.1 hi
  refine wpOp_call rfl rfl rfl (by go_simp) (cC wz.drew hb0) ?_
  rintro e w3 ⟨v', rfl, hown, hb3⟩
  have hb4 : Below wz.heap.size wz w3 := hb0.trans (hb3.mono hb0.size)
  refine ⟨_, rfl, hSS _ hb4, ?_⟩
  have hS3 := hSS _ hb4
  simp only [Act.put, List.setIfInBounds_toArray, List.set_cons_zero, List.set_cons_succ]
  obtain ⟨av, cv, rfl⟩ := row_slice hown
  refine takeD (i := 17) (d := 31) (v := .agg #[.slice av N cv, .int .i64 sc]) rfl (by kernel_rfl) (by kernel_rfl) (by kernel_rfl) (fun _ _ _ h => h) (fun oi ho => yields_now ho rfl fun Z hSw => ?_) hS3 ?_
  · go_simp
  simp only [Act.put, List.setIfInBounds_toArray, List.set_cons_zero, List.set_cons_succ]
  refine wpAnyH_all (rs := [18]) (by kernel_rfl) (by simp) (fun i hi => ?_)
  obtain rfl := List.mem_singleton.1 hi
  have b3 := hbx.keep hb4
  have b4 := b3.set0 (.slice av N cv)
  have b5 := b4.set1 (.int .i64 sc)
  have k0 := b3.c0
  have k1 := b3.fr 0
  have k2 := b4.c1
  have k3 := b4.fr 1
  have hce : ∀ k q, k ≠ W.heap.size → ((w3.setCell ⟨W.heap.size, 0, none⟩ (.slice av N cv)).setCell ⟨W.heap.size, 1, none⟩ (.int .i64 sc)).cell? ⟨k, q, none⟩ = w3.cell? ⟨k, q, none⟩ := fun k q hk =>
    (World.cell?_of_block (a := ⟨k, q, none⟩) (Below.heap_setCell _ ⟨W.heap.size, 1, none⟩ _ k hk)).trans (World.cell?_of_block (a := ⟨k, q, none⟩) (Below.heap_setCell _ ⟨W.heap.size, 0, none⟩ _ k hk))
  refine wpOp_skip (w' := (w3.setCell ⟨W.heap.size, 0, none⟩ (.slice av N cv)).setCell ⟨W.heap.size, 1, none⟩ (.int .i64 sc)) rfl rfl rfl ?_ ⟨⟨(hce _ _ hxw).trans hS3.1, (hce _ _ hgw).trans hS3.2.1, (hce _ _ hgw).trans hS3.2.2⟩, wpAnyH_done (by kernel_rfl) ?_ _⟩
  · go_simp
  have hg5 := (gset w3 W.heap.size 0 (.slice av N cv)).trans (gset (w3.setCell ⟨W.heap.size, 0, none⟩ (.slice av N cv)) W.heap.size 1 (.int .i64 sc))
  have hws := HW.out
  have hro := row_low (row_turn hown hg5 (fun b hb _ e => by injection e with e; have : wz.drew.heap.size = wz.heap.size := rfl; omega)) (B' := W.heap.size) (by show W.heap.size ≤ wz.heap.size; omega)
  have hfin : Below W.heap.size W ((w3.setCell ⟨W.heap.size, 0, none⟩ (.slice av N cv)).setCell ⟨W.heap.size, 1, none⟩ (.int .i64 sc)) := (hB1.trans (hb4.mono (by omega))).grown hg5 (by have := hb4.size; omega) (fun k e => by injection e with e; omega)
  have c50 := b5.c0
  have c51 := b5.c1
  clear hown hg5 b3 b4 b5 k0 k1 k2 k3 hce hS3 hSS cC hb3 hb4 hra
  generalize ((w3.setCell ⟨W.heap.size, 0, none⟩ (.slice av N cv)).setCell ⟨W.heap.size, 1, none⟩ (.int .i64 sc)) = w5 at *
  go_wp2
  refine bodyPost_ret (results_w rfl _ _ W.heap.size _ _ rfl c50 c51) rfl ⟨⟨.slice av N cv, rfl, hro⟩, hfin⟩
end Go.Proofs.YtcocbjipikeebaaGreatDoor.Utf
/-
  Layer 9's own look that the program is there at all: a word is read.
-/
namespace Go.Proofs.YtcocbjipikeebaaGreatDoor.Utf
open Go Go.Lib Go.RowKit

def abL : List ByteArray := [⟨#[65]⟩, ⟨#[66]⟩]
theorem capb {x : Nat} (h : 65 ≤ x ∧ x ≤ 90) : capR x := ⟨by unfold isL; omega, up_basic h⟩
theorem new_ab : newR abL = (0, 0) := by
  have n1 : nameP ⟨#[65]⟩ := by
    unfold nameP
    rw [show pairs ⟨#[65]⟩ = [(0, 65)] by kernel_rfl]
    exact ⟨by decide, by decide, fun x hx => by rw [List.mem_singleton.1 hx]; exact capb (by decide)⟩
  have n2 : nameP ⟨#[66]⟩ := by
    unfold nameP
    rw [show pairs ⟨#[66]⟩ = [(0, 66)] by kernel_rfl]
    exact ⟨by decide, by decide, fun x hx => by rw [List.mem_singleton.1 hx]; exact capb (by decide)⟩
  rw [newR_few (by decide) (by decide)]
  show newAt abL 2 0 = _
  rw [newAt_next (L := abL) (f := 1) (i := 0) (by decide) n1 (by simp [abL]), newAt_next (L := abL) (f := 0) (i := 1) (by decide) n2 (by simp [abL])]
  rfl
theorem ab_nodup : abL.Nodup := by simp [abL]
theorem ab_names : ∀ x ∈ abL, 1 ≤ x.size ∧ x.size ≤ 12 := by
  intro x hx
  simp only [abL, List.mem_cons, List.not_mem_nil, or_false] at hx
  rcases hx with rfl | rfl <;> decide
theorem ab_1 : best abL ((⟨#[65, 66]⟩ : ByteArray).extract 0 2) = some 0 := by
  refine best_some ab_nodup ⟨by decide, by kernel_rfl, fun j hj hb => ?_⟩
  match j, hj with
  | 0, _ => exact (show (1 : Nat) ≤ 1 by decide)
  | 1, _ => exact (show (1 : Nat) ≤ 1 by decide)
theorem ab_2 : best abL ((⟨#[65, 66]⟩ : ByteArray).extract 1 2) = some 1 := by
  refine best_some ab_nodup ⟨by decide, by kernel_rfl, fun j hj hb => ?_⟩
  match j, hj with
  | 0, _ => exact (show (1 : Nat) ≤ 1 by decide)
  | 1, _ => exact (show (1 : Nat) ≤ 1 by decide)
theorem ab_split : splitS abL ⟨#[65, 66]⟩ = ([0, 1], 0, 0) := by
  unfold splitS
  rw [splitR_next (i := 0) (by decide) (by decide) ab_1]
  show splitR abL ⟨#[65, 66]⟩ 32 1 [0] = _
  rw [splitR_next (i := 1) (by decide) (by decide) ab_2]
  exact splitR_end rfl
theorem x_split : splitS abL ⟨#[88]⟩ = ([], 0, 33) := by
  unfold splitS
  refine splitR_none (by decide) (by decide) ?_
  cases h : best abL ((⟨#[88]⟩ : ByteArray).extract 0 1) with
  | none => exact h
  | some i =>
    have hb := best_is h
    have hi := hb.lt
    match i, hi with
    | 0, _ => have := hb.pre; rw [show begins _ _ = false by kernel_rfl] at this; cases this
    | 1, _ => have := hb.pre; rw [show begins _ _ = false by kernel_rfl] at this; cases this
def abT : ByteArray := ⟨#[97, 98, 59, 55, 10, 120]⟩
theorem ab_lines : txts (lines abT.data.toList) = [⟨#[97, 98, 59, 55]⟩, ⟨#[120]⟩] := by
  have : lines abT.data.toList = [[97, 98, 59, 55], [120]] := by decide
  rw [this]
  rfl
theorem ab_r1 : readL abL ⟨#[97, 98, 59, 55]⟩ [] = (0, [([0, 1], 7)]) := by
  have hc : cutS ⟨#[97, 98, 59, 55]⟩ = (⟨#[97, 98]⟩, ⟨#[55]⟩) := by kernel_rfl
  have hf : foldS false ⟨#[97, 98]⟩ = ⟨#[65, 66]⟩ := by kernel_rfl
  have hs : scoreP ⟨#[55]⟩ = (7, true) := by kernel_rfl
  have hw : wordOf abL ⟨#[65, 66]⟩ = [0, 1] := by unfold wordOf; rw [ab_split]; rfl
  unfold readL
  rw [hc]
  show (if foldS false ⟨#[97, 98]⟩ = ⟨#[]⟩ then _ else _) = _
  rw [hf, hs, hw, ab_split, if_neg (by decide), if_neg (by decide), if_neg (by decide), if_neg (fun h => by have := h.2; cases this)]
  rfl
theorem ab_r2 (l : List (List Int × Int)) : readL abL ⟨#[120]⟩ l = (33, l) := by
  have hc : cutS ⟨#[120]⟩ = (⟨#[120]⟩, ⟨#[53, 48]⟩) := by kernel_rfl
  have hf : foldS false ⟨#[120]⟩ = ⟨#[88]⟩ := by kernel_rfl
  have hs : scoreP ⟨#[53, 48]⟩ = (50, true) := by kernel_rfl
  unfold readL
  rw [hc]
  show (if foldS false ⟨#[120]⟩ = ⟨#[]⟩ then _ else _) = _
  rw [hf, hs, x_split, if_neg (by decide), if_neg (by decide), if_pos (by decide)]
theorem ab_read : readT abL abT = ([([0, 1], 7)], [(1, 33)]) := by
  unfold readT
  rw [ab_lines, rdL, if_neg (by rw [show sayN (pairs ⟨#[97, 98, 59, 55]⟩) = false by kernel_rfl]; decide), ab_r1, if_pos rfl, rdL, if_neg (by rw [show sayN (pairs ⟨#[120]⟩) = false by kernel_rfl]; decide), ab_r2, if_neg (by decide)]
  rfl

end Go.Proofs.YtcocbjipikeebaaGreatDoor.Utf
