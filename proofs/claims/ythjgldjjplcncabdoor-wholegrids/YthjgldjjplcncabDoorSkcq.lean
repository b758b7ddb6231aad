/-
  The scanner's small calls: addBar, addRow, addCell.
-/
import Derived.Test.YthjgldjjplcncabDoorSkaq
import Derived.Test.YthjgldjjplcncabDoorHldq
import Derived.Test.YthjgldjjplcncabDoorGsl
import Derived.Maps.AppendAt
namespace Go.Proofs.YthjgldjjplcncabDoor.Skt
open Go Go.Lib Go.RowKit Utf Grd

theorem bt_set_same (zs : List Bool) (k : Nat) (h : bt zs k = true) : zs.set k true = zs := by
  apply List.ext_getElem?
  intro i
  rw [List.getElem?_set]
  by_cases e : k = i
  · subst e
    rw [if_pos rfl]
    by_cases hk : k < zs.length
    · rw [if_pos hk, List.getElem?_eq_getElem hk]
      rw [bt_in hk] at h
      rw [h]
    · rw [if_neg hk, List.getElem?_eq_none (by omega)]
  · rw [if_neg e]

set_option maxRecDepth 100000 in
set_option maxHeartbeats 1000000 in
theorem addBar_any (B g cap : Nat) (zs : List Bool) (W : World) (hn : 1 ≤ zs.length) (hn' : zs.length ≤ 1024) (h : W.ownsRow B 4 1 (.slice (some ⟨g, 0, none⟩) zs.length cap) zs.length (cellsB zs)) :
    Calls Tryd.prog 40 #[.slice (some ⟨g, 0, none⟩) zs.length cap] W fun e W' => e = .returned (.bool (!bt zs (zs.length - 1))) ∧ W'.ownsRow B 4 1 (.slice (some ⟨g, 0, none⟩) zs.length cap) zs.length (cellsB (zs.set (zs.length - 1) true)) ∧ Dif (fun k => k = g) W W' := by
  have y0 := h.cellAt (zs.length - 1) (by omega)
  rw [cellsB_at (by omega)] at y0
  have f0 := h.frozenAt (zs.length - 1)
  have hst := h.stored (zs.length - 1) (.bool true)
  rw [cellsB_set] at hst
  have HST : Aside ((W.setCell ⟨g, zs.length - 1, none⟩ (.bool true)).ownsRow B 4 1 (.slice (some ⟨g, 0, none⟩) zs.length cap) zs.length (cellsB (zs.set (zs.length - 1) true))) := hst.1
  have HS0 : Aside (W.ownsRow B 4 1 (.slice (some ⟨g, 0, none⟩) zs.length cap) zs.length (cellsB zs)) := h
  have hsub : ((zs.length : Int) - 1) = ((zs.length - 1 : Nat) : Int) := by omega
  have hlt : ((zs.length - 1 : Nat) : Int) < (zs.length : Int) := by omega
  clear h hst
  cases hb : bt zs (zs.length - 1) with
  | true =>
    have HE : Aside (zs.set (zs.length - 1) true = zs) := bt_set_same zs _ hb
    rw [hb] at y0
    clear hb
    generalize zs.length - 1 = k at *
    go_enter Tryd.func40, Tryd.ntmps40
    go_wp2
    go_ret
    rw [HE.out]
    exact ⟨rfl, HS0.out, Dif.refl _ _⟩
  | false =>
    rw [hb] at y0
    clear hb
    generalize zs.length - 1 = k at *
    go_enter Tryd.func40, Tryd.ntmps40
    go_wp2
    go_ret
    exact ⟨rfl, HST.out, (Dif.refl _ _).set g _ _ rfl⟩

set_option maxRecDepth 100000 in
set_option maxHeartbeats 1000000 in
theorem addRow_any (b ce h w : Nat) (x0 x1 x2 x3 x4 x8 x9 x10 : Value) (W : World) (hh : h ≤ 16)
    (hS : S11 W b x0 x1 x2 x3 x4 (.int .i64 (ce : Int)) (.int .i64 (h : Int)) (.int .i64 (w : Int)) x8 x9 x10) :
    Calls Tryd.prog 41 #[.pointer (some ⟨b, 0, none⟩)] W fun e W' => e = .returned (.bool (decide (h = 0 ∨ ce = w))) ∧ S11 W' b x0 x1 x2 x3 x4 (.int .i64 (ce : Int)) (.int .i64 ((h + 1 : Nat) : Int)) (.int .i64 ((if h = 0 then ce else w : Nat) : Int)) x8 x9 x10 ∧ Dif (fun k => k = b) W W' := by
  have k5 := hS.c5
  have k6 := hS.c6
  have k7 := hS.c7
  have f6 := hS.fr 6
  have f7 := hS.fr 7
  have HS : Aside (S11 W b x0 x1 x2 x3 x4 (.int .i64 (ce : Int)) (.int .i64 (h : Int)) (.int .i64 (w : Int)) x8 x9 x10) := hS
  clear hS
  by_cases h0 : h = 0
  · subst h0
    rw [if_pos rfl, decide_eq_true (Or.inl rfl)]
    go_enter Tryd.func41, Tryd.ntmps41
    go_wp2
    go_big_region
    go_wp2
    go_ret
    exact ⟨rfl, ⟨((HS.out.set7 _).set6 _).blk⟩, ((((Dif.refl (fun k => k = b) W).set b _ _ rfl).set b _ _ rfl).trans (Dif.of_below (Below.drew (Below.refl _ _))))⟩
  · have h0z : ¬ (h : Int) = 0 := by omega
    rw [if_neg h0]
    have hadd : (h : Int) + 1 = ((h + 1 : Nat) : Int) := by omega
    have hdd : ((ce : Int) == (w : Int)) = decide (h = 0 ∨ ce = w) := by
      by_cases e : ce = w
      · rw [decide_eq_true (Or.inr e), beq_iff_eq]; omega
      · rw [decide_eq_false (fun k => k.elim h0 e), beq_eq_false_iff_ne]; omega
    generalize decide (h = 0 ∨ ce = w) = r at *
    have hh1 : h + 1 ≤ 17 := by omega
    generalize h + 1 = h' at *
    clear h0
    go_enter Tryd.func41, Tryd.ntmps41
    go_wp2
    go_big_region
    go_wp2
    go_ret
    exact ⟨rfl, ⟨(HS.out.set6 _).blk⟩, (((Dif.refl (fun k => k = b) W).set b _ _ rfl).trans (Dif.of_below (Below.drew (Below.refl _ _))))⟩

/-- The three lists of the scanner's grid, in memory behind its box. -/
structure L3 (W : World) (b : Nat) (v8 v9 v10 : Value) (xs ys zs : List Bool) : Prop where
  r8 : W.ownsRow (b + 1) 4 1 v8 xs.length (cellsB xs)
  r9 : W.ownsRow (b + 1) 4 1 v9 ys.length (cellsB ys)
  r10 : W.ownsRow (b + 1) 4 1 v10 zs.length (cellsB zs)
  a89 : ∀ j, v8.ownBlock = some j → v9.ownBlock ≠ some j
  a810 : ∀ j, v8.ownBlock = some j → v10.ownBlock ≠ some j
  a910 : ∀ j, v9.ownBlock = some j → v10.ownBlock ≠ some j
section
variable {W W' : World} {b : Nat} {v8 v9 v10 : Value} {xs ys zs : List Bool}
theorem L3.keep (h : L3 W b v8 v9 v10 xs ys zs) (hb : Below W.heap.size W W') : L3 W' b v8 v9 v10 xs ys zs := ⟨row_keeps3 h.r8 hb, row_keeps3 h.r9 hb, row_keeps3 h.r10 hb, h.a89, h.a810, h.a910⟩
theorem row_dif1 {n : Nat} {v : Value} {l : List Value} (h : W.ownsRow (b + 1) 4 1 v n l) (hd : Dif (fun k => k = b) W W') : W'.ownsRow (b + 1) 4 1 v n l := by
  rcases h with ⟨h1, h2 | ⟨g, cap, cur, e1, e2, e3, e4⟩⟩
  · exact ⟨h1, .inl h2⟩
  · exact ⟨h1, .inr ⟨g, cap, cur, e1, e2, (hd.block g (Array.getElem?_eq_some_iff.1 e3).1 (by omega)).trans e3, e4⟩⟩
theorem L3.dif (h : L3 W b v8 v9 v10 xs ys zs) (hd : Dif (fun k => k = b) W W') : L3 W' b v8 v9 v10 xs ys zs := ⟨row_dif1 h.r8 hd, row_dif1 h.r9 hd, row_dif1 h.r10 hd, h.a89, h.a810, h.a910⟩
theorem L3.rot (h : L3 W b v8 v9 v10 xs ys zs) : L3 W b v9 v10 v8 ys zs xs := ⟨h.r9, h.r10, h.r8, h.a910, fun j hj e => h.a89 j e hj, fun j hj e => h.a810 j e hj⟩
theorem cellsB_snoc (l : List Bool) (v : Bool) : cellsB l ++ [.bool v] = cellsB (l ++ [v]) := by simp [cellsB]
theorem L3.app (h : L3 W b v8 v9 v10 xs ys zs) {v' : Value} {x : Bool} (hr : W'.ownsRow (b + 1) 4 1 v' (xs.length + 1) (cellsB xs ++ [.bool x])) (hg : W.grownBy W' v8.ownBlock) (hv : v'.ownBlock = v8.ownBlock ∨ v'.ownBlock = some W.heap.size) : L3 W' b v' v9 v10 (xs ++ [x]) ys zs := by
  refine ⟨by rw [List.length_append, List.length_singleton, ← cellsB_snoc]; exact hr, row_grown h.r9 hg fun j hj e => h.a89 j e hj, row_grown h.r10 hg fun j hj e => h.a810 j e hj, fun j hj e => ?_, fun j hj e => ?_, h.a910⟩
  · rcases hv with hv | hv
    · rw [hv] at hj; exact h.a89 j hj e
    · rw [hv] at hj; cases hj; have := (h.r9.lt _ e).2; omega
  · rcases hv with hv | hv
    · rw [hv] at hj; exact h.a810 j hj e
    · rw [hv] at hj; cases hj; have := (h.r10.lt _ e).2; omega
theorem L3.below_app (h : L3 W b v8 v9 v10 xs ys zs) (hb : b ≤ W.heap.size) (hg : W.grownBy W' v8.ownBlock) : Below b W W' := Below.grown (Below.refl _ _) hg hb (fun j hj => by have := (h.r8.lt _ hj).1; omega)
theorem s11_grown {x0 x1 x2 x3 x4 x5 x6 x7 x8 x9 x10 v : Value} {o : Option Nat} (h : S11 W b x0 x1 x2 x3 x4 x5 x6 x7 x8 x9 x10) (hl : L3 W b v v9 v10 xs ys zs) (ho : o = v.ownBlock) (hg : W.grownBy W' o) : S11 W' b x0 x1 x2 x3 x4 x5 x6 x7 x8 x9 x10 :=
  ⟨(hg.block b h.lt (fun e => by subst ho; have := (hl.r8.lt b e.symm).1; omega)).trans h.blk⟩
theorem row_slice {B n z : Nat} {e : TypeId} {v : Value} {l : List Value} (h : W.ownsRow B e z v n l) : ∃ ao m cp, v = .slice ao m cp := by
  rcases h.2 with ⟨rfl, _⟩ | ⟨g, cap, cur, rfl, _⟩
  · exact ⟨_, _, _, rfl⟩
  · exact ⟨_, _, _, rfl⟩
theorem cell_one_new2 (w : World) (v : Value) (t : TypeId) (n : Nat) (h : n = w.heap.size) : ∀ j u, [v][j]? = some u → (w.alloc (.cells #[v] t)).cell? ((⟨n, 0, none⟩ : Addr).add j) = some u := by
  subst h
  exact cell_one_new _ _ _
theorem L3.nil (W : World) (b : Nat) : L3 W b (.slice none 0 0) (.slice none 0 0) (.slice none 0 0) [] [] [] := ⟨World.ownsRow_nil _ _ _ _, World.ownsRow_nil _ _ _ _, World.ownsRow_nil _ _ _ _, fun j h => (by cases h), fun j h => (by cases h), fun j h => (by cases h)⟩
end

theorem wpOp_wp {P : Program} {ops : Array Oper} {Q : Exit → Act → World → Prop} {i : Nat} {o : Oper} {K : Act → World → Prop} {a : Act} {w : World} (q : ops[i]? = some o) (g : o.guard = none) (h : o.wp P a w K Q) : wpOp P ops Q i K a w := by
  have hw : Region.wanted o (yielded ops a.tmps) = true := by simp [Region.wanted, g]
  unfold wpOp
  simp only [q]
  rw [if_pos hw]
  exact .inl h
theorem wpOp_val {P : Program} {ops : Array Oper} {Q : Exit → Act → World → Prop} {i : Nat} {o : Oper} {K : Act → World → Prop} {a : Act} {w w' : World} {v : Value} (q : ops[i]? = some o) (g : o.guard = none) (h : (execOp a.eval o).run P w = .ok (.value v) w') (hK : K (a.put o.dst v) w') : wpOp P ops Q i K a w := by
  refine wpOp_wp q g ?_
  unfold Oper.wp
  rw [h]
  exact hK
theorem wpOp_skip {P : Program} {ops : Array Oper} {Q : Exit → Act → World → Prop} {i : Nat} {o : Oper} {K : Act → World → Prop} {a : Act} {w w' : World} (q : ops[i]? = some o) (g : o.guard = none) (hd : o.dst = none) (h : (execOp a.eval o).run P w = .ok .skip w') (hK : K a w') : wpOp P ops Q i K a w := by
  refine wpOp_wp q g ?_
  unfold Oper.wp
  rw [h, Oper.upon_skip, hd]
  exact hK

section
variable {P : Program} (w : World)
theorem wp_append_at {o : Oper} {a : Act} {K : Act → World → Prop} {Q : Exit → Act → World → Prop} (s x : Operand) (t : TypeId)
    (ho : o.op = .call { callee := .builtin .append, args := #[s, x], argTypes := #[t, t] })
    (base : Nat) (e : TypeId) (i : TypeInfo) (z : Value) (size bytes : Nat) (ht : P.underlying t = some (.slice e)) (hi : P.info? e = some i) (hz : i.zero = some z)
    (hsize : i.size = size) (hby : i.bytes = bytes) (hzs : z.cells.size = size) (hsz : 0 < size)
    (v : Value) (n : Nat) (xs : List Value) (hs : a.eval s = v) (hown : w.ownsRow base e size v n xs)
    (ad : Addr) (m c : Nat) (news : List Value) (hx : a.eval x = .slice (some ad) m c) (hl : news.length = m * size) (hnews : ∀ j u, news[j]? = some u → w.cell? (ad.add j) = some u) (h1 : ∀ u ∈ news, u.oneCell' = true)
    (h63 : n + m ≤ maxLen) (hbytes : (n + m) * bytes ≤ 140737488355328) (hbase : base ≤ w.heap.size)
    (h : ∀ v' w', w'.ownsRow base e size v' (n + m) (xs ++ news) → w.grownBy w' v.ownBlock → (v'.ownBlock = v.ownBlock ∨ v'.ownBlock = some w.heap.size) → K (a.put o.dst v') w') : o.wp P a w K Q := by
  obtain ⟨v', w', hr, h2, h3, _, h5⟩ := run_append_own_at (P := P) w base t o.type e i z size bytes ht hi hz hsize hby hzs hsz v n xs hown ad m c news hl hnews h1 h63 hbytes hbase
  unfold Oper.wp execOp
  simp only [ho, resolve, invoke, builtin, Sem.run_bind, Sem.run_pure, Result.andThen_ok, List.map_toArray, List.map_cons, List.map_nil, hs, hx, hr]
  exact h v' w' h2 h3 h5
end

set_option maxRecDepth 100000 in
set_option maxHeartbeats 2000000 in
theorem addCell_any (b ce : Nat) (sg : Int) (x0 x2 x3 x4 x6 x7 v8 v9 v10 : Value) (xs ys zs : List Bool) (W : World) (hc : ce ≤ 16) (hx : xs.length ≤ 1024) (hy : ys.length ≤ 1024) (hz : zs.length ≤ 1024)
    (hS : S11 W b x0 (.int .i32 sg) x2 x3 x4 (.int .i64 (ce : Int)) x6 x7 v8 v9 v10) (hL : L3 W b v8 v9 v10 xs ys zs) :
    Calls Tryd.prog 39 #[.pointer (some ⟨b, 0, none⟩)] W fun e W' => e = .returned (.tuple #[]) ∧ ∃ u8 u9 u10, S11 W' b x0 (.int .i32 sg) x2 x3 x4 (.int .i64 ((ce + 1 : Nat) : Int)) x6 x7 u8 u9 u10 ∧ L3 W' b u8 u9 u10 (xs ++ [sg == 35]) (ys ++ [false]) (zs ++ [false]) ∧ Below b W W' := by
  obtain ⟨i0, hi0, hz0, hz1, hz2⟩ := info_parts infoBool
  have hbl := hS.lt
  have HS : Aside (S11 W b x0 (.int .i32 sg) x2 x3 x4 (.int .i64 (ce : Int)) x6 x7 v8 v9 v10) := hS
  have HL : Aside (L3 W b v8 v9 v10 xs ys zs) := hL
  have hadd : (ce : Int) + 1 = ((ce + 1 : Nat) : Int) := by omega
  have hce : ce + 1 ≤ 17 := by omega
  have hSW : W.drew.cell? ⟨b, 1, none⟩ = some (.int .i32 sg) ∧ W.drew.cell? ⟨b, 8, none⟩ = some v8 := ⟨hS.c1, hS.c8⟩
  clear hS hL
  generalize ce + 1 = ce' at *
  go_enter Tryd.func39, Tryd.ntmps39
  go_wp2
  go_cut [17] from 2 to 16 (fun s17 wd => s17 = .pointer (some ⟨b, 8, none⟩) ∧ Aside (∃ u8, S11 wd b x0 (.int .i32 sg) x2 x3 x4 (.int .i64 (ce : Int)) x6 x7 u8 v9 v10 ∧ L3 wd b u8 v9 v10 (xs ++ [sg == 35]) ys zs ∧ Below b W wd))
  case first =>
    refine wp_region_held (S := fun Z => Z.cell? ⟨b, 1, none⟩ = some (.int .i32 sg)) (by kernel_rfl) ?_
    refine (show wpAnyH _ .any _ _ _ 17 (Array.replicate 17 false) _ W.drew from ?_)
    refine takeD (i := 0) (d := 2) (v := .pointer (some ⟨b, 0, none⟩)) rfl (by kernel_rfl) (by kernel_rfl) (by kernel_rfl) (fun _ _ _ h => h) (fun oi ho => yields_now ho rfl fun Z s1 => ?_) hSW.1 ?_
    · go_simp
    simp only [Act.put, List.setIfInBounds_toArray, List.set_cons_zero, List.set_cons_succ]
    refine takeD (i := 1) (d := 3) (v := .pointer (some ⟨b, 0, none⟩)) rfl (by kernel_rfl) (by kernel_rfl) (by kernel_rfl) (fun _ _ _ h => h) (fun oi ho => yields_now ho rfl fun Z s1 => ?_) hSW.1 ?_
    · go_simp
    simp only [Act.put, List.setIfInBounds_toArray, List.set_cons_zero, List.set_cons_succ]
    refine takeD (i := 2) (d := 4) (v := .pointer (some ⟨b, 0, none⟩)) rfl (by kernel_rfl) (by kernel_rfl) (by kernel_rfl) (fun _ _ _ h => h) (fun oi ho => yields_now ho rfl fun Z s1 => ?_) hSW.1 ?_
    · go_simp
    simp only [Act.put, List.setIfInBounds_toArray, List.set_cons_zero, List.set_cons_succ]
    refine takeD (i := 3) (d := 5) (v := .pointer (some ⟨b, 6, none⟩)) rfl (by kernel_rfl) (by kernel_rfl) (by kernel_rfl) (fun _ _ _ h => h) (fun oi ho => yields_now ho rfl fun Z s1 => ?_) hSW.1 ?_
    · go_simp
    simp only [Act.put, List.setIfInBounds_toArray, List.set_cons_zero, List.set_cons_succ]
    refine takeD (i := 4) (d := 6) (v := .pointer (some ⟨b, 8, none⟩)) rfl (by kernel_rfl) (by kernel_rfl) (by kernel_rfl) (fun _ _ _ h => h) (fun oi ho => yields_now ho rfl fun Z s1 => ?_) hSW.1 ?_
    · go_simp
    simp only [Act.put, List.setIfInBounds_toArray, List.set_cons_zero, List.set_cons_succ]
    refine takeD (i := 6) (d := 8) (v := .pointer (some ⟨b, 0, none⟩)) rfl (by kernel_rfl) (by kernel_rfl) (by kernel_rfl) (fun _ _ _ h => h) (fun oi ho => yields_now ho rfl fun Z s1 => ?_) hSW.1 ?_
    · go_simp
    simp only [Act.put, List.setIfInBounds_toArray, List.set_cons_zero, List.set_cons_succ]
    refine takeD (i := 7) (d := 9) (v := .pointer (some ⟨b, 0, none⟩)) rfl (by kernel_rfl) (by kernel_rfl) (by kernel_rfl) (fun _ _ _ h => h) (fun oi ho => yields_now ho rfl fun Z s1 => ?_) hSW.1 ?_
    · go_simp
    simp only [Act.put, List.setIfInBounds_toArray, List.set_cons_zero, List.set_cons_succ]
    refine takeD (i := 8) (d := 10) (v := .pointer (some ⟨b, 1, none⟩)) rfl (by kernel_rfl) (by kernel_rfl) (by kernel_rfl) (fun _ _ _ h => h) (fun oi ho => yields_now ho rfl fun Z s1 => ?_) hSW.1 ?_
    · go_simp
    simp only [Act.put, List.setIfInBounds_toArray, List.set_cons_zero, List.set_cons_succ]
    refine takeD (i := 9) (d := 11) (v := .int .i32 sg) rfl (by kernel_rfl) (by kernel_rfl) (by kernel_rfl) (fun _ _ _ h => h) (fun oi ho => yields_now ho rfl fun Z s1 => ?_) hSW.1 ?_
    · go_simp
    simp only [Act.put, List.setIfInBounds_toArray, List.set_cons_zero, List.set_cons_succ]
    refine takeD (i := 10) (d := 12) (v := .bool (sg == 35)) rfl (by kernel_rfl) (by kernel_rfl) (by kernel_rfl) (fun _ _ _ h => h) (fun oi ho => yields_now ho rfl fun Z s1 => ?_) hSW.1 ?_
    · go_simp
    simp only [Act.put, List.setIfInBounds_toArray, List.set_cons_zero, List.set_cons_succ]
    have hbx := below_box W.drew (.cells #[.bool (sg == 35)] 4)
    have hS1 := (⟨HS.out.blk⟩ : S11 W.drew b x0 (.int .i32 sg) x2 x3 x4 (.int .i64 (ce : Int)) x6 x7 v8 v9 v10).keep hbx
    have hL1 := (HL.out.keep (Below.drew (Below.refl _ _))).keep hbx
    have hb1 : Below W.heap.size W (W.drew.alloc (.cells #[.bool (sg == 35)] 4)) := (Below.drew (Below.refl _ _)).trans hbx
    have s8 := hSW.2
    have c8 : (W.alloc (.cells #[.bool (sg == 35)] 4)).drew.cell? ⟨b, 8, none⟩ = some v8 := hS1.c8
    refine wpAnyH_all (rs := [5, 11]) (by kernel_rfl) (by simp) (fun i hi => ?_)
    rcases List.mem_cons.1 hi with rfl | hi
    · refine wpOp_val (v := v8) (w' := W.drew) rfl rfl ?_ ⟨hSW.1, ?_⟩
      · go_simp
      simp only [Act.put]
      refine wpAnyH_all (rs := [11]) (by kernel_rfl) (by simp) (fun i hi => ?_)
      obtain rfl := List.mem_singleton.1 hi
      refine wpOp_val (v := .slice (some ⟨W.drew.heap.size, 0, none⟩) 1 1) (w' := W.drew.alloc (.cells #[.bool (sg == 35)] 4)) rfl rfl ?_ ⟨hS1.c1, ?_⟩
      · go_simp
      simp only [Act.put]
      refine wpAnyH_all (rs := [12]) (by kernel_rfl) (by simp) (fun i hi => ?_)
      obtain rfl := List.mem_singleton.1 hi
      refine wpOp_wp rfl rfl (wp_append_at (W.drew.alloc (.cells #[.bool (sg == 35)] 4)) (.tmp 7) (.tmp 13) 25 rfl (b + 1) 4 i0 (.bool false) 1 1 Tryd.underlying25 hi0 hz0 hz1 hz2 rfl (by decide) v8 xs.length _ rfl hL1.r8 ⟨W.drew.heap.size, 0, none⟩ 1 1 [.bool (sg == 35)] rfl rfl ?_ (by simp [Value.oneCell']) (by unfold maxLen; omega) (by omega) (by have := hS1.lt; omega) fun u8 w2 h2 h3 h4 => ?_)
      · exact cell_one_new _ _ _
      obtain ⟨ao, mm, cp, rfl⟩ := row_slice h2
      have hS2 := s11_grown hS1 hL1 rfl h3
      have hL2 := hL1.app h2 h3 h4
      have hb2 : Below b W w2 := (hb1.mono (Nat.le_of_lt hbl)).trans (hL1.below_app (Nat.le_of_lt hS1.lt) h3)
      have k8 := hS2.c8
      have f8 := hS2.fr 8
      refine ⟨hS2.c1, ?_⟩
      simp only [Act.put]
      refine (show wpAnyH _ .any _ _ _ 4 _ _ w2 from ?_)
      refine takeD (i := 13) (d := 15) (v := .pointer (some ⟨b, 0, none⟩)) rfl (by kernel_rfl) (by kernel_rfl) (by kernel_rfl) (fun _ _ _ h => h) (fun oi ho => yields_now ho rfl fun Z s1 => ?_) hS2.c1 ?_
      · go_simp
      simp only [Act.put]
      refine takeD (i := 14) (d := 16) (v := .pointer (some ⟨b, 6, none⟩)) rfl (by kernel_rfl) (by kernel_rfl) (by kernel_rfl) (fun _ _ _ h => h) (fun oi ho => yields_now ho rfl fun Z s1 => ?_) hS2.c1 ?_
      · go_simp
      simp only [Act.put]
      refine takeD (i := 15) (d := 17) (v := .pointer (some ⟨b, 8, none⟩)) rfl (by kernel_rfl) (by kernel_rfl) (by kernel_rfl) (fun _ _ _ h => h) (fun oi ho => yields_now ho rfl fun Z s1 => ?_) hS2.c1 ?_
      · go_simp
      simp only [Act.put]
      refine wpAnyH_all (rs := [16]) (by kernel_rfl) (by simp) (fun i hi => ?_)
      obtain rfl := List.mem_singleton.1 hi
      refine wpOp_skip (w' := w2.setCell ⟨b, 8, none⟩ (.slice ao mm cp)) rfl rfl rfl ?_ ⟨(hS2.set8 (.slice ao mm cp)).c1, wpAnyH_done (by kernel_rfl) ?_ _⟩
      · go_simp
      refine ‹∀ (a' : Act) (w' : World), Met _ a' w' → _› _ _ ?_
      have HE : Aside (∃ z8, S11 (w2.setCell ⟨b, 8, none⟩ (.slice ao mm cp)) b x0 (.int .i32 sg) x2 x3 x4 (.int .i64 (ce : Int)) x6 x7 z8 v9 v10 ∧ L3 (w2.setCell ⟨b, 8, none⟩ (.slice ao mm cp)) b z8 v9 v10 (xs ++ [sg == 35]) ys zs ∧ Below b W (w2.setCell ⟨b, 8, none⟩ (.slice ao mm cp))) := ⟨_, hS2.set8 (.slice ao mm cp), hL2.dif ((Dif.refl _ _).set b _ _ rfl), Below.setIn hb2 (Nat.le_refl _) (by have := hb2.size; omega)⟩
      go_meet
      exact ⟨rfl, HE⟩
    · obtain rfl := List.mem_singleton.1 hi
      refine wpOp_val (v := .slice (some ⟨W.drew.heap.size, 0, none⟩) 1 1) (w' := W.drew.alloc (.cells #[.bool (sg == 35)] 4)) rfl rfl ?_ ⟨hS1.c1, ?_⟩
      · go_simp
      simp only [Act.put]
      refine wpAnyH_all (rs := [5]) (by kernel_rfl) (by simp) (fun i hi => ?_)
      obtain rfl := List.mem_singleton.1 hi
      refine wpOp_val (v := v8) (w' := W.drew.alloc (.cells #[.bool (sg == 35)] 4)) rfl rfl ?_ ⟨hS1.c1, ?_⟩
      · go_simp
      simp only [Act.put]
      refine wpAnyH_all (rs := [12]) (by kernel_rfl) (by simp) (fun i hi => ?_)
      obtain rfl := List.mem_singleton.1 hi
      refine wpOp_wp rfl rfl (wp_append_at (W.drew.alloc (.cells #[.bool (sg == 35)] 4)) (.tmp 7) (.tmp 13) 25 rfl (b + 1) 4 i0 (.bool false) 1 1 Tryd.underlying25 hi0 hz0 hz1 hz2 rfl (by decide) v8 xs.length _ rfl hL1.r8 ⟨W.drew.heap.size, 0, none⟩ 1 1 [.bool (sg == 35)] rfl rfl ?_ (by simp [Value.oneCell']) (by unfold maxLen; omega) (by omega) (by have := hS1.lt; omega) fun u8 w2 h2 h3 h4 => ?_)
      · exact cell_one_new _ _ _
      obtain ⟨ao, mm, cp, rfl⟩ := row_slice h2
      have hS2 := s11_grown hS1 hL1 rfl h3
      have hL2 := hL1.app h2 h3 h4
      have hb2 : Below b W w2 := (hb1.mono (Nat.le_of_lt hbl)).trans (hL1.below_app (Nat.le_of_lt hS1.lt) h3)
      have k8 := hS2.c8
      have f8 := hS2.fr 8
      refine ⟨hS2.c1, ?_⟩
      simp only [Act.put]
      refine (show wpAnyH _ .any _ _ _ 4 _ _ w2 from ?_)
      refine takeD (i := 13) (d := 15) (v := .pointer (some ⟨b, 0, none⟩)) rfl (by kernel_rfl) (by kernel_rfl) (by kernel_rfl) (fun _ _ _ h => h) (fun oi ho => yields_now ho rfl fun Z s1 => ?_) hS2.c1 ?_
      · go_simp
      simp only [Act.put]
      refine takeD (i := 14) (d := 16) (v := .pointer (some ⟨b, 6, none⟩)) rfl (by kernel_rfl) (by kernel_rfl) (by kernel_rfl) (fun _ _ _ h => h) (fun oi ho => yields_now ho rfl fun Z s1 => ?_) hS2.c1 ?_
      · go_simp
      simp only [Act.put]
      refine takeD (i := 15) (d := 17) (v := .pointer (some ⟨b, 8, none⟩)) rfl (by kernel_rfl) (by kernel_rfl) (by kernel_rfl) (fun _ _ _ h => h) (fun oi ho => yields_now ho rfl fun Z s1 => ?_) hS2.c1 ?_
      · go_simp
      simp only [Act.put]
      refine wpAnyH_all (rs := [16]) (by kernel_rfl) (by simp) (fun i hi => ?_)
      obtain rfl := List.mem_singleton.1 hi
      refine wpOp_skip (w' := w2.setCell ⟨b, 8, none⟩ (.slice ao mm cp)) rfl rfl rfl ?_ ⟨(hS2.set8 (.slice ao mm cp)).c1, wpAnyH_done (by kernel_rfl) ?_ _⟩
      · go_simp
      refine ‹∀ (a' : Act) (w' : World), Met _ a' w' → _› _ _ ?_
      have HE : Aside (∃ z8, S11 (w2.setCell ⟨b, 8, none⟩ (.slice ao mm cp)) b x0 (.int .i32 sg) x2 x3 x4 (.int .i64 (ce : Int)) x6 x7 z8 v9 v10 ∧ L3 (w2.setCell ⟨b, 8, none⟩ (.slice ao mm cp)) b z8 v9 v10 (xs ++ [sg == 35]) ys zs ∧ Below b W (w2.setCell ⟨b, 8, none⟩ (.slice ao mm cp))) := ⟨_, hS2.set8 (.slice ao mm cp), hL2.dif ((Dif.refl _ _).set b _ _ rfl), Below.setIn hb2 (Nat.le_refl _) (by have := hb2.size; omega)⟩
      go_meet
      exact ⟨rfl, HE⟩
  case rest =>
  rename World => w1
  obtain ⟨rfl, HE⟩ := hcut
  obtain ⟨u8, hS1, hL1, hb1⟩ := HE.out
  clear HE
  obtain ⟨ao9, mm9, cp9, rfl⟩ := row_slice hL1.r9
  have k9 := hS1.c9
  have hlt9 := hS1.lt
  go_wp2_with (at_builtin; refine wpList_append_own_at _ rfl _ _ 25 rfl (b + 1) 4 i0 (.bool false) 1 1 Tryd.underlying25 hi0 hz0 hz1 hz2 rfl (by decide) _ _ _ rfl (hL1.r9.alloc _) ⟨w1.heap.size, 0, none⟩ 1 1 [.bool false] rfl rfl (cell_one_new2 _ _ _ _ (by simp)) (by simp [Value.oneCell']) (by unfold maxLen; omega) (by omega) (by rw [World.size_alloc]; omega) ?_)
  intro y9 w1a h2 h3 _ h4
  have hbx := below_box w1 (.cells #[.bool false] 4)
  have hSa := hS1.keep hbx
  have hLa := hL1.keep hbx
  have hSb := s11_grown hSa (hLa.rot) rfl h3
  have hLb := ((hLa.rot).app h2 h3 (by rw [World.size_alloc]; simpa using h4)).rot.rot
  have hbb : Below b W w1a := (hb1.trans ((hbx.mono (Nat.le_of_lt hlt9)))).trans ((hLa.rot).below_app (Nat.le_of_lt hSa.lt) h3)
  obtain ⟨aq9, mq9, cq9, rfl⟩ := row_slice h2
  have q9 := hSb.c9
  have f9 := hSb.fr 9
  clear hSa hLa hbx h2 h3 h4
  have hS2 := hSb.set9 (.slice aq9 mq9 cq9)
  have hL2 := hLb.dif (((Dif.refl (fun k => k = b) w1a).set b 9 (.slice aq9 mq9 cq9) rfl))
  have hb2 : Below b W (w1a.setCell ⟨b, 9, none⟩ (.slice aq9 mq9 cq9)) := Below.setIn hbb (Nat.le_refl _) (by have := hbb.size; omega)
  clear hSb hLb hbb hS1 hL1 hb1 k9
  obtain ⟨ao10, mm10, cp10, rfl⟩ := row_slice hL2.r10
  have k10 := hS2.c10
  have hlt10 := hS2.lt
  go_wp2_with (at_builtin; refine wpList_append_own_at _ rfl _ _ 25 rfl (b + 1) 4 i0 (.bool false) 1 1 Tryd.underlying25 hi0 hz0 hz1 hz2 rfl (by decide) _ _ _ rfl (hL2.r10.alloc _) ⟨w1a.heap.size, 0, none⟩ 1 1 [.bool false] rfl rfl (cell_one_new2 _ _ _ _ (by simp)) (by simp [Value.oneCell']) (by unfold maxLen; omega) (by omega) (by rw [World.size_alloc]; omega) ?_)
  intro y10 w2a h2 h3 _ h4
  have hbx := below_box (w1a.setCell ⟨b, 9, none⟩ (.slice aq9 mq9 cq9)) (.cells #[.bool false] 4)
  have hSa := hS2.keep hbx
  have hLa := hL2.keep hbx
  have hSb := s11_grown hSa (hLa.rot.rot) rfl h3
  have hLb := ((hLa.rot.rot).app h2 h3 (by rw [World.size_alloc]; simpa using h4)).rot
  have hbb : Below b W w2a := (hb2.trans ((hbx.mono (Nat.le_of_lt hlt10)))).trans ((hLa.rot.rot).below_app (Nat.le_of_lt hSa.lt) h3)
  obtain ⟨aq10, mq10, cq10, rfl⟩ := row_slice h2
  have q10 := hSb.c10
  have f10 := hSb.fr 10
  clear hSa hLa hbx h2 h3 h4
  have hS3 := hSb.set10 (.slice aq10 mq10 cq10)
  have hL3 := hLb.dif (((Dif.refl (fun k => k = b) w2a).set b 10 (.slice aq10 mq10 cq10) rfl))
  have hb3 : Below b W (w2a.setCell ⟨b, 10, none⟩ (.slice aq10 mq10 cq10)) := Below.setIn hbb (Nat.le_refl _) (by have := hbb.size; omega)
  clear hSb hLb hbb hS2 hL2 hb2 k10
  have k5 := hS3.c5
  have f5 := hS3.fr 5
  go_wp2
  go_end0
  exact ⟨rfl, _, _, _, hS3.set5 _, hL3.dif ((Dif.refl _ _).set b _ _ rfl), Below.setIn hb3 (Nat.le_refl _) (by have := hb3.size; omega)⟩
end Go.Proofs.YthjgldjjplcncabDoor.Skt
