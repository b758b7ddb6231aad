/-
  The law on ranging walked: for every text of up to 1048576 bytes it answers true, in every world that holds the two tables.
-/
import Derived.Test.YtkjhjkpnkcnbgaaDoorSeq
import Derived.Sort.CutIn
import Derived.Test.YtkjhjkpnkcnbgaaDoorPlc
import Derived.Test.YtkjhjkpnkcnbgaaDoorRds
import Derived.Test.YtkjhjkpnkcnbgaaDoorUtfa
import Derived.Test.YtkjhjkpnkcnbgaaDoorSamei
import Derived.BigQuiet
import Derived.Deep.QuietTactic
import Derived.Deep.RegionWith
import Derived.Deep.RegionLaw
import Derived.Lib.OwnKind
namespace Go.Proofs.YtkjhjkpnkcnbgaaDoor.Utf
open Go Go.Lib Go.RowKit Go.Shelf
attribute [local go_sem] Oper.semAt_some

theorem infoRune : (Tryd.prog.info? 21).map (fun i => (i.zero, i.size, i.bytes)) = some (some (.int .i32 0), 1, 4) := by kernel_rfl
/-- A list of runes, as cells. -/
def rns (l : List (Nat × Nat)) : List Value := l.map fun x => Value.int .i32 (x.2 : Int)
theorem rns_snoc (l : List (Nat × Nat)) (x : Nat × Nat) : rns (l ++ [x]) = rns l ++ [Value.int .i32 (x.2 : Int)] := by simp [rns]
theorem rns_length (l : List (Nat × Nat)) : (rns l).length = l.length := by simp [rns]

theorem reads_row {W : World} {B : Nat} {e : TypeId} {v : Value} {xs : List Value} {n : Nat} (h : W.ownsRow B e 1 v n xs) : ∃ ao cap, v = .slice ao n cap ∧ Reads W ao xs := by
  have hh := h
  rcases h.2 with ⟨rfl, h0⟩ | ⟨g, cap, cur, rfl, hb, _⟩
  · have hx := h.1
    exact ⟨none, 0, by rw [h0], fun j hj => by omega⟩
  · refine ⟨_, cap, rfl, fun j hj => ⟨g, rfl, (hh.lt g rfl).2, ?_⟩⟩
    have := hh.cells (g := g) rfl j xs[j] (by simp [hj])
    rw [show (⟨g, 0, none⟩ : Addr).add j = ⟨g, j, none⟩ by unfold Addr.add; split <;> simp_all] at this
    exact this

theorem plc_zs (l : List (Nat × Nat)) : plc l = (l.map fun x => (x.1 : Int)).map (Value.int .i64) := by simp [plc]

theorem row_below {W W' : World} {B : Nat} {e : TypeId} {v : Value} {n : Nat} {xs : List Value} (h : W.ownsRow B e 1 v n xs) (hb : Below W.heap.size W W') : W'.ownsRow B e 1 v n xs := by
  rcases h with ⟨h1, h2 | ⟨g, cap, cur, e1, e2, e3, e4⟩⟩
  · exact ⟨h1, .inl h2⟩
  · exact ⟨h1, .inr ⟨g, cap, cur, e1, e2, (hb.block g (Array.getElem?_eq_some_iff.1 e3).1).trans e3, e4⟩⟩

theorem pairs_at (s : ByteArray) : ∀ (f pos k : Nat) (x : Nat × Nat), s.size ≤ pos + f → pos ≤ s.size → (pairsFrom s f pos)[k]? = some x →
    x.1 < s.size ∧ (Utf8.decode s x.1).1 = x.2 ∧ (∀ y, (pairsFrom s f pos)[k + 1]? = some y → y.1 = x.1 + (Utf8.decode s x.1).2) ∧ ((pairsFrom s f pos)[k + 1]? = none → x.1 + (Utf8.decode s x.1).2 = s.size)
  | 0, pos, k, x, _, _, h => by simp [pairsFrom] at h
  | f + 1, pos, k, x, hf, hp, h => by
    by_cases hlt : pos < s.size
    · have hd := decode_fits s pos hlt
      rw [pairsFrom_step hlt] at h ⊢
      cases k with
      | zero =>
        simp only [List.getElem?_cons_zero, Option.some.injEq] at h
        subst h
        refine ⟨hlt, rfl, fun y hy => ?_, fun hn => ?_⟩
        · rw [List.getElem?_cons_succ] at hy
          by_cases hl2 : pos + (Utf8.decode s pos).2 < s.size
          · obtain ⟨f', rfl⟩ : ∃ f', f = f' + 1 := ⟨f - 1, by omega⟩
            rw [pairsFrom_step hl2, List.getElem?_cons_zero] at hy
            injection hy with hy
            rw [← hy]
          · rw [pairsFrom_end s f _ hl2] at hy
            simp at hy
        · rw [List.getElem?_cons_succ] at hn
          by_cases hl2 : pos + (Utf8.decode s pos).2 < s.size
          · obtain ⟨f', rfl⟩ : ∃ f', f = f' + 1 := ⟨f - 1, by omega⟩
            rw [pairsFrom_step hl2, List.getElem?_cons_zero] at hn
            simp at hn
          · show pos + (Utf8.decode s pos).2 = s.size
            omega
      | succ k =>
        rw [List.getElem?_cons_succ] at h
        have := pairs_at s f (pos + (Utf8.decode s pos).2) k x (by omega) (by omega) h
        rw [List.getElem?_cons_succ]
        exact this
    · rw [pairsFrom_end s _ pos hlt] at h
      simp at h

/-- append to a list of the call's own, as one step of a region that draws. -/
theorem step_own {P : Program} {ops : Array Oper} {o : Oper} {a : Act} {w : World} {K : Act → World → Prop} {Q : Exit → Act → World → Prop} {E : Prop}
    (hg : o.guard = none) (s x : Operand) (t : TypeId) (ho : o.op = .call { callee := .builtin .append, args := #[s, x], argTypes := #[t, t] })
    (base : Nat) (e : TypeId) (i : TypeInfo) (z : Value) (size bytes : Nat) (ht : P.underlying t = some (.slice e)) (hi : P.info? e = some i) (hz : i.zero = some z)
    (hsize : i.size = size) (hby : i.bytes = bytes) (hzs : z.cells.size = size) (hsz : 0 < size)
    (v : Value) (n : Nat) (xs : List Value) (hs : a.eval s = v) (hown : w.ownsRow base e size v n xs)
    (ad : Addr) (m c : Nat) (news : List Value) (hx : a.eval x = .slice (some ad) m c) (hl : news.length = m * size) (hnews : ∀ j u, news[j]? = some u → w.cell? (ad.add j) = some u) (h1 : ∀ u ∈ news, u.oneCell' = true)
    (h63 : n + m ≤ maxLen) (hbytes : (n + m) * bytes ≤ 140737488355328) (hbase : base ≤ w.heap.size)
    (h : ∀ v' w', w'.ownsRow base e size v' (n + m) (xs ++ news) → w.grownBy w' v.ownBlock → K (a.put o.dst v') w') :
    if Region.wanted o (yielded ops a.tmps) = true then Oper.wp P o a w K Q else E := by
  have hw : Region.wanted o (yielded ops a.tmps) = true := by simp [Region.wanted, hg]
  rw [if_pos hw]
  exact wp_append_own w s x t ho base e i z size bytes ht hi hz hsize hby hzs hsz v n xs hs hown ad m c news hx hl hnews h1 h63 hbytes hbase fun v' w' h2 h3 _ => h v' w' h2 h3

theorem wp_blind {P : Program} {c : Code} {K : Act → World → Prop} {Q' : Exit → Act → World → Prop} {a : Act} {w : World} (h : c.wp P (Exit.then K (fun _ _ _ => False)) a w) : c.wp P (Exit.then K Q') a w := by
  refine (wpIn_wide (n := 3)).1 (wpIn_mono ((wpIn_wide (n := 3)).2 h) ?_)
  intro e a' w' hq
  cases e with
  | normal => exact hq
  | exit id => exact hq.elim
  | goto l => exact hq.elim
  | ret => exact hq.elim
  | panic ch => exact hq.elim
  | outgrown => exact hq.elim

theorem results_box {fn : Func} {p : Tmp} (h : fn.results = #[.cell p 4]) (tmps : Array Value) (w : World) (g : Nat) (v : Value)
    (hp : tmps.getD p undef = .pointer (some ⟨g, 0, none⟩)) (hg : w.cell? ⟨g, 0, none⟩ = some v) :
    (results fn tmps).run Tryd.prog w = .ok v w := by
  have hp' : tmps[p]?.getD undef = .pointer (some ⟨g, 0, none⟩) := by simpa using hp
  simp only [results, h]
  simp [hp', asAddr]
  go_simp

theorem pre_snoc {α : Type} (l pre : List α) (x : α) (h : pre <+: l) (hl : pre.length < l.length) : (pre ++ [x] <+: l) ↔ l[pre.length] = x := by
  obtain ⟨t, rfl⟩ := h
  cases t with
  | nil => simp at hl
  | cons y t =>
    rw [List.prefix_append_right_inj, List.cons_prefix_cons]
    simp [eq_comm]

/-- Two lists of different kinds lie apart. -/
theorem rows_apart {W : World} {B B' : Nat} {e e' : TypeId} {v v' : Value} {n n' : Nat} {xs xs' : List Value} (h : W.ownsRow B e 1 v n xs) (h' : W.ownsRow B' e' 1 v' n' xs') (hne : e ≠ e') : v'.ownBlock = none ∨ v'.ownBlock ≠ v.ownBlock := by
  cases hv : v'.ownBlock with
  | none => exact .inl rfl
  | some g =>
    refine .inr fun hc => ?_
    obtain ⟨c, fz, h1⟩ := ownsRow_kind h' g hv
    obtain ⟨c2, fz2, h2⟩ := ownsRow_kind h g hc.symm
    rw [h1] at h2
    injection h2 with h2
    injection h2 with _ h3 _
    exact hne h3.symm

set_option maxRecDepth 100000 in
set_option maxHeartbeats 4000000 in
theorem ranges_walk (s : ByteArray) (w : World) (hs : s.size ≤ 1048576) (hT : Lib.Utf8Tabs 0 1 w) :
    Calls Tryd.prog 5 #[.string s] w fun e w' => e = .returned (.bool true) ∧ Below w.heap.size w w' := by
  refine (callsIn_wide (n := 3)).1 ?_
  have hro : Fence.wide.round = none := rfl
  have hpl := pairs_le s
  have hms : s.size ≤ maxLen := by unfold maxLen; omega
  obtain ⟨i0, hi, hz0, hz1, hz2⟩ := info_parts infoInt
  obtain ⟨j0, hj, hy0, hy1, hy2⟩ := info_parts infoRune
  have hTa : Lib.Utf8Tabs 0 1 (w.alloc (.cells #[.bool false] 4)) := tabs_below ((Below.refl w.heap.size w).alloc (Nat.le_refl _) _) (tabs_size hT) hT
  have cA := awake_any _ hTa
  refine callsIn_of_wp_marks Tryd.func5 rfl trivial ?_ hro
  simp only [Tryd.ntmps5, List.size_toArray, List.length_cons, List.length_nil, Nat.reduceAdd, Nat.reduceSub, Array.replicate_succ, Array.replicate_zero, List.push_toArray, List.append_toArray, List.nil_append, List.cons_append]
  refine wpIn_wide.2 ?_
  go_wp2_with (go_at_call 9; refine cA.mono ?_)
  rintro e w1 ⟨rfl, b1⟩
  clear cA
  have hR1 : Boxed w1 w.heap.size 4 (.bool false) := (b1.block w.heap.size (by simp)).trans (Boxed.new w 4 (.bool false))
  have hw1 : w.heap.size + 1 ≤ w1.heap.size := by have := b1.size; simpa using this
  have hB1 : Below w.heap.size w w1 := ((Below.refl w.heap.size w).alloc (Nat.le_refl _) _).trans (b1.mono (by simp))
  have hT1 : Lib.Utf8Tabs 0 1 w1 := tabs_below b1 (tabs_size hTa) hTa
  clear b1 hTa hT
  go_wp2
  have hit0 : (((w1.alloc (.cells #[.slice none 0 0] 26)).alloc (.cells #[.slice none 0 0] 38)).iter s 0).heap[w1.heap.size + 1 + 1]? = some (.stringIter s 0) := by
    have := World.iter_heap ((w1.alloc (.cells #[.slice none 0 0] 26)).alloc (.cells #[.slice none 0 0] 38)) s 0
    simpa using this
  have hP0 : Boxed (((w1.alloc (.cells #[.slice none 0 0] 26)).alloc (.cells #[.slice none 0 0] 38)).iter s 0) w1.heap.size 26 (.slice none 0 0) := ((Boxed.new w1 26 (.slice none 0 0)).alloc (.cells #[.slice none 0 0] 38)).alloc (.stringIter s 0)
  have hU0 : Boxed (((w1.alloc (.cells #[.slice none 0 0] 26)).alloc (.cells #[.slice none 0 0] 38)).iter s 0) (w1.heap.size + 1) 38 (.slice none 0 0) := by
    have := (Boxed.new (w1.alloc (.cells #[.slice none 0 0] 26)) 38 (.slice none 0 0)).alloc (.stringIter s 0)
    simp only [World.size_alloc] at this
    exact this
  have hB0 : Below w1.heap.size w1 (((w1.alloc (.cells #[.slice none 0 0] 26)).alloc (.cells #[.slice none 0 0] 38)).iter s 0) := (((Below.refl _ w1).alloc (Nat.le_refl _) _).alloc (by simp) _).alloc (by simp; omega) (.stringIter s 0)
  obtain ⟨W0, hW0⟩ : ∃ W0, (((w1.alloc (.cells #[.slice none 0 0] 26)).alloc (.cells #[.slice none 0 0] 38)).iter s 0) = W0 := ⟨_, rfl⟩
  rw [hW0] at hit0 hP0 hU0 hB0 ⊢
  clear hW0
  go_loopw [5] (fun _ wr => ∃ (pre : List (Nat × Nat)) (pos b : Nat) (v1 v2 : Value), wr.heap[w1.heap.size + 1 + 1]? = some (.stringIter s pos) ∧ Boxed wr w1.heap.size 26 v1 ∧ Boxed wr (w1.heap.size + 1) 38 v2 ∧ wr.ownsRow (w1.heap.size + 1 + 1 + 1) 3 1 v1 pre.length (plc pre) ∧ wr.ownsRow (w1.heap.size + 1 + 1 + 1) 21 1 v2 pre.length (rns pre) ∧ Below w1.heap.size w1 wr ∧ Hid (pre ++ pairsFrom s b pos = pairs s) ∧ s.size ≤ pos + b ∧ pos ≤ s.size ∧ pre.length ≤ pos)
    (fun _ wr => s.size - wr.iterPos (w1.heap.size + 1 + 1))
  case atStart => exact ⟨[], 0, s.size, _, _, hit0, hP0, hU0, World.ownsRow_nil _ _ _ _, World.ownsRow_nil _ _ _ _, hB0, rfl, by omega, Nat.zero_le _, Nat.le_refl _⟩
  case round =>
    obtain ⟨pre, pos, b, v1, v2, hk, k1, k2, o1, o2, hB, HP, hb, hps, hpl⟩ := hrel
    have hpos0 := iterPos_of hk
    by_cases hp : pos < s.size
    · have hnx : ∀ ty, (Instr.next (.pointer (some ⟨w1.heap.size + 1 + 1, 0, none⟩)) true ty).run Tryd.prog wr = _ := fun ty => run_next_any_at wr _ s pos ty hk hp
      have hwd := decode_fits s pos hp
      obtain ⟨b, rfl⟩ : ∃ f', b = f' + 1 := ⟨b - 1, by omega⟩
      have hit2 := Lib.iterAt_heap wr (w1.heap.size + 1 + 1) s pos (pos + (Utf8.decode s pos).2) hk
      have hB2 := Lib.below_iterAt hB (k := w1.heap.size + 1 + 1) (by omega) s (pos + (Utf8.decode s pos).2)
      have o12 := ownsRow_iterAt o1 (k := w1.heap.size + 1 + 1) (by omega) s (pos + (Utf8.decode s pos).2)
      have o22 := ownsRow_iterAt o2 (k := w1.heap.size + 1 + 1) (by omega) s (pos + (Utf8.decode s pos).2)
      have k12 : Boxed (wr.iterAt (w1.heap.size + 1 + 1) s (pos + (Utf8.decode s pos).2)) w1.heap.size 26 v1 := by
        rw [iterAt_put]; exact (World.putObj_heap_other (by omega)).trans k1
      have k22 : Boxed (wr.iterAt (w1.heap.size + 1 + 1) s (pos + (Utf8.decode s pos).2)) (w1.heap.size + 1) 38 v2 := by
        rw [iterAt_put]; exact (World.putObj_heap_other (by omega)).trans k2
      obtain ⟨W1, hW1⟩ : ∃ W1, W1 = wr.iterAt (w1.heap.size + 1 + 1) s (pos + (Utf8.decode s pos).2) := ⟨_, rfl⟩
      rw [← hW1] at hnx hit2 hB2 o12 o22 k12 k22
      have HP2 : Hid ((pre ++ [(pos, (Utf8.decode s pos).1)]) ++ pairsFrom s b (pos + (Utf8.decode s pos).2) = pairs s) := by
        have := HP.out
        rw [pairsFrom_step hp] at this
        show _ = _
        rw [← this]; simp
      have hlt : w1.heap.size + 1 + 1 < W1.heap.size := (Array.getElem?_eq_some_iff.1 hit2).1
      clear hW1 hk o1 o2 hB HP k1 k2
      have c1 := k12.cell
      go_wp2_with (at_builtin; refine wpList_append_own _ rfl _ _ 26 rfl (w1.heap.size + 1 + 1 + 1) 3 i0 (.int .i64 0) 1 8 Tryd.underlying26 hi hz0 hz1 hz2 rfl (by decide) _ _ _ rfl (o12.alloc _) ⟨W1.heap.size, 0, none⟩ 1 1 [.int .i64 (pos : Int)] rfl rfl (cell_one_new _ _ _) (by simp [Value.oneCell']) (by unfold maxLen; omega) (by omega) (by simp; omega) ?_)
      intro v1' w2 p1 hgrow _
      have n1 := k12.not_row (by decide) o12
      have n2 := k22.not_row (by decide) o12
      have q1 : Boxed w2 w1.heap.size 26 v1 := (k12.alloc _).kept hgrow n1
      have q2 : Boxed w2 (w1.heap.size + 1) 38 v2 := (k22.alloc _).kept hgrow n2
      have r2 := (o22.alloc _).kept hgrow (rows_apart o12 o22 (by decide))
      have i2 : w2.heap[w1.heap.size + 1 + 1]? = some (.stringIter s (pos + (Utf8.decode s pos).2)) := by
        rw [hgrow.block (w1.heap.size + 1 + 1) (by simp; omega) (fun h => by have := (o12.lt _ h.symm).1; omega), Below.heap_alloc _ _ _ hlt]; exact hit2
      have Bw2 : Below w1.heap.size w1 w2 := Below.grown (hB2.alloc (by omega) _) hgrow (by simp; omega) (fun j hj => by have := (o12.lt _ hj).1; omega)
      have f1 := q1.frozen
      have d1 := q1.cell
      obtain ⟨g1, cap1, rfl⟩ := ownsRow_succ p1
      have q1' := q1.set (.slice (some ⟨g1, 0, none⟩) (pre.length + 1) cap1)
      have q2' := q2.other (B' := w1.heap.size) (by omega) (.slice (some ⟨g1, 0, none⟩) (pre.length + 1) cap1)
      have r2' := ownsRow_setCell_below r2 (a := ⟨w1.heap.size, 0, none⟩) (by show w1.heap.size < _; omega) (.slice (some ⟨g1, 0, none⟩) (pre.length + 1) cap1)
      have p1' := ownsRow_setCell_below p1 (a := ⟨w1.heap.size, 0, none⟩) (by show w1.heap.size < _; omega) (.slice (some ⟨g1, 0, none⟩) (pre.length + 1) cap1)
      have i2' : (w2.setCell ⟨w1.heap.size, 0, none⟩ (.slice (some ⟨g1, 0, none⟩) (pre.length + 1) cap1)).heap[w1.heap.size + 1 + 1]? = some (.stringIter s (pos + (Utf8.decode s pos).2)) := ((grownBy_setCell' w2 w1.heap.size _).block (w1.heap.size + 1 + 1) (Array.getElem?_eq_some_iff.1 i2).1 (fun h => by injection h; omega)).trans i2
      have Bw3 := Bw2.setCell (p := ⟨w1.heap.size, 0, none⟩) (Nat.le_refl _) (.slice (some ⟨g1, 0, none⟩) (pre.length + 1) cap1)
      have c2 := q2'.cell
      clear hgrow k12 k22 o12 o22 hit2 hB2 c1 q1 q2 r2 n1 n2 p1 i2 Bw2
      go_upto_region 9 with fail
      obtain ⟨W3, hW3⟩ : ∃ W3, W3 = w2.setCell ⟨w1.heap.size, 0, none⟩ (.slice (some ⟨g1, 0, none⟩) (pre.length + 1) cap1) := ⟨_, rfl⟩
      rw [← hW3] at q1' q2' r2' p1' i2' Bw3 c2 ⊢
      clear hW3 f1 d1
      have hlt3 : w1.heap.size + 1 + 1 < W3.heap.size := (Array.getElem?_eq_some_iff.1 i2').1
      go_wp2_with (at_builtin; refine wpList_append_own _ rfl _ _ 38 rfl (w1.heap.size + 1 + 1 + 1) 21 j0 (.int .i32 0) 1 4 Tryd.underlying38 hj hy0 hy1 hy2 rfl (by decide) _ _ _ rfl (r2'.alloc _) ⟨W3.heap.size, 0, none⟩ 1 1 [.int .i32 ((Utf8.decode s pos).1 : Int)] rfl rfl (cell_one_new _ _ _) (by simp [Value.oneCell']) (by unfold maxLen; omega) (by omega) (by simp; omega) ?_)
      intro v2' w4 p2 hgrow _
      have n1 := q1'.not_row (by decide) r2'
      have n2 := q2'.not_row (by decide) r2'
      have s1 := (q1'.alloc _).kept hgrow n1
      have s2 := (q2'.alloc _).kept hgrow n2
      have t1 := (p1'.alloc _).kept hgrow (rows_apart r2' p1' (by decide))
      have i4 : w4.heap[w1.heap.size + 1 + 1]? = some (.stringIter s (pos + (Utf8.decode s pos).2)) := by
        rw [hgrow.block (w1.heap.size + 1 + 1) (by simp; omega) (fun h => by have := (r2'.lt _ h.symm).1; omega), Below.heap_alloc _ _ _ hlt3]; exact i2'
      have Bw4 : Below w1.heap.size w1 w4 := Below.grown (Bw3.alloc (by omega) _) hgrow (by simp; omega) (fun j hj => by have := (r2'.lt _ hj).1; omega)
      have f2 := s2.frozen
      have d2 := s2.cell
      obtain ⟨g2, cap2, rfl⟩ := ownsRow_succ p2
      have s1' := s1.other (B' := w1.heap.size + 1) (by omega) (.slice (some ⟨g2, 0, none⟩) (pre.length + 1) cap2)
      have s2' := s2.set (.slice (some ⟨g2, 0, none⟩) (pre.length + 1) cap2)
      have t1' := ownsRow_setCell_below t1 (a := ⟨w1.heap.size + 1, 0, none⟩) (by show w1.heap.size + 1 < _; omega) (.slice (some ⟨g2, 0, none⟩) (pre.length + 1) cap2)
      have p2' := ownsRow_setCell_below p2 (a := ⟨w1.heap.size + 1, 0, none⟩) (by show w1.heap.size + 1 < _; omega) (.slice (some ⟨g2, 0, none⟩) (pre.length + 1) cap2)
      have i4' : (w4.setCell ⟨w1.heap.size + 1, 0, none⟩ (.slice (some ⟨g2, 0, none⟩) (pre.length + 1) cap2)).heap[w1.heap.size + 1 + 1]? = some (.stringIter s (pos + (Utf8.decode s pos).2)) := ((grownBy_setCell' w4 (w1.heap.size + 1) _).block (w1.heap.size + 1 + 1) (Array.getElem?_eq_some_iff.1 i4).1 (fun h => by injection h; omega)).trans i4
      have Bw5 := Bw4.setCell (p := ⟨w1.heap.size + 1, 0, none⟩) (by show w1.heap.size ≤ w1.heap.size + 1; omega) (.slice (some ⟨g2, 0, none⟩) (pre.length + 1) cap2)
      clear hgrow q1' q2' r2' p1' i2' Bw3 c2 s1 s2 t1 p2 i4 Bw4 n1 n2
      rw [← rns_snoc pre (pos, (Utf8.decode s pos).1)] at p2'
      rw [← plc_snoc pre (pos, (Utf8.decode s pos).1)] at t1'
      have hlen : (pre ++ [(pos, (Utf8.decode s pos).1)]).length = pre.length + 1 := by simp
      go_wp2
      go_roundw
      case rel => exact ⟨_, _, b, _, _, i4', s1', s2', by rw [hlen]; exact t1', by rw [hlen]; exact p2', Bw5, HP2, by omega, by omega, by rw [hlen]; omega⟩
      case measure => rw [iterPos_of i4', hpos0]; omega
    · have hnx : ∀ ty, (Instr.next (.pointer (some ⟨w1.heap.size + 1 + 1, 0, none⟩)) true ty).run Tryd.prog wr = _ := fun ty => run_next_end_at wr _ s pos ty hk hp
      have HE : Hid (pre = pairs s) := by
        have := HP.out
        rw [pairsFrom_end s b pos hp, List.append_nil] at this
        exact this
      rw [HE.out] at o1 o2
      clear HP hk hpos0 hpl hit0 hP0 hU0 hB0 HE
      obtain ⟨a1, cap1, rfl, r1⟩ := reads_row o1
      obtain ⟨a2, cap2, rfl, r2⟩ := reads_row o2
      clear o1 o2
      rename World => Wx
      go_upto_region 10 with fail
      have cP := places_any s Wx (by omega)
      go_wp2_with (go_at_call 13; refine cP.mono ?_)
      rintro e w2 ⟨v, rfl, og, bg⟩
      clear cP
      obtain ⟨N, HN⟩ : ∃ N, Hid (N = (pairs s).length) := ⟨_, rfl⟩
      rw [← HN.out] at k1 k2 og
      have hN5 : N ≤ 1048576 := by rw [HN.out]; omega
      obtain ⟨ag, capg, rfl, rg⟩ := reads_row og
      have cS : ∀ W, Below w2.heap.size w2 W → Calls Tryd.prog 12 #[.slice ag N capg, .slice a1 N cap1] W fun e w' => e = .returned (.bool true) ∧ Below W.heap.size W w' := fun W hW => by
        have h1 := rg.below hW
        have h2 := (r1.below bg).below hW
        rw [plc_zs] at h1 h2
        have := sameInts_eq _ ag a1 capg cap1 W (by rw [List.length_map]; omega) h1 h2
        rw [List.length_map, ← HN.out] at this
        exact this
      have cC : ∀ W, Calls Tryd.prog 15 #[.string s] W fun e w' => e = .returned (.int .i64 (N : Int)) ∧ Below W.heap.size W w' := fun W => by
        have := count_any s W hms
        rw [← pairs_length, ← HN.out] at this
        exact this
      have hx1 : w1.heap.size < Wx.heap.size := k1.lt
      have hx2 : Wx.heap.size ≤ w2.heap.size := bg.size
      have ck1 : w2.cell? ⟨w1.heap.size, 0, none⟩ = some (.slice a1 N cap1) := (bg.cell (p := ⟨w1.heap.size, 0, none⟩) (by exact hx1)).trans k1.cell
      go_upto_region 11 with fail
      go_cut [45] from 17 (fun s45 wd => s45 = .bool false ∧ Below w2.heap.size w2 wd)
      case first =>
        (first | go_region_with (first
          | (go_at_call 12; refine (cS _ ?_).mono ?_; exact Below.drew (Below.refl _ w2); rintro e w' ⟨rfl, b3⟩; have hx3 : w2.heap.size ≤ w'.heap.size := b3.size; have ck3 : w'.cell? ⟨w1.heap.size, 0, none⟩ = some (.slice a1 N cap1) := (b3.cell (p := ⟨w1.heap.size, 0, none⟩) (by show w1.heap.size < w2.heap.size; omega)).trans ck1)
          | (go_at_call 15; refine (cC _).mono ?_; rintro e w'' ⟨rfl, b4⟩; have ck4 : w''.cell? ⟨w1.heap.size, 0, none⟩ = some (.slice a1 N cap1) := (b4.cell (p := ⟨w1.heap.size, 0, none⟩) (by show w1.heap.size < w'.heap.size; omega)).trans ck3)) | fail)
        all_goals (try go_simp)
        all_goals (go_wp2_with fail)
        all_goals go_meet
        all_goals exact ⟨rfl, ((Below.drew (Below.refl _ w2)).trans b3).trans (b4.mono hx3)⟩
      case rest =>
        obtain ⟨rfl, b3⟩ := hcut
        have bx : Below Wx.heap.size Wx wc := bg.trans (b3.mono hx2)
        have og3 := row_below og b3
        have r13 := r1.below bx
        have r23 := r2.below bx
        have hx3 : w2.heap.size ≤ wc.heap.size := b3.size
        have k13 : Boxed wc w1.heap.size 26 (.slice a1 N cap1) := (bx.block _ k1.lt).trans k1
        have k23 : Boxed wc (w1.heap.size + 1) 38 (.slice a2 N cap2) := (bx.block _ k2.lt).trans k2
        have bw1 : Below w1.heap.size w1 wc := hB.trans (bx.mono (by omega))
        have HB0 : Hid (Below w1.heap.size w1 Wx) := hB
        have HR0 : Hid (Reads Wx a1 (plc (pairs s))) := r1
        have HK0 : Hid (Boxed Wx w1.heap.size 26 (.slice a1 N cap1)) := k1
        have HX0 : Hid (Below Wx.heap.size Wx wc) := bx
        clear b3 bx og r1 r2 k1 k2 ck1 cS rg bg hB
        have c13 := k13.cell
        have hN3 : (N : Int) ≤ 1048576 := by omega
        go_wp2_with fail
        go_loopw [48] (fun iv wr => ∃ k : Nat, iv = .int .i64 (k : Int) ∧ k ≤ N ∧ Below wc.heap.size wc wr) (fun iv _ => N - (RowKit.intOf iv).toNat)
        case atStart => exact ⟨0, rfl, Nat.zero_le _, Below.refl _ _⟩
        case round =>
          obtain ⟨k, rfl, hk, hB⟩ := hrel
          have hTr : Lib.Utf8Tabs 0 1 wr := tabs_below (bw1.trans (hB.mono bw1.size)) (tabs_size hT1) hT1
          have hwx : w1.heap.size + 1 < wc.heap.size := k23.lt
          by_cases hlt : k < N
          · have hkp : k < (pairs s).length := by rw [← HN.out]; exact hlt
            obtain ⟨g1, rfl, hg1, e1o⟩ := (r13.below hB) k (by rw [plc_length]; exact hkp)
            obtain ⟨g2, rfl, hg2, e2o⟩ := (r23.below hB) k (by rw [rns_length]; exact hkp)
            have hat := pairs_at s s.size 0 k ((pairs s)[k]'hkp) (by omega) (by omega) (List.getElem?_eq_getElem hkp)
            have hend : (k + 1 < N → wr.cell? ⟨g1, k + 1, none⟩ = some (.int .i64 (((pairs s)[k]'hkp).1 + (Utf8.decode s ((pairs s)[k]'hkp).1).2 : Nat))) ∧ (¬ k + 1 < N → (s.size : Int) = (((pairs s)[k]'hkp).1 : Int) + ((Utf8.decode s ((pairs s)[k]'hkp).1).2 : Int)) := by
              constructor
              · intro h
                have hk2 : k + 1 < (pairs s).length := by rw [← HN.out]; exact h
                obtain ⟨g1', hg, _, e3⟩ := (r13.below hB) (k + 1) (by rw [plc_length]; exact hk2)
                injection hg with hg
                injection hg with hg
                subst hg
                rw [e3, ← hat.2.2.1 _ (List.getElem?_eq_getElem hk2)]
                simp [plc]
              · intro h
                have hn : (pairs s)[k + 1]? = none := List.getElem?_eq_none (by rw [← HN.out]; omega)
                have := hat.2.2.2 hn
                omega
            have e1 : wr.cell? ⟨g1, k, none⟩ = some (.int .i64 (((pairs s)[k]'hkp).1 : Int)) := by rw [e1o]; simp [plc]
            have e2 : wr.cell? ⟨g2, k, none⟩ = some (.int .i32 (((pairs s)[k]'hkp).2 : Int)) := by rw [e2o]; simp [rns]
            have cN := next_any s (((pairs s)[k]'hkp).1 : Int) wr hTr
            rw [nextR_in hat.1, nextW_in hat.1, hat.2.1] at cN
            have hP1 : ((pairs s)[k]'hkp).1 + (Utf8.decode s ((pairs s)[k]'hkp).1).2 ≤ s.size := (decode_fits s _ hat.1).2
            clear hat e1o e2o
            generalize ((pairs s)[k]'hkp).2 = R at *
            generalize (Utf8.decode s ((pairs s)[k]'hkp).1).2 = D at *
            generalize ((pairs s)[k]'hkp).1 = P at *
            have c1 := (hB.cell (p := ⟨w1.heap.size, 0, none⟩) (by show w1.heap.size < wc.heap.size; omega)).trans k13.cell
            have c2 := (hB.cell (p := ⟨w1.heap.size + 1, 0, none⟩) (by show w1.heap.size + 1 < wc.heap.size; omega)).trans k23.cell
            have hr1 : wc.heap.size ≤ wr.heap.size := hB.size
            clear c13 hTr
            go_wp2_with (go_at_call 10; refine cN.mono ?_)
            rintro e w3 ⟨rfl, b3⟩
            have c1' := (b3.cell (p := ⟨w1.heap.size, 0, none⟩) (by show w1.heap.size < wr.heap.size; omega)).trans c1
            have c2' := (b3.cell (p := ⟨w1.heap.size + 1, 0, none⟩) (by show w1.heap.size + 1 < wr.heap.size; omega)).trans c2
            have e2' := (b3.cell (p := ⟨g2, k, none⟩) (by exact hg2)).trans e2
            have hB3 := hB.trans (b3.mono hr1)
            clear cN e1 e2 c1 c2
            by_cases hk1 : k + 1 < N
            · have e3 := (b3.cell (p := ⟨g1, k + 1, none⟩) (by exact hg1)).trans (hend.1 hk1)
              rw [Int.natCast_add] at e3
              clear hend b3 hB
              have hk1' : (k : Int) + 1 < (N : Int) := by omega
              go_wp2
              go_roundw
              case rel => exact ⟨k + 1, by simp, by omega, hB3⟩
              case measure => simp [RowKit.intOf]; omega
            · have e3 := hend.2 hk1
              clear hend b3 hB
              have hk1' : ¬ ((k : Int) + 1 < (N : Int)) := by omega
              go_wp2
              go_roundw
              case rel => exact ⟨k + 1, by simp, by omega, hB3⟩
              case measure => simp [RowKit.intOf]; omega
          · have hkN : k = N := by omega
            subst hkN
            have og4 := row_below og3 hB
            have r14 := r13.below hB
            have r24 := r23.below hB
            have k14 : Boxed wr w1.heap.size 26 (.slice a1 k cap1) := (hB.block _ k13.lt).trans k13
            have k24 : Boxed wr (w1.heap.size + 1) 38 (.slice a2 k cap2) := (hB.block _ k23.lt).trans k23
            have bw2 : Below w1.heap.size w1 wr := bw1.trans (hB.mono bw1.size)
            have hxr : Wx.heap.size ≤ wr.heap.size := Nat.le_trans (by omega) hB.size
            have HX1 : Hid (Below Wx.heap.size Wx wr) := HX0.out.trans (hB.mono HX0.out.size)
            clear HX0 og3 r13 r23 k13 k23 bw1 hB c13 hTr hnx
            rename World => Wr
            have cAll := fun W => (callsIn_wide (n := 3)).1 (all_in Fence.wide 3 trivial hro s W)
            go_wp2_with (go_at_call 30; refine (cAll _).mono ?_)
            rintro e w3 ⟨rfl, rfl⟩
            clear cAll
            go_wp2_with fail
            have hKb := (Boxed.new Wr 3 (.int .i64 0)).alloc (.cells #[.string s] 9)
            have hSb := Boxed.new (Wr.alloc (.cells #[.int .i64 0] 3)) 9 (.string s)
            simp only [World.size_alloc] at hSb
            have hBb : Below Wr.heap.size Wr ((Wr.alloc (.cells #[.int .i64 0] 3)).alloc (.cells #[.string s] 9)) := ((Below.refl _ Wr).alloc (Nat.le_refl _) _).alloc (by simp) _
            obtain ⟨W5, hW5⟩ : ∃ W5, (Wr.alloc (.cells #[.int .i64 0] 3)).alloc (.cells #[.string s] 9) = W5 := ⟨_, rfl⟩
            have hW5s : W5.heap.size = Wr.heap.size + 2 := by rw [← hW5]; simp
            rw [hW5] at hKb hSb hBb ⊢
            clear hW5
            have HW5s : Hid (W5.heap.size = Wr.heap.size + 2) := hW5s
            refine (wpIn_wide (n := 3)).1 ?_
            refine wpIn_rangeFunc_ownG hro (by omega) (gf := 40) (lb := #[.pointer (some ⟨Wr.heap.size + 1, 0, none⟩)]) rfl trivial (enters_of Tryd.func40 (by kernel_rfl) rfl)
              (all_stops Fence.wide _ trivial hro (by omega) (Wr.heap.size + 1) s W5 hSb.lt hSb.cell) walksK_t walksK_b (Below.refl _ _) (fun _ => rfl)
              (fun pre W => (pre <+: pairs s ∧ Boxed W Wr.heap.size 3 (.int .i64 (pre.length : Int))) ∧ Below Wr.heap.size Wr W)
              (fun _ pre _ => ¬ (pre <+: pairs s))
              (OwnFrom.and (OwnFrom.and (ownFrom_pure _ _) (Own.from (boxed_own Wr.heap.size 3 (fun pre : List (Nat × Nat) => .int .i64 (pre.length : Int))) _)) (ownFrom_below (Nat.le_refl _) (by omega)))
              (fun _ => ownFrom_pure _ _)
              ⟨⟨List.nil_prefix, hKb⟩, hBb⟩
              (fun x => { tmps := #[.string s, undef, .pointer (some ⟨w.heap.size, 0, none⟩), .pointer (some ⟨w1.heap.size, 0, none⟩), .pointer (some ⟨w1.heap.size + 1, 0, none⟩), u5, u6, .slice ag k capg, u8, u9, u10, u11, u12, .pointer (some ⟨Wr.heap.size, 0, none⟩), .int .i64 (x.1 : Int), .int .i32 (x.2 : Int), undef, u17, u18, u19, u20, u21, u22, u23, u24, u25, u26, u27, u28, u29, u30, u31, u32, u33, u34, u35, u36, u37, u38, u39, u40, u41, u42, u43, u44, .bool false, .slice a1 k cap1, .int .i64 (k : Int), .int .i64 (k : Int), .bool false, u50, u51, u52, u53, u54, u55, u56, u57, u58, u59, u60, u61, u62, u63, u64, u65, u66, u67, u68, u69, u70, u71, u72, u73, u74, u75, u76, u77, u78, u79, u80, u81, u82, u83, u84, .string s, .func (.func 40) #[] #[.pointer (some ⟨Wr.heap.size + 1, 0, none⟩)], .int .i64 (x.1 : Int), .int .i32 (x.2 : Int), u89, u90, u91, u92, u93, u94, u95, u96, u97, u98, u99, u100, u101, u102, u103, u104, u105, u106, u107, u108, u109, u110, u111, u112, u113, u114, u115, u116, u117, u118, u119, u120, u121, u122, u123, u124, u125, u126, u127, u128, u129, u130, u131, u132, u133, u134, u135, u136, u137], defers := [] }) ?assign ?body ?done ?stop
            case assign =>
              intro l x W K hK
              gi_wp2
              exact hK
            case body =>
              rintro l pre x W ⟨⟨hpre, bk⟩, hB⟩ hlen
              have hps := pre_snoc (pairs s) pre x hpre hlen
              obtain ⟨g1, rfl, hg1, e1o⟩ := (r14.below hB) pre.length (by rw [plc_length]; exact hlen)
              obtain ⟨g2, rfl, hg2, e2o⟩ := (r24.below hB) pre.length (by rw [rns_length]; exact hlen)
              have e1 : W.cell? ⟨g1, pre.length, none⟩ = some (.int .i64 (((pairs s)[pre.length]'hlen).1 : Int)) := by rw [e1o]; simp [plc]
              have e2 : W.cell? ⟨g2, pre.length, none⟩ = some (.int .i32 (((pairs s)[pre.length]'hlen).2 : Int)) := by rw [e2o]; simp [rns]
              clear e1o e2o
              generalize (pairs s)[pre.length]'hlen = y at *
              obtain ⟨P, R⟩ := y
              obtain ⟨i, r⟩ := x
              dsimp only at e1 e2 ⊢
              have c1 := (hB.cell (p := ⟨w1.heap.size, 0, none⟩) (by exact k14.lt)).trans k14.cell
              have c2 := (hB.cell (p := ⟨w1.heap.size + 1, 0, none⟩) (by exact k24.lt)).trans k24.cell
              have ck := bk.cell
              have fk := bk.frozen
              have hkk : (pre.length : Int) < (k : Int) := by have := HN.out; omega
              have hlp : (pre.length : Int) ≤ 1048576 := by omega
              have hbR : Boxed W w.heap.size 4 (.bool false) := (hB.block _ (by have := bw2.size; omega)).trans ((bw2.block _ (by omega)).trans hR1)
              have cR := hbR.cell
              have fR := hbR.frozen
              by_cases hi : i = P
              · by_cases hr : r = R
                · subst hi hr
                  have HPy : Hid (pre ++ [(i, r)] <+: pairs s) := hps.2 rfl
                  clear hps
                  gi_wp2
                  refine ⟨(KeepsOthers.setCell _ _ _).from _, (KeepsOthers.setCell _ _ _).walks, ⟨HPy.out, ?_⟩, hB.setCell (p := ⟨Wr.heap.size, 0, none⟩) (Nat.le_refl _) _⟩
                  have := bk.set (.int .i64 ((pre.length : Int) + 1))
                  rw [show ((pre ++ [(i, r)]).length : Int) = (pre.length : Int) + 1 by simp]
                  exact this
                · subst hi
                  have hri : ((r : Int) != (R : Int)) = true := by simp; omega
                  have HPn : Hid (¬ (pre ++ [(i, r)] <+: pairs s)) := fun h => hr (by have := hps.1 h; injection this with _ h2; exact h2.symm)
                  clear hps
                  gi_wp2
                  exact ⟨(KeepsOthers.setCell _ _ _).from _, HPn.out⟩
              · have hii : ((i : Int) != (P : Int)) = true := by simp; omega
                have HPn : Hid (¬ (pre ++ [(i, r)] <+: pairs s)) := fun h => hi (by have := hps.1 h; injection this with h1 _; exact h1.symm)
                clear hps
                gi_wp2
                exact ⟨(KeepsOthers.setCell _ _ _).from _, HPn.out⟩
            case stop =>
              rintro D c pre W _ hp h _
              exact (h hp).elim
            case done =>
              rintro D ys W hD rfl ⟨⟨_, bk⟩, hB⟩ hK
              have hkl : ((pairs s).length : Int) = (k : Int) := by have := HN.out; omega
              rw [hkl] at bk
              clear hkl
              have og6 := row_below og4 hB
              have HX2 : Hid (Below Wx.heap.size Wx W) := HX1.out.trans (hB.mono HX1.out.size)
              have hWs : Wr.heap.size ≤ W.heap.size := hB.size
              have k16 : Boxed W w1.heap.size 26 (.slice a1 k cap1) := (hB.block _ k14.lt).trans k14
              clear og4 r14 r24 k14 k24 bw2 hB hKb hSb hBb HX1
              have c1 := k16.cell
              have ck := bk.cell
              rename World => Wd
              go_wp2_with fail
              go_loopw [117] (fun iv wr => ∃ i : Nat, iv = .int .i64 (i : Int) ∧ i ≤ k ∧ (∃ ys, wr.ownsRow (Wx.heap.size + 1) 3 1 (.slice ag k capg) k ys) ∧ Hid (Below Wx.heap.size Wx wr) ∧ wr.heap[D]? = some (Obj.deferred (some []))) (fun iv _ => k - (RowKit.intOf iv).toNat)
              case atStart => exact ⟨0, rfl, Nat.zero_le _, ⟨_, og6⟩, HX2, hK⟩
              case round =>
                obtain ⟨i, rfl, hik, ⟨ys, og⟩, HXr, hKr⟩ := hrel
                by_cases hlt : i < k
                · obtain ⟨g, rfl, hgl⟩ : ∃ g, ag = some ⟨g, 0, none⟩ ∧ Wx.heap.size + 1 ≤ g := by
                    rcases og.2 with ⟨hv, h0⟩ | ⟨g, cap, cur, hv, hb, _⟩
                    · omega
                    · injection hv with hv _ _
                      exact ⟨g, hv, hb⟩
                  have hyl : ys.length = k := by have := og.1; omega
                  have hcg : wr.cell? ⟨g, i, none⟩ = some (ys[i]'(by omega)) := by
                    rw [og.cellAt i (by omega)]; exact List.getElem?_eq_getElem (by omega)
                  have hfg := og.frozenAt i
                  obtain ⟨st1, st2⟩ := og.stored i (.int .i64 (-7))
                  have hgD : D ≠ g := fun h => by
                    obtain ⟨c, fz, hc⟩ := ownsRow_kind og g rfl
                    rw [← h, hKr] at hc
                    simp at hc
                  have hKr' : (wr.setCell ⟨g, i, none⟩ (.int .i64 (-7))).heap[D]? = some (Obj.deferred (some [])) := (st2.block D (Array.getElem?_eq_some_iff.1 hKr).1 (fun h => hgD (by injection h))).trans hKr
                  have HXn : Hid (Below Wx.heap.size Wx (wr.setCell ⟨g, i, none⟩ (.int .i64 (-7)))) := HXr.out.setCell (p := ⟨g, i, none⟩) (by show Wx.heap.size ≤ g; omega) _
                  clear og st2 hKr HXr og6
                  have hiI : (i : Int) < (k : Int) := by omega
                  go_wp2
                  go_roundw
                  case rel => exact ⟨i + 1, by simp, by omega, ⟨_, st1⟩, HXn, hKr'⟩
                  case measure => simp [RowKit.intOf]; omega
                · clear og6 HX2 hK c1 ck bk k16
                  rename World => We
                  go_upto_region 37 with fail
                  have hXe := HXr.out.size
                  have ck0 : We.cell? ⟨w1.heap.size, 0, none⟩ = some (.slice a1 k cap1) := (HXr.out.cell (p := ⟨w1.heap.size, 0, none⟩) (by exact hx1)).trans HK0.out.cell
                  have ckA : (We.alloc (.cells #[.int .i64 (-8)] 3)).cell? ⟨w1.heap.size, 0, none⟩ = some (.slice a1 k cap1) := (Below.cell (B := We.heap.size) ((Below.refl We.heap.size We).alloc (Nat.le_refl _) _) (p := ⟨w1.heap.size, 0, none⟩) (by show w1.heap.size < We.heap.size; omega)).trans ck0
                  have cP := fun W => places_any s W (by omega)
                  rw [← HN.out] at cP
                  have cS : ∀ W ao cap, Reads W ao (plc (pairs s)) → Reads W a1 (plc (pairs s)) → Calls Tryd.prog 12 #[.slice ao k cap, .slice a1 k cap1] W fun e w' => e = .returned (.bool true) ∧ Below W.heap.size W w' := fun W ao cap q1 q2 => by
                    rw [plc_zs] at q1 q2
                    have := sameInts_eq _ ao a1 cap cap1 W (by rw [List.length_map]; omega) q1 q2
                    rw [List.length_map, ← HN.out] at this
                    exact this
                  have hkw : IntKind.i64.wrap ((k : Int) + 1) = (k : Int) + 1 := by rw [IntKind.wrap_i64]; omega
                  go_cut [137] from 17 (fun _ we => Boxed we w.heap.size 4 (.bool true) ∧ Below w.heap.size w we ∧ we.heap[D]? = some (Obj.deferred (some [])))
                  case first =>
                    refine wp_blind ?_
                    (first | (go_region_law (first
                      | (refine step_own rfl (.tmp 124) (.tmp 125) 26 rfl (Wx.heap.size + 1) 3 i0 (.int .i64 0) 1 8 Tryd.underlying26 hi hz0 hz1 hz2 rfl (by decide) (.slice ag k capg) k ys (by first | (simp [Act.eval]; done) | (simp [Act.eval, Act.put]; done)) (og.drew.alloc _) ⟨We.heap.size, 0, none⟩ 1 1 [.int .i64 (-8)] (by first | (simp [Act.eval]; done) | (simp [Act.eval, Act.put]; done)) rfl (cell_one_new We.drew _ _) (by simp [Value.oneCell']) (by unfold maxLen; omega) (by omega) (by simp; omega) ?_; intro v' w3 p1 hg3; obtain ⟨gq, capq, rfl⟩ := ownsRow_succ p1; have HX3 : Hid (Below Wx.heap.size Wx w3) := Below.grown ((Below.drew HXr.out).alloc (by exact hXe) _) hg3 (by simp; omega) (fun j hj => by have := (og.lt _ hj).1; omega); have ck3 : w3.cell? ⟨w1.heap.size, 0, none⟩ = some (.slice a1 k cap1) := (HX3.out.cell (p := ⟨w1.heap.size, 0, none⟩) (by exact hx1)).trans HK0.out.cell; have HD3 : Hid (w3.heap[D]? = some (Obj.deferred (some []))) := (hg3.block D (by simp; have := (Array.getElem?_eq_some_iff.1 hKr).1; omega) (fun h => by obtain ⟨c, fz, hc⟩ := ownsRow_kind og D h.symm; rw [hKr] at hc; simp at hc)).trans ((Below.heap_alloc We.drew _ D (Array.getElem?_eq_some_iff.1 hKr).1).trans hKr); clear p1 hg3)
                      | (go_simp; go_wp2_with (first
                        | (go_at_call 13; refine (cP _).mono ?_; rintro e w4 ⟨v, rfl, og5, b4⟩; obtain ⟨ao, cap, rfl, r4⟩ := reads_row og5; have HX4 : Hid (Below Wx.heap.size Wx w4) := HX3.out.trans (b4.mono HX3.out.size); have ck4 : w4.cell? ⟨w1.heap.size, 0, none⟩ = some (.slice a1 k cap1) := (HX4.out.cell (p := ⟨w1.heap.size, 0, none⟩) (by exact hx1)).trans HK0.out.cell; have HD4 : Hid (w4.heap[D]? = some (Obj.deferred (some []))) := (b4.block D (Array.getElem?_eq_some_iff.1 HD3.out).1).trans HD3.out; have HR4 : Hid (Reads w4 ao (plc (pairs s))) := r4; clear og5 b4 r4)
                        | (go_at_call 12; refine (cS _ _ _ HR4.out (HR0.out.below HX4.out)).mono ?_; rintro e w5 ⟨rfl, b5⟩; have HX5 : Hid (Below Wx.heap.size Wx w5) := HX4.out.trans (b5.mono HX4.out.size); have hR5 : Boxed w5 w.heap.size 4 (.bool false) := (HX5.out.block _ (by omega)).trans ((HB0.out.block _ (by omega)).trans hR1); have cR5 := hR5.cell; have fR5 := hR5.frozen; have HD5 : Hid (w5.heap[D]? = some (Obj.deferred (some []))) := (b5.block D (Array.getElem?_eq_some_iff.1 HD4.out).1).trans HD4.out; clear b5))))) | fail)
                    all_goals (try go_simp)
                    all_goals (go_wp2_with fail)
                    all_goals go_meet
                    all_goals exact ⟨hR5.set _, ((hB1.trans (HB0.out.mono (by omega))).trans (HX5.out.mono (by omega))).setCell (p := ⟨w.heap.size, 0, none⟩) (Nat.le_refl _) _, ((grownBy_setCell' w5 w.heap.size _).block D (Array.getElem?_eq_some_iff.1 HD5.out).1 (fun h => by injection h; omega)).trans HD5.out⟩
                  case rest =>
                    obtain ⟨hR9, hB9, hK9⟩ := hcut
                    have hRz : (wc.putObj D (.deferred none)).cell? ⟨w.heap.size, 0, none⟩ = some (.bool true) := by
                      have : Boxed (wc.putObj D (.deferred none)) w.heap.size 4 (.bool true) := (World.putObj_heap_other (by omega)).trans hR9
                      exact this.cell
                    go_wp2
                    refine ⟨by simp, .inl ⟨_, _, rfl, run_takeDeferred hK9, ?_⟩⟩
                    refine ⟨_, ?_, rfl, hB9.trans (belowK_b (w := w) (Nat.le_refl _) _ D _ _ (by omega) hK9 rfl rfl)⟩
                    exact results_box rfl _ _ w.heap.size (.bool true) (by rfl) hRz
end Go.Proofs.YtkjhjkpnkcnbgaaDoor.Utf
