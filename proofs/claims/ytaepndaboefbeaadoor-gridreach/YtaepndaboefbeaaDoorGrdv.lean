/-
  A list of a call's own that is cut at its head and grown at its end (cells that wait).
-/
import Derived.Test.YtaepndaboefbeaaDoorGrdg
import Derived.Deep.AppendSrc
namespace Go.Proofs.YtaepndaboefbeaaDoor.Grd
open Go Go.Lib Go.RowKit

/-- A list of numbers in a block of the call's own, from some place on. -/
structure OwnQ (w : World) (base b off n cap : Nat) (xs : List Int) : Prop where
  len : xs.length = n
  bs : base ≤ b
  nc : n ≤ cap
  cm : cap ≤ maxLen
  blk : ∃ cur, w.heap[b]? = some (.cells cur 3) ∧ off + cap ≤ cur.size ∧ ∀ j, j < n → cur[off + j]? = some (.int .i64 (xs[j]?.getD 0))
theorem OwnQ.lt {w : World} {base b off n cap : Nat} {xs : List Int} (h : OwnQ w base b off n cap xs) : b < w.heap.size := by
  obtain ⟨cur, h1, _⟩ := h.blk
  exact (Array.getElem?_eq_some_iff.1 h1).1
theorem OwnQ.cell {w : World} {base b off n cap : Nat} {xs : List Int} (h : OwnQ w base b off n cap xs) (j : Nat) (hj : j < n) : w.cell? ⟨b, off + j, none⟩ = some (.int .i64 (xs[j]?.getD 0)) := by
  obtain ⟨cur, h1, _, h3⟩ := h.blk
  rw [cell_of_row w b (off + j) cur 3 (0, 0) h1]
  exact h3 j hj
theorem OwnQ.of_block {w w' : World} {base b off n cap : Nat} {xs : List Int} (h : OwnQ w base b off n cap xs) (e : w'.heap[b]? = w.heap[b]?) : OwnQ w' base b off n cap xs := by
  obtain ⟨cur, h1, h2, h3⟩ := h.blk
  exact ⟨h.len, h.bs, h.nc, h.cm, cur, e.trans h1, h2, h3⟩
theorem OwnQ.keep {w w' : World} {base b off n cap : Nat} {xs : List Int} (h : OwnQ w base b off n cap xs) (hb : Below w.heap.size w w') : OwnQ w' base b off n cap xs := h.of_block (hb.block b h.lt)
theorem OwnQ.pop {w : World} {base b off n cap : Nat} {x : Int} {xs : List Int} (h : OwnQ w base b off (n + 1) cap (x :: xs)) : OwnQ w base b (off + 1) n (cap - 1) xs := by
  obtain ⟨cur, h1, h2, h3⟩ := h.blk
  have hl := h.len
  have hnc := h.nc
  have hcm := h.cm
  simp only [List.length_cons] at hl
  refine ⟨by omega, h.bs, by omega, by omega, cur, h1, by omega, fun j hj => ?_⟩
  have := h3 (j + 1) (by omega)
  rw [show off + 1 + j = off + (j + 1) by omega, this]
  simp
theorem OwnQ.pop0 {w : World} {base b off cap : Nat} {x : Int} (h : OwnQ w base b off 1 cap [x]) : OwnQ w base b off 0 0 [] := by
  obtain ⟨cur, h1, h2, h3⟩ := h.blk
  exact ⟨rfl, h.bs, Nat.le_refl _, Nat.zero_le _, cur, h1, by omega, fun j hj => absurd hj (Nat.not_lt_zero j)⟩
theorem OwnQ.lit (w : World) (base : Nat) (hb : base ≤ w.heap.size) (x : Int) : OwnQ (w.alloc (.cells #[.int .i64 x] 3)) base w.heap.size 0 1 1 [x] :=
  ⟨rfl, hb, Nat.le_refl _, by unfold maxLen; omega, #[.int .i64 x], heap_alloc_new w _, by simp, fun j hj => by
    obtain rfl : j = 0 := by omega
    rfl⟩
theorem run_append_q (base b off n cap : Nat) (xs : List Int) (w : World) (hq : OwnQ w base b off n cap xs) (i : TypeInfo) (hi : Tryd.prog.info? 3 = some i) (hz : i.zero = some (.int .i64 0)) (hsize : i.size = 1) (hby : i.bytes = 8) (ty : TypeId)
    (ad : Addr) (y : Int) (hc : w.cell? ad = some (.int .i64 y)) (hn : n ≤ 1000000) (hbase : base ≤ w.heap.size) :
    ∃ b' off' cap' w', (Builtin.append_ #[35, 35] ty #[.slice (some ⟨b, off, none⟩) n cap, .slice (some ad) 1 1]).run Tryd.prog w = .ok (.slice (some ⟨b', off', none⟩) (n + 1) cap') w' ∧ OwnQ w' base b' off' (n + 1) cap' (xs ++ [y]) ∧ w.grownBy w' (some b) ∧ (b' = b ∨ b' = w.heap.size) := by
  obtain ⟨cur, h1, h2, h3⟩ := hq.blk
  have hl := hq.len
  have hnews : ∀ j u, [Value.int .i64 y][j]? = some u → w.cell? (ad.add j) = some u := fun j u h => by
    match j, h with
    | 0, h =>
      simp at h
      subst h
      have : ad.add 0 = ad := by unfold Addr.add; split <;> simp_all
      rw [this]
      exact hc
  have hs : Src Tryd.prog i.size 35 (.slice (some ad) 1 1) 1 [.int .i64 y] w := Src.ofSlice w Tryd.underlying35 ad 1 1 [.int .i64 y] (by rw [hsize]; rfl) hnews (by simp [Value.oneCell'])
  by_cases hroom : n + 1 ≤ cap
  · have hcell : w.cell? ⟨b, off + n, none⟩ = cur[off + n]? := cell_of_row w b (off + n) cur 3 (0, 0) h1
    have hr := run_append_room_src (P := Tryd.prog) w 35 35 ty 3 i Tryd.underlying35 hi b off n cap (.slice (some ad) 1 1) 1 [.int .i64 y] hs hroom
      (fun j hj => by
        obtain rfl : j = 0 := by simpa using hj
        rw [hsize, Nat.mul_one, Nat.add_zero, hcell, Array.getElem?_eq_getElem (by omega)]
        rfl)
      (fun j hj => frozen_of_row w b _ cur 3 h1)
    rw [hsize, Nat.mul_one] at hr
    refine ⟨b, off, cap, _, hr, ⟨by simp [hl], hq.bs, hroom, hq.cm, cur.setIfInBounds (off + n) (.int .i64 y), heap_setCell_same w b (off + n) cur 3 _ h1, by simpa using h2, fun j hj => ?_⟩, ?_, ?_⟩
    · by_cases e : j = n
      · subst e
        rw [Array.getElem?_setIfInBounds_self_of_lt (by omega)]
        simp [hl]
      · rw [Array.getElem?_setIfInBounds_ne (by omega), h3 j (by omega), List.getElem?_append_left (by omega)]
    · exact ⟨rfl, rfl, rfl, by simp [World.setCells], fun k _ hk => heap_setCell_other w ⟨b, off + n, none⟩ k _ (fun e => hk (by simp [e]))⟩
    · exact .inl rfl
  · have holds : ∀ j u, (cellsI xs)[j]? = some u → w.cell? ((⟨b, off, none⟩ : Addr).add j) = some u := fun j u h => by
      have hj : j < xs.length := by have := (List.getElem?_eq_some_iff.1 h).1; rwa [cellsI_length] at this
      rw [Addr.add_lit, hq.cell j (by omega), ← h]
      simp [cellsI, List.getElem?_eq_getElem hj]
    have hr := run_append_grow (P := Tryd.prog) w 35 ty 3 i (.int .i64 0) Tryd.underlying35 hi hz ⟨b, off, none⟩ n cap (cellsI xs) (by rw [cellsI_length, hsize, hl, Nat.mul_one]) holds ad 1 1 [.int .i64 y] (by rw [hsize]; rfl) hnews (by omega) (by omega) (growslice_fits (by omega) (by rw [hby]; omega))
    have hge := grownCap_ge w (n + 1) cap 3
    have hgm := grownCap_le_maxLen w (n + 1) cap 3 (by unfold maxLen; omega)
    refine ⟨w.heap.size, 0, _, _, hr, ⟨by simp [hl], hbase, hge, hgm, _, heap_alloc_new w.drew _, ?_, fun j hj => ?_⟩, ⟨rfl, rfl, rfl, by simp, fun k hk _ => heap_alloc_old w.drew _ hk⟩, .inr rfl⟩
    · simp only [Array.size_append, List.size_toArray, size_zeroCells, cellsI_length, hl, List.length_cons, List.length_nil, Value.cells]
      simp
      omega
    · rw [Nat.zero_add, Array.getElem?_append_left (by simp [cellsI_length, hl]; omega)]
      rw [show (cellsI xs).toArray ++ [Value.int .i64 y].toArray = (cellsI (xs ++ [y])).toArray by simp [cellsI]]
      have hj2 : j < (xs ++ [y]).length := by simp; omega
      rw [List.getElem?_toArray]
      unfold cellsI
      rw [List.getElem?_map, List.getElem?_eq_getElem hj2]
      rfl
theorem wpList_append_q {w : World} {ops : Array Oper} {rest : List Oper} {o : Oper} {a : Act} {Q : Exit → Act → World → Prop} (hgd : o.guard = none) (s x : Operand)
    (ho : o.op = .call { callee := .builtin .append, args := #[s, x], argTypes := #[35, 35] })
    (i : TypeInfo) (hi : Tryd.prog.info? 3 = some i) (hz : i.zero = some (.int .i64 0)) (hsize : i.size = 1) (hby : i.bytes = 8)
    (base b off n cap : Nat) (xs : List Int) (hs : a.eval s = .slice (some ⟨b, off, none⟩) n cap) (hq : OwnQ w base b off n cap xs)
    (ad : Addr) (y : Int) (hx : a.eval x = .slice (some ad) 1 1) (hc : w.cell? ad = some (.int .i64 y)) (hn : n ≤ 1000000) (hbase : base ≤ w.heap.size)
    (h : ∀ b' off' cap' w', OwnQ w' base b' off' (n + 1) cap' (xs ++ [y]) → w.grownBy w' (some b) → (b' = b ∨ b' = w.heap.size) → wpList Tryd.prog ops Q rest (a.put o.dst (.slice (some ⟨b', off', none⟩) (n + 1) cap')) w') : wpList Tryd.prog ops Q (o :: rest) a w :=
  wpList_plain hgd fun _ hK => by
    obtain ⟨b', off', cap', w', hr, h2, h3, h4⟩ := run_append_q base b off n cap xs w hq i hi hz hsize hby o.type ad y hc hn hbase
    unfold Oper.wp execOp
    simp only [ho, resolve, invoke, builtin, Sem.run_bind, Sem.run_pure, Result.andThen_ok, List.map_toArray, List.map_cons, List.map_nil, hs, hx, hr]
    exact hK _ _ (h b' off' cap' w' h2 h3 h4)
end Go.Proofs.YtaepndaboefbeaaDoor.Grd
