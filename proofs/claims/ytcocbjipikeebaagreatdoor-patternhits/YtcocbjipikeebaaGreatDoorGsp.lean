/-
  The program's Span and Letters.
-/
import Derived.Test.YtcocbjipikeebaaGreatDoorGxd
import Derived.Test.YtcocbjipikeebaaGreatDoorGms
namespace Go.Proofs.YtcocbjipikeebaaGreatDoor.Utf
open Go Go.Lib Go.RowKit

/-- So many words are shorter than n. -/
def IsCnt (l : List (List Int × Int)) (n : Int) (r : Nat) : Prop := r ≤ l.length ∧ ∀ i (hi : i < l.length), (n ≤ (l[i].1.length : Int) ↔ r ≤ i)
theorem IsCnt.unique {l : List (List Int × Int)} {n : Int} {r q : Nat} (h : IsCnt l n r) (k : IsCnt l n q) : r = q := by
  rcases Nat.lt_trichotomy r q with e | e | e
  · have h1 := (h.2 r (by have := k.1; omega)).2 (Nat.le_refl _)
    have h2 := (k.2 r (by have := k.1; omega)).1 h1
    omega
  · exact e
  · have h1 := (k.2 q (by have := h.1; omega)).2 (Nat.le_refl _)
    have h2 := (h.2 q (by have := h.1; omega)).1 h1
    omega
theorem sort_len {l : List (List Int × Int)} (hs : SortL l) {i j : Nat} (hi : i < l.length) (hj : j < l.length) (hij : i ≤ j) : l[i].1.length ≤ l[j].1.length := by
  rcases Nat.lt_or_ge i j with h | h
  · have := (List.pairwise_iff_getElem.1 hs) i j hi hj h
    unfold ordI at this
    by_cases e : cmpI (l[i].1.length : Int) (l[j].1.length : Int) = 0
    · have := cmpI_zero.1 e; omega
    · rw [if_neg e] at this
      have := cmpI_lt.1 this
      omega
  · have : i = j := by omega
    subst this
    exact Nat.le_refl _
theorem ge_any (N : Nat) (ao : Option Addr) (cp b : Nat) (n : Int) (w : World) (hc : w.cell? ⟨b, 0, none⟩ = some (.int .i64 n)) :
    Calls Tryz.prog 68 #[.slice ao N cp, .pointer (some ⟨b, 0, none⟩)] w fun e w' => e = .returned (.bool (decide (n ≤ (N : Int)))) ∧ w' = w := by
  go_enter Tryz.func68, Tryz.ntmps68
  go_wp2
  go_ret
  exact ⟨rfl, rfl⟩
theorem gt_any (N : Nat) (ao : Option Addr) (cp b : Nat) (n : Int) (w : World) (hc : w.cell? ⟨b, 0, none⟩ = some (.int .i64 n)) :
    Calls Tryz.prog 69 #[.slice ao N cp, .pointer (some ⟨b, 0, none⟩)] w fun e w' => e = .returned (.bool (decide (n < (N : Int)))) ∧ w' = w := by
  go_enter Tryz.func69, Tryz.ntmps69
  go_wp2
  go_ret
  exact ⟨rfl, rfl⟩
def spn (r1 r2 : Nat) : Nat × Nat := if r1 = r2 then (0, 0) else (r1, r2)

set_option maxRecDepth 10000 in
set_option maxHeartbeats 2000000 in
theorem span_any {W : World} {base xb : Nat} {L : List ByteArray} {l : List (List Int × Int)} (h : IsLex W base xb L l) (hl : l.length ≤ 1000) (hs : SortL l) (n : Int) :
    Calls Tryz.prog 39 #[.pointer (some ⟨xb, 0, none⟩), .int .i64 n] W fun e w' => (∃ r1 r2 : Nat, IsCnt l n r1 ∧ IsCnt l (n + 1) r2 ∧ e = .returned (.tuple #[.int .i64 ((spn r1 r2).1 : Nat), .int .i64 ((spn r1 r2).2 : Nat)])) ∧ Below W.heap.size W w' := by
  have hb0 := below_box' W (.cells #[.int .i64 n] 3)
  have hc0 : (W.alloc (.cells #[.int .i64 n] 3)).cell? ⟨W.heap.size, 0, none⟩ = some (.int .i64 n) := box_at W _ 3 0 rfl
  have hX0 := h.below hb0
  have HX : Aside (IsLex W base xb L l) := h
  have c1 := first_any hX0 hl (fun c => decide (n ≤ (c.length : Int))) 68 #[.pointer (some ⟨W.heap.size, 0, none⟩)] (enters_of Tryz.func68 (by kernel_rfl) rfl)
    (fun x ao cp w _ hb _ => (ge_any x.1.length ao cp W.heap.size n w ((hb.cell (p := ⟨W.heap.size, 0, none⟩) (by simp)).trans hc0)).mono (fun e w' ⟨he, hw⟩ => ⟨he, by rw [hw]; exact Below.refl _ _⟩))
    (fun i j hi hj hij hp => decide_eq_true (by have := of_decide_eq_true hp; have := sort_len hs hi hj hij; omega))
  have HC2 : Aside (∀ w, Below (W.alloc (.cells #[.int .i64 n] 3)).heap.size (W.alloc (.cells #[.int .i64 n] 3)) w → _) := fun w hb => first_any (hX0.below hb) hl (fun c => decide (n < (c.length : Int))) 69 #[.pointer (some ⟨W.heap.size, 0, none⟩)] (enters_of Tryz.func69 (by kernel_rfl) rfl)
    (fun x ao cp w' _ hb' _ => (gt_any x.1.length ao cp W.heap.size n w' ((hb'.cell (p := ⟨W.heap.size, 0, none⟩) (Nat.lt_of_lt_of_le (by simp) hb.size)).trans ((hb.cell (p := ⟨W.heap.size, 0, none⟩) (by simp)).trans hc0))).mono (fun e w' ⟨he, hw⟩ => ⟨he, by rw [hw]; exact Below.refl _ _⟩))
    (fun i j hi hj hij hp => decide_eq_true (by have := of_decide_eq_true hp; have := sort_len hs hi hj hij; omega))
  clear h hX0
  go_enter Tryz.func39, Tryz.ntmps39
  go_wp2_with fail
  refine c1.mono ?_
  rintro e w1 ⟨⟨r1, rfl, h1, h2⟩, hb1⟩
  have c2 := HC2.out w1 hb1
  clear c1 HC2
  go_wp2_with fail
  refine c2.mono ?_
  rintro e w2 ⟨⟨r2, rfl, h3, h4⟩, hb2⟩
  have i1 : IsCnt l n r1 := ⟨h1, fun i hi => by rw [← h2 i hi]; exact decide_eq_true_iff.symm⟩
  have i2 : IsCnt l (n + 1) r2 := ⟨h3, fun i hi => by rw [← h4 i hi, decide_eq_true_iff]; omega⟩
  have hfin : Below W.heap.size W w2 := hb0.trans ((hb1.trans (hb2.mono hb1.size)).mono hb0.size)
  clear h2 h4 c2 hb0 hb1 hb2 hc0
  by_cases e : r1 = r2
  · have hz : ((r1 : Int) == (r2 : Int)) = true := by rw [e]; exact beq_self_eq_true _
    go_wp2
    go_ret2
    exact ⟨⟨r1, r2, i1, i2, by rw [spn, if_pos e]; rfl⟩, hfin⟩
  · have hz : ((r1 : Int) == (r2 : Int)) = false := by rw [beq_eq_false_iff_ne]; omega
    go_wp2
    go_ret2
    exact ⟨⟨r1, r2, i1, i2, by rw [spn, if_neg e]; rfl⟩, hfin⟩
theorem spn_in {l : List (List Int × Int)} {n : Int} {r1 r2 : Nat} (h1 : IsCnt l n r1) (h2 : IsCnt l (n + 1) r2) : (spn r1 r2).1 ≤ (spn r1 r2).2 ∧ (spn r1 r2).2 ≤ l.length ∧ ∀ i, (spn r1 r2).1 ≤ i → i < (spn r1 r2).2 → ∃ hi : i < l.length, (l[i].1.length : Int) = n := by
  unfold spn
  by_cases e : r1 = r2
  · rw [if_pos e]; exact ⟨Nat.le_refl _, Nat.zero_le _, fun i _ h => by cases h⟩
  · rw [if_neg e]
    have hle : r1 ≤ r2 := by
      rcases Nat.le_total r1 r2 with h | h
      · exact h
      · exfalso
        have h3 : r2 < l.length := by have := h1.1; omega
        have h4 := (h2.2 r2 h3).2 (Nat.le_refl _)
        have h5 := (h1.2 r2 h3).1 (by omega)
        omega
    refine ⟨hle, h2.1, fun i hi hj => ?_⟩
    have hl : i < l.length := Nat.lt_of_lt_of_le hj h2.1
    have h4 := (h1.2 i hl).2 hi
    have h5 : ¬ (n + 1 ≤ (l[i].1.length : Int)) := fun h => by have := (h2.2 i hl).1 h; omega
    exact ⟨hl, by omega⟩
/-- The letters at a place of the words from f on. -/
def lzs (l : List (List Int × Int)) (at' : Nat) (f k : Nat) : List Int := ((l.drop f).take k).map fun x => x.1.getD at' 0
theorem lzs_next {l : List (List Int × Int)} {at' f k : Nat} (h : f + k < l.length) : lzs l at' f (k + 1) = lzs l at' f k ++ [l[f + k].1.getD at' 0] := by
  unfold lzs
  rw [List.take_succ_eq_append_getElem (by rw [List.length_drop]; omega), List.map_append, List.getElem_drop]
  rfl
theorem or_ofL (z : List Int) (c : Int) : bits .or .u64 (Msk.ofL z : Nat) (Msk.ofL [c] : Nat) = ((Msk.ofL (z ++ [c]) : Nat) : Int) := by
  rw [bits_or_u64_nat _ _ (Msk.ofL_lt z) (Msk.ofL_lt [c]), Msk.ofL_snoc]
  have : Msk.ofL [c] = Msk.ofStep 0 c := rfl
  rw [this]
  unfold Msk.ofStep
  by_cases h : 0 ≤ c ∧ c < 64
  · rw [if_pos h, if_pos h, Nat.zero_or]
  · rw [if_neg h, if_neg h, Nat.or_zero]
theorem reads_one (w : World) (c : Int) (t : TypeId) : Msk.ReadsI (w.alloc (.cells #[.int .i64 c] t)) (some ⟨w.heap.size, 0, none⟩) [c] := fun i hi => by
  have : i = 0 := by simpa using hi
  subst this
  exact ⟨w.heap.size, 0, rfl, by simp, box_at w _ t 0 rfl⟩

end Go.Proofs.YtcocbjipikeebaaGreatDoor.Utf
/-
  The words of a length: their span and their letters, counted word by word.
-/
namespace Go.Proofs.YtcocbjipikeebaaGreatDoor.Utf
open Go Go.Lib Go.RowKit

/-- The span of the words of n cells among the first k. -/
def spD (l : List (List Int × Int)) (n : Int) : Nat → Nat × Nat
  | 0 => (0, 0)
  | k + 1 => if ((l.getD k ([], 0)).1.length : Int) = n then (if (spD l n k).2 = 0 then k else (spD l n k).1, k + 1) else spD l n k
/-- The letters at a place of the words of n cells among the first k. -/
def lzD (l : List (List Int × Int)) (n a : Int) : Nat → List Int
  | 0 => []
  | k + 1 => if ((l.getD k ([], 0)).1.length : Int) = n ∧ 0 ≤ a ∧ a < n then lzD l n a k ++ [(l.getD k ([], 0)).1.getD a.toNat 0] else lzD l n a k
theorem getD_at {l : List (List Int × Int)} {k : Nat} (h : k < l.length) : l.getD k ([], 0) = l[k] := by
  rw [List.getD_eq_getElem?_getD, List.getElem?_eq_getElem h]; rfl
theorem spD_le (l : List (List Int × Int)) (n : Int) : ∀ k, (spD l n k).1 ≤ k ∧ (spD l n k).2 ≤ k
  | 0 => ⟨Nat.le_refl _, Nat.le_refl _⟩
  | k + 1 => by
    have := spD_le l n k
    rw [spD]
    by_cases e : ((l.getD k ([], 0)).1.length : Int) = n
    · rw [if_pos e]
      by_cases e2 : (spD l n k).2 = 0
      · rw [if_pos e2]; exact ⟨by simp, Nat.le_refl _⟩
      · rw [if_neg e2]; exact ⟨by simp only; omega, Nat.le_refl _⟩
    · rw [if_neg e]; omega
theorem lzD_len (l : List (List Int × Int)) (n a : Int) : ∀ k, (lzD l n a k).length ≤ k
  | 0 => Nat.le_refl _
  | k + 1 => by
    have := lzD_len l n a k
    rw [lzD]
    split
    · rw [List.length_append, List.length_singleton]; omega
    · omega
theorem lzD_out {l : List (List Int × Int)} {n a : Int} (h : a < 0 ∨ n ≤ a) : ∀ k, lzD l n a k = []
  | 0 => rfl
  | k + 1 => by rw [lzD, if_neg (by omega)]; exact lzD_out h k
theorem cnt_iff {l : List (List Int × Int)} {n : Int} {r1 r2 : Nat} (h1 : IsCnt l n r1) (h2 : IsCnt l (n + 1) r2) {i : Nat} (hi : i < l.length) : (l[i].1.length : Int) = n ↔ r1 ≤ i ∧ i < r2 := by
  have a1 := h1.2 i hi
  have a2 := h2.2 i hi
  constructor
  · intro e
    refine ⟨a1.1 (by omega), ?_⟩
    rcases Nat.lt_or_ge i r2 with h | h
    · exact h
    · have := a2.2 h; omega
  · rintro ⟨e1, e2⟩
    have b1 := a1.2 e1
    have b2 : ¬ n + 1 ≤ (l[i].1.length : Int) := fun h => by have := a2.1 h; omega
    omega
theorem cnt_le {l : List (List Int × Int)} {n : Int} {r1 r2 : Nat} (h1 : IsCnt l n r1) (h2 : IsCnt l (n + 1) r2) : r1 ≤ r2 := by
  rcases Nat.le_total r1 r2 with h | h
  · exact h
  · rcases Nat.lt_or_ge r2 r1 with h3 | h3
    · exfalso
      have hl : r2 < l.length := by have := h1.1; omega
      have h4 := (h2.2 r2 hl).2 (Nat.le_refl _)
      have h5 := (h1.2 r2 hl).1 (by omega)
      omega
    · exact h3
theorem spD_spn {l : List (List Int × Int)} {n : Int} {r1 r2 : Nat} (h1 : IsCnt l n r1) (h2 : IsCnt l (n + 1) r2) : spD l n l.length = spn r1 r2 := by
  have hle := cnt_le h1 h2
  have key : ∀ k, k ≤ l.length → spD l n k = if r1 = r2 ∨ k ≤ r1 then (0, 0) else (r1, min k r2) := by
    intro k
    induction k with
    | zero => intro _; rw [spD, if_pos (.inr (Nat.zero_le _))]
    | succ k ih =>
      intro hk
      rw [spD, ih (by omega), getD_at (by omega)]
      have hc := cnt_iff h1 h2 (show k < l.length by omega)
      by_cases e : (l[k].1.length : Int) = n
      · obtain ⟨e1, e2⟩ := hc.1 e
        rw [if_pos e, if_neg (show ¬ (r1 = r2 ∨ k + 1 ≤ r1) by omega)]
        by_cases e3 : k = r1
        · subst e3
          rw [if_pos (show k = r2 ∨ k ≤ k from .inr (Nat.le_refl _)), Nat.min_eq_left (show k + 1 ≤ r2 by omega)]
          rfl
        · rw [if_neg (show ¬ (r1 = r2 ∨ k ≤ r1) by omega)]
          simp only
          rw [if_neg (by rw [Nat.min_eq_left (by omega)]; omega), Nat.min_eq_left (by omega)]
      · rw [if_neg e]
        have e2 : ¬ (r1 ≤ k ∧ k < r2) := fun h => e (hc.2 h)
        by_cases e3 : r1 = r2 ∨ k ≤ r1
        · rw [if_pos e3]
          by_cases e4 : r1 = r2 ∨ k + 1 ≤ r1
          · rw [if_pos e4]
          · exfalso; omega
        · rw [if_neg e3, if_neg (by omega), Nat.min_eq_right (by omega), Nat.min_eq_right (by omega)]
  rw [key l.length (Nat.le_refl _), spn]
  by_cases e : r1 = r2
  · rw [if_pos (.inl e), if_pos e]
  · have := h2.1
    rw [if_neg e, if_neg (by omega), Nat.min_eq_right h2.1]
theorem lzD_lzs {l : List (List Int × Int)} {n : Int} {r1 r2 : Nat} (h1 : IsCnt l n r1) (h2 : IsCnt l (n + 1) r2) (a : Int) (ha : 0 ≤ a ∧ a < n) : lzD l n a l.length = lzs l a.toNat (spn r1 r2).1 ((spn r1 r2).2 - (spn r1 r2).1) := by
  have hle := cnt_le h1 h2
  have key : ∀ k, k ≤ l.length → lzD l n a k = lzs l a.toNat r1 (min k r2 - r1) := by
    intro k
    induction k with
    | zero => intro _; rw [lzD, Nat.zero_min, Nat.zero_sub]; simp [lzs]
    | succ k ih =>
      intro hk
      rw [lzD, ih (by omega), getD_at (by omega)]
      have hc := cnt_iff h1 h2 (show k < l.length by omega)
      by_cases e : (l[k].1.length : Int) = n
      · obtain ⟨e1, e2⟩ := hc.1 e
        rw [if_pos ⟨e, ha⟩, Nat.min_eq_left (by omega), Nat.min_eq_left (by omega), show k + 1 - r1 = (k - r1) + 1 by omega, lzs_next (by omega : r1 + (k - r1) < l.length)]
        have e3 : r1 + (k - r1) = k := by omega
        simp only [e3]
      · rw [if_neg (fun h => e h.1)]
        have e2 : ¬ (r1 ≤ k ∧ k < r2) := fun h => e (hc.2 h)
        rw [show min (k + 1) r2 - r1 = min k r2 - r1 by omega]
  rw [key l.length (Nat.le_refl _), Nat.min_eq_right h2.1, spn]
  by_cases e : r1 = r2
  · subst e
    rw [if_pos rfl, Nat.sub_self]
    simp [lzs]
  · rw [if_neg e]

/-- The program's Span. -/
theorem spanG_any {W : World} {base xb : Nat} {L : List ByteArray} {l : List (List Int × Int)} (h : IsLex W base xb L l) (hl : l.length ≤ 1000) (hs : SortL l) (n : Int) :
    Calls Tryz.prog 39 #[.pointer (some ⟨xb, 0, none⟩), .int .i64 n] W fun e w' => e = .returned (.tuple #[.int .i64 ((spD l n l.length).1 : Nat), .int .i64 ((spD l n l.length).2 : Nat)]) ∧ Below W.heap.size W w' :=
  (span_any h hl hs n).mono fun e w' ⟨⟨r1, r2, h1, h2, he⟩, hb⟩ => ⟨by rw [he, spD_spn h1 h2], hb⟩

end Go.Proofs.YtcocbjipikeebaaGreatDoor.Utf
