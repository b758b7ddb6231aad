/-
  The program's Span and Letters.
-/
import Derived.Test.YtjgmmfkeogkakaaGreatGxd
import Derived.Test.YtjgmmfkeogkakaaGreatGms
import Derived.Test.YtjgmmfkeogkakaaGreatGxu
namespace Go.Proofs.YtjgmmfkeogkakaaGreat.Utf
open Go Go.Lib Go.RowKit

/-- So many words are shorter than n. -/
def IsCnt (l : List (List Int × Int)) (n : Int) (r : Nat) : Prop := r ≤ l.length ∧ ∀ i (hi : i < l.length), (n ≤ (l[i].1.length : Int) ↔ r ≤ i)
theorem IsCnt.unique {l : List (List Int × Int)} {n : Int} {r q : Nat} (h : IsCnt l n r) (k : IsCnt l n q) : r = q := by
  rcases Nat.lt_trichotomy r q with e | e | e
  · have h1 := (h.2 r (by have := k.1; omega)).2 (Nat.le_refl _)
    have h2 := (k.2 r (by have := k.1; omega)).1 h1
    omega
  · exact e
  · have h1 := (k.2 q (by have := h.1; omega)).2 (Nat.le_refl _)
    have h2 := (h.2 q (by have := h.1; omega)).1 h1
    omega
theorem sort_len {l : List (List Int × Int)} (hs : SortL l) {i j : Nat} (hi : i < l.length) (hj : j < l.length) (hij : i ≤ j) : l[i].1.length ≤ l[j].1.length := by
  rcases Nat.lt_or_ge i j with h | h
  · have := (List.pairwise_iff_getElem.1 hs) i j hi hj h
    unfold ordI at this
    by_cases e : cmpI (l[i].1.length : Int) (l[j].1.length : Int) = 0
    · have := cmpI_zero.1 e; omega
    · rw [if_neg e] at this
      have := cmpI_lt.1 this
      omega
  · have : i = j := by omega
    subst this
    exact Nat.le_refl _
theorem ge_any (N : Nat) (ao : Option Addr) (cp b : Nat) (n : Int) (w : World) (hc : w.cell? ⟨b, 0, none⟩ = some (.int .i64 n)) :
    Calls Tryz.prog 37 #[.slice ao N cp, .pointer (some ⟨b, 0, none⟩)] w fun e w' => e = .returned (.bool (decide (n ≤ (N : Int)))) ∧ w' = w := by
  go_enter Tryz.func37, Tryz.ntmps37
  go_wp2
  go_ret
  exact ⟨rfl, rfl⟩
theorem gt_any (N : Nat) (ao : Option Addr) (cp b : Nat) (n : Int) (w : World) (hc : w.cell? ⟨b, 0, none⟩ = some (.int .i64 n)) :
    Calls Tryz.prog 38 #[.slice ao N cp, .pointer (some ⟨b, 0, none⟩)] w fun e w' => e = .returned (.bool (decide (n < (N : Int)))) ∧ w' = w := by
  go_enter Tryz.func38, Tryz.ntmps38
  go_wp2
  go_ret
  exact ⟨rfl, rfl⟩
def spn (r1 r2 : Nat) : Nat × Nat := if r1 = r2 then (0, 0) else (r1, r2)

set_option maxRecDepth 10000 in
set_option maxHeartbeats 2000000 in
theorem span_any {W : World} {base xb : Nat} {L : List ByteArray} {l : List (List Int × Int)} (h : IsLex W base xb L l) (hl : l.length ≤ 1000) (hs : SortL l) (n : Int) :
    Calls Tryz.prog 11 #[.pointer (some ⟨xb, 0, none⟩), .int .i64 n] W fun e w' => (∃ r1 r2 : Nat, IsCnt l n r1 ∧ IsCnt l (n + 1) r2 ∧ e = .returned (.tuple #[.int .i64 ((spn r1 r2).1 : Nat), .int .i64 ((spn r1 r2).2 : Nat)])) ∧ Below W.heap.size W w' := by
  have hb0 := below_box' W (.cells #[.int .i64 n] 3)
  have hc0 : (W.alloc (.cells #[.int .i64 n] 3)).cell? ⟨W.heap.size, 0, none⟩ = some (.int .i64 n) := box_at W _ 3 0 rfl
  have hX0 := h.below hb0
  have HX : Aside (IsLex W base xb L l) := h
  have c1 := first_any hX0 hl (fun c => decide (n ≤ (c.length : Int))) 37 #[.pointer (some ⟨W.heap.size, 0, none⟩)] (enters_of Tryz.func37 (by kernel_rfl) rfl)
    (fun x ao cp w _ hb _ => (ge_any x.1.length ao cp W.heap.size n w ((hb.cell (p := ⟨W.heap.size, 0, none⟩) (by simp)).trans hc0)).mono (fun e w' ⟨he, hw⟩ => ⟨he, by rw [hw]; exact Below.refl _ _⟩))
    (fun i j hi hj hij hp => decide_eq_true (by have := of_decide_eq_true hp; have := sort_len hs hi hj hij; omega))
  have HC2 : Aside (∀ w, Below (W.alloc (.cells #[.int .i64 n] 3)).heap.size (W.alloc (.cells #[.int .i64 n] 3)) w → _) := fun w hb => first_any (hX0.below hb) hl (fun c => decide (n < (c.length : Int))) 38 #[.pointer (some ⟨W.heap.size, 0, none⟩)] (enters_of Tryz.func38 (by kernel_rfl) rfl)
    (fun x ao cp w' _ hb' _ => (gt_any x.1.length ao cp W.heap.size n w' ((hb'.cell (p := ⟨W.heap.size, 0, none⟩) (Nat.lt_of_lt_of_le (by simp) hb.size)).trans ((hb.cell (p := ⟨W.heap.size, 0, none⟩) (by simp)).trans hc0))).mono (fun e w' ⟨he, hw⟩ => ⟨he, by rw [hw]; exact Below.refl _ _⟩))
    (fun i j hi hj hij hp => decide_eq_true (by have := of_decide_eq_true hp; have := sort_len hs hi hj hij; omega))
  clear h hX0
  go_enter Tryz.func11, Tryz.ntmps11
  go_wp2_with fail
  refine c1.mono ?_
  rintro e w1 ⟨⟨r1, rfl, h1, h2⟩, hb1⟩
  have c2 := HC2.out w1 hb1
  clear c1 HC2
  go_wp2_with fail
  refine c2.mono ?_
  rintro e w2 ⟨⟨r2, rfl, h3, h4⟩, hb2⟩
  have i1 : IsCnt l n r1 := ⟨h1, fun i hi => by rw [← h2 i hi]; exact decide_eq_true_iff.symm⟩
  have i2 : IsCnt l (n + 1) r2 := ⟨h3, fun i hi => by rw [← h4 i hi, decide_eq_true_iff]; omega⟩
  have hfin : Below W.heap.size W w2 := hb0.trans ((hb1.trans (hb2.mono hb1.size)).mono hb0.size)
  clear h2 h4 c2 hb0 hb1 hb2 hc0
  by_cases e : r1 = r2
  · have hz : ((r1 : Int) == (r2 : Int)) = true := by rw [e]; exact beq_self_eq_true _
    go_wp2
    go_ret2
    exact ⟨⟨r1, r2, i1, i2, by rw [spn, if_pos e]; rfl⟩, hfin⟩
  · have hz : ((r1 : Int) == (r2 : Int)) = false := by rw [beq_eq_false_iff_ne]; omega
    go_wp2
    go_ret2
    exact ⟨⟨r1, r2, i1, i2, by rw [spn, if_neg e]; rfl⟩, hfin⟩
theorem spn_in {l : List (List Int × Int)} {n : Int} {r1 r2 : Nat} (h1 : IsCnt l n r1) (h2 : IsCnt l (n + 1) r2) : (spn r1 r2).1 ≤ (spn r1 r2).2 ∧ (spn r1 r2).2 ≤ l.length ∧ ∀ i, (spn r1 r2).1 ≤ i → i < (spn r1 r2).2 → ∃ hi : i < l.length, (l[i].1.length : Int) = n := by
  unfold spn
  by_cases e : r1 = r2
  · rw [if_pos e]; exact ⟨Nat.le_refl _, Nat.zero_le _, fun i _ h => by cases h⟩
  · rw [if_neg e]
    have hle : r1 ≤ r2 := by
      rcases Nat.le_total r1 r2 with h | h
      · exact h
      · exfalso
        have h3 : r2 < l.length := by have := h1.1; omega
        have h4 := (h2.2 r2 h3).2 (Nat.le_refl _)
        have h5 := (h1.2 r2 h3).1 (by omega)
        omega
    refine ⟨hle, h2.1, fun i hi hj => ?_⟩
    have hl : i < l.length := Nat.lt_of_lt_of_le hj h2.1
    have h4 := (h1.2 i hl).2 hi
    have h5 : ¬ (n + 1 ≤ (l[i].1.length : Int)) := fun h => by have := (h2.2 i hl).1 h; omega
    exact ⟨hl, by omega⟩
/-- The letters at a place of the words from f on. -/
def lzs (l : List (List Int × Int)) (at' : Nat) (f k : Nat) : List Int := ((l.drop f).take k).map fun x => x.1.getD at' 0
theorem lzs_next {l : List (List Int × Int)} {at' f k : Nat} (h : f + k < l.length) : lzs l at' f (k + 1) = lzs l at' f k ++ [l[f + k].1.getD at' 0] := by
  unfold lzs
  rw [List.take_succ_eq_append_getElem (by rw [List.length_drop]; omega), List.map_append, List.getElem_drop]
  rfl
theorem or_ofL (z : List Int) (c : Int) : bits .or .u64 (Msk.ofL z : Nat) (Msk.ofL [c] : Nat) = ((Msk.ofL (z ++ [c]) : Nat) : Int) := by
  rw [bits_or_u64_nat _ _ (Msk.ofL_lt z) (Msk.ofL_lt [c]), Msk.ofL_snoc]
  have : Msk.ofL [c] = Msk.ofStep 0 c := rfl
  rw [this]
  unfold Msk.ofStep
  by_cases h : 0 ≤ c ∧ c < 64
  · rw [if_pos h, if_pos h, Nat.zero_or]
  · rw [if_neg h, if_neg h, Nat.or_zero]
theorem reads_one (w : World) (c : Int) (t : TypeId) : Msk.ReadsI (w.alloc (.cells #[.int .i64 c] t)) (some ⟨w.heap.size, 0, none⟩) [c] := fun i hi => by
  have : i = 0 := by simpa using hi
  subst this
  exact ⟨w.heap.size, 0, rfl, by simp, box_at w _ t 0 rfl⟩

set_option maxRecDepth 10000 in
set_option maxHeartbeats 2000000 in
theorem letters_any {W : World} {base xb : Nat} {L : List ByteArray} {l : List (List Int × Int)} (h : IsLex W base xb L l) (hl : l.length ≤ 1000) (hs : SortL l) (n : Nat) (at' : Nat) (hat : at' < n) :
    Calls Tryz.prog 13 #[.pointer (some ⟨xb, 0, none⟩), .int .i64 (n : Nat), .int .i64 (at' : Nat)] W fun e w' => (∃ r1 r2 : Nat, IsCnt l n r1 ∧ IsCnt l ((n : Int) + 1) r2 ∧ e = .returned (.int .u64 (Msk.ofL (lzs l at' (spn r1 r2).1 ((spn r1 r2).2 - (spn r1 r2).1)) : Nat))) ∧ Below W.heap.size W w' := by
  have cO : ∀ w, Calls Tryz.prog 39 #[.slice none 0 0] w fun e w' => e = .returned (.int .u64 0) ∧ w' = w := fun w => Msk.of_any [] none 0 w (by simp) (fun i hi => by cases hi)
  have c1 : ∀ (c : Int) (cap : Nat) (w : World), Calls Tryz.prog 39 #[.slice (some ⟨w.heap.size, 0, none⟩) 1 cap] (w.alloc (.cells #[.int .i64 c] 3)) fun e w' => e = .returned (.int .u64 (Msk.ofL [c] : Nat)) ∧ w' = w.alloc (.cells #[.int .i64 c] 3) := fun c cap w => Msk.of_any [c] _ cap _ (by simp) (reads_one w c 3)
  have HX : Aside (∀ w, Below W.heap.size W w → IsLex w base xb L l) := fun w hb => h.below hb
  have cS := span_any h hl hs (n : Int)
  have hz1 : ¬ ((at' : Int) < 0) := by omega
  have hz2 : ¬ ((n : Int) ≤ (at' : Int)) := by omega
  clear h
  have HC : Aside (∀ (c : Int) (cap : Nat) (w : World), Calls Tryz.prog 39 #[.slice (some ⟨w.heap.size, 0, none⟩) 1 cap] (w.alloc (.cells #[.int .i64 c] 3)) fun e w' => e = .returned (.int .u64 (Msk.ofL [c] : Nat)) ∧ w' = w.alloc (.cells #[.int .i64 c] 3)) := c1
  clear c1
  go_enter Tryz.func13, Tryz.ntmps13
  go_wp2_with fail
  refine (cO _).mono ?_
  rintro e w1 ⟨rfl, hw⟩
  obtain rfl := hw.symm
  clear hw cO
  go_wp2_with fail
  refine cS.mono ?_
  rintro e w2 ⟨⟨r1, r2, i1, i2, rfl⟩, hb2⟩
  obtain ⟨hle, hlen, hin⟩ := spn_in i1 i2
  have HI : Aside (IsCnt l n r1 ∧ IsCnt l ((n : Int) + 1) r2) := ⟨i1, i2⟩
  obtain ⟨f, hf⟩ : ∃ f, f = (spn r1 r2).1 := ⟨_, rfl⟩
  obtain ⟨t, ht⟩ : ∃ t, t = (spn r1 r2).2 := ⟨_, rfl⟩
  have HFT : Aside (f = (spn r1 r2).1 ∧ t = (spn r1 r2).2) := ⟨hf, ht⟩
  rw [← hf, ← ht] at hle
  rw [← hf, ← ht] at hin
  rw [← ht] at hlen
  rw [← hf, ← ht]
  clear hf ht cS i1 i2
  go_wp2
  go_loopg [8, 7] (t - f) (fun g1 vi vm wr => ∃ k : Nat, vi = .int .i64 ((f + k : Nat) : Int) ∧ vm = .int .u64 (Msk.ofL (lzs l at' f k) : Nat) ∧ f + k ≤ t ∧ t - f - k ≤ g1 ∧ Aside (Below W.heap.size W wr))
  case atStart => exact ⟨0, rfl, by simp [lzs, Msk.ofL], by omega, by omega, hb2⟩
  case round =>
    obtain ⟨k, rfl, rfl, hk, hg1, HB⟩ := hrel
    by_cases hlt : f + k < t
    · have hltz : ((f + k : Nat) : Int) < (t : Int) := by omega
      obtain ⟨hi, hn⟩ := hin (f + k) (by omega) hlt
      obtain ⟨⟨wo, cap, h1, h2⟩, _⟩ := HX.out wr HB.out
      obtain ⟨gb, ao, cp, rfl, e2, e3, e4, _, _⟩ := h2 (f + k) hi
      have cx : wr.cell? ⟨xb, 0, none⟩ = some (.slice (some ⟨gb, 0, none⟩) l.length cap) := (show Boxed wr xb 79 _ from h1).cell
      obtain ⟨ga, oa, rfl, _, ea⟩ := e4.1 at' (by simp [ints]; omega)
      have HN : Aside (lzs l at' f (k + 1) = lzs l at' f k ++ [l[f + k].1.getD at' 0]) := lzs_next hi
      have ea' : wr.cell? ⟨ga, oa + at', none⟩ = some (.int .i64 (l[f + k].1.getD at' 0)) := by
        rw [ea, List.getD_eq_getElem?_getD, List.getElem?_eq_getElem (by omega : at' < l[f + k].1.length)]
        simp [ints]
      rw [Nat.add_zero] at e3
      have hatn : (at' : Int) < (l[f + k].1.length : Int) := by omega
      have hll : ((f + k : Nat) : Int) < (l.length : Int) := by omega
      have hor := or_ofL (lzs l at' f k) (l[f + k].1.getD at' 0)
      rw [← HN.out] at hor
      clear h1 h2 e2 e4 ea
      generalize l[f + k].1.getD at' 0 = c at *
      generalize l[f + k].1.length = N at *
      generalize hj : f + k = j at *
      have cC := HC.out c 1 wr
      generalize Msk.ofL [c] = mc at *
      generalize Msk.ofL (lzs l at' f k) = mz at *
      generalize hmn : Msk.ofL (lzs l at' f (k + 1)) = mn at *
      go_wp2_with fail
      refine cC.mono ?_
      rintro e w3 ⟨rfl, rfl⟩
      have HB3 : Aside (Below W.heap.size W (wr.alloc (.cells #[.int .i64 c] 3))) := HB.out.alloc HB.out.size _
      clear cC
      go_wp2
      go_roundg (t - f - (k + 1))
      case measure => omega
      case rel => exact ⟨k + 1, by rw [show f + (k + 1) = j + 1 by omega]; go_num, by first | rfl | (rw [hmn]), by omega, by omega, HB3⟩
    · have hltz : ¬ ((f + k : Nat) : Int) < (t : Int) := by omega
      have hkk : k = t - f := by omega
      subst hkk
      generalize hj : f + (t - f) = j at *
      go_wp2
      go_ret
      refine ⟨⟨r1, HI.out.1, r2, HI.out.2, ?_⟩, HB.out⟩
      show Ending.returned (.int .u64 (Msk.ofL (lzs l at' f (t - f)) : Nat)) = _
      rw [HFT.out.1, HFT.out.2]
end Go.Proofs.YtjgmmfkeogkakaaGreat.Utf
/-
  The words of a length: their span and their letters, counted word by word.
-/
namespace Go.Proofs.YtjgmmfkeogkakaaGreat.Utf
open Go Go.Lib Go.RowKit

/-- The span of the words of n cells among the first k. -/
def spD (l : List (List Int × Int)) (n : Int) : Nat → Nat × Nat
  | 0 => (0, 0)
  | k + 1 => if ((l.getD k ([], 0)).1.length : Int) = n then (if (spD l n k).2 = 0 then k else (spD l n k).1, k + 1) else spD l n k
/-- The letters at a place of the words of n cells among the first k. -/
def lzD (l : List (List Int × Int)) (n a : Int) : Nat → List Int
  | 0 => []
  | k + 1 => if ((l.getD k ([], 0)).1.length : Int) = n ∧ 0 ≤ a ∧ a < n then lzD l n a k ++ [(l.getD k ([], 0)).1.getD a.toNat 0] else lzD l n a k
theorem getD_at {l : List (List Int × Int)} {k : Nat} (h : k < l.length) : l.getD k ([], 0) = l[k] := by
  rw [List.getD_eq_getElem?_getD, List.getElem?_eq_getElem h]; rfl
theorem spD_le (l : List (List Int × Int)) (n : Int) : ∀ k, (spD l n k).1 ≤ k ∧ (spD l n k).2 ≤ k
  | 0 => ⟨Nat.le_refl _, Nat.le_refl _⟩
  | k + 1 => by
    have := spD_le l n k
    rw [spD]
    by_cases e : ((l.getD k ([], 0)).1.length : Int) = n
    · rw [if_pos e]
      by_cases e2 : (spD l n k).2 = 0
      · rw [if_pos e2]; exact ⟨by simp, Nat.le_refl _⟩
      · rw [if_neg e2]; exact ⟨by simp only; omega, Nat.le_refl _⟩
    · rw [if_neg e]; omega
theorem lzD_len (l : List (List Int × Int)) (n a : Int) : ∀ k, (lzD l n a k).length ≤ k
  | 0 => Nat.le_refl _
  | k + 1 => by
    have := lzD_len l n a k
    rw [lzD]
    split
    · rw [List.length_append, List.length_singleton]; omega
    · omega
theorem lzD_out {l : List (List Int × Int)} {n a : Int} (h : a < 0 ∨ n ≤ a) : ∀ k, lzD l n a k = []
  | 0 => rfl
  | k + 1 => by rw [lzD, if_neg (by omega)]; exact lzD_out h k
theorem cnt_iff {l : List (List Int × Int)} {n : Int} {r1 r2 : Nat} (h1 : IsCnt l n r1) (h2 : IsCnt l (n + 1) r2) {i : Nat} (hi : i < l.length) : (l[i].1.length : Int) = n ↔ r1 ≤ i ∧ i < r2 := by
  have a1 := h1.2 i hi
  have a2 := h2.2 i hi
  constructor
  · intro e
    refine ⟨a1.1 (by omega), ?_⟩
    rcases Nat.lt_or_ge i r2 with h | h
    · exact h
    · have := a2.2 h; omega
  · rintro ⟨e1, e2⟩
    have b1 := a1.2 e1
    have b2 : ¬ n + 1 ≤ (l[i].1.length : Int) := fun h => by have := a2.1 h; omega
    omega
theorem cnt_le {l : List (List Int × Int)} {n : Int} {r1 r2 : Nat} (h1 : IsCnt l n r1) (h2 : IsCnt l (n + 1) r2) : r1 ≤ r2 := by
  rcases Nat.le_total r1 r2 with h | h
  · exact h
  · rcases Nat.lt_or_ge r2 r1 with h3 | h3
    · exfalso
      have hl : r2 < l.length := by have := h1.1; omega
      have h4 := (h2.2 r2 hl).2 (Nat.le_refl _)
      have h5 := (h1.2 r2 hl).1 (by omega)
      omega
    · exact h3
theorem spD_spn {l : List (List Int × Int)} {n : Int} {r1 r2 : Nat} (h1 : IsCnt l n r1) (h2 : IsCnt l (n + 1) r2) : spD l n l.length = spn r1 r2 := by
  have hle := cnt_le h1 h2
  have key : ∀ k, k ≤ l.length → spD l n k = if r1 = r2 ∨ k ≤ r1 then (0, 0) else (r1, min k r2) := by
    intro k
    induction k with
    | zero => intro _; rw [spD, if_pos (.inr (Nat.zero_le _))]
    | succ k ih =>
      intro hk
      rw [spD, ih (by omega), getD_at (by omega)]
      have hc := cnt_iff h1 h2 (show k < l.length by omega)
      by_cases e : (l[k].1.length : Int) = n
      · obtain ⟨e1, e2⟩ := hc.1 e
        rw [if_pos e, if_neg (show ¬ (r1 = r2 ∨ k + 1 ≤ r1) by omega)]
        by_cases e3 : k = r1
        · subst e3
          rw [if_pos (show k = r2 ∨ k ≤ k from .inr (Nat.le_refl _)), Nat.min_eq_left (show k + 1 ≤ r2 by omega)]
          rfl
        · rw [if_neg (show ¬ (r1 = r2 ∨ k ≤ r1) by omega)]
          simp only
          rw [if_neg (by rw [Nat.min_eq_left (by omega)]; omega), Nat.min_eq_left (by omega)]
      · rw [if_neg e]
        have e2 : ¬ (r1 ≤ k ∧ k < r2) := fun h => e (hc.2 h)
        by_cases e3 : r1 = r2 ∨ k ≤ r1
        · rw [if_pos e3]
          by_cases e4 : r1 = r2 ∨ k + 1 ≤ r1
          · rw [if_pos e4]
          · exfalso; omega
        · rw [if_neg e3, if_neg (by omega), Nat.min_eq_right (by omega), Nat.min_eq_right (by omega)]
  rw [key l.length (Nat.le_refl _), spn]
  by_cases e : r1 = r2
  · rw [if_pos (.inl e), if_pos e]
  · have := h2.1
    rw [if_neg e, if_neg (by omega), Nat.min_eq_right h2.1]
theorem lzD_lzs {l : List (List Int × Int)} {n : Int} {r1 r2 : Nat} (h1 : IsCnt l n r1) (h2 : IsCnt l (n + 1) r2) (a : Int) (ha : 0 ≤ a ∧ a < n) : lzD l n a l.length = lzs l a.toNat (spn r1 r2).1 ((spn r1 r2).2 - (spn r1 r2).1) := by
  have hle := cnt_le h1 h2
  have key : ∀ k, k ≤ l.length → lzD l n a k = lzs l a.toNat r1 (min k r2 - r1) := by
    intro k
    induction k with
    | zero => intro _; rw [lzD, Nat.zero_min, Nat.zero_sub]; simp [lzs]
    | succ k ih =>
      intro hk
      rw [lzD, ih (by omega), getD_at (by omega)]
      have hc := cnt_iff h1 h2 (show k < l.length by omega)
      by_cases e : (l[k].1.length : Int) = n
      · obtain ⟨e1, e2⟩ := hc.1 e
        rw [if_pos ⟨e, ha⟩, Nat.min_eq_left (by omega), Nat.min_eq_left (by omega), show k + 1 - r1 = (k - r1) + 1 by omega, lzs_next (by omega : r1 + (k - r1) < l.length)]
        have e3 : r1 + (k - r1) = k := by omega
        simp only [e3]
      · rw [if_neg (fun h => e h.1)]
        have e2 : ¬ (r1 ≤ k ∧ k < r2) := fun h => e (hc.2 h)
        rw [show min (k + 1) r2 - r1 = min k r2 - r1 by omega]
  rw [key l.length (Nat.le_refl _), Nat.min_eq_right h2.1, spn]
  by_cases e : r1 = r2
  · subst e
    rw [if_pos rfl, Nat.sub_self]
    simp [lzs]
  · rw [if_neg e]

/-- The program's Span. -/
theorem spanG_any {W : World} {base xb : Nat} {L : List ByteArray} {l : List (List Int × Int)} (h : IsLex W base xb L l) (hl : l.length ≤ 1000) (hs : SortL l) (n : Int) :
    Calls Tryz.prog 11 #[.pointer (some ⟨xb, 0, none⟩), .int .i64 n] W fun e w' => e = .returned (.tuple #[.int .i64 ((spD l n l.length).1 : Nat), .int .i64 ((spD l n l.length).2 : Nat)]) ∧ Below W.heap.size W w' :=
  (span_any h hl hs n).mono fun e w' ⟨⟨r1, r2, h1, h2, he⟩, hb⟩ => ⟨by rw [he, spD_spn h1 h2], hb⟩

theorem lettersO_any (xb : Nat) (n a : Int) (h : a < 0 ∨ n ≤ a) (W : World) :
    Calls Tryz.prog 13 #[.pointer (some ⟨xb, 0, none⟩), .int .i64 n, .int .i64 a] W fun e w' => e = .returned (.int .u64 0) ∧ w' = W := by
  by_cases h1 : a < 0
  · go_enter Tryz.func13, Tryz.ntmps13
    go_wp2
    go_ret
    exact ⟨rfl, rfl⟩
  · have h2 : n ≤ a := by omega
    clear h
    go_enter Tryz.func13, Tryz.ntmps13
    go_wp2
    go_ret
    exact ⟨rfl, rfl⟩
/-- The program's Letters. -/
theorem lettersG_any {W : World} {base xb : Nat} {L : List ByteArray} {l : List (List Int × Int)} (h : IsLex W base xb L l) (hl : l.length ≤ 1000) (hs : SortL l) (n a : Int) :
    Calls Tryz.prog 13 #[.pointer (some ⟨xb, 0, none⟩), .int .i64 n, .int .i64 a] W fun e w' => e = .returned (.int .u64 (Msk.ofL (lzD l n a l.length) : Nat)) ∧ Below W.heap.size W w' := by
  by_cases h1 : a < 0 ∨ n ≤ a
  · exact (lettersO_any xb n a h1 W).mono fun e w' ⟨he, hw⟩ => ⟨by rw [he, lzD_out h1]; rfl, by rw [hw]; exact Below.refl _ _⟩
  · obtain ⟨a', rfl⟩ := Int.eq_ofNat_of_zero_le (by omega : 0 ≤ a)
    obtain ⟨n', rfl⟩ := Int.eq_ofNat_of_zero_le (by omega : 0 ≤ n)
    exact (letters_any h hl hs n' a' (by omega)).mono fun e w' ⟨⟨r1, r2, i1, i2, he⟩, hb⟩ => ⟨by rw [he, lzD_lzs i1 i2 (a' : Int) (by omega)]; rfl, hb⟩
end Go.Proofs.YtjgmmfkeogkakaaGreat.Utf
/-
  The document's Span and Letters.
-/
namespace Go.Proofs.YtjgmmfkeogkakaaGreat.Utf
open Go Go.Lib Go.RowKit

set_option maxRecDepth 100000 in
set_option maxHeartbeats 4000000 in
theorem refSpan_any {B : Nat} {W : World} {v : Value} {es : List WdV} (h : IsWd B W v es) (hes : es.length ≤ 1000) (n : Int) :
    Calls Tryz.prog 12 #[v, .int .i64 n] W fun e w' => e = .returned (.tuple #[.int .i64 ((spD (toL es) n es.length).1 : Nat), .int .i64 ((spD (toL es) n es.length).2 : Nat)]) ∧ Below W.heap.size W w' := by
  obtain ⟨ao, cap, rfl, hnil, -⟩ := h.slice
  have H : Aside (∀ Z, Below W.heap.size W Z → IsWd B Z (.slice ao es.length cap) es) := fun Z hb => h.below hb
  clear h
  obtain ⟨N, hN⟩ : ∃ N, es.length = N := ⟨_, rfl⟩
  have HN : Aside (es.length = N) := hN
  rw [hN] at H hes ⊢
  clear hN hnil
  go_enter Tryz.func12, Tryz.ntmps12
  go_wp2
  go_loopg [6, 7, 8] N (fun g1 vf vt vk wr => ∃ k f t : Nat, vk = .int .i64 (k : Int) ∧ vf = .int .i64 (f : Int) ∧ vt = .int .i64 (t : Int) ∧ k ≤ N ∧ N - k ≤ g1 ∧ f ≤ k ∧ t ≤ k ∧ Aside (spD (toL es) n k = (f, t)) ∧ Aside (Below W.heap.size W wr))
  case atStart => exact ⟨0, 0, 0, rfl, rfl, rfl, Nat.zero_le _, Nat.le_refl _, Nat.le_refl _, Nat.le_refl _, rfl, Below.refl _ _⟩
  case round =>
    obtain ⟨k, f, t, rfl, rfl, rfl, hk, hg1, hf, ht, HS, HB⟩ := hrel
    by_cases hlt : k < N
    · have hltz : (k : Int) < (N : Int) := by omega
      have hkl : k < es.length := by rw [HN.out]; exact hlt
      have hI := H.out wr HB.out
      obtain ⟨g, rfl, q1, q2⟩ := hI.at' hkl
      have HSk : Aside (spD (toL es) n (k + 1) = if (es[k].c.length : Int) = n then (if t = 0 then k else f, k + 1) else (f, t)) := by
        show _ = _
        rw [spD, HS.out, getD_at (by rw [toL_len]; exact hkl), toL_at hkl]
      clear hI q2 HS
      generalize es[k].c.length = m at *
      by_cases e : (m : Int) = n
      · have he : ((m : Int) == n) = true := by rw [beq_iff_eq]; exact e
        rw [if_pos e] at HSk
        clear e
        by_cases e2 : t = 0
        · have he2 : ((t : Int) == 0) = true := by rw [beq_iff_eq]; omega
          rw [if_pos e2] at HSk
          clear e2
          go_wp2
          go_roundg (N - (k + 1))
          case measure => omega
          case rel => exact ⟨k + 1, k, k + 1, by go_num, rfl, by go_num, by omega, Nat.le_refl _, by omega, Nat.le_refl _, HSk, HB⟩
        · have he2 : ((t : Int) == 0) = false := by rw [beq_eq_false_iff_ne]; omega
          rw [if_neg e2] at HSk
          clear e2
          go_wp2
          go_roundg (N - (k + 1))
          case measure => omega
          case rel => exact ⟨k + 1, f, k + 1, by go_num, rfl, by go_num, by omega, Nat.le_refl _, by omega, Nat.le_refl _, HSk, HB⟩
      · have he : ((m : Int) == n) = false := by rw [beq_eq_false_iff_ne]; exact e
        rw [if_neg e] at HSk
        clear e
        go_wp2
        go_roundg (N - (k + 1))
        case measure => omega
        case rel => exact ⟨k + 1, f, t, by go_num, rfl, rfl, by omega, Nat.le_refl _, by omega, by omega, HSk, HB⟩
    · have hltz : ¬ (k : Int) < (N : Int) := by omega
      obtain rfl : k = N := by omega
      go_wp2
      go_ret2
      rw [HS.out]
      exact ⟨rfl, HB.out⟩

theorem reads_own {B : Nat} {w : World} {ao : Option Addr} {n cap : Nat} {zs : List Int} (h : w.ownsRow B 3 1 (.slice ao n cap) n (ints zs)) : Msk.ReadsI w ao zs := fun j hj => by
  obtain ⟨a, c, e, q⟩ := row_reads h
  injection e with e1 e2 e3
  obtain ⟨g, o, h0, h1, h2⟩ := q.o j (by simpa [ints] using hj)
  refine ⟨g, o, e1.trans h0, h1, ?_⟩
  rw [h2, List.getElem?_eq_getElem hj]
  simp [ints]

set_option maxRecDepth 100000 in
set_option maxHeartbeats 4000000 in
theorem refLetters_any {B : Nat} {W : World} {v : Value} {es : List WdV} (h : IsWd B W v es) (hes : es.length ≤ 1000) (n a : Int) :
    Calls Tryz.prog 14 #[v, .int .i64 n, .int .i64 a] W fun e w' => e = .returned (.int .u64 (Msk.ofL (lzD (toL es) n a es.length) : Nat)) ∧ Below W.heap.size W w' := by
  obtain ⟨i0, hi0, hz0, hz1, hz2⟩ := info_parts infoI
  obtain ⟨ao, cap, rfl, hnil, -⟩ := h.slice
  have H : Aside (∀ Z, Below W.heap.size W Z → IsWd B Z (.slice ao es.length cap) es) := fun Z hb => h.below hb
  clear h
  obtain ⟨N, hN⟩ : ∃ N, es.length = N := ⟨_, rfl⟩
  have HN : Aside (es.length = N) := hN
  rw [hN] at H hes ⊢
  clear hN hnil
  go_enter Tryz.func14, Tryz.ntmps14
  go_wp2
  go_loopg [7, 8] N (fun g1 vm vk wr => ∃ (k : Nat) (u : Value) (zs : List Int), vk = .int .i64 (k : Int) ∧ vm = u ∧ k ≤ N ∧ N - k ≤ g1 ∧ zs.length ≤ k ∧ Aside (lzD (toL es) n a k = zs) ∧ Aside (wr.ownsRow W.heap.size 3 1 u zs.length (ints zs)) ∧ Aside (Below W.heap.size W wr))
  case atStart => exact ⟨0, _, [], rfl, rfl, Nat.zero_le _, Nat.le_refl _, Nat.le_refl _, rfl, World.ownsRow_nil _ _ _ _, Below.refl _ _⟩
  case round =>
    obtain ⟨k, u, zs, rfl, q1, hk, hg1, hzl, HZ, HO, HB⟩ := hrel
    obtain rfl := q1.symm
    clear q1
    by_cases hlt : k < N
    · have hltz : (k : Int) < (N : Int) := by omega
      have hkl : k < es.length := by rw [HN.out]; exact hlt
      have hI := H.out wr HB.out
      obtain ⟨g, rfl, q1, q2⟩ := hI.at' hkl
      have hmk := (hI.mem es[k] (List.getElem_mem hkl)).1
      have HSk : Aside (lzD (toL es) n a (k + 1) = if (es[k].c.length : Int) = n ∧ 0 ≤ a ∧ a < n then zs ++ [es[k].c.getD a.toNat 0] else zs) := by
        show _ = _
        rw [lzD, HZ.out, getD_at (by rw [toL_len]; exact hkl), toL_at hkl]
      clear hI q2 HZ
      generalize es[k].ao = ak at *
      generalize es[k].cap = ck at *
      generalize es[k].c = c at *
      by_cases e : (c.length : Int) = n
      · have he : ((c.length : Int) == n) = true := by rw [beq_iff_eq]; exact e
        by_cases ha0 : 0 ≤ a
        · by_cases han : a < n
          · rw [if_pos ⟨e, ha0, han⟩] at HSk
            obtain ⟨a', rfl⟩ := Int.eq_ofNat_of_zero_le ha0
            have hac : a' < c.length := by omega
            obtain ⟨gc, oc, rfl, _, ec⟩ := hmk a' (by simp [ints]; omega)
            have ec' : wr.cell? ⟨gc, oc + a', none⟩ = some (.int .i64 (c.getD a' 0)) := by
              rw [ec, List.getD_eq_getElem?_getD, List.getElem?_eq_getElem hac]
              simp [ints]
            have hacz : (a' : Int) < (c.length : Int) := by omega
            rw [Int.toNat_natCast] at HSk
            have hws := HB.out.size
            clear hmk ec e
            generalize c.getD a' 0 = z at *
            generalize c.length = M at *
            go_wp2_with (at_builtin; refine wpList_append_own _ rfl _ _ 24 rfl W.heap.size 3 i0 (.int .i64 0) 1 8 Tryz.underlying24 hi0 hz0 hz1 hz2 rfl (by decide) _ _ _ rfl (HO.out.alloc _) ⟨wr.heap.size, 0, none⟩ 1 1 [.int .i64 z] rfl rfl (cell_one_new _ _ _) (by simp [Value.oneCell']) (by unfold maxLen; omega) (by omega) (by simp; omega) ?_)
            intro v' wa hown' hgrow _
            have HBa : Aside (Below W.heap.size W wa) := Below.grown (HB.out.alloc hws _) hgrow (by simp; omega) (fun j hj => (HO.out.lt _ hj).1)
            have HOWa : Aside (wa.ownsRow W.heap.size 3 1 v' (zs ++ [z]).length (ints (zs ++ [z]))) := by
              show wa.ownsRow _ _ _ _ _ _
              simp only [ints, List.map_append, List.map_cons, List.map_nil, List.length_append, List.length_cons, List.length_nil]
              exact hown'
            have hzn : (zs ++ [z]).length ≤ k + 1 := by rw [List.length_append, List.length_singleton]; omega
            clear hown' hgrow
            generalize zs ++ [z] = zn at *
            go_wp2
            go_roundg (N - (k + 1))
            case measure => omega
            case rel => exact ⟨k + 1, _, zn, by go_num, rfl, by omega, Nat.le_refl _, hzn, HSk, HOWa, HBa⟩
          · rw [if_neg (by omega)] at HSk
            clear hmk e
            generalize c.length = M at *
            go_wp2
            go_roundg (N - (k + 1))
            case measure => omega
            case rel => exact ⟨k + 1, _, zs, by go_num, rfl, by omega, Nat.le_refl _, by omega, HSk, HO, HB⟩
        · rw [if_neg (by omega)] at HSk
          clear hmk e
          generalize c.length = M at *
          go_wp2
          go_roundg (N - (k + 1))
          case measure => omega
          case rel => exact ⟨k + 1, _, zs, by go_num, rfl, by omega, Nat.le_refl _, by omega, HSk, HO, HB⟩
      · have he : ((c.length : Int) == n) = false := by rw [beq_eq_false_iff_ne]; exact e
        rw [if_neg (fun h => e h.1)] at HSk
        clear e hmk
        generalize c.length = M at *
        go_wp2
        go_roundg (N - (k + 1))
        case measure => omega
        case rel => exact ⟨k + 1, _, zs, by go_num, rfl, by omega, Nat.le_refl _, by omega, HSk, HO, HB⟩
    · have hltz : ¬ (k : Int) < (N : Int) := by omega
      obtain rfl : k = N := by omega
      obtain ⟨au, cu, rfl⟩ := row_slice HO.out
      have cF := Msk.refOf_any zs au cu wr (by omega) (reads_own HO.out)
      rw [← HZ.out] at cF ⊢
      go_wp2_with fail
      refine cF.mono ?_
      rintro e w2 ⟨rfl, rfl⟩
      go_wp2
      go_ret
      exact ⟨rfl, HB.out⟩
end Go.Proofs.YtjgmmfkeogkakaaGreat.Utf
