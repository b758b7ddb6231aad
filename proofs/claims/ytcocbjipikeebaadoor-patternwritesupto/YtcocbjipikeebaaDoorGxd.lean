/-
  The program's Read: every line taken in, or refused.
-/
import Derived.Test.YtcocbjipikeebaaDoorGxl
import Derived.Test.YtcocbjipikeebaaDoorGxc
import Derived.Test.YtcocbjipikeebaaDoorGli
namespace Go.Proofs.YtcocbjipikeebaaDoor.Utf
open Go Go.Lib Go.RowKit

theorem trim_le (l : List UInt8) : (Lib.trimSuffix l [13]).length ≤ l.length := by
  unfold Lib.trimSuffix
  split
  · rw [List.length_take]; omega
  · exact Nat.le_refl _
theorem linesL_each : ∀ (f : Nat) (l x : List UInt8), x ∈ linesL f l → x.length ≤ l.length
  | 0, l, x, h => by simp [linesL] at h
  | f + 1, l, x, h => by
    by_cases hn : l = []
    · subst hn; rw [linesL_nil] at h; cases h
    · rcases index_cases l with h3 | ⟨i, hi, hl⟩
      · rw [linesL_last hn h3, List.mem_singleton] at h
        rw [h]; exact Nat.le_refl _
      · rw [linesL_step hn hi] at h
        rcases List.mem_cons.1 h with h | h
        · rw [h]; refine Nat.le_trans (trim_le _) ?_; rw [List.length_take]; omega
        · refine Nat.le_trans (linesL_each f _ x h) ?_; rw [List.length_drop]; omega
/-- Lines from number i on: the words, and what was refused. -/
noncomputable def rdL (L : List ByteArray) : List ByteArray → Nat → List (List Int × Int) → List (Int × Int) → List (List Int × Int) × List (Int × Int)
  | [], _, l, bad => (l, bad)
  | x :: xs, i, l, bad => if sayN (pairs x) = true then rdL L xs (i + 1) l bad else if (readL L x l).1 = 0 then rdL L xs (i + 1) (readL L x l).2 bad else rdL L xs (i + 1) (readL L x l).2 (bad ++ [((i : Int), (readL L x l).1)])
/-- What a text says. -/
noncomputable def readT (L : List ByteArray) (s : ByteArray) : List (List Int × Int) × List (Int × Int) := rdL L (txts (lines s.data.toList)) 0 [] []
def badC (bad : List (Int × Int)) : List Value := bad.flatMap fun x => [.int .i64 x.1, .int .i64 x.2]
theorem badC_snoc (bad : List (Int × Int)) (x : Int × Int) : badC (bad ++ [x]) = badC bad ++ [.int .i64 x.1, .int .i64 x.2] := by simp [badC]
theorem readL_keeps {L : List ByteArray} {line : ByteArray} {l : List (List Int × Int)} (h : okE L l) (hs : SortL l) (hl : l.length ≤ 1000) : okE L (readL L line l).2 ∧ SortL (readL L line l).2 ∧ (readL L line l).2.length ≤ 1000 := by
  unfold readL
  by_cases h1 : foldS false (cutS line).1 = ⟨#[]⟩
  · rw [if_pos h1]; exact ⟨h, hs, hl⟩
  · rw [if_neg h1]
    by_cases h2 : (scoreP (cutS line).2).2 = false
    · rw [if_pos h2]; exact ⟨h, hs, hl⟩
    · rw [if_neg h2]
      have hsc := score_le (cutS line).2 (by simpa using h2)
      by_cases h3 : (splitS L (foldS false (cutS line).1)).2.2 ≠ 0
      · rw [if_pos h3]; exact ⟨h, hs, hl⟩
      · rw [if_neg h3]
        obtain ⟨hjo, hok, h32⟩ := splb_back (Classical.not_not.1 h3)
        have hne : 1 ≤ (wordOf L (foldS false (cutS line).1)).length := by
          rcases Nat.eq_zero_or_pos (wordOf L (foldS false (cutS line).1)).length with e | e
          · exfalso
            have := List.eq_nil_of_length_eq_zero e
            unfold wordOf at this
            rw [this] at hjo
            exact h1 (by rw [← hjo]; rfl)
          · exact e
        by_cases h4 : lookL l (wordOf L (foldS false (cutS line).1)) = none ∧ l.length = 1000
        · rw [if_pos h4]; exact ⟨h, hs, hl⟩
        · rw [if_neg h4]
          refine ⟨fun x hx => ?_, putL_sort hs _ _, ?_⟩
          · have hv := (lookL_mem (putL_sort hs _ _) (c := x.1) (s := x.2)).2 hx
            rw [lookL_put hs] at hv
            by_cases e : x.1 = wordOf L (foldS false (cutS line).1)
            · rw [if_pos e] at hv
              injection hv with hv
              have hb : 0 ≤ x.2 ∧ x.2 ≤ 100 := by
                cases ek : lookL l (wordOf L (foldS false (cutS line).1)) with
                | none => rw [ek] at hv; simp only at hv; omega
                | some t =>
                  rw [ek] at hv
                  simp only at hv
                  have := (h _ ((lookL_mem hs).1 ek)).2.2
                  simp only at this
                  omega
              rw [e]
              exact ⟨by unfold wordOf; rw [List.length_map]; exact h32, hok, hb.1, hb.2, hne⟩
            · rw [if_neg e] at hv
              exact h _ ((lookL_mem hs).1 hv)
          · rw [putL_len hs]
            cases ek : lookL l (wordOf L (foldS false (cutS line).1)) with
            | none => rw [ek] at h4; have : l.length ≠ 1000 := fun e => h4 ⟨rfl, e⟩; simp; omega
            | some t => simp; exact hl
theorem rdL_ok (L : List ByteArray) : ∀ (xs : List ByteArray) (i : Nat) (l : List (List Int × Int)) (bad : List (Int × Int)), okE L l → SortL l → l.length ≤ 1000 → okE L (rdL L xs i l bad).1 ∧ SortL (rdL L xs i l bad).1 ∧ (rdL L xs i l bad).1.length ≤ 1000
  | [], _, _, _, h1, h2, h3 => ⟨h1, h2, h3⟩
  | x :: xs, i, l, bad, h1, h2, h3 => by
    rw [rdL]
    by_cases hN : sayN (pairs x) = true
    · rw [if_pos hN]; exact rdL_ok L xs _ _ _ h1 h2 h3
    · rw [if_neg hN]
      obtain ⟨k1, k2, k3⟩ := readL_keeps (line := x) h1 h2 h3
      by_cases h0 : (readL L x l).1 = 0
      · rw [if_pos h0]; exact rdL_ok L xs _ _ _ k1 k2 k3
      · rw [if_neg h0]; exact rdL_ok L xs _ _ _ k1 k2 k3
theorem readT_ok (L : List ByteArray) (s : ByteArray) : okE L (readT L s).1 ∧ SortL (readT L s).1 ∧ (readT L s).1.length ≤ 1000 := rdL_ok L _ 0 [] [] (fun _ h => (by cases h)) List.Pairwise.nil (Nat.zero_le _)
theorem row_low {W : World} {B B' n z : Nat} {e : TypeId} {v : Value} {xs : List Value} (h : W.ownsRow B e z v n xs) (hb : B' ≤ B) : W.ownsRow B' e z v n xs := by
  rcases h with ⟨h1, h2 | ⟨g, cap, cur, e1, e2, e3⟩⟩
  · exact ⟨h1, .inl h2⟩
  · exact ⟨h1, .inr ⟨g, cap, cur, e1, Nat.le_trans hb e2, e3⟩⟩
theorem cells2_new (w : World) (x y : Value) (t : TypeId) : ∀ j u, [x, y][j]? = some u → (w.alloc (.cells #[x, y] t)).cell? ((⟨w.heap.size, 0, none⟩ : Addr).add j) = some u := by
  intro j u h
  have : (w.alloc (.cells #[x, y] t)).cell? ⟨w.heap.size, j, none⟩ = some u := box_at w _ t j (by simpa using h)
  rw [Addr.add_lit]
  simpa using this

end Go.Proofs.YtcocbjipikeebaaDoor.Utf
/-
  The program's Len, first, Span, Letters, Word, Text.
-/
namespace Go.Proofs.YtcocbjipikeebaaDoor.Utf
open Go Go.Lib Go.RowKit

end Go.Proofs.YtcocbjipikeebaaDoor.Utf
