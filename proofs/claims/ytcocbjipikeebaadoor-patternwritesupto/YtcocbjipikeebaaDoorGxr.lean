/-
  Sure, the program's and the document's, walked: whether the letters' text is split into these very letters.
-/
import Derived.Test.YtcocbjipikeebaaDoorGsj
import Derived.Test.YtcocbjipikeebaaDoorRjnq
import Derived.Test.YtcocbjipikeebaaDoorEqiq
import Derived.Test.YtcocbjipikeebaaDoorRspq
import Derived.Test.YtcocbjipikeebaaDoorGutf
import Derived.Test.YtcocbjipikeebaaDoorGxa
import Derived.Test.YtcocbjipikeebaaDoorGxc
import Derived.Test.YtcocbjipikeebaaDoorGfl
namespace Go.Proofs.YtcocbjipikeebaaDoor.Utf
open Go Go.Lib Go.RowKit

/-- The letters' text is split into these very letters. -/
def sureP (L : List ByteArray) (zs : List Int) : Prop := okNums L zs ∧ (splitS L (joinT L zs)).2.2 = 0 ∧ ((splitS L (joinT L zs)).1.map fun r : Nat => (r : Int)) = zs
theorem nums_ints (l : List Nat) : nums l = ints (l.map fun r : Nat => (r : Int)) := by simp [nums, ints]
theorem joinT_size {L : List ByteArray} (hL : ∀ x ∈ L, x.size ≤ 12) (zs : List Int) : (joinT L zs).size ≤ 12 * zs.length := by
  have := joinL_le hL zs
  rw [← ba_sz]
  exact this
theorem splitR_len (L : List ByteArray) (s : ByteArray) : ∀ (f pos : Nat) (done : List Nat), done.length ≤ 33 - f → f ≤ 33 → (splitR L s f pos done).1.length ≤ 33
  | 0, pos, done, _, _ => by simp [splitR]
  | f + 1, pos, done, h, h2 => by
    rw [splitR]
    split
    · show done.length ≤ 33; omega
    · split
      · simp
      · split
        · simp
        · exact splitR_len L s f _ _ (by rw [List.length_append, List.length_singleton]; omega) (by omega)

end Go.Proofs.YtcocbjipikeebaaDoor.Utf
/-
  What was split is joined to the same text (of Bkm, without the walks over alphabets' sequences).
-/
namespace Go.Proofs.YtcocbjipikeebaaDoor.Utf
open Go Go.Lib Go.RowKit

theorem rest_list_b (s : ByteArray) (i : Nat) : (s.extract i s.size).data.toList = s.data.toList.drop i := by
  rw [ByteArray.data_extract, Array.toList_extract, List.extract_eq_take_drop, List.take_of_length_le]
  rw [List.length_drop, ba_sz]
  omega
theorem ints_of_b (l : List Nat) (i : Nat) : ((i :: l).map fun r : Nat => (r : Int)) = (i : Int) :: l.map fun r : Nat => (r : Int) := rfl
theorem splb_joins {L : List ByteArray} {s : ByteArray} : ∀ (f pos : Nat) (done : List Nat), pos ≤ s.size → done.length ≤ 32 → (splitR L s f pos done).2.2 = 0 → ∃ t, (splitR L s f pos done).1 = done ++ t ∧ joinL L (t.map fun r : Nat => (r : Int)) = s.data.toList.drop pos ∧ (∀ r ∈ t, r < L.length) ∧ (done ++ t).length ≤ 32 := by
  intro f
  induction f with
  | zero => intro pos done _ _ h; simp [splitR] at h
  | succ f ih =>
    intro pos done hp hd h
    by_cases he : pos = s.size
    · refine ⟨[], by rw [splitR_end he]; simp, ?_, (fun r hr => by cases hr), by simpa using hd⟩
      rw [he, ← ba_sz, List.drop_length]
      rfl
    · by_cases h32 : done.length = 32
      · rw [splitR_long he h32] at h; cases h
      · cases hb : best L (s.extract pos s.size) with
        | none => rw [splitR_none he h32 hb] at h; cases h
        | some i =>
          rw [splitR_next he h32 hb] at h ⊢
          have hbi := best_is hb
          have hbs := begins_size hbi.pre
          rw [rest_size] at hbs
          have hil := hbi.lt
          rw [lsz_at hil] at h ⊢
          obtain ⟨t, h1, h2, h3, h4⟩ := ih (pos + L[i].size) (done ++ [i]) (by omega) (by rw [List.length_append, List.length_singleton]; omega) h
          refine ⟨i :: t, by rw [h1]; simp, ?_, ?_, by simpa using h4⟩
          · rw [ints_of_b]
            unfold joinL at h2 ⊢
            rw [List.flatMap_cons, h2, ltr_at hbi.lt]
            have hpre := begins_iff.1 hbi.pre
            rw [rest_list_b] at hpre
            obtain ⟨u, hu⟩ := hpre
            rw [← List.drop_drop, ← hu, ← ba_sz L[i], List.drop_left]
          · intro r hr
            rcases List.mem_cons.1 hr with e | e
            · rw [e]; exact hbi.lt
            · exact h3 r e
theorem splb_back {L : List ByteArray} {s : ByteArray} (h : (splitS L s).2.2 = 0) : joinT L ((splitS L s).1.map fun r : Nat => (r : Int)) = s ∧ okNums L ((splitS L s).1.map fun r : Nat => (r : Int)) ∧ (splitS L s).1.length ≤ 32 := by
  obtain ⟨t, h1, h2, h3, h4⟩ := splb_joins 33 0 [] (Nat.zero_le _) (Nat.zero_le _) h
  rw [List.nil_append] at h1 h4
  have h1' : (splitS L s).1 = t := h1
  rw [h1']
  refine ⟨ba_eq ?_, fun z hz => ?_, h4⟩
  · show (joinL L _).toArray.toList = _
    rw [h2, List.drop_zero]
  · obtain ⟨r, hr, rfl⟩ := List.mem_map.1 hz
    have := h3 r hr
    omega
end Go.Proofs.YtcocbjipikeebaaDoor.Utf
/-
  What folding writes is never longer than the text: of no program.
-/
namespace Go.Proofs.YtcocbjipikeebaaDoor.Utf
open Go Go.Lib

/-- One byte gives a rune below 128, or none; what is read lies within the text. -/
theorem decodeN_shape (n b0 b1 b2 b3 : Nat) (hn : 1 ≤ n) : (decodeN n b0 b1 b2 b3).2 ≤ n ∧ (2 ≤ (decodeN n b0 b1 b2 b3).2 ∨ (decodeN n b0 b1 b2 b3).1 < 128 ∨ 1200 < (decodeN n b0 b1 b2 b3).1) := by
  unfold decodeN
  by_cases h1 : b0 < 128
  · rw [if_pos h1]; exact ⟨hn, .inr (.inl h1)⟩
  · rw [if_neg h1]
    by_cases h2 : b0 / 32 = 6 ∧ (1 < n ∧ b1 / 64 = 2)
    · rw [if_pos h2]
      have h3 := h2.2.1
      generalize b0 % 32 * 64 + b1 % 64 = c
      by_cases hc : c ≥ 128
      · rw [if_pos hc]; exact ⟨h3, .inl (Nat.le_refl _)⟩
      · rw [if_neg hc]; exact ⟨hn, .inr (.inr (by decide))⟩
    · rw [if_neg h2]
      by_cases h4 : b0 / 16 = 14 ∧ (1 < n ∧ b1 / 64 = 2) ∧ (2 < n ∧ b2 / 64 = 2)
      · rw [if_pos h4]
        have h3 := h4.2.2.1
        generalize b0 % 16 * 4096 + b1 % 64 * 64 + b2 % 64 = c
        by_cases hc : c ≥ 2048 ∧ (c < 55296 ∨ (57344 ≤ c ∧ c ≤ 1114111))
        · rw [if_pos hc]; exact ⟨h3, .inl (show 2 ≤ 3 by decide)⟩
        · rw [if_neg hc]; exact ⟨hn, .inr (.inr (by decide))⟩
      · rw [if_neg h4]
        by_cases h5 : b0 / 8 = 30 ∧ (1 < n ∧ b1 / 64 = 2) ∧ (2 < n ∧ b2 / 64 = 2) ∧ (3 < n ∧ b3 / 64 = 2)
        · rw [if_pos h5]
          have h3 := h5.2.2.2.1
          generalize b0 % 8 * 262144 + b1 % 64 * 4096 + b2 % 64 * 64 + b3 % 64 = c
          by_cases hc : c ≥ 65536 ∧ (c < 55296 ∨ (57344 ≤ c ∧ c ≤ 1114111))
          · rw [if_pos hc]; exact ⟨h3, .inl (show 2 ≤ 4 by decide)⟩
          · rw [if_neg hc]; exact ⟨hn, .inr (.inr (by decide))⟩
        · rw [if_neg h5]; exact ⟨hn, .inr (.inr (by decide))⟩
theorem decode_shape (s : ByteArray) (pos : Nat) (h : pos < s.size) : pos + (Utf8.decode s pos).2 ≤ s.size ∧ (2 ≤ (Utf8.decode s pos).2 ∨ (Utf8.decode s pos).1 < 128 ∨ 1200 < (Utf8.decode s pos).1) := by
  have := decodeN_shape (s.size - pos) (s.get! pos).toNat (s.get! (pos + 1)).toNat (s.get! (pos + 2)).toNat (s.get! (pos + 3)).toNat (by omega)
  rw [← decode_at] at this
  exact ⟨by omega, this.2⟩

theorem encB_one {r : Nat} (h : r < 128) : (encB r).length = 1 := by
  have hw : wr (r : Int) = r := by rw [wr_valid (by omega)]; omega
  rw [encB_size, enc1 (by omega)]
  rfl
theorem encB_two {r : Nat} (h : r < 2048) : (encB r).length ≤ 2 := by
  have hw : wr (r : Int) = r := by rw [wr_valid (by omega)]; omega
  by_cases h1 : r < 128
  · rw [encB_one h1]; omega
  · rw [encB_size, enc2 (by omega) (by omega)]
    exact Nat.le_refl 2
theorem encR_small : ∀ {l : List Nat}, (∀ x ∈ l, x < 128) → (encR l).length = l.length
  | [], _ => rfl
  | x :: l, h => by
    rw [encR_cons, List.length_append, encB_one (h x List.mem_cons_self), encR_small (fun y hy => h y (List.mem_cons_of_mem _ hy)), List.length_cons]
    omega
theorem encR_single (r : Nat) : encR [r] = encB r := by rw [encR_cons]; simp [encR]
/-- What is written for a letter has no more bytes than the letter. -/
theorem foldR_bytes (p : Bool) (r : Nat) (hL : isL (r : Int)) : (encR (foldR p (r : Int))).length ≤ 2 ∧ (r < 128 → (encR (foldR p (r : Int))).length ≤ 1) := by
  have huL := (up_letter (r : Int)).2 hL
  have hwu := letter_wr huL
  have hub := up_cases (r : Int)
  have hlow : (wr (up (r : Int)) : Nat) < 2048 ∧ (r < 128 → wr (up (r : Int)) < 128 ∧ up (r : Int) ≤ 90 ∧ 65 ≤ up (r : Int)) := by
    unfold up32 up1 at hub
    unfold isL at hL huL
    omega
  unfold foldR
  rw [if_pos hL]
  cases p
  · rw [if_neg Bool.false_ne_true, encR_single]
    exact ⟨encB_two hlow.1, fun h => by rw [encB_one (hlow.2 h).1]; exact Nat.le_refl 1⟩
  · rw [if_pos rfl]
    unfold plR
    by_cases hp : plT (up (r : Int)) = []
    · rw [if_pos hp, encR_single]
      exact ⟨encB_two hlow.1, fun h => by rw [encB_one (hlow.2 h).1]; exact Nat.le_refl 1⟩
    · rw [if_neg hp, encR_small (fun x hx => by have := plT_letters _ x hx; omega)]
      refine ⟨plT_len _, fun h => absurd (plT_none ⟨(hlow.2 h).2.2, (hlow.2 h).2.1⟩) hp⟩
/-- The bytes of what folding makes of the runes of a list of pairs. -/
def flB (p : Bool) (l : List (Nat × Nat)) : List UInt8 := encR (foldRs p (l.map fun x => x.2))
theorem flB_cons (p : Bool) (x : Nat × Nat) (l : List (Nat × Nat)) : flB p (x :: l) = encR (foldR p x.2) ++ flB p l := by
  unfold flB
  rw [List.map_cons, foldRs_cons, encR_append]
theorem flB_append (p : Bool) (a b : List (Nat × Nat)) : flB p (a ++ b) = flB p a ++ flB p b := by
  unfold flB
  rw [List.map_append, foldRs_append, encR_append]
theorem flB_from (p : Bool) (s : ByteArray) : ∀ f pos, pos ≤ s.size → (flB p (pairsFrom s f pos)).length + pos ≤ s.size
  | 0, pos, h => by simp [pairsFrom, flB, foldRs, encR]; exact h
  | f + 1, pos, h => by
    by_cases hp : pos < s.size
    · obtain ⟨h1, h2⟩ := decode_shape s pos hp
      have hw := decode_width_pos s pos hp
      have ih := flB_from p s f (pos + (Utf8.decode s pos).2) h1
      rw [pairsFrom_step hp, flB_cons, List.length_append]
      have hb : (encR (foldR p (((Utf8.decode s pos).1 : Nat) : Int))).length ≤ (Utf8.decode s pos).2 := by
        by_cases hL : isL (((Utf8.decode s pos).1 : Nat) : Int)
        · obtain ⟨b1, b2⟩ := foldR_bytes p _ hL
          have hbd : (Utf8.decode s pos).1 ≤ 1119 := by unfold isL at hL; omega
          by_cases hlt : (Utf8.decode s pos).1 < 128
          · have := b2 hlt; omega
          · omega
        · unfold foldR
          rw [if_neg hL]
          exact Nat.zero_le _
      dsimp only
      omega
    · rw [pairsFrom_end s _ _ hp]
      simp [flB, foldRs, encR]; exact h
theorem flB_pre (p : Bool) (s : ByteArray) {pre post : List (Nat × Nat)} (h : pairs s = pre ++ post) : (flB p pre).length ≤ s.size := by
  have := flB_from p s s.size 0 (Nat.zero_le _)
  rw [show pairsFrom s s.size 0 = pairs s from rfl, h, flB_append, List.length_append] at this
  omega
theorem foldS_fits (p : Bool) (s : ByteArray) : (foldS p s).size ≤ s.size := by
  have := flB_from p s s.size 0 (Nat.zero_le _)
  show (encR _).toArray.size ≤ _
  rw [List.size_toArray]
  exact this
end Go.Proofs.YtcocbjipikeebaaDoor.Utf
/-
  The program's read: what a line says is taken in.
-/
namespace Go.Proofs.YtcocbjipikeebaaDoor.Utf
open Go Go.Lib Go.RowKit

/-- The numbers of a text's letters. -/
noncomputable def wordOf (L : List ByteArray) (f : ByteArray) : List Int := (splitS L f).1.map fun r : Nat => (r : Int)
/-- What a line that says something does to the words: its error, the words. -/
noncomputable def readL (L : List ByteArray) (line : ByteArray) (l : List (List Int × Int)) : Int × List (List Int × Int) :=
  if foldS false (cutS line).1 = ⟨#[]⟩ then (90, l)
  else if (scoreP (cutS line).2).2 = false then (91, l)
  else if (splitS L (foldS false (cutS line).1)).2.2 ≠ 0 then ((splitS L (foldS false (cutS line).1)).2.2, l)
  else if lookL l (wordOf L (foldS false (cutS line).1)) = none ∧ l.length = 1000 then (111, l)
  else (0, putL l (wordOf L (foldS false (cutS line).1)) ((scoreP (cutS line).2).1 : Nat))
theorem Reads.o {W : World} {ao : Option Addr} {xs : List Value} (h : Reads W ao xs) : ReadsO W ao xs := fun j hj => by
  obtain ⟨g, h1, h2, h3⟩ := h j hj
  exact ⟨g, 0, h1, h2, by rw [Nat.zero_add]; exact h3⟩
theorem ScW.grown {w w' : World} {B n : Nat} {l : List (List Int × Int)} (h : ScW w B n l) (hb : Below w.heap.size w w') : ScW w' B n l := by
  obtain ⟨D, hD, hown⟩ := h
  exact ⟨D, hD, hown.kept (row := none) ⟨hb.os, hb.tape, hb.output, hb.size, fun k hk _ => hb.block k hk⟩ (by simp)⟩
theorem ScW.more {w : World} {B n : Nat} {l : List (List Int × Int)} (h : ScW w B n l) : ScW w B (n + 1) l := by
  obtain ⟨D, hD, hown⟩ := h
  exact ⟨D, hD, hown.mono (Nat.le_succ n)⟩
theorem below_but {w w' : World} (h : Below w.heap.size w w') (row : Option Nat) : w.grownBy w' row := ⟨h.os, h.tape, h.output, h.size, fun k hk _ => h.block k hk⟩
theorem cut_size (s : ByteArray) : (cutS s).1.size ≤ s.size ∧ (cutS s).2.size ≤ max s.size 2 := by
  unfold cutS
  cases fsc (pairs s) with
  | none => exact ⟨Nat.le_refl _, Nat.le_max_right _ _⟩
  | some x =>
    have h1 : (s.extract 0 x.1).size ≤ s.size := by rw [ByteArray.size_extract]; omega
    have h2 : (s.extract (x.1 + 1) s.size).size ≤ s.size := by rw [ByteArray.size_extract]; omega
    exact ⟨h1, Nat.le_trans h2 (Nat.le_max_left _ _)⟩

theorem score_le (s : ByteArray) : (scoreP s).2 = true → (scoreP s).1 ≤ 100 := by
  unfold scoreP
  by_cases h1 : (wordsP s).length = 1
  · rw [if_pos h1]
    by_cases h2 : 3 < ((wordsT s).headD ⟨#[]⟩).size
    · rw [if_pos h2]; intro h; cases h
    · rw [if_neg h2]
      by_cases h3 : ∀ x ∈ pairs ((wordsT s).headD ⟨#[]⟩), isDg x.2
      · rw [if_pos h3]; intro h; exact of_decide_eq_true h
      · rw [if_neg h3]; intro h; cases h
  · rw [if_neg h1]; intro h; cases h

end Go.Proofs.YtcocbjipikeebaaDoor.Utf
