/-
  Plain facts on words: joined by spaces they are the words again; of a text's words none is empty or has a blank, and their letters are the text's.
-/
import Derived.Test.YtjfkihljgicijaaWrdj
import Derived.Test.YtjfkihljgicijaaFldf
namespace Go.Proofs.Ytjfkihljgicijaa.Utf
open Go Go.Lib

/-- Words, a space ahead of each; without the first space. -/
def spaced (ws : List ByteArray) : List UInt8 := ws.flatMap fun w => 32 :: w.data.toList
def joinB (ws : List ByteArray) : List UInt8 := (spaced ws).drop 1
theorem spaced_cons (w : ByteArray) (r : List ByteArray) : spaced (w :: r) = 32 :: (w.data.toList ++ spaced r) := by
  unfold spaced
  rw [List.flatMap_cons, List.cons_append]
theorem spaced_append (a b : List ByteArray) : spaced (a ++ b) = spaced a ++ spaced b := List.flatMap_append
theorem spaced_one (w : ByteArray) : spaced [w] = 32 :: w.data.toList := by rw [spaced_cons]; simp [spaced]
theorem joinB_one (w : ByteArray) : joinB [w] = w.data.toList := by rw [joinB, spaced_one]; rfl
theorem joinB_snoc {l : List ByteArray} (w : ByteArray) (h : l ≠ []) : joinB (l ++ [w]) = joinB l ++ (32 :: w.data.toList) := by
  cases l with
  | nil => exact absurd rfl h
  | cons x r =>
    unfold joinB
    rw [spaced_append, spaced_one, spaced_cons, List.cons_append, List.drop_succ_cons, List.drop_succ_cons, List.drop_zero, List.drop_zero]
theorem mid_bytes (S : ByteArray) (pre m t : List UInt8) (h : S.data.toList = pre ++ (m ++ t)) (w : ByteArray) (hw : w.data.toList = m) : S.extract pre.length (pre.length + w.size) = w := by
  apply ba_ext
  rw [← Lib.toList_data, Lib.extract_toList, h, List.drop_left, Nat.add_sub_cancel_left, ← ba_len, hw, List.take_left]
theorem space_at (S : ByteArray) (pre t : List UInt8) (h : S.data.toList = pre ++ (32 :: t)) : Utf8.decode S pre.length = (32, 1) := by
  have e : S.get! pre.length = 32 := by
    rw [← Lib.getD_get!' S, h, List.getD, List.getElem?_append_right (Nat.le_refl _), Nat.sub_self]
    rfl
  rw [decode_at, e, show (32 : UInt8).toNat = 32 from rfl, dN1 (by decide)]
/-- WORDS JOINED BY SPACES ARE THE WORDS AGAIN. -/
theorem joined_words (S : ByteArray) : ∀ (r : List ByteArray) (w : ByteArray) (pre : List UInt8) (g : Nat), S.data.toList = pre ++ (w.data.toList ++ spaced r) → Clean w → (∀ x ∈ r, Clean x) → S.size ≤ pre.length + g →
    wtx S (wordsFrom S g pre.length none) = w :: r
  | [], w, pre, g, h, hw, _, hg => by
    have hwl := ba_len w
    have hl : S.size = pre.length + w.size := by rw [← ba_len, h]; simp [hwl, spaced]
    have ht := through S w pre (spaced []) h (.inl rfl) w.size 0 none g (by omega) (by omega) (by omega) hw.2 hw.1
    rw [Nat.add_zero] at ht
    rw [ht, wordsFrom_end _ _ _ _ (by omega)]
    show [S.extract pre.length S.size] = [w]
    rw [hl, mid_bytes S pre w.data.toList (spaced []) h w rfl]
  | w' :: r, w, pre, g, h, hw, hr, hg => by
    have hwl := ba_len w
    have hsp := spaced_cons w' r
    have hl : S.size = pre.length + (w.size + (1 + (w'.size + (spaced r).length))) := by rw [← ba_len, h, hsp]; simp [hwl, ba_len w']; omega
    have ha : Ahead (spaced (w' :: r)) := .inr ⟨32, _, hsp, by decide⟩
    have ht := through S w pre _ h ha w.size 0 none g (by omega) (by omega) (by omega) hw.2 hw.1
    rw [Nat.add_zero] at ht
    have h2 : S.data.toList = (pre ++ w.data.toList) ++ (32 :: (w'.data.toList ++ spaced r)) := by rw [h, hsp, List.append_assoc]
    have hd := space_at S (pre ++ w.data.toList) _ h2
    rw [List.length_append, hwl] at hd
    obtain ⟨f, hf⟩ : ∃ f, S.size = f + 1 := ⟨S.size - 1, by omega⟩
    have h3 : S.data.toList = (pre ++ w.data.toList ++ [32]) ++ (w'.data.toList ++ spaced r) := by rw [h2]; simp
    have hlen : (pre ++ w.data.toList ++ [32]).length = pre.length + w.size + 1 := by simp [hwl]; omega
    have ih := joined_words S r w' (pre ++ w.data.toList ++ [32]) f h3 (hr w' (by simp)) (fun x hx => hr x (by simp [hx])) (by omega)
    rw [hlen] at ih
    have hstep : wordsFrom S (f + 1) (pre.length + w.size) (some pre.length) = [(pre.length, pre.length + w.size)] ++ wordsFrom S f (pre.length + w.size + 1) none := by
      rw [wordsFrom_blank (by omega) (by rw [hd]; unfold isB; simp), hd]
      rfl
    have hfu : wordsFrom S S.size (pre.length + w.size) (some pre.length) = wordsFrom S (f + 1) (pre.length + w.size) (some pre.length) := words_fuel S _ _ _ _ (by omega) (by omega)
    rw [ht, show (none : Option Nat).getD pre.length = pre.length from rfl, hfu, hstep, wtx_append, ih]
    show [S.extract pre.length (pre.length + w.size)] ++ (w' :: r) = w :: w' :: r
    rw [mid_bytes S pre w.data.toList _ h w rfl]
    rfl
theorem join_words (ws : List ByteArray) (h : ∀ w ∈ ws, Clean w) : wordsT ⟨(joinB ws).toArray⟩ = ws := by
  cases ws with
  | nil => rfl
  | cons w r =>
    unfold wordsT wordsP
    refine joined_words _ r w [] _ ?_ (h w (by simp)) (fun x hx => h x (by simp [hx])) (by simp)
    show (joinB (w :: r)).toArray.toList = _
    unfold joinB
    rw [spaced_cons, List.drop_succ_cons, List.drop_zero]
    simp

/-- The runes from a place to a place, none a blank. -/
def RunsC (s : ByteArray) : List Nat → Nat → Nat → Prop
  | [], a, b => a = b
  | r :: l, a, b => a < s.size ∧ ¬ isB ((Utf8.decode s a).1 : Int) ∧ (Utf8.decode s a).1 = r ∧ RunsC s l (a + (Utf8.decode s a).2) b
theorem runsC_snoc (s : ByteArray) : ∀ (l : List Nat) (a b : Nat), RunsC s l a b → b < s.size → ¬ isB ((Utf8.decode s b).1 : Int) → RunsC s (l ++ [(Utf8.decode s b).1]) a (b + (Utf8.decode s b).2)
  | [], a, b, h, hb, hn => by
    have : a = b := h
    subst this
    exact ⟨hb, hn, rfl, rfl⟩
  | r :: l, a, b, h, hb, hn => ⟨h.1, h.2.1, h.2.2.1, runsC_snoc s l _ b h.2.2.2 hb hn⟩
theorem runsC_le (s : ByteArray) : ∀ (l : List Nat) (a b : Nat), RunsC s l a b → a + l.length ≤ b
  | [], a, b, h => by have : a = b := h; simp; omega
  | r :: l, a, b, h => by
    have h1 := runsC_le s l _ b h.2.2.2
    have h2 := decode_fits s a h.1
    simp only [List.length_cons]
    omega
theorem runsC_blank (s : ByteArray) : ∀ (l : List Nat) (a b : Nat), RunsC s l a b → ∀ r ∈ l, ¬ isB (r : Int)
  | [], _, _, _, r, hr => by cases hr
  | x :: l, a, b, h, r, hr => by
    rcases List.mem_cons.1 hr with e | e
    · subst e; rw [← h.2.2.1]; exact h.2.1
    · exact runsC_blank s l _ b h.2.2.2 r e
theorem ext_list (s : ByteArray) (a b : Nat) : (s.extract a b).data.toList = (s.data.toList.drop a).take (b - a) := by
  rw [← Lib.toList_data, Lib.extract_toList]
theorem mid_decode (s : ByteArray) (a b q : Nat) (hb : b ≤ s.size) (hq : a + q < b) (hw : a + q + (Utf8.decode s (a + q)).2 ≤ b) : Utf8.decode (s.extract a b) q = Utf8.decode s (a + q) := by
  have e : s.extract a b = (s.extract 0 b).extract a (s.extract 0 b).size := by
    apply ba_ext
    rw [ext_list, ext_list, ext_list, head_size s b hb, List.drop_zero, Nat.sub_zero, List.drop_take, List.take_take, Nat.min_self]
  rw [e, Lib.tail_decode, head_decode s b (a + q) hb hq hw]
theorem runs_pairs (s : ByteArray) (a b : Nat) (hb : b ≤ s.size) : ∀ (l : List Nat) (q fuel : Nat), RunsC s l (a + q) b → b ≤ a + q + fuel → (pairsFrom (s.extract a b) fuel q).map (fun x => x.2) = l
  | [], q, fuel, h, hf => by
    have e : a + q = b := h
    rw [pairsFrom_end _ _ _ (by rw [ByteArray.size_extract]; omega)]; rfl
  | r :: l, q, fuel, h, hf => by
    have h1 := runsC_le s l _ b h.2.2.2
    have h2 := decode_fits s (a + q) h.1
    have hd := mid_decode s a b q hb (by omega) (by omega)
    obtain ⟨f, rfl⟩ : ∃ f, fuel = f + 1 := ⟨fuel - 1, by omega⟩
    rw [pairsFrom_step (by rw [ByteArray.size_extract]; omega), hd, List.map_cons]
    have ih := runs_pairs s a b hb l (q + (Utf8.decode s (a + q)).2) f (by rw [← Nat.add_assoc]; exact h.2.2.2) (by omega)
    rw [ih, h.2.2.1]
theorem runs_text (s : ByteArray) {a b : Nat} {l : List Nat} (hb : b ≤ s.size) (h : RunsC s l a b) : (pairs (s.extract a b)).map (fun x => x.2) = l := by
  have hle := runsC_le s l a b h
  unfold pairs
  exact runs_pairs s a b hb l 0 _ h (by rw [ByteArray.size_extract]; omega)
/-- A word's bytes, folded. -/
def foldX (p : Bool) (s : ByteArray) (x : Nat × Nat) : List UInt8 := (foldS p (s.extract x.1 x.2)).data.toList
theorem foldX_runs (p : Bool) (s : ByteArray) {a b : Nat} {l : List Nat} (hb : b ≤ s.size) (h : RunsC s l a b) : foldX p s (a, b) = encR (foldRs p l) := by
  unfold foldX foldS
  rw [runs_text s hb h]
theorem blank_none (p : Bool) {r : Nat} (h : isB (r : Int)) : foldR p (r : Int) = [] := by
  unfold foldR
  rw [if_neg]
  unfold isB at h
  unfold isL
  omega
/-- THE WORDS OF A TEXT: each a run without a blank; their letters are the text's. -/
theorem words_spec (p : Bool) (s : ByteArray) : ∀ (f pos : Nat) (st : Option Nat) (l : List Nat), s.size ≤ pos + f → pos ≤ s.size → (match st with | none => l = [] | some a => l ≠ [] ∧ RunsC s l a pos) →
    (∀ x ∈ wordsFrom s f pos st, ∃ m, m ≠ [] ∧ RunsC s m x.1 x.2 ∧ x.2 ≤ s.size) ∧
    (wordsFrom s f pos st).flatMap (foldX p s) = encR (foldRs p (l ++ (pairsFrom s f pos).map fun x => x.2)) ∧
    ((wordsFrom s f pos st).map fun x => x.2 - x.1 + 1).sum + (match st with | none => pos | some a => a) ≤ s.size + 1 := by
  intro f
  induction f with
  | zero =>
    intro pos st l h1 h2 hst
    have e : pos = s.size := by omega
    subst e
    rw [wordsFrom_end _ _ _ _ (by omega), pairsFrom_end _ _ _ (by omega)]
    cases st with
    | none =>
      have : l = [] := hst
      subst this
      exact ⟨fun x hx => (by cases hx), rfl, (by simp [wEnd])⟩
    | some a =>
      have hle := runsC_le s l a _ hst.2
      refine ⟨fun x hx => ?_, ?_, ?_⟩
      · obtain rfl : x = (a, s.size) := by simpa [wEnd] using hx
        exact ⟨l, hst.1, hst.2, Nat.le_refl _⟩
      · simp only [wEnd, List.flatMap_cons, List.flatMap_nil, List.append_nil, List.map_nil]
        exact foldX_runs p s (Nat.le_refl _) hst.2
      · simp [wEnd]; omega
  | succ f ih =>
    intro pos st l h1 h2 hst
    by_cases hp : pos < s.size
    · have hw := decode_fits s pos hp
      rw [pairsFrom_step hp, List.map_cons]
      by_cases hb : isB ((Utf8.decode s pos).1 : Int)
      · rw [wordsFrom_blank hp hb]
        obtain ⟨i1, i2, i3⟩ := ih (pos + (Utf8.decode s pos).2) none [] (by omega) (by omega) rfl
        have hfold : foldRs p (l ++ (Utf8.decode s pos).1 :: (pairsFrom s f (pos + (Utf8.decode s pos).2)).map fun x => x.2) = foldRs p l ++ foldRs p ((pairsFrom s f (pos + (Utf8.decode s pos).2)).map fun x => x.2) := by
          rw [foldRs_append, foldRs_cons, blank_none p hb, List.nil_append]
        rw [hfold, encR_append]
        rw [List.nil_append] at i2
        cases st with
        | none =>
          have : l = [] := hst
          subst this
          refine ⟨i1, ?_, ?_⟩
          · rw [wCut, List.nil_append, i2]; rfl
          · rw [wCut, List.nil_append]; simp only at i3 ⊢; omega
        | some a =>
          have hle := runsC_le s l a _ hst.2
          refine ⟨fun x hx => ?_, ?_, ?_⟩
          · rw [wCut, List.singleton_append] at hx
            rcases List.mem_cons.1 hx with e | e
            · subst e; exact ⟨l, hst.1, hst.2, by show pos ≤ _; omega⟩
            · exact i1 x e
          · rw [wCut, List.singleton_append, List.flatMap_cons, i2, foldX_runs p s (by omega) hst.2]
          · rw [wCut, List.singleton_append, List.map_cons, List.sum_cons]; simp only at i3 ⊢; omega
      · rw [wordsFrom_step hp hb]
        cases st with
        | none =>
          have : l = [] := hst
          subst this
          obtain ⟨i1, i2, i3⟩ := ih (pos + (Utf8.decode s pos).2) (some pos) [(Utf8.decode s pos).1] (by omega) (by omega) ⟨by simp, hp, hb, rfl, rfl⟩
          refine ⟨i1, ?_, ?_⟩
          · rw [show (none : Option Nat).getD pos = pos from rfl, i2]; rfl
          · simp only [Option.getD_none] at i3 ⊢; omega
        | some a =>
          have hle := runsC_le s l a _ hst.2
          obtain ⟨i1, i2, i3⟩ := ih (pos + (Utf8.decode s pos).2) (some a) (l ++ [(Utf8.decode s pos).1]) (by omega) (by omega) ⟨by simp, runsC_snoc s l a pos hst.2 hp hb⟩
          refine ⟨i1, ?_, ?_⟩
          · rw [show (some a).getD pos = a from rfl, i2, List.append_assoc]; rfl
          · simp only [Option.getD_some] at i3 ⊢; omega
    · have e : pos = s.size := by omega
      have h0 := ih pos st l (by omega) h2 hst
      rw [wordsFrom_end _ _ _ _ hp, pairsFrom_end _ _ _ hp]
      rw [wordsFrom_end _ _ _ _ hp, pairsFrom_end _ _ _ hp] at h0
      exact h0
theorem words_clean (s : ByteArray) : ∀ w ∈ wordsT s, Clean w := by
  intro w hw
  unfold wordsT wtx at hw
  obtain ⟨x, hx, rfl⟩ := List.mem_map.1 hw
  obtain ⟨m, hm, hr, hle⟩ := (words_spec true s s.size 0 none [] (by omega) (Nat.zero_le _) rfl).1 x hx
  have h1 := runsC_le s m _ _ hr
  have h2 : 1 ≤ m.length := by
    cases m with
    | nil => exact absurd rfl hm
    | cons a r => simp
  refine ⟨by rw [ByteArray.size_extract]; omega, fun y hy => ?_⟩
  have : y.2 ∈ m := by rw [← runs_text s hle hr]; exact List.mem_map_of_mem hy
  exact runsC_blank s m _ _ hr _ this
theorem words_fold (p : Bool) (s : ByteArray) : (wordsT s).flatMap (fun w => (foldS p w).data.toList) = (foldS p s).data.toList := by
  have h := (words_spec p s s.size 0 none [] (by omega) (Nat.zero_le _) rfl).2.1
  unfold wordsT wtx
  rw [List.flatMap_map]
  have e : (foldS p s).data.toList = encR (foldRs p ((pairs s).map fun x => x.2)) := by unfold foldS; simp
  rw [e]
  exact h
theorem words_spaced (s : ByteArray) : (spaced (wordsT s)).length ≤ s.size + 1 := by
  have h := (words_spec true s s.size 0 none [] (by omega) (Nat.zero_le _) rfl)
  have h3 := h.2.2
  have h1 := h.1
  simp only [Nat.add_zero] at h3
  unfold wordsT wtx
  have hp : wordsP s = wordsFrom s s.size 0 none := rfl
  rw [hp]
  refine Nat.le_trans (Nat.le_of_eq ?_) h3
  generalize wordsFrom s s.size 0 none = L at *
  clear h3 h hp
  induction L with
  | nil => rfl
  | cons x r ih =>
    obtain ⟨m, _, hr, hle⟩ := h1 x (by simp)
    have hx := runsC_le s m _ _ hr
    rw [List.map_cons, List.map_cons, List.sum_cons, spaced_cons, List.length_cons, List.length_append, ih (fun y hy => h1 y (by simp [hy])), ba_len, ByteArray.size_extract]
    omega
end Go.Proofs.Ytjfkihljgicijaa.Utf
