/-
  Plain facts on joined texts: behind what was written for runes the other text's runes follow; folding goes piece by piece.
-/
import Derived.Test.YtjgmmfkeogkakaaGreatGutf
import Derived.Test.YtjgmmfkeogkakaaGreatWrdmq
import Derived.Test.YtjgmmfkeogkakaaGreatGfl
import Derived.Test.YtjgmmfkeogkakaaGreatGxr
namespace Go.Proofs.YtjgmmfkeogkakaaGreat.Utf
open Go Go.Lib

theorem written_on (s : ByteArray) : ∀ (l : List Nat) (a t : List UInt8) (fuel : Nat), s.data.toList = a ++ (encR l ++ t) → s.size ≤ a.length + fuel →
    (pairsFrom s fuel a.length).map (fun x => x.2) = l.map (fun r : Nat => wr (r : Int)) ++ (pairsFrom s fuel (a.length + (encR l).length)).map (fun x => x.2)
  | [], a, t, fuel, _, _ => by simp [encR]
  | r :: l, a, t, fuel, h, hf => by
    rw [encR_cons, List.append_assoc] at h
    have hd := dec_mid s a r (encR l ++ t) h
    have hl : s.size = a.length + ((encB r).length + ((encR l).length + t.length)) := by rw [← ba_len, h]; simp
    have h1 := (enc_size r).1
    rw [← encB_size] at h1
    obtain ⟨f, rfl⟩ : ∃ f, fuel = f + 1 := ⟨fuel - 1, by omega⟩
    have ih := written_on s l (a ++ encB r) t f (by rw [h, List.append_assoc]) (by rw [List.length_append]; omega)
    rw [pairsFrom_step (by omega), hd]
    rw [List.length_append] at ih
    rw [List.map_cons, ih, encR_cons, List.length_append, ← Nat.add_assoc, pairs_fuel s (f + 1) f _ (by omega) (by omega), List.map_cons, List.cons_append]
theorem ba_append (a b : ByteArray) : (a ++ b).data.toList = a.data.toList ++ b.data.toList := by
  rw [ByteArray.data_append, Array.toList_append]
theorem ba_ext {a b : ByteArray} (h : a.data.toList = b.data.toList) : a = b := by
  cases a; cases b
  simp only [ByteArray.mk.injEq]
  exact Array.toList_inj.1 h
theorem ba_tail (a b : ByteArray) : (a ++ b).extract a.size (a ++ b).size = b := by
  apply ba_ext
  rw [← Lib.toList_data, Lib.extract_toList, ba_append, ← ba_len a, List.drop_left, List.take_of_length_le]
  rw [← ba_len, ba_append, List.length_append]; omega
/-- THE RUNES OF WHAT WAS WRITTEN WITH A TEXT BEHIND IT. -/
theorem runes_join (l : List Nat) (A t : ByteArray) (hA : A.data.toList = encR l) : (pairs (A ++ t)).map (fun x => x.2) = l.map (fun r : Nat => wr (r : Int)) ++ (pairs t).map (fun x => x.2) := by
  have hz : A.size = (encR l).length := by rw [← ba_len, hA]
  have hzz : (A ++ t).size = A.size + t.size := by rw [← ba_len, ba_append, List.length_append, ba_len, ba_len]
  have h := written_on (A ++ t) l [] t.data.toList (A ++ t).size (by rw [ba_append, hA]; rfl) (by simp)
  rw [List.length_nil, Nat.zero_add, ← hz] at h
  have h2 := tail_pairs (A ++ t) A.size (A ++ t).size 0
  rw [Nat.add_zero, ba_tail] at h2
  rw [h2, pairs_fuel t (A ++ t).size t.size 0 (by omega) (by omega)] at h
  unfold pairs
  rw [h]
  congr 1
  rw [List.map_map]; rfl
theorem foldR_wr (p : Bool) (r : Nat) : foldR p ((wr (r : Int) : Nat) : Int) = foldR p r := by
  by_cases h : isL (r : Int)
  · rw [letter_wr h]
  · have : ¬ isL ((wr (r : Int) : Nat) : Int) := by
      by_cases hv : ((0 : Int) ≤ r ∧ (r : Int) < 55296) ∨ ((57344 : Int) ≤ r ∧ (r : Int) ≤ 1114111)
      · have e := wr_valid hv
        rw [e]
        have : (((r : Int).toNat : Nat) : Int) = r := by omega
        rw [this]; exact h
      · rw [wr_bad hv]
        unfold isL; omega
    unfold foldR
    rw [if_neg h, if_neg this]
theorem foldRs_wr (p : Bool) (l : List Nat) : foldRs p (l.map fun r : Nat => wr (r : Int)) = foldRs p l := by
  induction l with
  | nil => rfl
  | cons x r ih => rw [List.map_cons, foldRs_cons, foldRs_cons, ih, foldR_wr]
/-- FOLDING A MENDED TEXT; folding it with another one behind it. -/
theorem foldS_fix (p : Bool) (s : ByteArray) : foldS p ⟨(encs (pairs s)).toArray⟩ = foldS p s := by
  unfold foldS
  rw [encs_eq, written_runes, foldRs_wr]
theorem foldS_join (p : Bool) (s t : ByteArray) : foldS p (⟨(encs (pairs s)).toArray⟩ ++ t) = foldS p s ++ foldS p t := by
  apply ba_ext
  rw [ba_append]
  unfold foldS
  rw [runes_join ((pairs s).map fun x => x.2) _ t (by rw [encs_eq]), foldRs_append, foldRs_wr, encR_append]
end Go.Proofs.YtjgmmfkeogkakaaGreat.Utf
/-
  Plain facts on words: none has a blank or is empty; their letters are the text's; joined by spaces they are the words again.
-/
namespace Go.Proofs.YtjgmmfkeogkakaaGreat.Utf
open Go Go.Lib

/-- What follows a text in which a rune stands changes nothing of it, if it can't go on a rune. -/
theorem decodeN_on (n m b0 b1 b2 b3 c1 c2 c3 : Nat) (hm : 1 ≤ m) (hmn : m ≤ n) (h1 : 1 < m → c1 = b1) (h2 : 2 < m → c2 = b2) (h3 : 3 < m → c3 = b3)
    (k1 : m = 1 → n = 1 ∨ b1 / 64 ≠ 2) (k2 : m = 2 → n = 2 ∨ b2 / 64 ≠ 2) (k3 : m = 3 → n = 3 ∨ b3 / 64 ≠ 2) : decodeN n b0 b1 b2 b3 = decodeN m b0 c1 c2 c3 := by
  by_cases q1 : b0 < 128
  · rw [dN1 q1, dN1 q1]
  by_cases q2 : b0 / 32 = 6
  · by_cases p : P2 n b0 b1
    · have pm : 1 < m := by unfold P2 at p; omega
      have e1 := h1 pm
      subst e1
      rw [dN2y q2 p, dN2y q2 (by unfold P2 at p ⊢; omega)]
    · rw [dN2n q2 p, dN2n q2 (fun pm => p (by
        have e1 := h1 (by unfold P2 at pm; omega)
        subst e1
        unfold P2 at pm ⊢; omega))]
  by_cases q3 : b0 / 16 = 14
  · by_cases p : P3 n b0 b1 b2
    · have pm : 2 < m := by
        have p1 := p.1
        have p2 := p.2.1
        have p3 := p.2.2.1
        omega
      have e1 := h1 (by omega)
      have e2 := h2 pm
      subst e1 e2
      rw [dN3y q3 p, dN3y q3 ⟨pm, p.2⟩]
    · rw [dN3n q3 p, dN3n q3 (fun pm => p (by
        have e1 := h1 (by have := pm.1; omega)
        have e2 := h2 pm.1
        subst e1 e2
        exact ⟨by have := pm.1; omega, pm.2⟩))]
  by_cases q4 : b0 / 8 = 30
  · by_cases p : P4 n b0 b1 b2 b3
    · have pm : 3 < m := by
        have p1 := p.1
        have p2 := p.2.1
        have p3 := p.2.2.1
        have p4 := p.2.2.2.1
        omega
      have e1 := h1 (by omega)
      have e2 := h2 (by omega)
      have e3 := h3 pm
      subst e1 e2 e3
      rw [dN4y q4 p, dN4y q4 ⟨pm, p.2⟩]
    · rw [dN4n q4 p, dN4n q4 (fun pm => p (by
        have e1 := h1 (by have := pm.1; omega)
        have e2 := h2 (by have := pm.1; omega)
        have e3 := h3 pm.1
        subst e1 e2 e3
        exact ⟨by have := pm.1; omega, pm.2⟩))]
  · rw [dN0 q1 q2 q3 q4, dN0 q1 q2 q3 q4]

/-- Nothing, or a byte that goes on no rune. -/
def Ahead (t : List UInt8) : Prop := t = [] ∨ ∃ b r, t = b :: r ∧ b.toNat / 64 ≠ 2
theorem dec_in (S w : ByteArray) (pre t : List UInt8) (q : Nat) (h : S.data.toList = pre ++ (w.data.toList ++ t)) (hq : q < w.size) (ht : Ahead t) : Utf8.decode S (pre.length + q) = Utf8.decode w q := by
  have hw := ba_len w
  have hl : S.size = pre.length + (w.size + t.length) := by rw [← ba_len, h]; simp [hw]
  have g : ∀ i, i < w.size → S.get! (pre.length + i) = w.get! i := fun i hi => by
    rw [← Lib.getD_get!' S, ← Lib.getD_get!' w, h, List.getD, List.getD, List.getElem?_append_right (by omega), Nat.add_sub_cancel_left, List.getElem?_append_left (by omega)]
  have gt : ∀ b r, t = b :: r → S.get! (pre.length + w.size) = b := fun b r e => by
    rw [← Lib.getD_get!' S, h, e, List.getD, List.getElem?_append_right (by omega), Nat.add_sub_cancel_left, List.getElem?_append_right (by omega), hw, Nat.sub_self]
    rfl
  have nx : ∀ i, q + i = w.size → S.size - (pre.length + q) = i ∨ (S.get! (pre.length + (q + i))).toNat / 64 ≠ 2 := fun i hi => by
    rcases ht with e | ⟨b, r, e, hb⟩
    · left; rw [e] at hl; simp at hl; omega
    · right; rw [hi, gt b r e]; exact hb
  rw [decode_at, decode_at w, g q hq]
  refine decodeN_on _ _ _ _ _ _ _ _ _ (by omega) (by omega) (fun e => ?_) (fun e => ?_) (fun e => ?_) (fun e => ?_) (fun e => ?_) (fun e => ?_)
  · rw [Nat.add_assoc, g (q + 1) (by omega)]
  · rw [Nat.add_assoc, g (q + 2) (by omega)]
  · rw [Nat.add_assoc, g (q + 3) (by omega)]
  · rw [Nat.add_assoc]; exact nx 1 (by omega)
  · rw [Nat.add_assoc]; exact nx 2 (by omega)
  · rw [Nat.add_assoc]; exact nx 3 (by omega)

/-- A word: it has a byte, and no blank among its runes. -/
def Clean (w : ByteArray) : Prop := 0 < w.size ∧ ∀ x ∈ pairs w, ¬ isB ((x.2 : Nat) : Int)
theorem words_fuel (s : ByteArray) : ∀ f g pos st, s.size ≤ pos + f → s.size ≤ pos + g → wordsFrom s f pos st = wordsFrom s g pos st
  | 0, g, pos, st, h1, h2 => by rw [wordsFrom_end s g pos st (by omega), wordsFrom_end s 0 pos st (by omega)]
  | f + 1, g, pos, st, h1, h2 => by
    by_cases hp : pos < s.size
    · obtain ⟨g, rfl⟩ : ∃ g', g = g' + 1 := ⟨g - 1, by omega⟩
      have hw := decode_fits s pos hp
      by_cases hb : isB ((Utf8.decode s pos).1 : Int)
      · rw [wordsFrom_blank hp hb, wordsFrom_blank hp hb, words_fuel s f g _ _ (by omega) (by omega)]
      · rw [wordsFrom_step hp hb, wordsFrom_step hp hb, words_fuel s f g _ _ (by omega) (by omega)]
    · rw [wordsFrom_end s _ pos st hp, wordsFrom_end s _ pos st hp]
/-- Through a word that stands in a text. -/
theorem through (S w : ByteArray) (pre t : List UInt8) (h : S.data.toList = pre ++ (w.data.toList ++ t)) (ht : Ahead t) : ∀ (f q : Nat) (st : Option Nat) (g : Nat), w.size ≤ q + f → q ≤ w.size → S.size ≤ pre.length + q + g →
    (∀ x ∈ pairsFrom w f q, ¬ isB ((x.2 : Nat) : Int)) → q < w.size →
    wordsFrom S g (pre.length + q) st = wordsFrom S S.size (pre.length + w.size) (some (st.getD (pre.length + q)))
  | 0, q, st, g, h1, h2, h3, h4, h5 => by omega
  | f + 1, q, st, g, h1, h2, h3, h4, h5 => by
    have hw := ba_len w
    have hl : S.size = pre.length + (w.size + t.length) := by rw [← ba_len, h]; simp [hw]
    have hd := dec_in S w pre t q h h5 ht
    have hf := decode_fits w q h5
    obtain ⟨g, rfl⟩ : ∃ g', g = g' + 1 := ⟨g - 1, by omega⟩
    rw [pairsFrom_step h5] at h4
    have hb := h4 _ (List.mem_cons_self ..)
    have hr : ∀ x ∈ pairsFrom w f (q + (Utf8.decode w q).2), ¬ isB ((x.2 : Nat) : Int) := fun x hx => h4 x (List.mem_cons_of_mem _ hx)
    rw [wordsFrom_step (by omega) (by rw [hd]; exact hb), hd, Nat.add_assoc]
    by_cases he : q + (Utf8.decode w q).2 < w.size
    · rw [through S w pre t h ht f (q + (Utf8.decode w q).2) _ g (by omega) (by omega) (by omega) hr he]
      simp
    · have : q + (Utf8.decode w q).2 = w.size := by omega
      rw [this]
      exact words_fuel S g S.size _ _ (by omega) (by omega)
end Go.Proofs.YtjgmmfkeogkakaaGreat.Utf
/-
  Plain facts on words: joined by spaces they are the words again; of a text's words none is empty or has a blank, and their letters are the text's.
-/
namespace Go.Proofs.YtjgmmfkeogkakaaGreat.Utf
open Go Go.Lib

/-- Words, a space ahead of each; without the first space. -/
def spaced (ws : List ByteArray) : List UInt8 := ws.flatMap fun w => 32 :: w.data.toList
def joinB (ws : List ByteArray) : List UInt8 := (spaced ws).drop 1
theorem spaced_cons (w : ByteArray) (r : List ByteArray) : spaced (w :: r) = 32 :: (w.data.toList ++ spaced r) := by
  unfold spaced
  rw [List.flatMap_cons, List.cons_append]
theorem spaced_append (a b : List ByteArray) : spaced (a ++ b) = spaced a ++ spaced b := List.flatMap_append
theorem spaced_one (w : ByteArray) : spaced [w] = 32 :: w.data.toList := by rw [spaced_cons]; simp [spaced]
theorem joinB_one (w : ByteArray) : joinB [w] = w.data.toList := by rw [joinB, spaced_one]; rfl
theorem joinB_snoc {l : List ByteArray} (w : ByteArray) (h : l ≠ []) : joinB (l ++ [w]) = joinB l ++ (32 :: w.data.toList) := by
  cases l with
  | nil => exact absurd rfl h
  | cons x r =>
    unfold joinB
    rw [spaced_append, spaced_one, spaced_cons, List.cons_append, List.drop_succ_cons, List.drop_succ_cons, List.drop_zero, List.drop_zero]
theorem mid_bytes (S : ByteArray) (pre m t : List UInt8) (h : S.data.toList = pre ++ (m ++ t)) (w : ByteArray) (hw : w.data.toList = m) : S.extract pre.length (pre.length + w.size) = w := by
  apply ba_ext
  rw [← Lib.toList_data, Lib.extract_toList, h, List.drop_left, Nat.add_sub_cancel_left, ← ba_len, hw, List.take_left]
theorem space_at (S : ByteArray) (pre t : List UInt8) (h : S.data.toList = pre ++ (32 :: t)) : Utf8.decode S pre.length = (32, 1) := by
  have e : S.get! pre.length = 32 := by
    rw [← Lib.getD_get!' S, h, List.getD, List.getElem?_append_right (Nat.le_refl _), Nat.sub_self]
    rfl
  rw [decode_at, e, show (32 : UInt8).toNat = 32 from rfl, dN1 (by decide)]
/-- WORDS JOINED BY SPACES ARE THE WORDS AGAIN. -/
theorem joined_words (S : ByteArray) : ∀ (r : List ByteArray) (w : ByteArray) (pre : List UInt8) (g : Nat), S.data.toList = pre ++ (w.data.toList ++ spaced r) → Clean w → (∀ x ∈ r, Clean x) → S.size ≤ pre.length + g →
    wtx S (wordsFrom S g pre.length none) = w :: r
  | [], w, pre, g, h, hw, _, hg => by
    have hwl := ba_len w
    have hl : S.size = pre.length + w.size := by rw [← ba_len, h]; simp [hwl, spaced]
    have ht := through S w pre (spaced []) h (.inl rfl) w.size 0 none g (by omega) (by omega) (by omega) hw.2 hw.1
    rw [Nat.add_zero] at ht
    rw [ht, wordsFrom_end _ _ _ _ (by omega)]
    show [S.extract pre.length S.size] = [w]
    rw [hl, mid_bytes S pre w.data.toList (spaced []) h w rfl]
  | w' :: r, w, pre, g, h, hw, hr, hg => by
    have hwl := ba_len w
    have hsp := spaced_cons w' r
    have hl : S.size = pre.length + (w.size + (1 + (w'.size + (spaced r).length))) := by rw [← ba_len, h, hsp]; simp [hwl, ba_len w']; omega
    have ha : Ahead (spaced (w' :: r)) := .inr ⟨32, _, hsp, by decide⟩
    have ht := through S w pre _ h ha w.size 0 none g (by omega) (by omega) (by omega) hw.2 hw.1
    rw [Nat.add_zero] at ht
    have h2 : S.data.toList = (pre ++ w.data.toList) ++ (32 :: (w'.data.toList ++ spaced r)) := by rw [h, hsp, List.append_assoc]
    have hd := space_at S (pre ++ w.data.toList) _ h2
    rw [List.length_append, hwl] at hd
    obtain ⟨f, hf⟩ : ∃ f, S.size = f + 1 := ⟨S.size - 1, by omega⟩
    have h3 : S.data.toList = (pre ++ w.data.toList ++ [32]) ++ (w'.data.toList ++ spaced r) := by rw [h2]; simp
    have hlen : (pre ++ w.data.toList ++ [32]).length = pre.length + w.size + 1 := by simp [hwl]; omega
    have ih := joined_words S r w' (pre ++ w.data.toList ++ [32]) f h3 (hr w' (by simp)) (fun x hx => hr x (by simp [hx])) (by omega)
    rw [hlen] at ih
    have hstep : wordsFrom S (f + 1) (pre.length + w.size) (some pre.length) = [(pre.length, pre.length + w.size)] ++ wordsFrom S f (pre.length + w.size + 1) none := by
      rw [wordsFrom_blank (by omega) (by rw [hd]; unfold isB; simp), hd]
      rfl
    have hfu : wordsFrom S S.size (pre.length + w.size) (some pre.length) = wordsFrom S (f + 1) (pre.length + w.size) (some pre.length) := words_fuel S _ _ _ _ (by omega) (by omega)
    rw [ht, show (none : Option Nat).getD pre.length = pre.length from rfl, hfu, hstep, wtx_append, ih]
    show [S.extract pre.length (pre.length + w.size)] ++ (w' :: r) = w :: w' :: r
    rw [mid_bytes S pre w.data.toList _ h w rfl]
    rfl
theorem join_words (ws : List ByteArray) (h : ∀ w ∈ ws, Clean w) : wordsT ⟨(joinB ws).toArray⟩ = ws := by
  cases ws with
  | nil => rfl
  | cons w r =>
    unfold wordsT wordsP
    refine joined_words _ r w [] _ ?_ (h w (by simp)) (fun x hx => h x (by simp [hx])) (by simp)
    show (joinB (w :: r)).toArray.toList = _
    unfold joinB
    rw [spaced_cons, List.drop_succ_cons, List.drop_zero]
    simp

/-- The runes from a place to a place, none a blank. -/
def RunsC (s : ByteArray) : List Nat → Nat → Nat → Prop
  | [], a, b => a = b
  | r :: l, a, b => a < s.size ∧ ¬ isB ((Utf8.decode s a).1 : Int) ∧ (Utf8.decode s a).1 = r ∧ RunsC s l (a + (Utf8.decode s a).2) b
theorem runsC_snoc (s : ByteArray) : ∀ (l : List Nat) (a b : Nat), RunsC s l a b → b < s.size → ¬ isB ((Utf8.decode s b).1 : Int) → RunsC s (l ++ [(Utf8.decode s b).1]) a (b + (Utf8.decode s b).2)
  | [], a, b, h, hb, hn => by
    have : a = b := h
    subst this
    exact ⟨hb, hn, rfl, rfl⟩
  | r :: l, a, b, h, hb, hn => ⟨h.1, h.2.1, h.2.2.1, runsC_snoc s l _ b h.2.2.2 hb hn⟩
theorem runsC_le (s : ByteArray) : ∀ (l : List Nat) (a b : Nat), RunsC s l a b → a + l.length ≤ b
  | [], a, b, h => by have : a = b := h; simp; omega
  | r :: l, a, b, h => by
    have h1 := runsC_le s l _ b h.2.2.2
    have h2 := decode_fits s a h.1
    simp only [List.length_cons]
    omega
theorem runsC_blank (s : ByteArray) : ∀ (l : List Nat) (a b : Nat), RunsC s l a b → ∀ r ∈ l, ¬ isB (r : Int)
  | [], _, _, _, r, hr => by cases hr
  | x :: l, a, b, h, r, hr => by
    rcases List.mem_cons.1 hr with e | e
    · subst e; rw [← h.2.2.1]; exact h.2.1
    · exact runsC_blank s l _ b h.2.2.2 r e
theorem ext_list (s : ByteArray) (a b : Nat) : (s.extract a b).data.toList = (s.data.toList.drop a).take (b - a) := by
  rw [← Lib.toList_data, Lib.extract_toList]
theorem mid_decode (s : ByteArray) (a b q : Nat) (hb : b ≤ s.size) (hq : a + q < b) (hw : a + q + (Utf8.decode s (a + q)).2 ≤ b) : Utf8.decode (s.extract a b) q = Utf8.decode s (a + q) := by
  have e : s.extract a b = (s.extract 0 b).extract a (s.extract 0 b).size := by
    apply ba_ext
    rw [ext_list, ext_list, ext_list, head_size s b hb, List.drop_zero, Nat.sub_zero, List.drop_take, List.take_take, Nat.min_self]
  rw [e, Lib.tail_decode, head_decode s b (a + q) hb hq hw]
theorem runs_pairs (s : ByteArray) (a b : Nat) (hb : b ≤ s.size) : ∀ (l : List Nat) (q fuel : Nat), RunsC s l (a + q) b → b ≤ a + q + fuel → (pairsFrom (s.extract a b) fuel q).map (fun x => x.2) = l
  | [], q, fuel, h, hf => by
    have e : a + q = b := h
    rw [pairsFrom_end _ _ _ (by rw [ByteArray.size_extract]; omega)]; rfl
  | r :: l, q, fuel, h, hf => by
    have h1 := runsC_le s l _ b h.2.2.2
    have h2 := decode_fits s (a + q) h.1
    have hd := mid_decode s a b q hb (by omega) (by omega)
    obtain ⟨f, rfl⟩ : ∃ f, fuel = f + 1 := ⟨fuel - 1, by omega⟩
    rw [pairsFrom_step (by rw [ByteArray.size_extract]; omega), hd, List.map_cons]
    have ih := runs_pairs s a b hb l (q + (Utf8.decode s (a + q)).2) f (by rw [← Nat.add_assoc]; exact h.2.2.2) (by omega)
    rw [ih, h.2.2.1]
theorem runs_text (s : ByteArray) {a b : Nat} {l : List Nat} (hb : b ≤ s.size) (h : RunsC s l a b) : (pairs (s.extract a b)).map (fun x => x.2) = l := by
  have hle := runsC_le s l a b h
  unfold pairs
  exact runs_pairs s a b hb l 0 _ h (by rw [ByteArray.size_extract]; omega)
/-- A word's bytes, folded. -/
def foldX (p : Bool) (s : ByteArray) (x : Nat × Nat) : List UInt8 := (foldS p (s.extract x.1 x.2)).data.toList
theorem foldX_runs (p : Bool) (s : ByteArray) {a b : Nat} {l : List Nat} (hb : b ≤ s.size) (h : RunsC s l a b) : foldX p s (a, b) = encR (foldRs p l) := by
  unfold foldX foldS
  rw [runs_text s hb h]
theorem blank_none (p : Bool) {r : Nat} (h : isB (r : Int)) : foldR p (r : Int) = [] := by
  unfold foldR
  rw [if_neg]
  unfold isB at h
  unfold isL
  omega
/-- THE WORDS OF A TEXT: each a run without a blank; their letters are the text's. -/
theorem words_spec (p : Bool) (s : ByteArray) : ∀ (f pos : Nat) (st : Option Nat) (l : List Nat), s.size ≤ pos + f → pos ≤ s.size → (match st with | none => l = [] | some a => l ≠ [] ∧ RunsC s l a pos) →
    (∀ x ∈ wordsFrom s f pos st, ∃ m, m ≠ [] ∧ RunsC s m x.1 x.2 ∧ x.2 ≤ s.size) ∧
    (wordsFrom s f pos st).flatMap (foldX p s) = encR (foldRs p (l ++ (pairsFrom s f pos).map fun x => x.2)) ∧
    ((wordsFrom s f pos st).map fun x => x.2 - x.1 + 1).sum + (match st with | none => pos | some a => a) ≤ s.size + 1 := by
  intro f
  induction f with
  | zero =>
    intro pos st l h1 h2 hst
    have e : pos = s.size := by omega
    subst e
    rw [wordsFrom_end _ _ _ _ (by omega), pairsFrom_end _ _ _ (by omega)]
    cases st with
    | none =>
      have : l = [] := hst
      subst this
      exact ⟨fun x hx => (by cases hx), rfl, (by simp [wEnd])⟩
    | some a =>
      have hle := runsC_le s l a _ hst.2
      refine ⟨fun x hx => ?_, ?_, ?_⟩
      · obtain rfl : x = (a, s.size) := by simpa [wEnd] using hx
        exact ⟨l, hst.1, hst.2, Nat.le_refl _⟩
      · simp only [wEnd, List.flatMap_cons, List.flatMap_nil, List.append_nil, List.map_nil]
        exact foldX_runs p s (Nat.le_refl _) hst.2
      · simp [wEnd]; omega
  | succ f ih =>
    intro pos st l h1 h2 hst
    by_cases hp : pos < s.size
    · have hw := decode_fits s pos hp
      rw [pairsFrom_step hp, List.map_cons]
      by_cases hb : isB ((Utf8.decode s pos).1 : Int)
      · rw [wordsFrom_blank hp hb]
        obtain ⟨i1, i2, i3⟩ := ih (pos + (Utf8.decode s pos).2) none [] (by omega) (by omega) rfl
        have hfold : foldRs p (l ++ (Utf8.decode s pos).1 :: (pairsFrom s f (pos + (Utf8.decode s pos).2)).map fun x => x.2) = foldRs p l ++ foldRs p ((pairsFrom s f (pos + (Utf8.decode s pos).2)).map fun x => x.2) := by
          rw [foldRs_append, foldRs_cons, blank_none p hb, List.nil_append]
        rw [hfold, encR_append]
        rw [List.nil_append] at i2
        cases st with
        | none =>
          have : l = [] := hst
          subst this
          refine ⟨i1, ?_, ?_⟩
          · rw [wCut, List.nil_append, i2]; rfl
          · rw [wCut, List.nil_append]; simp only at i3 ⊢; omega
        | some a =>
          have hle := runsC_le s l a _ hst.2
          refine ⟨fun x hx => ?_, ?_, ?_⟩
          · rw [wCut, List.singleton_append] at hx
            rcases List.mem_cons.1 hx with e | e
            · subst e; exact ⟨l, hst.1, hst.2, by show pos ≤ _; omega⟩
            · exact i1 x e
          · rw [wCut, List.singleton_append, List.flatMap_cons, i2, foldX_runs p s (by omega) hst.2]
          · rw [wCut, List.singleton_append, List.map_cons, List.sum_cons]; simp only at i3 ⊢; omega
      · rw [wordsFrom_step hp hb]
        cases st with
        | none =>
          have : l = [] := hst
          subst this
          obtain ⟨i1, i2, i3⟩ := ih (pos + (Utf8.decode s pos).2) (some pos) [(Utf8.decode s pos).1] (by omega) (by omega) ⟨by simp, hp, hb, rfl, rfl⟩
          refine ⟨i1, ?_, ?_⟩
          · rw [show (none : Option Nat).getD pos = pos from rfl, i2]; rfl
          · simp only [Option.getD_none] at i3 ⊢; omega
        | some a =>
          have hle := runsC_le s l a _ hst.2
          obtain ⟨i1, i2, i3⟩ := ih (pos + (Utf8.decode s pos).2) (some a) (l ++ [(Utf8.decode s pos).1]) (by omega) (by omega) ⟨by simp, runsC_snoc s l a pos hst.2 hp hb⟩
          refine ⟨i1, ?_, ?_⟩
          · rw [show (some a).getD pos = a from rfl, i2, List.append_assoc]; rfl
          · simp only [Option.getD_some] at i3 ⊢; omega
    · have e : pos = s.size := by omega
      have h0 := ih pos st l (by omega) h2 hst
      rw [wordsFrom_end _ _ _ _ hp, pairsFrom_end _ _ _ hp]
      rw [wordsFrom_end _ _ _ _ hp, pairsFrom_end _ _ _ hp] at h0
      exact h0
theorem words_clean (s : ByteArray) : ∀ w ∈ wordsT s, Clean w := by
  intro w hw
  unfold wordsT wtx at hw
  obtain ⟨x, hx, rfl⟩ := List.mem_map.1 hw
  obtain ⟨m, hm, hr, hle⟩ := (words_spec true s s.size 0 none [] (by omega) (Nat.zero_le _) rfl).1 x hx
  have h1 := runsC_le s m _ _ hr
  have h2 : 1 ≤ m.length := by
    cases m with
    | nil => exact absurd rfl hm
    | cons a r => simp
  refine ⟨by rw [ByteArray.size_extract]; omega, fun y hy => ?_⟩
  have : y.2 ∈ m := by rw [← runs_text s hle hr]; exact List.mem_map_of_mem hy
  exact runsC_blank s m _ _ hr _ this
theorem words_fold (p : Bool) (s : ByteArray) : (wordsT s).flatMap (fun w => (foldS p w).data.toList) = (foldS p s).data.toList := by
  have h := (words_spec p s s.size 0 none [] (by omega) (Nat.zero_le _) rfl).2.1
  unfold wordsT wtx
  rw [List.flatMap_map]
  have e : (foldS p s).data.toList = encR (foldRs p ((pairs s).map fun x => x.2)) := by unfold foldS; simp
  rw [e]
  exact h
theorem words_spaced (s : ByteArray) : (spaced (wordsT s)).length ≤ s.size + 1 := by
  have h := (words_spec true s s.size 0 none [] (by omega) (Nat.zero_le _) rfl)
  have h3 := h.2.2
  have h1 := h.1
  simp only [Nat.add_zero] at h3
  unfold wordsT wtx
  have hp : wordsP s = wordsFrom s s.size 0 none := rfl
  rw [hp]
  refine Nat.le_trans (Nat.le_of_eq ?_) h3
  generalize wordsFrom s s.size 0 none = L at *
  clear h3 h hp
  induction L with
  | nil => rfl
  | cons x r ih =>
    obtain ⟨m, _, hr, hle⟩ := h1 x (by simp)
    have hx := runsC_le s m _ _ hr
    rw [List.map_cons, List.map_cons, List.sum_cons, spaced_cons, List.length_cons, List.length_append, ih (fun y hy => h1 y (by simp [hy])), ba_len, ByteArray.size_extract]
    omega
end Go.Proofs.YtjgmmfkeogkakaaGreat.Utf
/-
  Mathematics: a text without the blanks at both ends; the score that it writes; beside the program's words.
-/
namespace Go.Proofs.YtjgmmfkeogkakaaGreat.Utf
open Go Go.Lib

/-- A byte below 128 is a rune of its own; behind others' first bytes stands none. -/
theorem decodeN_low (n b0 b1 b2 b3 : Nat) : ((decodeN n b0 b1 b2 b3).1 < 128 ↔ b0 < 128) ∧ (b0 < 128 → decodeN n b0 b1 b2 b3 = (b0, 1)) ∧ (1 < (decodeN n b0 b1 b2 b3).2 → 128 ≤ b1) ∧ (2 < (decodeN n b0 b1 b2 b3).2 → 128 ≤ b2) ∧ (3 < (decodeN n b0 b1 b2 b3).2 → 128 ≤ b3) := by
  by_cases h1 : b0 < 128
  · rw [dN1 h1]
    exact ⟨⟨fun _ => h1, fun _ => h1⟩, fun _ => rfl, fun h => by simp at h, fun h => by simp at h, fun h => by simp at h⟩
  · by_cases h2 : b0 / 32 = 6
    · by_cases p : P2 n b0 b1
      · rw [dN2y h2 p]
        unfold P2 at p
        simp only
        omega
      · rw [dN2n h2 p]
        simp only
        omega
    · by_cases h3 : b0 / 16 = 14
      · by_cases p : P3 n b0 b1 b2
        · rw [dN3y h3 p]
          unfold P3 at p
          simp only
          omega
        · rw [dN3n h3 p]
          simp only
          omega
      · by_cases h4 : b0 / 8 = 30
        · by_cases p : P4 n b0 b1 b2 b3
          · rw [dN4y h4 p]
            unfold P4 at p
            simp only
            omega
          · rw [dN4n h4 p]
            simp only
            omega
        · rw [dN0 h1 h2 h3 h4]
          simp only
          omega
theorem decode_low (s : ByteArray) (p : Nat) (hp : p < s.size) : ((Utf8.decode s p).1 < 128 ↔ (s.get! p).toNat < 128) ∧ ((s.get! p).toNat < 128 → Utf8.decode s p = ((s.get! p).toNat, 1)) ∧ (∀ i, 1 ≤ i → i < (Utf8.decode s p).2 → 128 ≤ (s.get! (p + i)).toNat) := by
  have h := decodeN_low (s.size - p) (s.get! p).toNat (s.get! (p + 1)).toNat (s.get! (p + 2)).toNat (s.get! (p + 3)).toNat
  have h4 := (decodeN_fits (s.size - p) (s.get! p).toNat (s.get! (p + 1)).toNat (s.get! (p + 2)).toNat (s.get! (p + 3)).toNat (by omega)).2.2
  rw [decode_at]
  refine ⟨h.1, h.2.1, fun i h1 h2 => ?_⟩
  match i, h1, h2 with
  | 1, _, h2 => exact h.2.2.1 h2
  | 2, _, h2 => exact h.2.2.2.1 h2
  | 3, _, h2 => exact h.2.2.2.2 h2
  | i + 4, _, h2 => omega
theorem encB_low {r : Nat} (h : r < 128) : encB r = [UInt8.ofNat r] := by
  rw [encB, encZ1 (by omega) (by omega)]
  rfl
theorem encR_bytesT (l : List UInt8) (h : ∀ b ∈ l, b.toNat < 128) : encR (l.map UInt8.toNat) = l := by
  induction l with
  | nil => rfl
  | cons b l ih =>
    have hb := h b (by simp)
    have he : encB b.toNat = [b] := by rw [encB_low hb, UInt8.ofNat_toNat]
    rw [List.map_cons, encR_cons, ih (fun x hx => h x (by simp [hx])), he]
    rfl
theorem get_eq (s : ByteArray) {k : Nat} (h : k < s.size) : s.get! k = s[k]'h := by
  obtain ⟨d⟩ := s
  exact getElem!_pos d k h
/-- The pairs from a place to a place. -/
def RunsP (s : ByteArray) : List (Nat × Nat) → Nat → Nat → Prop
  | [], a, b => a = b
  | x :: l, a, b => a < s.size ∧ x = (a, (Utf8.decode s a).1) ∧ RunsP s l (a + (Utf8.decode s a).2) b
theorem runsP_from (s : ByteArray) : ∀ f a, s.size ≤ a + f → a ≤ s.size → RunsP s (pairsFrom s f a) a s.size
  | 0, a, h, h2 => (show a = s.size by omega)
  | f + 1, a, h, h2 => by
    by_cases hp : a < s.size
    · have hd := decode_fits s a hp
      rw [pairsFrom_step hp]
      exact ⟨hp, rfl, runsP_from s f _ (by omega) hd.2⟩
    · rw [pairsFrom_end _ _ _ hp]
      exact (show a = s.size by omega)
theorem runsP_all (s : ByteArray) : RunsP s (pairs s) 0 s.size := runsP_from s _ 0 (by omega) (Nat.zero_le _)
theorem runsP_split (s : ByteArray) : ∀ (l m : List (Nat × Nat)) (a b : Nat), RunsP s (l ++ m) a b → ∃ c, RunsP s l a c ∧ RunsP s m c b
  | [], _, a, _, h => ⟨a, rfl, h⟩
  | x :: l, m, a, b, h => by
    obtain ⟨h1, h2, h3⟩ := h
    obtain ⟨c, k1, k2⟩ := runsP_split s l m _ b h3
    exact ⟨c, ⟨h1, h2, k1⟩, k2⟩
theorem runsP_le (s : ByteArray) : ∀ (l : List (Nat × Nat)) (a b : Nat), RunsP s l a b → a + l.length ≤ b
  | [], a, b, h => by have : a = b := h; simp; omega
  | x :: l, a, b, h => by
    have h1 := runsP_le s l _ b h.2.2
    have h2 := decode_fits s a h.1
    simp only [List.length_cons]
    omega
theorem runsP_sub (s : ByteArray) (a b : Nat) (hb : b ≤ s.size) : ∀ (l : List (Nat × Nat)) (q fuel : Nat), RunsP s l (a + q) b → b ≤ a + q + fuel → (pairsFrom (s.extract a b) fuel q).map (fun x => x.2) = l.map fun x => x.2
  | [], q, fuel, h, hf => by
    have e : a + q = b := h
    rw [pairsFrom_end _ _ _ (by rw [ByteArray.size_extract]; omega)]
  | x :: l, q, fuel, h, hf => by
    have h1 := runsP_le s l _ b h.2.2
    have h2 := decode_fits s (a + q) h.1
    have hd := mid_decode s a b q hb (by omega) (by omega)
    obtain ⟨f, rfl⟩ : ∃ f, fuel = f + 1 := ⟨fuel - 1, by omega⟩
    rw [pairsFrom_step (by rw [ByteArray.size_extract]; omega), hd, List.map_cons]
    have ih := runsP_sub s a b hb l (q + (Utf8.decode s (a + q)).2) f (by rw [← Nat.add_assoc]; exact h.2.2) (by omega)
    rw [ih, h.2.1]
    rfl
theorem runsP_text (s : ByteArray) {a b : Nat} {l : List (Nat × Nat)} (hb : b ≤ s.size) (h : RunsP s l a b) : (pairs (s.extract a b)).map (fun x => x.2) = l.map fun x => x.2 := by
  have hle := runsP_le s l a b h
  unfold pairs
  exact runsP_sub s a b hb l 0 _ h (by rw [ByteArray.size_extract]; omega)
/-- A text whose runes are below 128 has just these bytes. -/
theorem low_bytes (s : ByteArray) : ∀ (f a : Nat), s.size ≤ a + f → (∀ x ∈ pairsFrom s f a, x.2 < 128) → (pairsFrom s f a).map (fun x => x.2) = (s.data.toList.drop a).map UInt8.toNat
  | 0, a, h, _ => by
    rw [List.drop_eq_nil_of_le (by rw [ba_len]; omega)]; rfl
  | f + 1, a, h, hl => by
    by_cases hp : a < s.size
    · rw [pairsFrom_step hp] at hl ⊢
      have h0 := hl (a, (Utf8.decode s a).1) (by simp)
      obtain ⟨k1, k2, _⟩ := decode_low s a hp
      have hb := k1.1 h0
      rw [k2 hb] at hl ⊢
      rw [List.map_cons, low_bytes s f (a + 1) (by omega) (fun x hx => hl x (by simp [hx]))]
      have hal : a < s.data.toList.length := by rw [ba_len]; exact hp
      rw [List.drop_eq_getElem_cons hal, List.map_cons]
      congr 1
      rw [get_eq s hp, ByteArray.getElem_eq_getElem_data, Array.getElem_toList]
    · rw [pairsFrom_end _ _ _ hp, List.drop_eq_nil_of_le (by rw [ba_len]; omega)]; rfl
/-- Without the blanks at both ends. -/
def IsTrim (s t : ByteArray) : Prop := (t = ⟨#[]⟩ ∧ ∀ x ∈ pairs s, isB (x.2 : Int)) ∨
  ∃ (pre mid post : List (Nat × Nat)) (x : Nat × Nat) (m1 m2 : List (Nat × Nat)) (y : Nat × Nat) (b : Nat), pairs s = pre ++ (mid ++ post) ∧ (∀ z ∈ pre, isB (z.2 : Int)) ∧ (∀ z ∈ post, isB (z.2 : Int)) ∧ mid = x :: m1 ∧ mid = m2 ++ [y] ∧ ¬ isB (x.2 : Int) ∧ ¬ isB (y.2 : Int) ∧ b = (post.head?.map (·.1)).getD s.size ∧ t = s.extract x.1 b
def scoreD (t : ByteArray) : Int := if t.size < 1 ∨ 3 < t.size then -1 else if ∀ b ∈ t.data.toList, 48 ≤ b.toNat ∧ b.toNat ≤ 57 then (if 100 < (t.data.toList.foldl (fun n b => n * 10 + (b.toNat - 48)) 0) then -1 else ((t.data.toList.foldl (fun n b => n * 10 + (b.toNat - 48)) 0 : Nat) : Int)) else -1
def cntW : List Nat → Bool → Nat
  | [], b => if b then 1 else 0
  | r :: l, b => if isB (r : Int) then (if b then 1 else 0) + cntW l false else cntW l true
theorem cntW_len (s : ByteArray) : ∀ (f a : Nat) (st : Option Nat), s.size ≤ a + f → (wordsFrom s f a st).length = cntW ((pairsFrom s f a).map fun x => x.2) st.isSome
  | 0, a, st, h => by cases st <;> rfl
  | f + 1, a, st, h => by
    by_cases hp : a < s.size
    · have hd := decode_fits s a hp
      rw [pairsFrom_step hp, List.map_cons, cntW]
      by_cases hb : isB ((Utf8.decode s a).1 : Int)
      · rw [wordsFrom_blank hp hb, if_pos hb, List.length_append, cntW_len s f _ none (by omega)]
        cases st <;> rfl
      · rw [wordsFrom_step hp hb, if_neg hb, cntW_len s f _ _ (by omega)]
        rfl
    · rw [pairsFrom_end _ _ _ hp, wordsFrom_end _ _ _ _ hp]
      cases st <;> rfl
theorem cntW_true : ∀ (l : List Nat), 1 ≤ cntW l true
  | [] => by simp [cntW]
  | r :: l => by
    rw [cntW]
    split
    · simp
    · exact cntW_true l
theorem cntW_blanks : ∀ (l m : List Nat), (∀ r ∈ l, isB (r : Int)) → cntW (l ++ m) false = cntW m false
  | [], _, _ => rfl
  | r :: l, m, h => by
    rw [List.cons_append, cntW, if_pos (h r (by simp)), cntW_blanks l m (fun x hx => h x (by simp [hx]))]
    simp
theorem cntW_some : ∀ (l : List Nat) (b : Bool), (∃ r ∈ l, ¬ isB (r : Int)) → 1 ≤ cntW l b
  | [], _, h => by obtain ⟨r, hr, _⟩ := h; cases hr
  | x :: l, b, h => by
    rw [cntW]
    by_cases hx : isB (x : Int)
    · rw [if_pos hx]
      obtain ⟨r, hr, hn⟩ := h
      rcases List.mem_cons.1 hr with rfl | hr
      · exact absurd hx hn
      · have := cntW_some l false ⟨r, hr, hn⟩
        omega
    · rw [if_neg hx]; exact cntW_true l
/-- A blank between two others: two words at least. -/
theorem cntW_two : ∀ (l : List Nat) (u : Nat) (m : List Nat), isB (u : Int) → (∃ r ∈ m, ¬ isB (r : Int)) → 2 ≤ cntW (l ++ u :: m) true
  | [], u, m, hu, hm => by
    rw [List.nil_append, cntW, if_pos hu]
    have := cntW_some m false hm
    simp; omega
  | x :: l, u, m, hu, hm => by
    rw [List.cons_append, cntW]
    by_cases hx : isB (x : Int)
    · rw [if_pos hx]
      have := cntW_some (l ++ u :: m) false (by obtain ⟨r, hr, hn⟩ := hm; exact ⟨r, by simp [hr], hn⟩)
      simp; omega
    · rw [if_neg hx]; exact cntW_two l u m hu hm
theorem words_mid (s : ByteArray) : ∀ (mid : List (Nat × Nat)) (a c q f : Nat), RunsP s mid a c → (∀ z ∈ mid, ¬ isB (z.2 : Int)) → s.size ≤ a + f → ∃ g, s.size ≤ c + g ∧ wordsFrom s f a (some q) = wordsFrom s g c (some q)
  | [], a, c, q, f, h, _, hf => by have e : a = c := h; subst e; exact ⟨f, hf, rfl⟩
  | x :: l, a, c, q, f, h, hn, hf => by
    obtain ⟨h1, h2, h3⟩ := h
    have hd := decode_fits s a h1
    obtain ⟨g, rfl⟩ : ∃ g, f = g + 1 := ⟨f - 1, by omega⟩
    have hb := hn x (by simp)
    rw [h2] at hb
    obtain ⟨g2, k1, k2⟩ := words_mid s l _ c q g h3 (fun z hz => hn z (by simp [hz])) (by omega)
    exact ⟨g2, k1, by rw [wordsFrom_step h1 hb, ← k2]; rfl⟩
theorem words_pre (s : ByteArray) : ∀ (pre : List (Nat × Nat)) (a c f : Nat), RunsP s pre a c → (∀ z ∈ pre, isB (z.2 : Int)) → s.size ≤ a + f → ∃ g, s.size ≤ c + g ∧ wordsFrom s f a none = wordsFrom s g c none
  | [], a, c, f, h, _, hf => by have e : a = c := h; subst e; exact ⟨f, hf, rfl⟩
  | x :: l, a, c, f, h, hn, hf => by
    obtain ⟨h1, h2, h3⟩ := h
    have hd := decode_fits s a h1
    obtain ⟨g, rfl⟩ : ∃ g, f = g + 1 := ⟨f - 1, by omega⟩
    have hb := hn x (by simp)
    rw [h2] at hb
    obtain ⟨g2, k1, k2⟩ := words_pre s l _ c g h3 (fun z hz => hn z (by simp [hz])) (by omega)
    exact ⟨g2, k1, by rw [wordsFrom_blank h1 hb, ← k2]; rfl⟩
theorem words_post (s : ByteArray) : ∀ (post : List (Nat × Nat)) (a q f : Nat), RunsP s post a s.size → (∀ z ∈ post, isB (z.2 : Int)) → s.size ≤ a + f → wordsFrom s f a (some q) = [(q, a)] ∧ wordsFrom s f a none = []
  | [], a, q, f, h, _, hf => by have e : a = s.size := h; rw [wordsFrom_end _ _ _ _ (by omega), wordsFrom_end _ _ _ _ (by omega), e]; exact ⟨rfl, rfl⟩
  | x :: l, a, q, f, h, hn, hf => by
    obtain ⟨h1, h2, h3⟩ := h
    have hd := decode_fits s a h1
    obtain ⟨g, rfl⟩ : ∃ g, f = g + 1 := ⟨f - 1, by omega⟩
    have hb := hn x (by simp)
    rw [h2] at hb
    have k := (words_post s l _ q g h3 (fun z hz => hn z (by simp [hz])) (by omega)).2
    rw [wordsFrom_blank h1 hb, wordsFrom_blank h1 hb, k]
    exact ⟨rfl, rfl⟩
theorem isDg_noB {n : Nat} (h : isDg n) : ¬ isB (n : Int) := by unfold isDg at h; unfold isB; omega
/-- THE DOCUMENT'S SCORE AND THE PROGRAM'S. -/
theorem score_same {s t : ByteArray} (h : IsTrim s t) : ((scoreP s).2 = true ∧ scoreD t = ((scoreP s).1 : Nat)) ∨ ((scoreP s).2 = false ∧ scoreD t = -1) := by
  rcases h with ⟨rfl, h⟩ | ⟨pre, mid, post, x, m1, m2, y, b, hps, hpre, hpost, hm1, hm2, hx, hy, hb, rfl⟩
  · right
    have hl : (wordsP s).length = 0 := by
      unfold wordsP
      rw [cntW_len s _ _ _ (by omega)]
      have := cntW_blanks ((pairsFrom s s.size 0).map fun x => x.2) [] (fun r hr => by obtain ⟨z, hz, rfl⟩ := List.mem_map.1 hr; exact h z hz)
      rw [List.append_nil] at this
      exact this
    refine ⟨?_, by unfold scoreD; rw [if_pos (.inl (by decide))]⟩
    unfold scoreP
    rw [if_neg (by rw [hl]; decide)]
  · have hR := runsP_all s
    rw [hps] at hR
    obtain ⟨a, r1, r2⟩ := runsP_split s pre _ 0 _ hR
    obtain ⟨c, r3, r4⟩ := runsP_split s mid post a _ r2
    have hxa : x.1 = a := by
      rw [hm1] at r3
      rw [r3.2.1]
    have hbc : b = c := by
      rw [hb]
      cases post with
      | nil => exact (show s.size = c from (show c = s.size from r4).symm)
      | cons z l => rw [List.head?_cons, Option.map_some, Option.getD_some, r4.2.1]
    subst hbc
    rw [hxa]
    have hbs : b ≤ s.size := by have := runsP_le s post b _ r4; omega
    have hab := runsP_le s mid a b r3
    have hml : 1 ≤ mid.length := by rw [hm1]; simp
    have hruns := runsP_text s hbs r3
    have htz : (s.extract a b).size = b - a := by rw [ByteArray.size_extract]; omega
    have hone : (∀ z ∈ mid, ¬ isB (z.2 : Int)) → wordsP s = [(a, b)] := fun hn => by
      obtain ⟨g, k1, k2⟩ := words_pre s pre 0 a s.size r1 hpre (by omega)
      obtain ⟨g2, k3, k4⟩ : ∃ g2, s.size ≤ b + g2 ∧ wordsFrom s g a none = wordsFrom s g2 b (some a) := by
        subst hm1
        obtain ⟨h1, h2, h3⟩ := r3
        have hd := decode_fits s a h1
        obtain ⟨f, rfl⟩ : ∃ f, g = f + 1 := ⟨g - 1, by omega⟩
        have hbx := hn x (by simp)
        rw [h2] at hbx
        obtain ⟨g2, e1, e2⟩ := words_mid s m1 _ b a f h3 (fun z hz => hn z (by simp [hz])) (by omega)
        exact ⟨g2, e1, by rw [wordsFrom_step h1 hbx, ← e2]; rfl⟩
      unfold wordsP
      rw [k2, k4]
      exact (words_post s post b a g2 r4 hpost k3).1
    have hcnt : (∃ z ∈ mid, isB (z.2 : Int)) → 2 ≤ (wordsP s).length := fun ⟨z, hz, hzb⟩ => by
      unfold wordsP
      rw [cntW_len s _ _ _ (by omega), show pairsFrom s s.size 0 = pairs s from rfl, hps, List.map_append, show (none : Option Nat).isSome = false from rfl, cntW_blanks _ _ (fun r hr => by obtain ⟨u, hu, rfl⟩ := List.mem_map.1 hr; exact hpre u hu)]
      have hzx : z ≠ x := fun e => hx (by rw [← e]; exact hzb)
      have hzy : z ≠ y := fun e => hy (by rw [← e]; exact hzb)
      have hz2 : z ∈ m1 := by
        rw [hm1] at hz
        rcases List.mem_cons.1 hz with e | e
        · exact absurd e hzx
        · exact e
      obtain ⟨p1, p2, rfl⟩ := List.append_of_mem hz2
      have hyp : y ∈ p2 := by
        have hl : (x :: (p1 ++ z :: p2)).getLast? = some y := by rw [← hm1, hm2]; simp
        rw [show x :: (p1 ++ z :: p2) = (x :: p1) ++ (z :: p2) by simp, List.getLast?_append] at hl
        cases p2 with
        | nil =>
          simp at hl
          exact absurd hl hzy
        | cons q p3 =>
          rw [List.getLast?_cons_cons] at hl
          have : (q :: p3).getLast? = some y := by
            cases e : (q :: p3).getLast? with
            | none => simp at e
            | some v => rw [e] at hl; simpa using hl
          exact List.mem_of_getLast? this
      rw [hm1, List.cons_append, List.map_cons, cntW, if_neg hx, List.append_assoc, List.map_append, List.cons_append, List.map_cons]
      exact cntW_two _ _ _ hzb ⟨y.2, List.mem_map.2 ⟨y, by simp [hyp], rfl⟩, hy⟩
    by_cases hdig : ∀ u ∈ (s.extract a b).data.toList, 48 ≤ u.toNat ∧ u.toNat ≤ 57
    · have hbytes : (pairs (s.extract a b)).map (fun x => x.2) = (s.extract a b).data.toList.map UInt8.toNat := by
        have e : s.extract a b = ⟨(encR ((s.extract a b).data.toList.map UInt8.toNat)).toArray⟩ := ba_eq (by
          show _ = encR _
          rw [encR_bytesT _ (fun u hu => by have := hdig u hu; omega)])
        conv => lhs; rw [e]
        exact written_self fun r hr => by
          obtain ⟨u, hu, rfl⟩ := List.mem_map.1 hr
          have := hdig u hu
          rw [wr_valid (by omega)]; omega
      have hall : ∀ z ∈ pairs (s.extract a b), isDg z.2 := fun z hz => by
        have : z.2 ∈ (s.extract a b).data.toList.map UInt8.toNat := by rw [← hbytes]; exact List.mem_map_of_mem hz
        obtain ⟨u, hu, e⟩ := List.mem_map.1 this
        rw [← e]; exact hdig u hu
      have hmid : ∀ z ∈ mid, ¬ isB (z.2 : Int) := fun z hz => by
        have : z.2 ∈ (pairs (s.extract a b)).map fun x => x.2 := by rw [hruns]; exact List.mem_map_of_mem hz
        obtain ⟨u, hu, e⟩ := List.mem_map.1 this
        rw [← e]; exact isDg_noB (hall u hu)
      have hw := hone hmid
      have hT : (wordsT s).headD ⟨#[]⟩ = s.extract a b := by unfold wordsT; rw [hw]; rfl
      have hfold : digR (pairs (s.extract a b)) = (s.extract a b).data.toList.foldl (fun n u => n * 10 + (u.toNat - 48)) 0 := by
        have : ∀ (l : List (Nat × Nat)) (m : List UInt8) (n : Nat), l.map (fun x => x.2) = m.map UInt8.toNat → l.foldl (fun n x => 10 * n + (x.2 - 48)) n = m.foldl (fun n u => n * 10 + (u.toNat - 48)) n := by
          intro l
          induction l with
          | nil => intro m n h; cases m with
            | nil => rfl
            | cons u m => cases h
          | cons z l ih => intro m n h; cases m with
            | nil => cases h
            | cons u m =>
              rw [List.map_cons, List.map_cons] at h
              injection h with h1 h2
              rw [List.foldl_cons, List.foldl_cons, h1, Nat.mul_comm 10 n]
              exact ih m _ h2
        exact this _ _ 0 hbytes
      unfold scoreP scoreD
      rw [if_pos (by rw [hw]; rfl), hT]
      by_cases h3 : 3 < (s.extract a b).size
      · rw [if_pos h3, if_pos (.inr h3)]; exact .inr ⟨rfl, rfl⟩
      · rw [if_neg h3, if_pos hall, if_neg (by omega), if_pos hdig, hfold]
        generalize (s.extract a b).data.toList.foldl (fun n u => n * 10 + (u.toNat - 48)) 0 = n
        by_cases hn : 100 < n
        · rw [if_pos hn]; exact .inr ⟨decide_eq_false (by omega), rfl⟩
        · rw [if_neg hn]; exact .inl ⟨decide_eq_true (by omega), rfl⟩
    · right
      have hD : scoreD (s.extract a b) = -1 := by
        unfold scoreD
        by_cases h1 : (s.extract a b).size < 1 ∨ 3 < (s.extract a b).size
        · rw [if_pos h1]
        · rw [if_neg h1, if_neg hdig]
      refine ⟨?_, hD⟩
      by_cases hmid : ∀ z ∈ mid, ¬ isB (z.2 : Int)
      · have hw := hone hmid
        have hT : (wordsT s).headD ⟨#[]⟩ = s.extract a b := by unfold wordsT; rw [hw]; rfl
        unfold scoreP
        rw [if_pos (by rw [hw]; rfl), hT]
        by_cases h3 : 3 < (s.extract a b).size
        · rw [if_pos h3]
        · rw [if_neg h3, if_neg]
          intro hall
          apply hdig
          have hlow := low_bytes (s.extract a b) (s.extract a b).size 0 (by omega) (fun z hz => by have h5 := hall z hz; unfold isDg at h5; omega)
          rw [List.drop_zero] at hlow
          intro u hu
          have : u.toNat ∈ (pairsFrom (s.extract a b) (s.extract a b).size 0).map fun x => x.2 := by rw [hlow]; exact List.mem_map_of_mem hu
          obtain ⟨z, hz, e⟩ := List.mem_map.1 this
          have := hall z hz
          rw [e] at this
          exact this
      · have hex : ∃ z ∈ mid, isB (z.2 : Int) := Classical.byContradiction fun h => hmid fun z hz hb => h ⟨z, hz, hb⟩
        have := hcnt hex
        unfold scoreP
        rw [if_neg (by omega)]
end Go.Proofs.YtjgmmfkeogkakaaGreat.Utf
