/-
  Plain facts on words: none has a blank or is empty; their letters are the text's; joined by spaces they are the words again.
-/
import Derived.Test.YtjfkihljgicijaaWrdm
import Derived.Test.YtjfkihljgicijaaJoim
namespace Go.Proofs.Ytjfkihljgicijaa.Utf
open Go Go.Lib

/-- What follows a text in which a rune stands changes nothing of it, if it can't go on a rune. -/
theorem decodeN_on (n m b0 b1 b2 b3 c1 c2 c3 : Nat) (hm : 1 ≤ m) (hmn : m ≤ n) (h1 : 1 < m → c1 = b1) (h2 : 2 < m → c2 = b2) (h3 : 3 < m → c3 = b3)
    (k1 : m = 1 → n = 1 ∨ b1 / 64 ≠ 2) (k2 : m = 2 → n = 2 ∨ b2 / 64 ≠ 2) (k3 : m = 3 → n = 3 ∨ b3 / 64 ≠ 2) : decodeN n b0 b1 b2 b3 = decodeN m b0 c1 c2 c3 := by
  by_cases q1 : b0 < 128
  · rw [dN1 q1, dN1 q1]
  by_cases q2 : b0 / 32 = 6
  · by_cases p : P2 n b0 b1
    · have pm : 1 < m := by unfold P2 at p; omega
      have e1 := h1 pm
      subst e1
      rw [dN2y q2 p, dN2y q2 (by unfold P2 at p ⊢; omega)]
    · rw [dN2n q2 p, dN2n q2 (fun pm => p (by
        have e1 := h1 (by unfold P2 at pm; omega)
        subst e1
        unfold P2 at pm ⊢; omega))]
  by_cases q3 : b0 / 16 = 14
  · by_cases p : P3 n b0 b1 b2
    · have pm : 2 < m := by
        have p1 := p.1
        have p2 := p.2.1
        have p3 := p.2.2.1
        omega
      have e1 := h1 (by omega)
      have e2 := h2 pm
      subst e1 e2
      rw [dN3y q3 p, dN3y q3 ⟨pm, p.2⟩]
    · rw [dN3n q3 p, dN3n q3 (fun pm => p (by
        have e1 := h1 (by have := pm.1; omega)
        have e2 := h2 pm.1
        subst e1 e2
        exact ⟨by have := pm.1; omega, pm.2⟩))]
  by_cases q4 : b0 / 8 = 30
  · by_cases p : P4 n b0 b1 b2 b3
    · have pm : 3 < m := by
        have p1 := p.1
        have p2 := p.2.1
        have p3 := p.2.2.1
        have p4 := p.2.2.2.1
        omega
      have e1 := h1 (by omega)
      have e2 := h2 (by omega)
      have e3 := h3 pm
      subst e1 e2 e3
      rw [dN4y q4 p, dN4y q4 ⟨pm, p.2⟩]
    · rw [dN4n q4 p, dN4n q4 (fun pm => p (by
        have e1 := h1 (by have := pm.1; omega)
        have e2 := h2 (by have := pm.1; omega)
        have e3 := h3 pm.1
        subst e1 e2 e3
        exact ⟨by have := pm.1; omega, pm.2⟩))]
  · rw [dN0 q1 q2 q3 q4, dN0 q1 q2 q3 q4]

/-- Nothing, or a byte that goes on no rune. -/
def Ahead (t : List UInt8) : Prop := t = [] ∨ ∃ b r, t = b :: r ∧ b.toNat / 64 ≠ 2
theorem dec_in (S w : ByteArray) (pre t : List UInt8) (q : Nat) (h : S.data.toList = pre ++ (w.data.toList ++ t)) (hq : q < w.size) (ht : Ahead t) : Utf8.decode S (pre.length + q) = Utf8.decode w q := by
  have hw := ba_len w
  have hl : S.size = pre.length + (w.size + t.length) := by rw [← ba_len, h]; simp [hw]
  have g : ∀ i, i < w.size → S.get! (pre.length + i) = w.get! i := fun i hi => by
    rw [← Lib.getD_get!' S, ← Lib.getD_get!' w, h, List.getD, List.getD, List.getElem?_append_right (by omega), Nat.add_sub_cancel_left, List.getElem?_append_left (by omega)]
  have gt : ∀ b r, t = b :: r → S.get! (pre.length + w.size) = b := fun b r e => by
    rw [← Lib.getD_get!' S, h, e, List.getD, List.getElem?_append_right (by omega), Nat.add_sub_cancel_left, List.getElem?_append_right (by omega), hw, Nat.sub_self]
    rfl
  have nx : ∀ i, q + i = w.size → S.size - (pre.length + q) = i ∨ (S.get! (pre.length + (q + i))).toNat / 64 ≠ 2 := fun i hi => by
    rcases ht with e | ⟨b, r, e, hb⟩
    · left; rw [e] at hl; simp at hl; omega
    · right; rw [hi, gt b r e]; exact hb
  rw [decode_at, decode_at w, g q hq]
  refine decodeN_on _ _ _ _ _ _ _ _ _ (by omega) (by omega) (fun e => ?_) (fun e => ?_) (fun e => ?_) (fun e => ?_) (fun e => ?_) (fun e => ?_)
  · rw [Nat.add_assoc, g (q + 1) (by omega)]
  · rw [Nat.add_assoc, g (q + 2) (by omega)]
  · rw [Nat.add_assoc, g (q + 3) (by omega)]
  · rw [Nat.add_assoc]; exact nx 1 (by omega)
  · rw [Nat.add_assoc]; exact nx 2 (by omega)
  · rw [Nat.add_assoc]; exact nx 3 (by omega)

/-- A word: it has a byte, and no blank among its runes. -/
def Clean (w : ByteArray) : Prop := 0 < w.size ∧ ∀ x ∈ pairs w, ¬ isB ((x.2 : Nat) : Int)
theorem words_fuel (s : ByteArray) : ∀ f g pos st, s.size ≤ pos + f → s.size ≤ pos + g → wordsFrom s f pos st = wordsFrom s g pos st
  | 0, g, pos, st, h1, h2 => by rw [wordsFrom_end s g pos st (by omega), wordsFrom_end s 0 pos st (by omega)]
  | f + 1, g, pos, st, h1, h2 => by
    by_cases hp : pos < s.size
    · obtain ⟨g, rfl⟩ : ∃ g', g = g' + 1 := ⟨g - 1, by omega⟩
      have hw := decode_fits s pos hp
      by_cases hb : isB ((Utf8.decode s pos).1 : Int)
      · rw [wordsFrom_blank hp hb, wordsFrom_blank hp hb, words_fuel s f g _ _ (by omega) (by omega)]
      · rw [wordsFrom_step hp hb, wordsFrom_step hp hb, words_fuel s f g _ _ (by omega) (by omega)]
    · rw [wordsFrom_end s _ pos st hp, wordsFrom_end s _ pos st hp]
/-- Through a word that stands in a text. -/
theorem through (S w : ByteArray) (pre t : List UInt8) (h : S.data.toList = pre ++ (w.data.toList ++ t)) (ht : Ahead t) : ∀ (f q : Nat) (st : Option Nat) (g : Nat), w.size ≤ q + f → q ≤ w.size → S.size ≤ pre.length + q + g →
    (∀ x ∈ pairsFrom w f q, ¬ isB ((x.2 : Nat) : Int)) → q < w.size →
    wordsFrom S g (pre.length + q) st = wordsFrom S S.size (pre.length + w.size) (some (st.getD (pre.length + q)))
  | 0, q, st, g, h1, h2, h3, h4, h5 => by omega
  | f + 1, q, st, g, h1, h2, h3, h4, h5 => by
    have hw := ba_len w
    have hl : S.size = pre.length + (w.size + t.length) := by rw [← ba_len, h]; simp [hw]
    have hd := dec_in S w pre t q h h5 ht
    have hf := decode_fits w q h5
    obtain ⟨g, rfl⟩ : ∃ g', g = g' + 1 := ⟨g - 1, by omega⟩
    rw [pairsFrom_step h5] at h4
    have hb := h4 _ (List.mem_cons_self ..)
    have hr : ∀ x ∈ pairsFrom w f (q + (Utf8.decode w q).2), ¬ isB ((x.2 : Nat) : Int) := fun x hx => h4 x (List.mem_cons_of_mem _ hx)
    rw [wordsFrom_step (by omega) (by rw [hd]; exact hb), hd, Nat.add_assoc]
    by_cases he : q + (Utf8.decode w q).2 < w.size
    · rw [through S w pre t h ht f (q + (Utf8.decode w q).2) _ g (by omega) (by omega) (by omega) hr he]
      simp
    · have : q + (Utf8.decode w q).2 = w.size := by omega
      rw [this]
      exact words_fuel S g S.size _ _ (by omega) (by omega)
end Go.Proofs.Ytjfkihljgicijaa.Utf
