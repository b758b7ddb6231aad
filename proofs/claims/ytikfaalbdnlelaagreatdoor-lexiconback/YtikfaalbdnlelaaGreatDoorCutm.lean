/-
  Plain facts on cutting a text behind n runes: the two pieces' places and runes are those of the text, in order.
-/
import Derived.Test.YtikfaalbdnlelaaGreatDoorUtfp
import Derived.Lib.RuneCountTail
namespace Go.Proofs.YtikfaalbdnlelaaGreatDoor.Utf
open Go Go.Lib

theorem decodeN_fits (n b0 b1 b2 b3 : Nat) (h : 1 ≤ n) : 1 ≤ (decodeN n b0 b1 b2 b3).2 ∧ (decodeN n b0 b1 b2 b3).2 ≤ n ∧ (decodeN n b0 b1 b2 b3).2 ≤ 4 := by
  unfold decodeN
  repeat' split
  all_goals (simp only; omega)
theorem decode_fits (s : ByteArray) (pos : Nat) (h : pos < s.size) : 1 ≤ (Utf8.decode s pos).2 ∧ pos + (Utf8.decode s pos).2 ≤ s.size := by
  rw [decode_at]
  have := decodeN_fits (s.size - pos) (s.get! pos).toNat (s.get! (pos + 1)).toNat (s.get! (pos + 2)).toNat (s.get! (pos + 3)).toNat (by omega)
  omega
/-! The decoder, a class of lead bytes at a time. -/
def P2 (n b0 b1 : Nat) : Prop := 1 < n ∧ b1 / 64 = 2 ∧ 128 ≤ b0 % 32 * 64 + b1 % 64
def P3 (n b0 b1 b2 : Nat) : Prop := 2 < n ∧ b1 / 64 = 2 ∧ b2 / 64 = 2 ∧ 2048 ≤ b0 % 16 * 4096 + b1 % 64 * 64 + b2 % 64 ∧ (b0 % 16 * 4096 + b1 % 64 * 64 + b2 % 64 < 55296 ∨ (57344 ≤ b0 % 16 * 4096 + b1 % 64 * 64 + b2 % 64 ∧ b0 % 16 * 4096 + b1 % 64 * 64 + b2 % 64 ≤ 1114111))
def P4 (n b0 b1 b2 b3 : Nat) : Prop := 3 < n ∧ b1 / 64 = 2 ∧ b2 / 64 = 2 ∧ b3 / 64 = 2 ∧ 65536 ≤ b0 % 8 * 262144 + b1 % 64 * 4096 + b2 % 64 * 64 + b3 % 64 ∧ (b0 % 8 * 262144 + b1 % 64 * 4096 + b2 % 64 * 64 + b3 % 64 < 55296 ∨ (57344 ≤ b0 % 8 * 262144 + b1 % 64 * 4096 + b2 % 64 * 64 + b3 % 64 ∧ b0 % 8 * 262144 + b1 % 64 * 4096 + b2 % 64 * 64 + b3 % 64 ≤ 1114111))
theorem dN1 {n b0 b1 b2 b3 : Nat} (h : b0 < 128) : decodeN n b0 b1 b2 b3 = (b0, 1) := by unfold decodeN; rw [if_pos h]
theorem dN2y {n b0 b1 b2 b3 : Nat} (h : b0 / 32 = 6) (p : P2 n b0 b1) : decodeN n b0 b1 b2 b3 = (b0 % 32 * 64 + b1 % 64, 2) := by
  unfold decodeN P2 at *; rw [if_neg (by omega), if_pos ⟨h, p.1, p.2.1⟩, if_pos p.2.2]
theorem dN2n {n b0 b1 b2 b3 : Nat} (h : b0 / 32 = 6) (p : ¬ P2 n b0 b1) : decodeN n b0 b1 b2 b3 = (65533, 1) := by
  unfold decodeN P2 at *
  rw [if_neg (by omega)]
  by_cases q : b0 / 32 = 6 ∧ (1 < n ∧ b1 / 64 = 2)
  · rw [if_pos q, if_neg (by omega)]
  · rw [if_neg q, if_neg (by omega), if_neg (by omega)]
theorem dN3y {n b0 b1 b2 b3 : Nat} (h : b0 / 16 = 14) (p : P3 n b0 b1 b2) : decodeN n b0 b1 b2 b3 = (b0 % 16 * 4096 + b1 % 64 * 64 + b2 % 64, 3) := by
  unfold decodeN P3 at *; rw [if_neg (by omega), if_neg (by omega), if_pos ⟨h, ⟨by omega, p.2.1⟩, p.1, p.2.2.1⟩, if_pos p.2.2.2]
theorem dN3n {n b0 b1 b2 b3 : Nat} (h : b0 / 16 = 14) (p : ¬ P3 n b0 b1 b2) : decodeN n b0 b1 b2 b3 = (65533, 1) := by
  unfold decodeN P3 at *
  rw [if_neg (by omega), if_neg (by omega)]
  by_cases q : b0 / 16 = 14 ∧ (1 < n ∧ b1 / 64 = 2) ∧ (2 < n ∧ b2 / 64 = 2)
  · rw [if_pos q, if_neg (by omega)]
  · rw [if_neg q, if_neg (by omega)]
theorem dN4y {n b0 b1 b2 b3 : Nat} (h : b0 / 8 = 30) (p : P4 n b0 b1 b2 b3) : decodeN n b0 b1 b2 b3 = (b0 % 8 * 262144 + b1 % 64 * 4096 + b2 % 64 * 64 + b3 % 64, 4) := by
  unfold decodeN P4 at *; rw [if_neg (by omega), if_neg (by omega), if_neg (by omega), if_pos ⟨h, ⟨by omega, p.2.1⟩, ⟨by omega, p.2.2.1⟩, p.1, p.2.2.2.1⟩, if_pos p.2.2.2.2]
theorem dN4n {n b0 b1 b2 b3 : Nat} (h : b0 / 8 = 30) (p : ¬ P4 n b0 b1 b2 b3) : decodeN n b0 b1 b2 b3 = (65533, 1) := by
  unfold decodeN P4 at *
  rw [if_neg (by omega), if_neg (by omega), if_neg (by omega)]
  by_cases q : b0 / 8 = 30 ∧ (1 < n ∧ b1 / 64 = 2) ∧ (2 < n ∧ b2 / 64 = 2) ∧ (3 < n ∧ b3 / 64 = 2)
  · rw [if_pos q, if_neg (by omega)]
  · rw [if_neg q]
theorem dN0 {n b0 b1 b2 b3 : Nat} (h1 : ¬ b0 < 128) (h2 : ¬ b0 / 32 = 6) (h3 : ¬ b0 / 16 = 14) (h4 : ¬ b0 / 8 = 30) : decodeN n b0 b1 b2 b3 = (65533, 1) := by
  unfold decodeN; rw [if_neg h1, if_neg (by omega), if_neg (by omega), if_neg (by omega)]

/-- What is decoded stays where what lies behind it is cut off. -/
theorem decodeN_cut (n m b0 b1 b2 b3 c1 c2 c3 : Nat) (hmn : m ≤ n) (hw : (decodeN n b0 b1 b2 b3).2 ≤ m) (h1 : 1 < m → c1 = b1) (h2 : 2 < m → c2 = b2) (h3 : 3 < m → c3 = b3) :
    decodeN m b0 c1 c2 c3 = decodeN n b0 b1 b2 b3 := by
  by_cases k1 : b0 < 128
  · rw [dN1 k1, dN1 k1]
  by_cases k2 : b0 / 32 = 6
  · by_cases p : P2 n b0 b1
    · rw [dN2y k2 p] at hw ⊢
      simp only at hw
      obtain rfl := h1 (by omega)
      exact dN2y k2 ⟨by omega, p.2⟩
    · have q : ¬ P2 m b0 c1 := fun q => p (by have := h1 q.1; subst this; exact ⟨Nat.lt_of_lt_of_le q.1 hmn, q.2⟩)
      rw [dN2n k2 p, dN2n k2 q]
  by_cases k3 : b0 / 16 = 14
  · by_cases p : P3 n b0 b1 b2
    · rw [dN3y k3 p] at hw ⊢
      simp only at hw
      obtain rfl := h1 (by omega)
      obtain rfl := h2 (by omega)
      exact dN3y k3 ⟨by omega, p.2⟩
    · have q : ¬ P3 m b0 c1 c2 := fun q => p (by
        have := h1 (Nat.lt_trans (by decide) q.1); subst this
        have := h2 q.1; subst this
        exact ⟨Nat.lt_of_lt_of_le q.1 hmn, q.2⟩)
      rw [dN3n k3 p, dN3n k3 q]
  by_cases k4 : b0 / 8 = 30
  · by_cases p : P4 n b0 b1 b2 b3
    · rw [dN4y k4 p] at hw ⊢
      simp only at hw
      obtain rfl := h1 (by omega)
      obtain rfl := h2 (by omega)
      obtain rfl := h3 (by omega)
      exact dN4y k4 ⟨by omega, p.2⟩
    · have q : ¬ P4 m b0 c1 c2 c3 := fun q => p (by
        have := h1 (Nat.lt_trans (by decide) q.1); subst this
        have := h2 (Nat.lt_trans (by decide) q.1); subst this
        have := h3 q.1; subst this
        exact ⟨Nat.lt_of_lt_of_le q.1 hmn, q.2⟩)
      rw [dN4n k4 p, dN4n k4 q]
  · rw [dN0 k1 k2 k3 k4, dN0 k1 k2 k3 k4]

theorem head_size (s : ByteArray) (c : Nat) (h : c ≤ s.size) : (s.extract 0 c).size = c := by
  rw [ByteArray.size_extract]; omega
theorem head_get! (s : ByteArray) (c j : Nat) (hj : j < c) : (s.extract 0 c).get! j = s.get! j := by
  rw [← Lib.getD_get!' s, ← Lib.getD_get!' (s.extract 0 c)]
  simp only [ByteArray.data_extract, Array.toList_extract, List.extract_eq_take_drop, Nat.sub_zero, List.drop_zero, List.getD, List.getElem?_take]
  rw [if_pos hj]
theorem head_decode (s : ByteArray) (c pos : Nat) (h : c ≤ s.size) (hp : pos < c) (hw : pos + (Utf8.decode s pos).2 ≤ c) : Utf8.decode (s.extract 0 c) pos = Utf8.decode s pos := by
  rw [decode_at] at hw
  rw [decode_at, decode_at s pos, head_size s c h, head_get! s c pos hp]
  refine decodeN_cut _ _ _ _ _ _ _ _ _ (by omega) (by omega) (fun e => ?_) (fun e => ?_) (fun e => ?_)
  all_goals rw [head_get! s c _ (by omega)]

theorem pairs_fuel (s : ByteArray) : ∀ f g pos, s.size ≤ pos + f → s.size ≤ pos + g → pairsFrom s f pos = pairsFrom s g pos
  | 0, g, pos, h, _ => by rw [pairsFrom_end s g pos (by omega), pairsFrom_end s 0 pos (by omega)]
  | f + 1, 0, pos, _, h => by rw [pairsFrom_end s 0 pos (by omega), pairsFrom_end s (f + 1) pos (by omega)]
  | f + 1, g + 1, pos, h1, h2 => by
    by_cases hp : pos < s.size
    · have hd := decode_fits s pos hp
      rw [pairsFrom_step hp, pairsFrom_step hp, pairs_fuel s f g _ (by omega) (by omega)]
    · rw [pairsFrom_end _ _ _ hp, pairsFrom_end _ _ _ hp]

/-- Where a text is cut behind n runes from a place on. -/
def cutFrom (s : ByteArray) : Nat → Nat → Int → Nat
  | 0, _, _ => s.size
  | fuel + 1, pos, n => if pos < s.size then (if n < 1 then pos else cutFrom s fuel (pos + (Utf8.decode s pos).2) (n - 1)) else s.size
def cutPos (s : ByteArray) (n : Int) : Nat := cutFrom s s.size 0 n
theorem cutFrom_end {s : ByteArray} {fuel pos : Nat} {n : Int} (h : ¬ pos < s.size) : cutFrom s fuel pos n = s.size := by
  cases fuel <;> simp [cutFrom, h]
theorem cutFrom_stop {s : ByteArray} {fuel pos : Nat} {n : Int} (h : pos < s.size) (hn : n < 1) : cutFrom s (fuel + 1) pos n = pos := by
  rw [cutFrom, if_pos h, if_pos hn]
theorem cutFrom_step {s : ByteArray} {fuel pos : Nat} {n : Int} (h : pos < s.size) (hn : ¬ n < 1) : cutFrom s (fuel + 1) pos n = cutFrom s fuel (pos + (Utf8.decode s pos).2) (n - 1) := by
  rw [cutFrom, if_pos h, if_neg hn]

theorem cut_split (s : ByteArray) : ∀ fuel pos (n : Int), s.size ≤ pos + fuel → pos ≤ s.size →
    pos ≤ cutFrom s fuel pos n ∧ cutFrom s fuel pos n ≤ s.size ∧ ∀ ga gb, cutFrom s fuel pos n ≤ pos + ga → s.size ≤ cutFrom s fuel pos n + gb →
      pairsFrom s fuel pos = pairsFrom (s.extract 0 (cutFrom s fuel pos n)) ga pos ++ pairsFrom s gb (cutFrom s fuel pos n) ∧
      ((pairsFrom (s.extract 0 (cutFrom s fuel pos n)) ga pos).length : Int) = min (max n 0) ((pairsFrom s fuel pos).length : Int)
  | 0, pos, n, h1, h2 => by
    have e : cutFrom s 0 pos n = s.size := rfl
    rw [e]
    refine ⟨h2, Nat.le_refl _, fun ga gb h3 h4 => ?_⟩
    rw [pairsFrom_end s 0 pos (by omega), pairsFrom_end s gb _ (by omega), pairsFrom_end _ ga pos (by rw [head_size _ _ (Nat.le_refl _)]; omega)]
    exact ⟨rfl, by simp only [List.length_nil]; omega⟩
  | f + 1, pos, n, h1, h2 => by
    by_cases hp : pos < s.size
    · have hd := decode_fits s pos hp
      by_cases hn : n < 1
      · rw [cutFrom_stop hp hn]
        refine ⟨Nat.le_refl _, h2, fun ga gb h3 h4 => ?_⟩
        rw [pairsFrom_end _ ga pos (by rw [head_size _ _ h2]; omega)]
        exact ⟨by rw [List.nil_append]; exact pairs_fuel s _ _ _ h1 h4, by simp only [List.length_nil]; omega⟩
      · rw [cutFrom_step hp hn]
        obtain ⟨i1, i2, i3⟩ := cut_split s f (pos + (Utf8.decode s pos).2) (n - 1) (by omega) (by omega)
        generalize cutFrom s f (pos + (Utf8.decode s pos).2) (n - 1) = c at *
        refine ⟨by omega, i2, fun ga gb h3 h4 => ?_⟩
        obtain ⟨ga, rfl⟩ : ∃ g, ga = g + 1 := ⟨ga - 1, by omega⟩
        obtain ⟨j1, j2⟩ := i3 ga gb (by omega) h4
        have hh := head_decode s c pos i2 (by omega) i1
        have e1 : pairsFrom (s.extract 0 c) (ga + 1) pos = (pos, (Utf8.decode s pos).1) :: pairsFrom (s.extract 0 c) ga (pos + (Utf8.decode s pos).2) := by
          rw [pairsFrom_step (by rw [head_size _ _ i2]; omega), hh]
        rw [e1, pairsFrom_step hp, j1, List.length_cons, List.length_cons, ← j1]
        exact ⟨by rw [j1]; rfl, by omega⟩
    · rw [cutFrom_end hp]
      refine ⟨h2, Nat.le_refl _, fun ga gb h3 h4 => ?_⟩
      rw [pairsFrom_end s (f + 1) pos hp, pairsFrom_end s gb _ (by omega), pairsFrom_end _ ga pos (by rw [head_size _ _ (Nat.le_refl _)]; omega)]
      exact ⟨rfl, by simp only [List.length_nil]; omega⟩

theorem tail_pairs (s : ByteArray) (c : Nat) : ∀ fuel pos, pairsFrom s fuel (c + pos) = (pairsFrom (s.extract c s.size) fuel pos).map fun x => (c + x.1, x.2)
  | 0, _ => rfl
  | f + 1, pos => by
    by_cases hp : pos < (s.extract c s.size).size
    · rw [pairsFrom_step hp, pairsFrom_step (by rw [Lib.tail_size] at hp; omega), Lib.tail_decode, List.map_cons, ← tail_pairs s c f, Nat.add_assoc]
    · rw [pairsFrom_end _ _ _ hp, pairsFrom_end _ _ _ (by rw [Lib.tail_size] at hp; omega)]; rfl
theorem encs_map (c : Nat) (l : List (Nat × Nat)) : encs (l.map fun x => (c + x.1, x.2)) = encs l := by
  simp [encs, List.flatMap_map]

/-- THE TWO PIECES: their runes behind one another are the text's; the first has the lesser of n and all. -/
theorem cut_pieces (s : ByteArray) (n : Int) : cutPos s n ≤ s.size ∧
    encs (pairs (s.extract 0 (cutPos s n))) ++ encs (pairs (s.extract (cutPos s n) s.size)) = encs (pairs s) ∧
    ((runeCount (s.extract 0 (cutPos s n)) : Nat) : Int) = min (max n 0) (runeCount s) ∧
    runeCount (s.extract 0 (cutPos s n)) + runeCount (s.extract (cutPos s n) s.size) = runeCount s := by
  obtain ⟨_, h2, h3⟩ := cut_split s s.size 0 n (by omega) (Nat.zero_le _)
  unfold cutPos
  generalize cutFrom s s.size 0 n = c at *
  obtain ⟨j1, j2⟩ := h3 c (s.size - c) (by omega) (by omega)
  have ea : pairs (s.extract 0 c) = pairsFrom (s.extract 0 c) c 0 := by unfold pairs; rw [head_size _ _ h2]
  have eb := tail_pairs s c (s.size - c) 0
  have ec : pairs (s.extract c s.size) = pairsFrom (s.extract c s.size) (s.size - c) 0 := by unfold pairs; rw [Lib.tail_size]
  rw [Nat.add_zero, ← ec] at eb
  rw [← ea, eb] at j1
  rw [← ea] at j2
  have e : pairsFrom s s.size 0 = pairs s := rfl
  rw [e] at j1 j2
  refine ⟨h2, ?_, ?_, ?_⟩
  · rw [j1, encs_append, encs_map]
  · rw [← pairs_length, ← pairs_length]; exact j2
  · rw [← pairs_length, ← pairs_length, ← pairs_length, j1, List.length_append, List.length_map]
end Go.Proofs.YtikfaalbdnlelaaGreatDoor.Utf
