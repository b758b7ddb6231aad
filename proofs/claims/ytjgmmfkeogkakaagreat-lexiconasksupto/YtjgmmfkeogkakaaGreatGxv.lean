/-
  The document's trimmed walked: the text without the blanks at both ends.
-/
import Derived.Test.YtjgmmfkeogkakaaGreatGxm
import Derived.Test.YtjgmmfkeogkakaaGreatRnwq
import Derived.Test.YtjgmmfkeogkakaaGreatGref
import Derived.Test.YtjgmmfkeogkakaaGreatRlinq
import Derived.Test.YtjgmmfkeogkakaaGreatGxc
import Derived.Test.YtjgmmfkeogkakaaGreatRspq
import Derived.Test.YtjgmmfkeogkakaaGreatGrc
import Derived.Test.YtjgmmfkeogkakaaGreatGxu
import Derived.Test.YtjgmmfkeogkakaaGreatGxw
namespace Go.Proofs.YtjgmmfkeogkakaaGreat.Utf
open Go Go.Lib Go.RowKit

theorem trim_fin (s : ByteArray) (P : List (Nat × Nat)) (hPs : pairs s = P) {k j : Nat} (hk : k < j) (hj : j ≤ P.length) (h1 : ∀ i (h : i < P.length), i < k → isB (P[i].2 : Int)) (h2 : ∀ i (h : i < P.length), j ≤ i → isB (P[i].2 : Int)) (h3 : ¬ isB (P[k].2 : Int)) (h4 : ¬ isB (P[j - 1].2 : Int)) (b : Nat) (hb : b = ((P.drop j).head?.map (·.1)).getD s.size) :
    P[k].1 ≤ b ∧ b ≤ s.size ∧ IsTrim s (s.extract P[k].1 b) := by
  have hP : P = P.take k ++ ((P.drop k).take (j - k) ++ P.drop j) := by
    conv => lhs; rw [← List.take_append_drop k P, ← List.take_append_drop (j - k) (P.drop k), List.drop_drop, show k + (j - k) = j by omega]
  have hR := runsP_all s
  rw [hPs, hP] at hR
  obtain ⟨a, r1, r2⟩ := runsP_split s _ _ 0 _ hR
  obtain ⟨c, r3, r4⟩ := runsP_split s _ _ a _ r2
  have hm1 : (P.drop k).take (j - k) = P[k] :: (P.drop (k + 1)).take (j - (k + 1)) := by
    rw [List.drop_eq_getElem_cons (by omega : k < P.length), show j - k = (j - (k + 1)) + 1 by omega, List.take_succ_cons]
  have hm2 : (P.drop k).take (j - k) = (P.drop k).take (j - 1 - k) ++ [P[j - 1]] := by
    rw [show j - k = (j - 1 - k) + 1 by omega, List.take_succ_eq_append_getElem (by rw [List.length_drop]; omega), List.getElem_drop]
    congr 2
    congr 1
    omega
  have hbc : b = c := by
    rw [hb]
    cases e : P.drop j with
    | nil => rw [e] at r4; exact (show s.size = c from (show c = s.size from r4).symm)
    | cons z l => rw [e] at r4; rw [List.head?_cons, Option.map_some, Option.getD_some, r4.2.1]
  have hka : P[k].1 = a := by rw [hm1] at r3; rw [r3.2.1]
  have l1 := runsP_le s _ _ _ r3
  have l2 := runsP_le s _ _ _ r4
  refine ⟨by omega, by omega, .inr ⟨_, _, _, _, _, _, _, b, hPs.trans hP, fun z hz => ?_, fun z hz => ?_, hm1, hm2, h3, h4, hb, rfl⟩⟩
  · obtain ⟨i, hi, rfl⟩ := List.mem_iff_getElem.1 hz
    rw [List.length_take] at hi
    rw [List.getElem_take]
    exact h1 i (by omega) (by omega)
  · obtain ⟨i, hi, rfl⟩ := List.mem_iff_getElem.1 hz
    rw [List.length_drop] at hi
    rw [List.getElem_drop]
    exact h2 (j + i) (by omega) (by omega)
theorem trim_all (s : ByteArray) (P : List (Nat × Nat)) (hPs : pairs s = P) (h : ∀ i (h : i < P.length), isB (P[i].2 : Int)) : IsTrim s ⟨#[]⟩ := .inl ⟨rfl, fun x hx => by
  rw [hPs] at hx
  obtain ⟨i, hi, rfl⟩ := List.mem_iff_getElem.1 hx
  exact h i hi⟩

end Go.Proofs.YtjgmmfkeogkakaaGreat.Utf
/-
  The document's score and line walked.
-/
namespace Go.Proofs.YtjgmmfkeogkakaaGreat.Utf
open Go Go.Lib Go.RowKit

def foldD (l : List UInt8) : Nat := l.foldl (fun n b => n * 10 + (b.toNat - 48)) 0
theorem foldD_next {l : List UInt8} {k : Nat} (h : k < l.length) : foldD (l.take (k + 1)) = foldD (l.take k) * 10 + (l[k].toNat - 48) := by
  unfold foldD
  rw [List.take_succ_eq_append_getElem h, List.foldl_append]
  rfl
theorem foldD_lt : ∀ (n : Nat) (l : List UInt8), l.length = n → (∀ b ∈ l, 48 ≤ b.toNat ∧ b.toNat ≤ 57) → foldD l + 1 ≤ 10 ^ n
  | 0, l, hl, _ => by rw [List.length_eq_zero_iff.1 hl]; decide
  | n + 1, l, hl, h => by
    have e : l = l.take n ++ [l[n]'(by omega)] := by rw [← List.take_succ_eq_append_getElem, List.take_of_length_le (by omega)]
    have h1 := foldD_next (l := l) (k := n) (by omega)
    rw [List.take_of_length_le (by omega)] at h1
    have h2 := foldD_lt n (l.take n) (by rw [List.length_take]; omega) (fun b hb => h b (List.mem_of_mem_take hb))
    have h3 := h (l[n]'(by omega)) (List.getElem_mem _)
    have : 10 ^ (n + 1) = 10 ^ n * 10 := Nat.pow_succ ..
    omega

theorem fsc_at (s : ByteArray) (k : Nat) (hk : k < s.size) (h59 : (s.get! k).toNat = 59) (hno : ∀ j, j < k → (s.get! j).toNat ≠ 59) : ∀ f a, s.size ≤ a + f → a ≤ k → fsc (pairsFrom s f a) = some (k, 59)
  | 0, a, h, h2 => by omega
  | f + 1, a, h, h2 => by
    have hp : a < s.size := by omega
    obtain ⟨k1, k2, k3⟩ := decode_low s a hp
    have hd := decode_fits s a hp
    rw [pairsFrom_step hp]
    unfold fsc
    by_cases e : a = k
    · subst e
      rw [k2 (by omega), h59, List.find?_cons_of_pos (by simp)]
    · have hne : (Utf8.decode s a).1 ≠ 59 := fun h5 => by
        have h6 := k1.1 (by omega)
        have h7 := k2 h6
        rw [h7] at h5
        exact hno a (by omega) h5
      rw [List.find?_cons_of_neg (by simpa using hne)]
      refine fsc_at s k hk h59 hno f _ (by omega) ?_
      rcases Nat.lt_or_ge k (a + (Utf8.decode s a).2) with h8 | h8
      · have := k3 (k - a) (by omega) (by omega)
        rw [show a + (k - a) = k by omega] at this
        omega
      · exact h8
theorem fsc_none (s : ByteArray) (hno : ∀ j, j < s.size → (s.get! j).toNat ≠ 59) : fsc (pairs s) = none := by
  unfold fsc
  rw [List.find?_eq_none]
  intro x hx e
  have h1 := pairs_mem s _ _ x hx
  have e : x.2 = 59 := by simpa using e
  rw [h1.2] at e
  obtain ⟨k1, k2, _⟩ := decode_low s x.1 h1.1
  have h6 := k1.1 (by omega)
  rw [k2 h6] at e
  exact hno x.1 h1.1 e
theorem say_trim {s t : ByteArray} (h : IsTrim s t) : (t = ⟨#[]⟩ ∧ sayN (pairs s) = true) ∨ (∃ h0 : 0 < t.size, sayN (pairs s) = ((t[0]'h0).toNat == 35)) := by
  rcases h with ⟨rfl, h⟩ | ⟨pre, mid, post, x, m1, m2, y, b, hps, hpre, hpost, hm1, hm2, hx, hy, hb, rfl⟩
  · left
    refine ⟨rfl, ?_⟩
    unfold sayN fnb
    rw [List.find?_eq_none.2 (fun z hz e => (of_decide_eq_true e) (h z hz))]
  · right
    have hR := runsP_all s
    rw [hps] at hR
    obtain ⟨a, r1, r2⟩ := runsP_split s pre _ 0 _ hR
    obtain ⟨c, r3, r4⟩ := runsP_split s mid post a _ r2
    have hxa : x = (a, (Utf8.decode s a).1) := by
      rw [hm1] at r3
      exact r3.2.1
    have hbc : b = c := by
      rw [hb]
      cases post with
      | nil => exact (show s.size = c from (show c = s.size from r4).symm)
      | cons z l => rw [List.head?_cons, Option.map_some, Option.getD_some, r4.2.1]
    subst hbc
    have hbs : b ≤ s.size := by have := runsP_le s post b _ r4; omega
    have hab := runsP_le s mid a b r3
    have hml : 1 ≤ mid.length := by rw [hm1]; simp
    have hx1 : x.1 = a := by rw [hxa]
    rw [hx1]
    have has : a < s.size := by omega
    refine ⟨by rw [ByteArray.size_extract]; omega, ?_⟩
    have hget : (s.extract a b)[0]'(by rw [ByteArray.size_extract]; omega) = s[a]'has := by
      rw [ByteArray.getElem_extract]
      congr 1
    rw [hget, ← get_eq s has]
    have hf : fnb (pairs s) = some x := by
      unfold fnb
      rw [hps, List.find?_append, List.find?_eq_none.2 (fun z hz e => (of_decide_eq_true e) (hpre z hz)), hm1, List.cons_append, Option.none_or]
      exact List.find?_cons_of_pos (p := fun x : Nat × Nat => decide (¬ isB (x.2 : Int))) (decide_eq_true hx)
    unfold sayN
    rw [hf]
    obtain ⟨k1, k2, _⟩ := decode_low s a has
    show (x.2 == 35) = _
    rw [hxa]
    by_cases hl : (s.get! a).toNat < 128
    · rw [k2 hl]
    · have h1 : ¬ (Utf8.decode s a).1 < 128 := fun h => hl (k1.1 h)
      have e1 : ((Utf8.decode s a).1 == 35) = false := by rw [beq_eq_false_iff_ne]; omega
      have e2 : ((s.get! a).toNat == 35) = false := by rw [beq_eq_false_iff_ne]; omega
      rw [e1, e2]
/-- What the document's line answers. -/
noncomputable def lineD (L : List ByteArray) (s : ByteArray) : List Nat × Int × Int :=
  if sayN (pairs s) = true then ([], 0, -1)
  else if foldS false (cutS s).1 = ⟨#[]⟩ then ([], 0, 90)
  else if (scoreP (cutS s).2).2 = false then ([], 0, 91)
  else ((splitS L (foldS false (cutS s).1)).1, ((scoreP (cutS s).2).1 : Nat), (splitS L (foldS false (cutS s).1)).2.2)
end Go.Proofs.YtjgmmfkeogkakaaGreat.Utf
/-
  The document's line and Find walked.
-/
namespace Go.Proofs.YtjgmmfkeogkakaaGreat.Utf
open Go Go.Lib Go.RowKit

theorem slice_mid0 (w : World) (s : ByteArray) (k : Nat) (h : k ≤ s.size) : (Instr.slice 9 (.string s) none (some (.int .i64 (k : Int))) none).run Tryz.prog w = .ok (.string (s.extract 0 k)) w := by
  have := run_slice_string_h (P := Tryz.prog) w 9 s Tryz.underlying9 .i64 (k : Int) (by omega) (by omega)
  rw [Int.toNat_natCast] at this
  exact this
theorem slice_tail (w : World) (s : ByteArray) (k : Nat) (z : Int) (hz : z = (k : Int)) (h : k ≤ s.size) : (Instr.slice 9 (.string s) (some (.int .i64 z)) none none).run Tryz.prog w = .ok (.string (s.extract k s.size)) w := by
  subst hz
  have := run_slice_string_l (P := Tryz.prog) w 9 s Tryz.underlying9 .i64 (k : Int) (by omega) (by omega)
  rw [Int.toNat_natCast] at this
  exact this
theorem score_50 : scoreP ⟨#[53, 48]⟩ = (50, true) := by kernel_rfl
theorem lineD_none {L : List ByteArray} {s : ByteArray} (h : sayN (pairs s) = true) : lineD L s = ([], 0, -1) := by unfold lineD; rw [if_pos h]
theorem lineD_form {L : List ByteArray} {s : ByteArray} (h : sayN (pairs s) = false) (h1 : foldS false (cutS s).1 = ⟨#[]⟩) : lineD L s = ([], 0, 90) := by unfold lineD; rw [if_neg (by rw [h]; decide), if_pos h1]
theorem lineD_score {L : List ByteArray} {s : ByteArray} (h : sayN (pairs s) = false) (h1 : ¬ foldS false (cutS s).1 = ⟨#[]⟩) (h2 : (scoreP (cutS s).2).2 = false) : lineD L s = ([], 0, 91) := by unfold lineD; rw [if_neg (by rw [h]; decide), if_neg h1, if_pos h2]
theorem lineD_word {L : List ByteArray} {s : ByteArray} (h : sayN (pairs s) = false) (h1 : ¬ foldS false (cutS s).1 = ⟨#[]⟩) (h2 : (scoreP (cutS s).2).2 = true) : lineD L s = ((splitS L (foldS false (cutS s).1)).1, (((scoreP (cutS s).2).1 : Nat) : Int), (splitS L (foldS false (cutS s).1)).2.2) := by unfold lineD; rw [if_neg (by rw [h]; decide), if_neg h1, if_neg (by rw [h2]; decide)]

/-- What the document's Find answers. -/
def FindP (l : List (List Int × Int)) (c : List Int) (n : Int) (b : Bool) : Prop := (b = true ∧ ∃ k, ∃ h : k < l.length, l[k].1 = c ∧ n = (k : Int)) ∨ (b = false ∧ n = 0 ∧ ∀ k (h : k < l.length), l[k].1 ≠ c)

def FindQ (W : World) (l : List (List Int × Int)) (c : List Int) (e : Ending) (w' : World) : Prop := (∃ n b, e = .returned (.tuple #[.int .i64 n, .bool b]) ∧ FindP l c n b) ∧ Below W.heap.size W w'

set_option maxRecDepth 100000 in
set_option maxHeartbeats 4000000 in
theorem refFind_any {B : Nat} {W : World} {v : Value} {es : List WdV} (h : IsWd B W v es) (hes : es.length ≤ 1000) (h32 : ∀ x ∈ es, x.c.length ≤ 32) (c : List Int) (ac : Option Addr) (cc : Nat) (hR : ReadsO W ac (ints c)) :
    Calls Tryz.prog 10 #[v, .slice ac c.length cc] W (FindQ W (toL es) c) := by
  obtain ⟨ao, cap, rfl, hnil, -⟩ := h.slice
  have H : Aside (∀ Z, Below W.heap.size W Z → IsWd B Z (.slice ao es.length cap) es) := fun Z hb => h.below hb
  have HR : Aside (∀ Z, Below W.heap.size W Z → ReadsO Z ac (ints c)) := fun Z hb => hR.below hb
  have H32 : Aside (∀ x ∈ es, x.c.length ≤ 32) := h32
  clear h hR h32
  go_enter Tryz.func10, Tryz.ntmps10
  go_wp2
  go_loopg [6] es.length (fun g1 vk wr => ∃ k : Nat, vk = .int .i64 (k : Int) ∧ k ≤ es.length ∧ es.length - k ≤ g1 ∧ Aside (∀ i (hi : i < es.length), i < k → es[i].c ≠ c) ∧ Aside (Below W.heap.size W wr))
  case atStart => exact ⟨0, rfl, Nat.zero_le _, Nat.le_refl _, fun i _ h => by omega, Below.refl _ _⟩
  case round =>
    obtain ⟨k, rfl, hk, hg1, HK, HB⟩ := hrel
    by_cases hlt : k < es.length
    · have hltz : (k : Int) < (es.length : Int) := by omega
      obtain ⟨g, rfl, q1, q2⟩ := (H.out wr HB.out).at' hlt
      have hmk := (H.out wr HB.out).mem es[k] (List.getElem_mem hlt)
      have hk32 := H32.out es[k] (List.getElem_mem hlt)
      have cO := refOrder_any es[k].c c (by omega) es[k].ao ac es[k].cap cc wr hmk.1 (HR.out wr HB.out)
      obtain ⟨od, hod⟩ : ∃ od, ordI es[k].c c = od := ⟨_, rfl⟩
      have HOD : Aside (ordI es[k].c c = od) := hod
      rw [hod] at cO
      clear hmk hod
      by_cases h1 : od = 0
      · have h1b : (od == 0) = true := by rw [beq_iff_eq]; exact h1
        have HF : Aside (FindP (toL es) c (k : Int) true) := .inl ⟨rfl, k, by rw [toL_len]; exact hlt, by rw [toL_at hlt]; exact ordI_zero.1 (HOD.out.trans h1), rfl⟩
        clear HOD HK
        generalize es[k].c.length = N at *
        go_wp2_with fail
        refine cO.mono ?_
        rintro e w2 ⟨rfl, hb2⟩
        have HB2 : Aside (Below W.heap.size W w2) := HB.out.trans (hb2.mono HB.out.size)
        go_wp2
        go_ret2
        exact ⟨⟨_, _, rfl, HF.out⟩, HB2.out⟩
      · have h1b : (od == 0) = false := by rw [beq_eq_false_iff_ne]; exact h1
        have HK2 : Aside (∀ i (hi : i < es.length), i < k + 1 → es[i].c ≠ c) := fun i hi h2 => by
          by_cases hik : i = k
          · subst hik; exact fun e => h1 (HOD.out.symm.trans (ordI_zero.2 e))
          · exact HK.out i hi (by omega)
        clear HK HOD
        generalize es[k].c.length = N at *
        go_wp2_with fail
        refine cO.mono ?_
        rintro e w2 ⟨rfl, hb2⟩
        have HB2 : Aside (Below W.heap.size W w2) := HB.out.trans (hb2.mono HB.out.size)
        clear cO q1 q2
        go_wp2
        go_roundg (es.length - (k + 1))
        case measure => omega
        case rel => exact ⟨k + 1, by go_num, by omega, Nat.le_refl _, HK2, HB2⟩
    · have hltz : ¬ (k : Int) < (es.length : Int) := by omega
      have HF : Aside (FindP (toL es) c 0 false) := .inr ⟨rfl, rfl, fun i hi => by rw [toL_len] at hi; rw [toL_at hi]; exact HK.out i hi (by omega)⟩
      clear HK
      go_wp2
      go_ret2
      exact ⟨⟨_, _, rfl, HF.out⟩, HB.out⟩
end Go.Proofs.YtjgmmfkeogkakaaGreat.Utf
