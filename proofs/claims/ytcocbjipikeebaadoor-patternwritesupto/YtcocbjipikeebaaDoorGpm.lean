/-
  What is printed of masks is read as the same masks: mathematics.
-/
import Derived.Test.YtcocbjipikeebaaDoorGjn
import Derived.Test.YtcocbjipikeebaaDoorGutf
import Derived.Test.YtcocbjipikeebaaDoorNewq
import Derived.Test.YtcocbjipikeebaaDoorGub
import Derived.Test.YtcocbjipikeebaaDoorGpd
namespace Go.Proofs.YtcocbjipikeebaaDoor.Pts
open Go Go.Lib Go.RowKit Utf Msk

/-- The runes of a text. -/
def rs (x : ByteArray) : List Nat := (pairs x).map fun y => y.2
def Wrs (l : List Nat) : Prop := ∀ r ∈ l, wr (r : Int) = r
def nmB (l : List Nat) : ByteArray := ⟨(encR l).toArray⟩
theorem nmB_list (l : List Nat) : (nmB l).data.toList = encR l := by simp [nmB]
theorem cap_wr {r : Nat} (h : capR r) : wr (r : Int) = r := by
  have h1 := h.1
  unfold isL at h1
  have hv : Utf8.valid (r : Int) = true := by unfold Utf8.valid; simp; omega
  unfold wr
  rw [if_pos hv]
  simp
theorem wrs_cap {l : List Nat} (h : ∀ r ∈ l, capR r) : Wrs l := fun r hr => cap_wr (h r hr)
theorem valid_from (s : ByteArray) : ∀ fuel pos, s.size ≤ pos + fuel → (∀ x ∈ pairsFrom s fuel pos, x.2 ≠ 65533) → validFrom s fuel pos = true
  | 0, pos, h, _ => validFrom_end s 0 pos (by omega)
  | f + 1, pos, h, hx => by
    by_cases hp : pos < s.size
    · have hd := decode_fits s pos hp
      rw [pairsFrom_step hp] at hx
      rw [validFrom_step hp (fun e => hx _ (List.mem_cons_self ..) e.1)]
      exact valid_from s f _ (by omega) fun x hm => hx x (List.mem_cons_of_mem _ hm)
    · exact validFrom_end s _ _ hp
theorem name_cap {x : ByteArray} (h : nameP x) : ∀ r ∈ rs x, capR r := fun r hr => by
  obtain ⟨y, hy, rfl⟩ := List.mem_map.1 hr
  exact h.2.2 y hy
theorem name_enc {x : ByteArray} (h : nameP x) : x.data.toList = encR (rs x) := by
  have hv : validB x = true := by
    unfold validB
    refine valid_from x x.size 0 (by omega) fun y hy e => ?_
    have := (h.2.2 y hy).1
    rw [e] at this
    unfold isL at this
    omega
  rw [← valid_fix x hv]
  unfold encs encR rs
  rw [List.flatMap_map]
theorem name_nmB {x : ByteArray} (h : nameP x) : nmB (rs x) = x := ba_eq (by rw [nmB_list, ← name_enc h])
/-- The runes of a text that was written. -/
theorem pairs_enc (s : ByteArray) : ∀ (l : List Nat) (a : List UInt8) (fuel : Nat), s.data.toList = a ++ encR l → s.size ≤ a.length + fuel → (pairsFrom s fuel a.length).map (fun x => x.2) = l.map fun r : Nat => wr (r : Int)
  | [], a, fuel, h, hf => by
    have : s.size = a.length := by rw [← ba_len, h]; simp [encR]
    rw [pairsFrom_end s fuel _ (by omega)]
    rfl
  | r :: l, a, fuel, h, hf => by
    rw [encR_cons] at h
    have hd := dec_mid s a r (encR l) h
    have hl : s.size = a.length + ((encB r).length + (encR l).length) := by rw [← ba_len, h]; simp
    have h1 := (enc_size r).1
    rw [← encB_size] at h1
    obtain ⟨f, rfl⟩ : ∃ f, fuel = f + 1 := ⟨fuel - 1, by omega⟩
    have ih := pairs_enc s l (a ++ encB r) f (by rw [h, List.append_assoc]) (by rw [List.length_append]; omega)
    rw [pairsFrom_step (by omega), hd, List.map_cons, List.map_cons]
    rw [List.length_append] at ih
    simp only
    rw [ih]
theorem rs_nmB {l : List Nat} (h : Wrs l) : rs (nmB l) = l := by
  have := pairs_enc (nmB l) l [] (nmB l).size (by rw [List.nil_append, nmB_list]) (by simp)
  show (pairsFrom (nmB l) (nmB l).size 0).map (fun x => x.2) = l
  rw [List.length_nil] at this
  rw [this]
  conv => rhs; rw [← List.map_id l]
  exact List.map_congr_left h
theorem nmB_name {l : List Nat} (h : Wrs l) (hn : nameP (nmB l)) : 1 ≤ l.length ∧ l.length ≤ 3 ∧ ∀ r ∈ l, capR r := by
  have e := rs_nmB h
  have h1 := hn.1
  have h2 := hn.2.1
  have h3 := name_cap hn
  have hl : (rs (nmB l)).length = (pairs (nmB l)).length := by unfold rs; rw [List.length_map]
  rw [e] at h3 hl
  exact ⟨by omega, by omega, h3⟩
theorem cutFrom_enc (s : ByteArray) : ∀ (l : List Nat) (a : List UInt8) (fuel n : Nat), s.data.toList = a ++ encR l → s.size ≤ a.length + fuel → cutFrom s fuel a.length (n : Int) = a.length + (encR (l.take n)).length
  | [], a, fuel, n, h, hf => by
    have : s.size = a.length := by rw [← ba_len, h]; simp [encR]
    rw [cutFrom_end (by omega), List.take_nil, this]
    simp [encR]
  | r :: l, a, fuel, n, h, hf => by
    rw [encR_cons] at h
    have hd := dec_mid s a r (encR l) h
    have hl : s.size = a.length + ((encB r).length + (encR l).length) := by rw [← ba_len, h]; simp
    have h1 := (enc_size r).1
    rw [← encB_size] at h1
    obtain ⟨f, rfl⟩ : ∃ f, fuel = f + 1 := ⟨fuel - 1, by omega⟩
    match n with
    | 0 => rw [cutFrom_stop (by omega) (by decide)]; simp [encR]
    | n + 1 =>
      have ih := cutFrom_enc s l (a ++ encB r) f n (by rw [h, List.append_assoc]) (by rw [List.length_append]; omega)
      rw [List.length_append] at ih
      rw [cutFrom_step (by omega) (by omega), hd, show ((n + 1 : Nat) : Int) - 1 = (n : Int) by omega]
      simp only
      rw [ih, List.take_succ_cons, encR_cons, List.length_append]
      omega
theorem extract_list (s : ByteArray) (i j : Nat) : (s.extract i j).data.toList = (s.data.toList.drop i).take (j - i) := by
  rw [ByteArray.data_extract, Array.toList_extract]
theorem nmS_enc {s : ByteArray} {a : List UInt8} {l : List Nat} (h : s.data.toList = a ++ encR l) (n : Nat) : nmS s a.length n = nmB (l.take n) := by
  have ht : (s.extract a.length s.size).data.toList = encR l := by
    rw [extract_list, h, List.drop_left]
    refine List.take_of_length_le ?_
    rw [← ba_len, h, List.length_append]; omega
  have hc : cutPos (s.extract a.length s.size) (n : Int) = (encR (l.take n)).length := by
    have := cutFrom_enc (s.extract a.length s.size) l [] (s.extract a.length s.size).size n (by rw [ht, List.nil_append]) (by simp)
    rw [List.length_nil, Nat.zero_add] at this
    exact this
  refine ba_eq ?_
  unfold nmS
  rw [hc, extract_list, ht, nmB_list, List.drop_zero, Nat.sub_zero]
  have e : encR l = encR (l.take n) ++ encR (l.drop n) := by rw [← encR_append, List.take_append_drop]
  rw [e]
  exact List.take_left ..
theorem wrs_take {l : List Nat} (h : Wrs l) (n : Nat) : Wrs (l.take n) := fun r hr => h r (List.mem_of_mem_take hr)
theorem wrs_append {l t : List Nat} (h : Wrs l) (k : Wrs t) : Wrs (l ++ t) := fun r hr => by
  rcases List.mem_append.1 hr with e | e
  · exact h r e
  · exact k r e
/-- A sign that no letter begins with. -/
theorem sgF_sign {L : List ByteArray} (hG : ∀ x ∈ L, nameP x) {s : ByteArray} {a : List UInt8} {c : Nat} {t : List Nat} (h : s.data.toList = a ++ encR (c :: t)) (hw : Wrs (c :: t)) (hc : ¬ capR c) : ∀ n, sgF L s a.length n = none
  | 0 => rfl
  | n + 1 => by
    have hn : lkp L (nmS s a.length (n + 1)) = none := lkp_none fun hm => by
      rw [nmS_enc h] at hm
      exact hc ((nmB_name (wrs_take hw _) (hG _ hm)).2.2 c (by rw [List.take_succ_cons]; exact List.mem_cons_self ..))
    rw [sgF, hn]
    exact sgF_sign hG h hw hc n
theorem sgF_end {L : List ByteArray} (hG : ∀ x ∈ L, nameP x) {s : ByteArray} {a : List UInt8} (h : s.data.toList = a) : ∀ n, sgF L s a.length n = none
  | 0 => rfl
  | n + 1 => by
    have hn : lkp L (nmS s a.length (n + 1)) = none := lkp_none fun hm => by
      rw [nmS_enc (l := []) (by rw [h]; simp [encR]), List.take_nil] at hm
      have := (nmB_name (l := []) (fun r hr => by cases hr) (hG _ hm)).1
      simp at this
    rw [sgF, hn]
    exact sgF_end hG h n
/-- What may stand behind a letter: a sign that is none, or, where letters have one rune, anything. -/
def okT (L : List ByteArray) (t : List Nat) : Prop := t = [] ∨ (∃ c t', t = c :: t' ∧ ¬ capR c) ∨ ∀ x ∈ L, (rs x).length = 1
theorem sgF_name {L : List ByteArray} (hG : ∀ x ∈ L, nameP x) (hN : L.Nodup) {s : ByteArray} {a : List UInt8} {i : Nat} (hi : i < L.length) {t : List Nat} (h : s.data.toList = a ++ encR (rs L[i] ++ t)) (hw : Wrs t) (ht : okT L t) : ∀ n, (rs L[i]).length ≤ n → sgF L s a.length n = some (i, L[i].size)
  | 0, hn => by
    have := (hG _ (List.getElem_mem hi)).1
    unfold rs at hn
    rw [List.length_map] at hn
    omega
  | n + 1, hn => by
    have hx := hG _ (List.getElem_mem hi)
    have hwx : Wrs (rs L[i]) := wrs_cap (name_cap hx)
    have hself : (rs L[i] ++ t).take (n + 1) = rs L[i] → sgF L s a.length (n + 1) = some (i, L[i].size) := fun e => by
      have e2 : nmS s a.length (n + 1) = L[i] := by rw [nmS_enc h, e, name_nmB hx]
      rw [sgF, e2, lkp_some hN (List.getElem?_eq_getElem hi)]
    by_cases h1 : (rs L[i]).length = n + 1
    · exact hself (by rw [← h1]; exact List.take_left ..)
    · have hlt : (rs L[i]).length < n + 1 := by omega
      match t, ht with
      | [], _ => exact hself (by rw [List.append_nil]; exact List.take_of_length_le (by omega))
      | c :: t', ht =>
        have htk : (rs L[i] ++ c :: t').take (n + 1) = rs L[i] ++ c :: t'.take (n - (rs L[i]).length) := by
          rw [List.take_append, List.take_of_length_le (by omega), show n + 1 - (rs L[i]).length = (n - (rs L[i]).length) + 1 by omega, List.take_succ_cons]
        have hn2 : lkp L (nmS s a.length (n + 1)) = none := lkp_none fun hm => by
          rw [nmS_enc h] at hm
          have hww : Wrs ((rs L[i] ++ c :: t').take (n + 1)) := wrs_take (wrs_append hwx hw) _
          have hnm := hG _ hm
          rcases ht with e | ⟨c', t2, e, hc⟩ | hall
          · cases e
          · injection e with e1 e2
            subst e1
            exact hc ((nmB_name hww hnm).2.2 c (by rw [htk]; exact List.mem_append_right _ (List.mem_cons_self ..)))
          · have h2 := hall _ hm
            rw [rs_nmB hww, htk, List.length_append, List.length_cons] at h2
            have h3 := hx.1
            have : (rs L[i]).length = (pairs L[i]).length := by unfold rs; rw [List.length_map]
            omega
        rw [sgF, hn2]
        exact sgF_name hG hN hi h hw ht n (by omega)
theorem sign_at {L : List ByteArray} (hG : ∀ x ∈ L, nameP x) {s : ByteArray} {a : List UInt8} {c : Nat} {t : List Nat} (h : s.data.toList = a ++ encR (c :: t)) (hw : Wrs (c :: t)) (hc : ¬ capR c) (h8 : c < 128) : sgc L s a.length = (c : Int) ∧ sgb L s a.length = a.length + 1 := by
  have hF := sgF_sign hG h hw hc 3
  rw [encR_cons] at h
  have hd := dec_mid s a c (encR t) h
  have hl : s.size = a.length + ((encB c).length + (encR t).length) := by rw [← ba_len, h]; simp
  have h1 := (enc_size c).1
  rw [← encB_size] at h1
  have h2 : (encB c).length = 1 := by
    rw [encB_size]
    have : wr (c : Int) = c := hw c (List.mem_cons_self ..)
    rw [enc_eq, this, if_pos h8]
    rfl
  unfold sgc sgb
  rw [hF]
  simp only
  rw [if_pos (by omega), if_pos (by omega), hd, h2, hw c (List.mem_cons_self ..)]
  exact ⟨rfl, rfl⟩
theorem end_at {L : List ByteArray} (hG : ∀ x ∈ L, nameP x) {s : ByteArray} {a : List UInt8} (h : s.data.toList = a) : sgc L s a.length = -1 := by
  have hF := sgF_end hG h 3
  have hl : s.size = a.length := by rw [← ba_len, h]
  unfold sgc
  rw [hF]
  simp only
  rw [if_neg (by omega)]
theorem letter_at {L : List ByteArray} (hG : ∀ x ∈ L, nameP x) (hN : L.Nodup) {s : ByteArray} {a : List UInt8} {i : Nat} (hi : i < L.length) {t : List Nat} (h : s.data.toList = a ++ encR (rs L[i] ++ t)) (hw : Wrs t) (ht : okT L t) : sgc L s a.length = -2 ∧ sgn L s a.length = i ∧ sgb L s a.length = a.length + (encR (rs L[i])).length := by
  have hx := hG _ (List.getElem_mem hi)
  have hF := sgF_name hG hN hi h hw ht 3 (by have := hx.2.1; unfold rs; rw [List.length_map]; exact this)
  unfold sgc sgn sgb
  rw [hF]
  refine ⟨rfl, rfl, ?_⟩
  simp only
  rw [← name_enc hx, ba_len]
/-- Letters' runes with commas between. -/
def jnR : List (List Nat) → List Nat
  | [] => []
  | x :: r => x ++ r.flatMap (fun y => 44 :: y)
theorem enc_44 (l : List Nat) : encR (44 :: l) = 44 :: encR l := by
  rw [encR_cons]
  have : encB 44 = [44] := by decide
  rw [this]; rfl
theorem enc_flat : ∀ (xs : List ByteArray), (∀ x ∈ xs, nameP x) → encR ((xs.map rs).flatMap fun y => 44 :: y) = xs.flatMap fun y => 44 :: bts y
  | [], _ => rfl
  | x :: xs, h => by
    rw [List.map_cons, List.flatMap_cons, List.flatMap_cons, encR_append, enc_44, ← name_enc (h x (List.mem_cons_self ..)), enc_flat xs (fun y hy => h y (List.mem_cons_of_mem _ hy))]
    rfl
theorem enc_jnR {xs : List ByteArray} (h : ∀ x ∈ xs, nameP x) : encR (jnR (xs.map rs)) = jnL xs := by
  match xs, h with
  | [], _ => rfl
  | x :: r, h =>
    show encR (rs x ++ (r.map rs).flatMap fun y => 44 :: y) = bts x ++ r.flatMap fun y => 44 :: bts y
    rw [encR_append, enc_flat r (fun y hy => h y (List.mem_cons_of_mem _ hy)), ← name_enc (h x (List.mem_cons_self ..))]
    rfl
theorem cap44 : ¬ capR 44 := fun h => by have := h.1; unfold isL at this; omega
theorem cap93 : ¬ capR 93 := fun h => by have := h.1; unfold isL at this; omega
theorem cap91 : ¬ capR 91 := fun h => by have := h.1; unfold isL at this; omega
theorem cap94 : ¬ capR 94 := fun h => by have := h.1; unfold isL at this; omega
theorem cap63 : ¬ capR 63 := fun h => by have := h.1; unfold isL at this; omega
theorem wr_small {c : Nat} (h : c < 128) : wr (c : Int) = c := by
  have hv : Utf8.valid (c : Int) = true := by unfold Utf8.valid; simp; omega
  unfold wr
  rw [if_pos hv]
  simp
theorem wrs_cons {c : Nat} {t : List Nat} (h : wr (c : Int) = c) (ht : Wrs t) : Wrs (c :: t) := fun r hr => by
  rcases List.mem_cons.1 hr with e | e
  · subst e; exact h
  · exact ht r e
theorem wrs_flat {L : List ByteArray} (hG : ∀ x ∈ L, nameP x) : ∀ xs : List (List Nat), (∀ x ∈ xs, Wrs x) → Wrs (xs.flatMap fun y => 44 :: y)
  | [], _ => fun r hr => by cases hr
  | x :: xs, h => by
    rw [List.flatMap_cons]
    exact wrs_append (wrs_cons (wr_small (by decide)) (h x (List.mem_cons_self ..))) (wrs_flat hG xs fun y hy => h y (List.mem_cons_of_mem _ hy))
/-- LETTERS IN BRACKETS, from the first letter on. -/
theorem brk_read {L : List ByteArray} (hG : ∀ x ∈ L, nameP x) (hN : L.Nodup) {s : ByteArray} {t : List Nat} (hw : Wrs t) : ∀ (xs : List Nat) (i : Nat) (a : List UInt8) (f said : Nat) (hi : i < L.length) (hx : ∀ j ∈ xs, j < L.length),
    s.data.toList = a ++ encR (rs L[i] ++ ((xs.map fun j : Nat => rs (nameAt L (j : Int))).flatMap (fun y => 44 :: y) ++ 93 :: t)) → xs.length < f → brk L s f a.length said = some ((i :: xs).foldl (fun m j => m ||| oneN j) said, a.length + (encR (rs L[i] ++ ((xs.map fun j : Nat => rs (nameAt L (j : Int))).flatMap (fun y => 44 :: y) ++ [93]))).length)
  | [], i, a, f, said, hi, hx, h, hf => by
    obtain ⟨f, rfl⟩ : ∃ g, f = g + 1 := ⟨f - 1, by simp at hf; omega⟩
    rw [List.map_nil, List.flatMap_nil, List.nil_append] at h
    have hw93 : Wrs (93 :: t) := wrs_cons (wr_small (by decide)) hw
    obtain ⟨h1, h2, h3⟩ := letter_at hG hN hi h hw93 (.inr (.inl ⟨93, t, rfl, cap93⟩))
    have h' : s.data.toList = (a ++ encR (rs L[i])) ++ encR (93 :: t) := by rw [h, encR_append, List.append_assoc]
    obtain ⟨h4, h5⟩ := sign_at hG h' hw93 cap93 (by decide)
    rw [List.length_append, ← h3] at h4 h5
    rw [brk, if_pos h1, if_neg (by rw [h4]; decide), if_pos (show sgc L s (sgb L s a.length) = 93 from h4), h5, h2, h3]
    have e93 : encR [93] = [93] := by rw [encR_cons]; rfl
    rw [List.map_nil, List.flatMap_nil, List.nil_append, encR_append, e93, List.length_append, List.foldl_cons, List.foldl_nil]
    simp only [List.length_cons, List.length_nil]
    rw [Nat.add_assoc]
  | k :: xs, i, a, f, said, hi, hx, h, hf => by
    obtain ⟨f, rfl⟩ : ∃ g, f = g + 1 := ⟨f - 1, by simp at hf; omega⟩
    have hk : k < L.length := hx k (List.mem_cons_self ..)
    have hnk : nameAt L (k : Int) = L[k] := by
      unfold nameAt
      rw [if_pos (by omega), show ((k : Int)).toNat = k from rfl, List.getElem?_eq_getElem hk]
      rfl
    have hnx : ∀ j ∈ xs, Wrs (rs (nameAt L (j : Int))) := fun j hj => by
      have hj' := hx j (List.mem_cons_of_mem _ hj)
      unfold nameAt
      rw [if_pos (by omega), show ((j : Int)).toNat = j from rfl, List.getElem?_eq_getElem hj']
      exact wrs_cap (name_cap (hG _ (List.getElem_mem hj')))
    rw [List.map_cons, List.flatMap_cons, hnk] at h ⊢
    have hwr : Wrs ((xs.map fun j : Nat => rs (nameAt L (j : Int))).flatMap (fun y => 44 :: y) ++ 93 :: t) := by
      refine wrs_append (wrs_flat hG _ fun x hm => ?_) (wrs_cons (wr_small (by decide)) hw)
      obtain ⟨j, hj, rfl⟩ := List.mem_map.1 hm
      exact hnx j hj
    generalize hF : (xs.map fun j : Nat => rs (nameAt L (j : Int))).flatMap (fun y => 44 :: y) = F at *
    have hwk : Wrs (rs L[k]) := wrs_cap (name_cap (hG _ (List.getElem_mem hk)))
    have hw44 : Wrs (44 :: (rs L[k] ++ (F ++ 93 :: t))) := wrs_cons (wr_small (by decide)) (wrs_append hwk hwr)
    have hh : s.data.toList = a ++ encR (rs L[i] ++ (44 :: (rs L[k] ++ (F ++ 93 :: t)))) := by rw [h]; simp
    obtain ⟨h1, h2, h3⟩ := letter_at hG hN hi hh hw44 (.inr (.inl ⟨44, _, rfl, cap44⟩))
    have h' : s.data.toList = (a ++ encR (rs L[i])) ++ encR (44 :: (rs L[k] ++ (F ++ 93 :: t))) := by rw [hh, encR_append, List.append_assoc]
    obtain ⟨h4, h5⟩ := sign_at hG h' hw44 cap44 (by decide)
    have h'' : s.data.toList = (a ++ encR (rs L[i]) ++ [44]) ++ encR (rs L[k] ++ (F ++ 93 :: t)) := by rw [h', enc_44]; simp
    rw [← hF] at h''
    have ih := brk_read hG hN hw xs k (a ++ encR (rs L[i]) ++ [44]) f (said ||| oneN i) hk (fun j hj => hx j (List.mem_cons_of_mem _ hj)) h'' (by simp at hf; omega)
    rw [List.length_append, ← h3] at h4 h5
    have hq : sgb L s (sgb L s a.length) = (a ++ encR (rs L[i]) ++ [44]).length := by
      rw [h5, h3, List.length_append, List.length_append]; rfl
    rw [brk, if_pos h1, if_pos (show sgc L s (sgb L s a.length) = 44 from h4), h2, hq, ih, hF]
    simp only [List.foldl_cons]
    congr 2
    rw [List.length_append, List.length_append]
    have : rs L[i] ++ (44 :: rs L[k] ++ F ++ [93]) = rs L[i] ++ 44 :: (rs L[k] ++ (F ++ [93])) := by simp
    have e1 : encR (rs L[i] ++ 44 :: (rs L[k] ++ (F ++ [93]))) = encR (rs L[i]) ++ 44 :: encR (rs L[k] ++ (F ++ [93])) := by rw [encR_append, enc_44]
    rw [this, e1]
    simp only [List.length_append, List.length_cons, List.length_nil]
    omega
end Go.Proofs.YtcocbjipikeebaaDoor.Pts
/-
  What is printed of masks is read as the same masks: elements, and the whole text.
-/
namespace Go.Proofs.YtcocbjipikeebaaDoor.Pts
open Go Go.Lib Go.RowKit Utf Msk

theorem oneN_bit {j : Nat} (hj : j < 64) (b : Nat) : (oneN j).testBit b = decide (b = j) := by
  by_cases hb : b < 64
  · unfold oneN
    rw [ofL_bit _ b hb]
    congr 1
    simp
    omega
  · rw [Nat.testBit_lt_two_pow (Nat.lt_of_lt_of_le (oneN_lt j) (Nat.pow_le_pow_right (n := 2) (i := 64) (by decide) (by omega)))]
    exact (decide_eq_false (by omega)).symm
theorem foldOr_bit : ∀ (xs : List Nat) (m b : Nat), (∀ j ∈ xs, j < 64) → (xs.foldl (fun m j => m ||| oneN j) m).testBit b = (m.testBit b || decide (b ∈ xs))
  | [], m, b, _ => by simp
  | x :: xs, m, b, h => by
    rw [List.foldl_cons, foldOr_bit xs _ b (fun j hj => h j (List.mem_cons_of_mem _ hj)), Nat.testBit_or, oneN_bit (h x (List.mem_cons_self ..)), Bool.or_assoc]
    congr 1
    by_cases e : b = x
    · subst e; simp
    · simp [e]
theorem foldOr_bits {m : Nat} (h : m < 18446744073709551616) : (bitsL m).foldl (fun m j => m ||| oneN j) 0 = m := by
  refine Nat.eq_of_testBit_eq fun b => ?_
  rw [foldOr_bit _ _ _ (fun j hj => (mem_bitsL.1 hj).1), Nat.zero_testBit, Bool.false_or]
  by_cases hb : b < 64
  · cases hm : m.testBit b with
    | true => exact decide_eq_true (mem_bitsL.2 ⟨hb, hm⟩)
    | false => exact decide_eq_false fun k => by have := (mem_bitsL.1 k).2; rw [hm] at this; cases this
  · rw [Nat.testBit_lt_two_pow (Nat.lt_of_lt_of_le h (Nat.pow_le_pow_right (n := 2) (i := 64) (by decide) (by omega)))]
    exact decide_eq_false fun k => hb (mem_bitsL.1 k).1
theorem notN_bit {a m : Nat} (ha : a < 18446744073709551616) (hm : m < 18446744073709551616) (b : Nat) : (notN a m).testBit b = (a.testBit b && !m.testBit b) := by
  unfold notN
  rw [Nat.testBit_and, show 18446744073709551615 - m = 2 ^ 64 - (m + 1) by omega, Nat.testBit_two_pow_sub_succ hm]
  by_cases hb : b < 64
  · rw [decide_eq_true hb, Bool.true_and]
  · rw [Nat.testBit_lt_two_pow (Nat.lt_of_lt_of_le ha (Nat.pow_le_pow_right (n := 2) (i := 64) (by decide) (by omega))), Bool.false_and, Bool.false_and]
theorem sub_bit {m a : Nat} (hm : m < 18446744073709551616) (ha : a < 18446744073709551616) (h : notN m a = 0) (b : Nat) (hb : m.testBit b = true) : a.testBit b = true := by
  have := notN_bit hm ha b
  rw [h, Nat.zero_testBit, hb, Bool.true_and] at this
  simpa using this.symm
theorem notN_notN {m a : Nat} (hm : m < 18446744073709551616) (ha : a < 18446744073709551616) (h : notN m a = 0) : notN a (notN a m) = m := by
  refine Nat.eq_of_testBit_eq fun b => ?_
  rw [notN_bit ha (notN_lt ha), notN_bit ha hm]
  cases h1 : m.testBit b with
  | true => rw [sub_bit hm ha h b h1]; rfl
  | false => cases a.testBit b <;> rfl
theorem allN_bit {L : List ByteArray} (h40 : L.length ≤ 40) (b : Nat) : (allN L).testBit b = decide (b < L.length) := by
  unfold allN fullN
  rw [show (min (L.length : Int) 64).toNat = L.length by omega, Nat.testBit_two_pow_sub_one]
theorem not_low {L : List ByteArray} (m : Nat) : notN (allN L) m < 18446744073709551616 := notN_lt (allN_lt L)
/-- The masks that are told by brackets. -/
theorem bits_in {L : List ByteArray} (h40 : L.length ≤ 40) {m : Nat} (hm : m < 18446744073709551616) (h : notN m (allN L) = 0) : ∀ i ∈ bitsL m, i < L.length := fun i hi => by
  have := sub_bit hm (allN_lt L) h i (mem_bitsL.1 hi).2
  rw [allN_bit h40] at this
  simpa using this
theorem bits_not {L : List ByteArray} (h40 : L.length ≤ 40) {m : Nat} (hm : m < 18446744073709551616) : ∀ i ∈ bitsL (notN (allN L) m), i < L.length := fun i hi => by
  have := (mem_bitsL.1 hi).2
  rw [notN_bit (allN_lt L) hm, allN_bit h40] at this
  simp at this
  exact this.1
theorem not_some {L : List ByteArray} {m : Nat} (hm : m < 18446744073709551616) (h : notN m (allN L) = 0) (hne : m ≠ allN L) : bitsL (notN (allN L) m) ≠ [] := fun e => by
  have h1 : notN (allN L) m = 0 := by
    have := foldOr_bits (not_low (L := L) m)
    rw [e] at this
    exact this.symm
  have h2 := notN_notN hm (allN_lt L) h
  rw [h1] at h2
  have h3 : notN (allN L) 0 = allN L := by
    refine Nat.eq_of_testBit_eq fun b => ?_
    rw [notN_bit (allN_lt L) (by decide), Nat.zero_testBit]
    simp
  rw [h3] at h2
  exact hne h2.symm
/-- What is printed of a mask, in runes. -/
def letR (L : List ByteArray) (xs : List Nat) : List (List Nat) := xs.map fun i : Nat => rs (nameAt L (i : Int))
def elR (L : List ByteArray) (m : Nat) : List Nat :=
  if m = allN L then [63]
  else if (bitsL m).length = 1 ∧ plainL L then rs (nameAt L (nthV m 0))
  else if 0 < (bitsL m).length ∧ 2 * (bitsL m).length ≤ L.length then 91 :: (jnR (letR L (bitsL m)) ++ [93])
  else 91 :: 94 :: (jnR (letR L (bitsL (notN (allN L) m))) ++ [93])
theorem enc_low {c : Nat} (h : c < 128) (t : List Nat) : encR (c :: t) = UInt8.ofNat c :: encR t := by
  have e : encB c = [UInt8.ofNat c] := by
    rw [encB, encZ1 (by omega) (by omega)]
    rfl
  rw [encR_cons, e, List.singleton_append]
theorem name_of {L : List ByteArray} {i : Nat} (hi : i < L.length) : nameAt L (i : Int) = L[i] := by
  unfold nameAt
  rw [if_pos (by omega), show ((i : Int)).toNat = i from rfl, List.getElem?_eq_getElem hi]
  rfl
theorem enc_lets {L : List ByteArray} (hG : ∀ x ∈ L, nameP x) {m : Nat} (h : ∀ i ∈ bitsL m, i < L.length) : encR (jnR (letR L (bitsL m))) = jnL (lets L m) := by
  have : letR L (bitsL m) = (lets L m).map rs := by unfold letR lets; rw [List.map_map]; rfl
  rw [this, enc_jnR]
  intro x hx
  obtain ⟨i, hi, rfl⟩ := List.mem_map.1 hx
  rw [name_of (h i hi)]
  exact hG _ (List.getElem_mem _)
theorem one_bit {L : List ByteArray} {m : Nat} (h1 : (bitsL m).length = 1) (h : ∀ i ∈ bitsL m, i < L.length) : ∃ i, bitsL m = [i] ∧ i < L.length ∧ nthV m 0 = (i : Int) := by
  match hb : bitsL m, h1 with
  | [i], _ =>
    refine ⟨i, rfl, h i (by rw [hb]; exact List.mem_cons_self ..), nthV_in (Int.le_refl 0) ?_⟩
    rw [hb]; rfl
theorem enc_elR {L : List ByteArray} (hG : ∀ x ∈ L, nameP x) (h40 : L.length ≤ 40) {m : Nat} (hm : m < 18446744073709551616) (h : notN m (allN L) = 0) : encR (elR L m) = elT L m := by
  have h93 : encR [93] = [93] := by rw [enc_low (by decide)]; rfl
  unfold elR elT
  by_cases h0 : m = allN L
  · rw [if_pos h0, if_pos h0, enc_low (by decide)]; rfl
  · rw [if_neg h0, if_neg h0]
    by_cases h1 : (bitsL m).length = 1 ∧ plainL L
    · rw [if_pos h1, if_pos h1]
      obtain ⟨i, _, hi, e⟩ := one_bit h1.1 (bits_in h40 hm h)
      rw [e, name_of hi, ← name_enc (hG _ (List.getElem_mem hi))]
      rfl
    · rw [if_neg h1, if_neg h1]
      by_cases h2 : 0 < (bitsL m).length ∧ 2 * (bitsL m).length ≤ L.length
      · rw [if_pos h2, if_pos h2, enc_low (by decide), encR_append, enc_lets hG (bits_in h40 hm h), h93]; rfl
      · rw [if_neg h2, if_neg h2, enc_low (by decide), enc_low (by decide), encR_append, enc_lets hG (bits_not h40 hm), h93]; rfl
theorem wrs_name {L : List ByteArray} (hG : ∀ x ∈ L, nameP x) {i : Nat} (hi : i < L.length) : Wrs (rs L[i]) := wrs_cap (name_cap (hG _ (List.getElem_mem hi)))
theorem wrs_jn {L : List ByteArray} (hG : ∀ x ∈ L, nameP x) : ∀ {xs : List Nat}, (∀ i ∈ xs, i < L.length) → Wrs (jnR (letR L xs))
  | [], _ => fun r hr => by cases hr
  | x :: xs, h => by
    have hn : ∀ i ∈ x :: xs, Wrs (rs (nameAt L (i : Int))) := fun i hi => by rw [name_of (h i hi)]; exact wrs_name hG (h i hi)
    refine wrs_append (hn x (List.mem_cons_self ..)) (wrs_flat hG _ fun y hy => ?_)
    obtain ⟨i, hi, rfl⟩ := List.mem_map.1 hy
    exact hn i (List.mem_cons_of_mem _ hi)
theorem wrs_elR {L : List ByteArray} (hG : ∀ x ∈ L, nameP x) (h40 : L.length ≤ 40) {m : Nat} (hm : m < 18446744073709551616) (h : notN m (allN L) = 0) : Wrs (elR L m) := by
  have w93 : Wrs [93] := wrs_cons (wr_small (by decide)) fun r hr => by cases hr
  unfold elR
  split
  · exact wrs_cons (wr_small (by decide)) fun r hr => by cases hr
  · split
    · rename_i h1
      obtain ⟨i, _, hi, e⟩ := one_bit h1.1 (bits_in h40 hm h)
      rw [e, name_of hi]
      exact wrs_name hG hi
    · split
      · exact wrs_cons (wr_small (by decide)) (wrs_append (wrs_jn hG (bits_in h40 hm h)) w93)
      · exact wrs_cons (wr_small (by decide)) (wrs_cons (wr_small (by decide)) (wrs_append (wrs_jn hG (bits_not h40 hm)) w93))
theorem flat_count : ∀ xs : List (List Nat), xs.length ≤ (encR (xs.flatMap fun y => 44 :: y)).length
  | [] => Nat.zero_le _
  | x :: xs => by
    have := flat_count xs
    rw [List.flatMap_cons, encR_append, enc_44, List.length_append, List.length_cons, List.length_cons]
    omega
/-- AN ELEMENT THAT WAS PRINTED IS READ. -/
theorem elem_read {L : List ByteArray} (hG : ∀ x ∈ L, nameP x) (hN : L.Nodup) (h40 : L.length ≤ 40) {m : Nat} (hm : m < 18446744073709551616) (h : notN m (allN L) = 0) {s : ByteArray} {a : List UInt8} {t : List Nat} (hs : s.data.toList = a ++ encR (elR L m ++ t)) (hw : Wrs t) {f : Nat} (hf : (encR (elR L m)).length ≤ f) :
    (sgc L s a.length = 63 ∨ sgc L s a.length = 91 ∨ sgc L s a.length = -2) ∧ elem L s (allN L) f a.length = some (m, a.length + (encR (elR L m)).length) := by
  have hin := bits_in h40 hm h
  have hno := bits_not h40 hm
  have hns := @not_some L m hm h
  by_cases h0 : m = allN L
  · have e : elR L m = [63] := by unfold elR; rw [if_pos h0]
    rw [e] at hs ⊢
    obtain ⟨h1, h2⟩ := sign_at hG (c := 63) (t := t) hs (wrs_cons (wr_small (by decide)) hw) cap63 (by decide)
    refine ⟨.inl h1, ?_⟩
    rw [elem, if_pos (by rw [h1]; rfl), h2, h0, enc_low (by decide)]
    rfl
  · by_cases h1 : (bitsL m).length = 1 ∧ plainL L
    · obtain ⟨i, hb, hi, en⟩ := one_bit h1.1 hin
      have e : elR L m = rs L[i] := by unfold elR; rw [if_neg h0, if_pos h1, en, name_of hi]
      rw [e] at hs ⊢
      obtain ⟨k1, k2, k3⟩ := letter_at hG hN hi hs hw (.inr (.inr fun x hx => by have := h1.2 x hx; unfold rs; rw [List.length_map, pairs_length]; exact this))
      refine ⟨.inr (.inr k1), ?_⟩
      have hone : oneN i = m := by
        have := ofL_back m hm
        rw [hb] at this
        exact this
      rw [elem, if_neg (by rw [k1]; decide), if_pos k1, k2, k3, hone]
    · by_cases h2 : 0 < (bitsL m).length ∧ 2 * (bitsL m).length ≤ L.length
      · have e : elR L m = 91 :: (jnR (letR L (bitsL m)) ++ [93]) := by unfold elR; rw [if_neg h0, if_neg h1, if_pos h2]
        have hfb := foldOr_bits hm
        rw [e] at hs hf ⊢
        generalize bitsL m = bs at *
        match bs, h2 with
        | i :: xs, _ =>
          have hi : i < L.length := hin i (List.mem_cons_self ..)
          have ej : jnR (letR L (i :: xs)) = rs L[i] ++ (xs.map fun j : Nat => rs (nameAt L (j : Int))).flatMap (fun y => 44 :: y) := by
            unfold letR jnR
            rw [List.map_cons, name_of hi]
          have hwj := wrs_jn hG hin
          rw [ej] at hs hf hwj ⊢
          have hs1 : s.data.toList = a ++ encR (91 :: ((rs L[i] ++ (xs.map fun j : Nat => rs (nameAt L (j : Int))).flatMap (fun y => 44 :: y)) ++ 93 :: t)) := by rw [hs]; simp
          have hw1 := wrs_append hwj (wrs_cons (c := 93) (wr_small (by decide)) hw)
          obtain ⟨k1, k2⟩ := sign_at hG hs1 (wrs_cons (wr_small (by decide)) hw1) cap91 (by decide)
          have hs2 : s.data.toList = (a ++ [91]) ++ encR (rs L[i] ++ ((xs.map fun j : Nat => rs (nameAt L (j : Int))).flatMap (fun y => 44 :: y) ++ 93 :: t)) := by rw [hs1, enc_low (by decide)]; simp
          have ep : sgb L s a.length = (a ++ [91]).length := by rw [k2, List.length_append]; rfl
          have hfl : xs.length < f := by
            have := flat_count (xs.map fun j : Nat => rs (nameAt L (j : Int)))
            rw [List.length_map] at this
            rw [enc_low (by decide), List.length_cons, encR_append, encR_append, List.length_append, List.length_append] at hf
            omega
          have hrd := brk_read hG hN hw xs i (a ++ [91]) f 0 hi (fun j hj => hin j (List.mem_cons_of_mem _ hj)) hs2 hfl
          have k3 : sgc L s (sgb L s a.length) ≠ 94 := by
            have hww : Wrs ((xs.map fun j : Nat => rs (nameAt L (j : Int))).flatMap (fun y => 44 :: y) ++ 93 :: t) := fun r hr => hw1 r (by rw [List.append_assoc]; exact List.mem_append_right _ hr)
            have hok : okT L ((xs.map fun j : Nat => rs (nameAt L (j : Int))).flatMap (fun y => 44 :: y) ++ 93 :: t) := by
              match xs with
              | [] => exact .inr (.inl ⟨93, t, rfl, cap93⟩)
              | y :: ys => exact .inr (.inl ⟨44, _, by rw [List.map_cons, List.flatMap_cons]; rfl, cap44⟩)
            rw [ep, (letter_at hG hN hi hs2 hww hok).1]
            decide
          refine ⟨.inr (.inl k1), ?_⟩
          rw [elem, if_neg (by rw [k1]; decide), if_neg (by rw [k1]; decide), if_pos (by rw [k1]; rfl), if_neg k3, ep, hrd, hfb]
          show some (m, _) = some (m, _)
          rw [enc_low (by decide), List.length_append, List.length_cons]
          simp only [List.length_cons, List.length_nil, List.append_assoc]
          congr 2
          omega
      · have e : elR L m = 91 :: 94 :: (jnR (letR L (bitsL (notN (allN L) m))) ++ [93]) := by unfold elR; rw [if_neg h0, if_neg h1, if_neg h2]
        have hfb := foldOr_bits (not_low (L := L) m)
        have hne := hns h0
        have hnn := notN_notN hm (allN_lt L) h
        rw [e] at hs hf ⊢
        generalize bitsL (notN (allN L) m) = bs at *
        match bs, hne with
        | i :: xs, _ =>
          have hi : i < L.length := hno i (List.mem_cons_self ..)
          have ej : jnR (letR L (i :: xs)) = rs L[i] ++ (xs.map fun j : Nat => rs (nameAt L (j : Int))).flatMap (fun y => 44 :: y) := by
            unfold letR jnR
            rw [List.map_cons, name_of hi]
          have hwj := wrs_jn hG hno
          rw [ej] at hs hf hwj ⊢
          have hs1 : s.data.toList = a ++ encR (91 :: 94 :: ((rs L[i] ++ (xs.map fun j : Nat => rs (nameAt L (j : Int))).flatMap (fun y => 44 :: y)) ++ 93 :: t)) := by rw [hs]; simp
          have hw1 := wrs_append hwj (wrs_cons (c := 93) (wr_small (by decide)) hw)
          have hw2 := wrs_cons (c := 94) (wr_small (by decide)) hw1
          obtain ⟨k1, k2⟩ := sign_at hG hs1 (wrs_cons (wr_small (by decide)) hw2) cap91 (by decide)
          have hs2 : s.data.toList = (a ++ [91]) ++ encR (94 :: ((rs L[i] ++ (xs.map fun j : Nat => rs (nameAt L (j : Int))).flatMap (fun y => 44 :: y)) ++ 93 :: t)) := by rw [hs1, enc_low (by decide)]; simp
          obtain ⟨l1, l2⟩ := sign_at hG hs2 hw2 cap94 (by decide)
          have ep : sgb L s a.length = (a ++ [91]).length := by rw [k2, List.length_append]; rfl
          have hs3 : s.data.toList = (a ++ [91] ++ [94]) ++ encR (rs L[i] ++ ((xs.map fun j : Nat => rs (nameAt L (j : Int))).flatMap (fun y => 44 :: y) ++ 93 :: t)) := by rw [hs2, enc_low (by decide)]; simp
          have ep2 : sgb L s (a ++ [91]).length = (a ++ [91] ++ [94]).length := by rw [l2]; simp
          have hfl : xs.length < f := by
            have := flat_count (xs.map fun j : Nat => rs (nameAt L (j : Int)))
            rw [List.length_map] at this
            rw [enc_low (by decide), List.length_cons, enc_low (by decide), List.length_cons, encR_append, encR_append, List.length_append, List.length_append] at hf
            omega
          have hrd := brk_read hG hN hw xs i (a ++ [91] ++ [94]) f 0 hi (fun j hj => hno j (List.mem_cons_of_mem _ hj)) hs3 hfl
          refine ⟨.inr (.inl k1), ?_⟩
          rw [elem, if_neg (by rw [k1]; decide), if_neg (by rw [k1]; decide), if_pos (by rw [k1]; rfl), ep, if_pos (by rw [l1]; rfl), ep2, hrd, hfb]
          show some (notN (allN L) (notN (allN L) m), _) = some (m, _)
          rw [hnn, enc_low (by decide), enc_low (by decide), List.length_append, List.length_append, List.length_cons, List.length_cons]
          simp only [List.length_cons, List.length_nil, List.append_assoc]
          congr 2
          omega
theorem wrs_txt {L : List ByteArray} (hG : ∀ x ∈ L, nameP x) (h40 : L.length ≤ 40) : ∀ {ms : List Nat}, Low ms → (∀ m ∈ ms, notN m (allN L) = 0) → Wrs (ms.flatMap (elR L)) ∧ encR (ms.flatMap (elR L)) = txtL L ms
  | [], _, _ => by
    rw [List.flatMap_nil]
    exact ⟨fun r hr => (by cases hr), by unfold encR txtL; rw [List.flatMap_nil, List.flatMap_nil]⟩
  | m :: ms, hl, h => by
    obtain ⟨h1, h2⟩ := wrs_txt hG h40 (ms := ms) (fun x hx => hl x (List.mem_cons_of_mem _ hx)) (fun x hx => h x (List.mem_cons_of_mem _ hx))
    have hm := hl m (List.mem_cons_self ..)
    have hf := h m (List.mem_cons_self ..)
    unfold txtL at h2 ⊢
    rw [List.flatMap_cons, List.flatMap_cons]
    exact ⟨wrs_append (wrs_elR hG h40 hm hf) h1, by rw [encR_append, enc_elR hG h40 hm hf, h2]⟩
theorem elR_pos {L : List ByteArray} (hG : ∀ x ∈ L, nameP x) (h40 : L.length ≤ 40) {m : Nat} (hm : m < 18446744073709551616) (h : notN m (allN L) = 0) : 1 ≤ (encR (elR L m)).length := by
  unfold elR
  split
  · rw [enc_low (by decide), List.length_cons]; omega
  · split
    · rename_i h1
      obtain ⟨i, _, hi, e⟩ := one_bit h1.1 (bits_in h40 hm h)
      rw [e, name_of hi, ← name_enc (hG _ (List.getElem_mem hi)), ba_len]
      exact (name_len (hG _ (List.getElem_mem hi))).1
    · split
      · rw [enc_low (by decide), List.length_cons]; omega
      · rw [enc_low (by decide), List.length_cons]; omega
theorem prs_read {L : List ByteArray} (hG : ∀ x ∈ L, nameP x) (hN : L.Nodup) (h40 : L.length ≤ 40) {s : ByteArray} : ∀ (ms : List Nat) (a : List UInt8) (acc : List Nat) (f : Nat), Low ms → (∀ m ∈ ms, notN m (allN L) = 0) → s.data.toList = a ++ encR (ms.flatMap (elR L)) → s.size < a.length + f → acc.length + ms.length ≤ 32 → prs L s (allN L) f a.length acc = (0, 0, acc ++ ms)
  | [], a, acc, f, _, _, hs, hf, _ => by
    have ha : s.data.toList = a := by rw [hs]; simp [encR]
    have hl : s.size = a.length := by rw [← ba_len, ha]
    obtain ⟨f, rfl⟩ : ∃ g, f = g + 1 := ⟨f - 1, by omega⟩
    rw [prs_end (end_at hG ha), List.append_nil]
  | m :: ms, a, acc, f, hl, h, hs, hf, hlen => by
    have hm := hl m (List.mem_cons_self ..)
    have hfm := h m (List.mem_cons_self ..)
    have hl' : Low ms := fun x hx => hl x (List.mem_cons_of_mem _ hx)
    have h' : ∀ x ∈ ms, notN x (allN L) = 0 := fun x hx => h x (List.mem_cons_of_mem _ hx)
    obtain ⟨hw, -⟩ := wrs_txt hG h40 hl' h'
    rw [List.flatMap_cons] at hs
    have hsz : s.size = a.length + ((encR (elR L m)).length + (encR (ms.flatMap (elR L))).length) := by rw [← ba_len, hs, encR_append]; simp
    have hp := elR_pos hG h40 hm hfm
    obtain ⟨f, rfl⟩ : ∃ g, f = g + 1 := ⟨f - 1, by omega⟩
    obtain ⟨h1, h2⟩ := elem_read hG hN h40 hm hfm hs hw (f := f) (by omega)
    rw [List.length_cons] at hlen
    rw [prs_el (by rcases h1 with e | e | e <;> rw [e] <;> decide) h1 (by omega), h2]
    show prs L s (allN L) f (a.length + (encR (elR L m)).length) (acc ++ [m]) = _
    have ih := prs_read hG hN h40 ms (a ++ encR (elR L m)) (acc ++ [m]) f hl' h' (by rw [hs, encR_append, List.append_assoc]) (by rw [List.length_append]; omega) (by rw [List.length_append]; simp; omega)
    rw [List.length_append] at ih
    rw [ih, List.append_assoc]
    rfl
end Go.Proofs.YtcocbjipikeebaaDoor.Pts
/-
  What a text says as a pattern: masks of the alphabet's letters, at most 32; or a place within the text and one of two kinds.
-/
namespace Go.Proofs.YtcocbjipikeebaaDoor.Pts
open Go Go.Lib Go.RowKit Utf Msk

theorem sgF_in {L : List ByteArray} (s : ByteArray) (p : Nat) : ∀ n k w, sgF L s p n = some (k, w) → k < L.length
  | 0, _, _, h => by cases h
  | n + 1, k, w, h => by
    rw [sgF] at h
    cases hl : lkp L (nmS s p (n + 1)) with
    | none => rw [hl] at h; exact sgF_in s p n k w h
    | some j =>
      rw [hl] at h
      have h' : some (j, (nmS s p (n + 1)).size) = some (k, w) := h
      simp only [Option.some.injEq, Prod.mk.injEq] at h'
      obtain ⟨rfl, -⟩ := h'
      exact (List.getElem?_eq_some_iff.1 (lkp_get hl)).1
theorem sgn_in {L : List ByteArray} {s : ByteArray} {p : Nat} (h : sgc L s p = -2) : sgn L s p < L.length := by
  unfold sgc at h
  unfold sgn
  cases hF : sgF L s p 3 with
  | some x => exact sgF_in s p 3 x.1 x.2 hF
  | none =>
    rw [hF] at h
    simp only at h
    split at h
    · omega
    · omega
theorem sgc_in {L : List ByteArray} (hL : ∀ x ∈ L, 1 ≤ x.size) {s : ByteArray} {p : Nat} (h : sgc L s p ≠ -1) : p < s.size := by
  unfold sgc at h
  cases hF : sgF L s p 3 with
  | some x => have := sgF_fit hL s p 3 x.1 x.2 hF; omega
  | none =>
    rw [hF] at h
    simp only at h
    split at h
    · assumption
    · exact absurd rfl h
/-- A mask of the alphabet's letters alone. -/
def SubM (L : List ByteArray) (m : Nat) : Prop := m < 18446744073709551616 ∧ notN m (allN L) = 0
theorem SubM.of {L : List ByteArray} {m : Nat} (hm : m < 18446744073709551616) (h : ∀ b, m.testBit b = true → (allN L).testBit b = true) : SubM L m := by
  refine ⟨hm, Nat.eq_of_testBit_eq fun b => ?_⟩
  rw [notN_bit hm (allN_lt L), Nat.zero_testBit]
  cases hb : m.testBit b with
  | true => rw [h b hb]; rfl
  | false => rfl
theorem SubM.all (L : List ByteArray) : SubM L (allN L) := SubM.of (allN_lt L) fun _ h => h
theorem SubM.one {L : List ByteArray} (h40 : L.length ≤ 40) {k : Nat} (h : k < L.length) : SubM L (oneN k) := SubM.of (oneN_lt k) fun b hb => by
  rw [oneN_bit (by omega)] at hb
  rw [allN_bit h40]
  have := of_decide_eq_true hb
  exact decide_eq_true (by omega)
theorem SubM.or {L : List ByteArray} {m n : Nat} (h : SubM L m) (k : SubM L n) : SubM L (m ||| n) := SubM.of (or_lt h.1 k.1) fun b hb => by
  rw [Nat.testBit_or, Bool.or_eq_true] at hb
  rcases hb with e | e
  · exact sub_bit h.1 (allN_lt L) h.2 b e
  · exact sub_bit k.1 (allN_lt L) k.2 b e
theorem SubM.not {L : List ByteArray} {m : Nat} (h : m < 18446744073709551616) : SubM L (notN (allN L) m) := SubM.of (not_low m) fun b hb => by
  rw [notN_bit (allN_lt L) h, Bool.and_eq_true] at hb
  exact hb.1
theorem SubM.zero (L : List ByteArray) : SubM L 0 := SubM.of (by decide) fun b hb => by rw [Nat.zero_testBit] at hb; cases hb
theorem brk_sub {L : List ByteArray} (h40 : L.length ≤ 40) (s : ByteArray) : ∀ f p said m q, SubM L said → brk L s f p said = some (m, q) → SubM L m
  | 0, _, _, _, _, _, h => by cases h
  | f + 1, p, said, m, q, hs, h => by
    rw [brk] at h
    by_cases h1 : sgc L s p = -2
    · have hn := hs.or (SubM.one h40 (sgn_in h1))
      rw [if_pos h1] at h
      by_cases h2 : sgc L s (sgb L s p) = 44
      · rw [if_pos h2] at h
        exact brk_sub h40 s f _ _ m q hn h
      · rw [if_neg h2] at h
        by_cases h3 : sgc L s (sgb L s p) = 93
        · rw [if_pos h3] at h
          simp only [Option.some.injEq, Prod.mk.injEq] at h
          rw [← h.1]; exact hn
        · rw [if_neg h3] at h; cases h
    · rw [if_neg h1] at h; cases h
theorem elem_sub {L : List ByteArray} (h40 : L.length ≤ 40) {s : ByteArray} {f p m q : Nat} (h : elem L s (allN L) f p = some (m, q)) : SubM L m := by
  unfold elem at h
  by_cases h1 : sgc L s p = 63
  · rw [if_pos h1] at h
    simp only [Option.some.injEq, Prod.mk.injEq] at h
    rw [← h.1]; exact SubM.all L
  · rw [if_neg h1] at h
    by_cases h2 : sgc L s p = -2
    · rw [if_pos h2] at h
      simp only [Option.some.injEq, Prod.mk.injEq] at h
      rw [← h.1]; exact SubM.one h40 (sgn_in h2)
    · rw [if_neg h2] at h
      have key : ∀ io x, (∀ m' q', x = some (m', q') → SubM L m') → wth io (allN L) x = some (m, q) → SubM L m := by
        intro io x hx hw
        cases x with
        | none => cases hw
        | some y =>
          obtain ⟨y1, y2⟩ := y
          have hy := hx y1 y2 rfl
          unfold wth at hw
          simp only [Option.map_some, Option.some.injEq, Prod.mk.injEq] at hw
          rw [← hw.1]
          cases io with
          | true => exact SubM.not hy.1
          | false => exact hy
      by_cases h3 : sgc L s p = 91
      · rw [if_pos h3] at h
        by_cases h4 : sgc L s (sgb L s p) = 94
        · rw [if_pos h4] at h
          exact key _ _ (fun m' q' e => brk_sub h40 s f _ 0 m' q' (SubM.zero L) e) h
        · rw [if_neg h4] at h
          exact key _ _ (fun m' q' e => brk_sub h40 s f _ 0 m' q' (SubM.zero L) e) h
      · rw [if_neg h3] at h; cases h
/-- What Parse says of any text. -/
def SaysQ (L : List ByteArray) (s : ByteArray) (R : Nat × Int × List Nat) : Prop := (R.2.1 = 0 ∧ R.2.2.length ≤ 32 ∧ ∀ m ∈ R.2.2, SubM L m) ∨ (R.2.1 = 100 ∨ R.2.1 = 34) ∧ R.1 < s.size
theorem prs_says {L : List ByteArray} (hL : ∀ x ∈ L, 1 ≤ x.size) (h40 : L.length ≤ 40) (s : ByteArray) : ∀ f p acc, acc.length ≤ 32 → (∀ m ∈ acc, SubM L m) → SaysQ L s (prs L s (allN L) f p acc)
  | 0, _, _, _, _ => .inl ⟨rfl, Nat.zero_le _, fun m hm => by cases hm⟩
  | f + 1, p, acc, hl, ha => by
    by_cases h1 : sgc L s p = -1
    · rw [prs_end h1]; exact .inl ⟨rfl, hl, ha⟩
    · have hp := sgc_in hL h1
      by_cases h2 : sgc L s p = 63 ∨ sgc L s p = 91 ∨ sgc L s p = -2
      · by_cases h3 : acc.length = 32
        · rw [prs_long h1 h2 h3]; exact .inr ⟨.inr rfl, hp⟩
        · rw [prs_el h1 h2 h3]
          cases he : elem L s (allN L) f p with
          | none => exact .inr ⟨.inl rfl, hp⟩
          | some x =>
            obtain ⟨m, q⟩ := x
            refine prs_says hL h40 s f q (acc ++ [m]) (by rw [List.length_append]; simp; omega) fun y hy => ?_
            rcases List.mem_append.1 hy with e | e
            · exact ha y e
            · rw [List.mem_singleton.1 e]; exact elem_sub h40 he
      · rw [prs_no h1 h2]; exact .inr ⟨.inl rfl, hp⟩
theorem pat_says {L : List ByteArray} (hL : ∀ x ∈ L, 1 ≤ x.size) (h40 : L.length ≤ 40) (s : ByteArray) : SaysQ L s (patT L s) := prs_says hL h40 s _ _ _ (Nat.zero_le _) fun _ h => by cases h
theorem subM_low {L : List ByteArray} {ms : List Nat} (h : ∀ m ∈ ms, SubM L m) : Low ms := fun m hm => (h m hm).1
theorem subM_fine {L : List ByteArray} (h1 : 1 ≤ L.length) (h40 : L.length ≤ 40) {m : Nat} (h : SubM L m) : fineM L m := by
  refine ⟨fun e => ?_, h.2⟩
  have := allN_bit h40 0
  rw [e, Nat.zero_testBit] at this
  rw [decide_eq_true (show 0 < L.length by omega)] at this
  cases this
/-- WHAT WAS PRINTED OF MASKS IS READ AS THESE. -/
theorem pat_print {L : List ByteArray} (hG : ∀ x ∈ L, nameP x) (hN : L.Nodup) (h40 : L.length ≤ 40) {ms : List Nat} (hl : Low ms) (h : ∀ m ∈ ms, notN m (allN L) = 0) (hlen : ms.length ≤ 32) : patT L ⟨(txtL L ms).toArray⟩ = (0, 0, ms) := by
  have h2 := (wrs_txt hG h40 hl h).2
  have hs : (⟨(txtL L ms).toArray⟩ : ByteArray).data.toList = [] ++ encR (ms.flatMap (elR L)) := by rw [h2]; simp
  exact prs_read hG hN h40 ms [] [] _ hl h hs (by simp) (by simp; omega)
end Go.Proofs.YtcocbjipikeebaaDoor.Pts
