/-
  What was split is joined to the same text, and is the first of its ways.
-/
import Derived.Test.YtaijphanpolegaaEch
import Derived.Test.YtaijphanpolegaaSur
namespace Go.Proofs.Ytaijphanpolegaa.Utf
open Go Go.Lib Go.RowKit

theorem sumW_ge {L : List ByteArray} {rk : List Nat} {t : ByteArray} {ws : List Nat} {p r : Nat} (hb : begins t (nmR L rk r) = true) : ∀ n, r < n → ws.getD (p + (nmR L rk r).size) 0 ≤ sumW L rk t ws p n := by
  intro n
  induction n with
  | zero => intro h; omega
  | succ n ih =>
    intro h
    by_cases e : r = n
    · subst e
      rw [sumW_hit hb]
      omega
    · have := ih (by omega)
      rw [sumW]
      omega
/-- Where the longest letters lead to the end there is a way. -/
theorem greedy_ways {L : List ByteArray} {rk : List Nat} (hRk : Ranked L rk) {s : ByteArray} {ws : List Nat} (hw : WaysTo L rk s 0 ws) : ∀ (f pos : Nat) (done : List Nat), pos ≤ s.size → (splitR L s f pos done).2.2 = 0 → ∃ n, ws[pos]? = some (n + 1) := by
  intro f
  induction f with
  | zero => intro pos done _ h; simp [splitR] at h
  | succ f ih =>
    intro pos done hp h
    by_cases he : pos = s.size
    · exact ⟨0, by rw [he]; exact hw.last⟩
    · by_cases h32 : done.length = 32
      · rw [splitR_long he h32] at h; cases h
      · cases hb : best L (s.extract pos s.size) with
        | none => rw [splitR_none he h32 hb] at h; cases h
        | some i =>
          rw [splitR_next he h32 hb] at h
          have hbi := best_is hb
          have hbs := begins_size hbi.pre
          rw [rest_size] at hbs
          rw [lsz_at hbi.lt] at h
          obtain ⟨n, hn⟩ := ih _ _ (by omega) h
          obtain ⟨r, hr, _, hnm⟩ := hRk.rank hbi.lt
          have hge := sumW_ge (L := L) (rk := rk) (t := s.extract pos s.size) (ws := ws) (p := pos) (r := r) (by rw [hnm]; exact hbi.pre) L.length hr
          rw [hnm, List.getD_eq_getElem?_getD, hn, Option.getD_some] at hge
          refine ⟨min (sumW L rk (s.extract pos s.size) ws pos L.length) 100000 - 1, ?_⟩
          rw [hw.at' pos (Nat.zero_le _) (by omega)]
          congr 1
          omega

theorem least_true (p : Nat → Bool) : ∀ r, p r = true → ∃ k, k ≤ r ∧ p k = true ∧ ∀ j, j < k → p j = false := by
  intro r
  induction r using Nat.strongRecOn with
  | _ r ih =>
    intro h
    by_cases e : ∃ j, j < r ∧ p j = true
    · obtain ⟨j, h1, h2⟩ := e
      obtain ⟨k, h3, h4, h5⟩ := ih j h1 h2
      exact ⟨k, by omega, h4, h5⟩
    · refine ⟨r, Nat.le_refl _, h, fun j hj => ?_⟩
      cases hp : p j with
      | false => rfl
      | true => exact absurd ⟨j, hj, hp⟩ e

/-- Where the longest letters lead to the end they are the first way. -/
theorem greedy_first {L : List ByteArray} {rk : List Nat} (hRk : Ranked L rk) (hNd : L.Nodup) (hw1 : ∀ r, r < L.length → 1 ≤ wid L rk r) {s : ByteArray} {ws : List Nat} (hw : WaysTo L rk s 0 ws) : ∀ (f pos : Nat) (done : List Nat), pos ≤ s.size → (splitR L s f pos done).2.2 = 0 → ∃ p post, waysAt L rk s ws pos = p :: post ∧ (splitR L s f pos done).1 = done ++ p.map (rkN rk) := by
  intro f
  induction f with
  | zero => intro pos done _ h; simp [splitR] at h
  | succ f ih =>
    intro pos done hp h
    by_cases he : pos = s.size
    · refine ⟨[], [], by rw [waysAt_ge hw1, geR_end (by omega)], by rw [splitR_end he]; simp⟩
    · by_cases h32 : done.length = 32
      · rw [splitR_long he h32] at h; cases h
      · cases hb : best L (s.extract pos s.size) with
        | none => rw [splitR_none he h32 hb] at h; cases h
        | some i =>
          rw [splitR_next he h32 hb] at h ⊢
          have hbi := best_is hb
          have hbs := begins_size hbi.pre
          rw [rest_size] at hbs
          obtain ⟨r, hr, hri, hnm⟩ := hRk.rank hbi.lt
          obtain ⟨k, hkr, hkb, hkn⟩ := least_true (fun k => begins (s.extract pos s.size) (nmR L rk k)) r (by show begins _ (nmR L rk r) = true; rw [hnm]; exact hbi.pre)
          have hkl : k < L.length := by omega
          have hlen : rk.length = L.length := by rw [hRk.perm.length_eq, List.length_range]
          obtain ⟨i', hki⟩ : ∃ i', rk[k]? = some i' := ⟨_, List.getElem?_eq_getElem (by omega)⟩
          obtain ⟨hbest, hil, hnk⟩ := stand_best hRk hki hkb (fun j _ hj => hkn j hj)
          obtain rfl : i = i' := by
            have := best_some hNd hbest
            rw [hb] at this
            exact Option.some.inj this
          have hwk : wid L rk k = lsz L i := by unfold wid; rw [hnk, lsz_at hil]
          rw [lsz_at hil] at hwk h ⊢
          obtain ⟨p, post, h1, h2⟩ := ih (pos + L[i].size) (done ++ [i]) (by omega) h
          obtain ⟨n, hn⟩ := greedy_ways hRk hw f (pos + L[i].size) (done ++ [i]) (by omega) h
          have hok : okR L rk s ws pos k = true := by
            unfold okR
            rw [hkb, hwk, List.getD_eq_getElem?_getD, hn]
            rfl
          refine ⟨k :: p, post.map (k :: ·) ++ geR L rk s ws pos (k + 1), ?_, ?_⟩
          · rw [waysAt_ge hw1, geR_skips (by omega) k (Nat.zero_le _) (fun j _ hj => hkn j hj), geR_take (by omega) hkl hok, hwk, h1]
            rfl
          · rw [h2]
            have : rkN rk k = i := by unfold rkN; rw [hki]; rfl
            simp [this]
theorem split_first {L : List ByteArray} {rk : List Nat} (hRk : Ranked L rk) (hNd : L.Nodup) (hw1 : ∀ r, r < L.length → 1 ≤ wid L rk r) {s : ByteArray} {ws : List Nat} (hw : WaysTo L rk s 0 ws) (h : (splitS L s).2.2 = 0) : ∃ post, waysN L rk s ws = (splitS L s).1 :: post := by
  obtain ⟨p, post, h1, h2⟩ := greedy_first hRk hNd hw1 hw 33 0 [] (Nat.zero_le _) h
  refine ⟨post.map fun p => p.map (rkN rk), ?_⟩
  unfold waysN
  rw [h1, List.map_cons]
  congr 1
  rw [List.nil_append] at h2
  exact h2.symm

theorem rest_list (s : ByteArray) (i : Nat) : (s.extract i s.size).data.toList = s.data.toList.drop i := by
  rw [ByteArray.data_extract, Array.toList_extract, List.extract_eq_take_drop, List.take_of_length_le]
  rw [List.length_drop, ba_sz]
  omega
theorem ints_of (l : List Nat) (i : Nat) : ((i :: l).map fun r : Nat => (r : Int)) = (i : Int) :: l.map fun r : Nat => (r : Int) := rfl
theorem split_joins {L : List ByteArray} {s : ByteArray} : ∀ (f pos : Nat) (done : List Nat), pos ≤ s.size → done.length ≤ 32 → (splitR L s f pos done).2.2 = 0 → ∃ t, (splitR L s f pos done).1 = done ++ t ∧ joinL L (t.map fun r : Nat => (r : Int)) = s.data.toList.drop pos ∧ (∀ r ∈ t, r < L.length) ∧ (done ++ t).length ≤ 32 := by
  intro f
  induction f with
  | zero => intro pos done _ _ h; simp [splitR] at h
  | succ f ih =>
    intro pos done hp hd h
    by_cases he : pos = s.size
    · refine ⟨[], by rw [splitR_end he]; simp, ?_, (fun r hr => by cases hr), by simpa using hd⟩
      rw [he, ← ba_sz, List.drop_length]
      rfl
    · by_cases h32 : done.length = 32
      · rw [splitR_long he h32] at h; cases h
      · cases hb : best L (s.extract pos s.size) with
        | none => rw [splitR_none he h32 hb] at h; cases h
        | some i =>
          rw [splitR_next he h32 hb] at h ⊢
          have hbi := best_is hb
          have hbs := begins_size hbi.pre
          rw [rest_size] at hbs
          have hil := hbi.lt
          rw [lsz_at hil] at h ⊢
          obtain ⟨t, h1, h2, h3, h4⟩ := ih (pos + L[i].size) (done ++ [i]) (by omega) (by rw [List.length_append, List.length_singleton]; omega) h
          refine ⟨i :: t, by rw [h1]; simp, ?_, ?_, by simpa using h4⟩
          · rw [ints_of]
            unfold joinL at h2 ⊢
            rw [List.flatMap_cons, h2, ltr_at hbi.lt]
            have hpre := begins_iff.1 hbi.pre
            rw [rest_list] at hpre
            obtain ⟨u, hu⟩ := hpre
            rw [← List.drop_drop, ← hu, ← ba_sz L[i], List.drop_left]
          · intro r hr
            rcases List.mem_cons.1 hr with e | e
            · rw [e]; exact hbi.lt
            · exact h3 r e
theorem split_back {L : List ByteArray} {s : ByteArray} (h : (splitS L s).2.2 = 0) : joinT L ((splitS L s).1.map fun r : Nat => (r : Int)) = s ∧ okNums L ((splitS L s).1.map fun r : Nat => (r : Int)) ∧ (splitS L s).1.length ≤ 32 := by
  obtain ⟨t, h1, h2, h3, h4⟩ := split_joins 33 0 [] (Nat.zero_le _) (Nat.zero_le _) h
  rw [List.nil_append] at h1 h4
  have h1' : (splitS L s).1 = t := h1
  rw [h1']
  refine ⟨ba_eq ?_, fun z hz => ?_, h4⟩
  · show (joinL L _).toArray.toList = _
    rw [h2, List.drop_zero]
  · obtain ⟨r, hr, rfl⟩ := List.mem_map.1 hz
    have := h3 r hr
    omega
theorem split_sure {L : List ByteArray} {s : ByteArray} (h : (splitS L s).2.2 = 0) : sureP L ((splitS L s).1.map fun r : Nat => (r : Int)) := by
  obtain ⟨h1, h2, _⟩ := split_back h
  refine ⟨h2, ?_, ?_⟩
  · rw [h1]; exact h
  · rw [h1]
theorem split_codes {L : List ByteArray} {s : ByteArray} : ∀ (f pos : Nat) (done : List Nat), (splitR L s f pos done).2.2 ≠ 0 → (splitR L s f pos done).1 = [] ∧ ((splitR L s f pos done).2.2 = 34 ∨ (splitR L s f pos done).2.2 = 33) := by
  intro f
  induction f with
  | zero => intro pos done _; exact ⟨rfl, .inl rfl⟩
  | succ f ih =>
    intro pos done h
    by_cases he : pos = s.size
    · rw [splitR_end he] at h; exact absurd rfl h
    · by_cases h32 : done.length = 32
      · rw [splitR_long he h32]; exact ⟨rfl, .inl rfl⟩
      · cases hb : best L (s.extract pos s.size) with
        | none => rw [splitR_none he h32 hb]; exact ⟨rfl, .inr rfl⟩
        | some i =>
          rw [splitR_next he h32 hb] at h ⊢
          exact ih _ _ h
end Go.Proofs.Ytaijphanpolegaa.Utf
