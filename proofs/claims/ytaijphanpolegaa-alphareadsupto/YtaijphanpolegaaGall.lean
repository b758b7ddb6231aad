/-
  What was split is joined to the same text, and is the first of its ways.
-/
import Derived.Test.YtaijphanpolegaaEchq
import Derived.Test.YtaijphanpolegaaSurq
namespace Go.Proofs.Ytaijphanpolegaa.Utf
open Go Go.Lib Go.RowKit

theorem sumW_ge {L : List ByteArray} {rk : List Nat} {t : ByteArray} {ws : List Nat} {p r : Nat} (hb : begins t (nmR L rk r) = true) : ∀ n, r < n → ws.getD (p + (nmR L rk r).size) 0 ≤ sumW L rk t ws p n := by
  intro n
  induction n with
  | zero => intro h; omega
  | succ n ih =>
    intro h
    by_cases e : r = n
    · subst e
      rw [sumW_hit hb]
      omega
    · have := ih (by omega)
      rw [sumW]
      omega
/-- Where the longest letters lead to the end there is a way. -/
theorem greedy_ways {L : List ByteArray} {rk : List Nat} (hRk : Ranked L rk) {s : ByteArray} {ws : List Nat} (hw : WaysTo L rk s 0 ws) : ∀ (f pos : Nat) (done : List Nat), pos ≤ s.size → (splitR L s f pos done).2.2 = 0 → ∃ n, ws[pos]? = some (n + 1) := by
  intro f
  induction f with
  | zero => intro pos done _ h; simp [splitR] at h
  | succ f ih =>
    intro pos done hp h
    by_cases he : pos = s.size
    · exact ⟨0, by rw [he]; exact hw.last⟩
    · by_cases h32 : done.length = 32
      · rw [splitR_long he h32] at h; cases h
      · cases hb : best L (s.extract pos s.size) with
        | none => rw [splitR_none he h32 hb] at h; cases h
        | some i =>
          rw [splitR_next he h32 hb] at h
          have hbi := best_is hb
          have hbs := begins_size hbi.pre
          rw [rest_size] at hbs
          rw [lsz_at hbi.lt] at h
          obtain ⟨n, hn⟩ := ih _ _ (by omega) h
          obtain ⟨r, hr, _, hnm⟩ := hRk.rank hbi.lt
          have hge := sumW_ge (L := L) (rk := rk) (t := s.extract pos s.size) (ws := ws) (p := pos) (r := r) (by rw [hnm]; exact hbi.pre) L.length hr
          rw [hnm, List.getD_eq_getElem?_getD, hn, Option.getD_some] at hge
          refine ⟨min (sumW L rk (s.extract pos s.size) ws pos L.length) 100000 - 1, ?_⟩
          rw [hw.at' pos (Nat.zero_le _) (by omega)]
          congr 1
          omega

theorem least_true (p : Nat → Bool) : ∀ r, p r = true → ∃ k, k ≤ r ∧ p k = true ∧ ∀ j, j < k → p j = false := by
  intro r
  induction r using Nat.strongRecOn with
  | _ r ih =>
    intro h
    by_cases e : ∃ j, j < r ∧ p j = true
    · obtain ⟨j, h1, h2⟩ := e
      obtain ⟨k, h3, h4, h5⟩ := ih j h1 h2
      exact ⟨k, by omega, h4, h5⟩
    · refine ⟨r, Nat.le_refl _, h, fun j hj => ?_⟩
      cases hp : p j with
      | false => rfl
      | true => exact absurd ⟨j, hj, hp⟩ e

/-- Where the longest letters lead to the end they are the first way. -/
theorem greedy_first {L : List ByteArray} {rk : List Nat} (hRk : Ranked L rk) (hNd : L.Nodup) (hw1 : ∀ r, r < L.length → 1 ≤ wid L rk r) {s : ByteArray} {ws : List Nat} (hw : WaysTo L rk s 0 ws) : ∀ (f pos : Nat) (done : List Nat), pos ≤ s.size → (splitR L s f pos done).2.2 = 0 → ∃ p post, waysAt L rk s ws pos = p :: post ∧ (splitR L s f pos done).1 = done ++ p.map (rkN rk) := by
  intro f
  induction f with
  | zero => intro pos done _ h; simp [splitR] at h
  | succ f ih =>
    intro pos done hp h
    by_cases he : pos = s.size
    · refine ⟨[], [], by rw [waysAt_ge hw1, geR_end (by omega)], by rw [splitR_end he]; simp⟩
    · by_cases h32 : done.length = 32
      · rw [splitR_long he h32] at h; cases h
      · cases hb : best L (s.extract pos s.size) with
        | none => rw [splitR_none he h32 hb] at h; cases h
        | some i =>
          rw [splitR_next he h32 hb] at h ⊢
          have hbi := best_is hb
          have hbs := begins_size hbi.pre
          rw [rest_size] at hbs
          obtain ⟨r, hr, hri, hnm⟩ := hRk.rank hbi.lt
          obtain ⟨k, hkr, hkb, hkn⟩ := least_true (fun k => begins (s.extract pos s.size) (nmR L rk k)) r (by show begins _ (nmR L rk r) = true; rw [hnm]; exact hbi.pre)
          have hkl : k < L.length := by omega
          have hlen : rk.length = L.length := by rw [hRk.perm.length_eq, List.length_range]
          obtain ⟨i', hki⟩ : ∃ i', rk[k]? = some i' := ⟨_, List.getElem?_eq_getElem (by omega)⟩
          obtain ⟨hbest, hil, hnk⟩ := stand_best hRk hki hkb (fun j _ hj => hkn j hj)
          obtain rfl : i = i' := by
            have := best_some hNd hbest
            rw [hb] at this
            exact Option.some.inj this
          have hwk : wid L rk k = lsz L i := by unfold wid; rw [hnk, lsz_at hil]
          rw [lsz_at hil] at hwk h ⊢
          obtain ⟨p, post, h1, h2⟩ := ih (pos + L[i].size) (done ++ [i]) (by omega) h
          obtain ⟨n, hn⟩ := greedy_ways hRk hw f (pos + L[i].size) (done ++ [i]) (by omega) h
          have hok : okR L rk s ws pos k = true := by
            unfold okR
            rw [hkb, hwk, List.getD_eq_getElem?_getD, hn]
            rfl
          refine ⟨k :: p, post.map (k :: ·) ++ geR L rk s ws pos (k + 1), ?_, ?_⟩
          · rw [waysAt_ge hw1, geR_skips (by omega) k (Nat.zero_le _) (fun j _ hj => hkn j hj), geR_take (by omega) hkl hok, hwk, h1]
            rfl
          · rw [h2]
            have : rkN rk k = i := by unfold rkN; rw [hki]; rfl
            simp [this]
theorem split_first {L : List ByteArray} {rk : List Nat} (hRk : Ranked L rk) (hNd : L.Nodup) (hw1 : ∀ r, r < L.length → 1 ≤ wid L rk r) {s : ByteArray} {ws : List Nat} (hw : WaysTo L rk s 0 ws) (h : (splitS L s).2.2 = 0) : ∃ post, waysN L rk s ws = (splitS L s).1 :: post := by
  obtain ⟨p, post, h1, h2⟩ := greedy_first hRk hNd hw1 hw 33 0 [] (Nat.zero_le _) h
  refine ⟨post.map fun p => p.map (rkN rk), ?_⟩
  unfold waysN
  rw [h1, List.map_cons]
  congr 1
  rw [List.nil_append] at h2
  exact h2.symm

theorem rest_list (s : ByteArray) (i : Nat) : (s.extract i s.size).data.toList = s.data.toList.drop i := by
  rw [ByteArray.data_extract, Array.toList_extract, List.extract_eq_take_drop, List.take_of_length_le]
  rw [List.length_drop, ba_sz]
  omega
theorem ints_of (l : List Nat) (i : Nat) : ((i :: l).map fun r : Nat => (r : Int)) = (i : Int) :: l.map fun r : Nat => (r : Int) := rfl
theorem split_joins {L : List ByteArray} {s : ByteArray} : ∀ (f pos : Nat) (done : List Nat), pos ≤ s.size → done.length ≤ 32 → (splitR L s f pos done).2.2 = 0 → ∃ t, (splitR L s f pos done).1 = done ++ t ∧ joinL L (t.map fun r : Nat => (r : Int)) = s.data.toList.drop pos ∧ (∀ r ∈ t, r < L.length) ∧ (done ++ t).length ≤ 32 := by
  intro f
  induction f with
  | zero => intro pos done _ _ h; simp [splitR] at h
  | succ f ih =>
    intro pos done hp hd h
    by_cases he : pos = s.size
    · refine ⟨[], by rw [splitR_end he]; simp, ?_, (fun r hr => by cases hr), by simpa using hd⟩
      rw [he, ← ba_sz, List.drop_length]
      rfl
    · by_cases h32 : done.length = 32
      · rw [splitR_long he h32] at h; cases h
      · cases hb : best L (s.extract pos s.size) with
        | none => rw [splitR_none he h32 hb] at h; cases h
        | some i =>
          rw [splitR_next he h32 hb] at h ⊢
          have hbi := best_is hb
          have hbs := begins_size hbi.pre
          rw [rest_size] at hbs
          have hil := hbi.lt
          rw [lsz_at hil] at h ⊢
          obtain ⟨t, h1, h2, h3, h4⟩ := ih (pos + L[i].size) (done ++ [i]) (by omega) (by rw [List.length_append, List.length_singleton]; omega) h
          refine ⟨i :: t, by rw [h1]; simp, ?_, ?_, by simpa using h4⟩
          · rw [ints_of]
            unfold joinL at h2 ⊢
            rw [List.flatMap_cons, h2, ltr_at hbi.lt]
            have hpre := begins_iff.1 hbi.pre
            rw [rest_list] at hpre
            obtain ⟨u, hu⟩ := hpre
            rw [← List.drop_drop, ← hu, ← ba_sz L[i], List.drop_left]
          · intro r hr
            rcases List.mem_cons.1 hr with e | e
            · rw [e]; exact hbi.lt
            · exact h3 r e
theorem split_back {L : List ByteArray} {s : ByteArray} (h : (splitS L s).2.2 = 0) : joinT L ((splitS L s).1.map fun r : Nat => (r : Int)) = s ∧ okNums L ((splitS L s).1.map fun r : Nat => (r : Int)) ∧ (splitS L s).1.length ≤ 32 := by
  obtain ⟨t, h1, h2, h3, h4⟩ := split_joins 33 0 [] (Nat.zero_le _) (Nat.zero_le _) h
  rw [List.nil_append] at h1 h4
  have h1' : (splitS L s).1 = t := h1
  rw [h1']
  refine ⟨ba_eq ?_, fun z hz => ?_, h4⟩
  · show (joinL L _).toArray.toList = _
    rw [h2, List.drop_zero]
  · obtain ⟨r, hr, rfl⟩ := List.mem_map.1 hz
    have := h3 r hr
    omega
theorem split_sure {L : List ByteArray} {s : ByteArray} (h : (splitS L s).2.2 = 0) : sureP L ((splitS L s).1.map fun r : Nat => (r : Int)) := by
  obtain ⟨h1, h2, _⟩ := split_back h
  refine ⟨h2, ?_, ?_⟩
  · rw [h1]; exact h
  · rw [h1]
theorem split_codes {L : List ByteArray} {s : ByteArray} : ∀ (f pos : Nat) (done : List Nat), (splitR L s f pos done).2.2 ≠ 0 → (splitR L s f pos done).1 = [] ∧ ((splitR L s f pos done).2.2 = 34 ∨ (splitR L s f pos done).2.2 = 33) := by
  intro f
  induction f with
  | zero => intro pos done _; exact ⟨rfl, .inl rfl⟩
  | succ f ih =>
    intro pos done h
    by_cases he : pos = s.size
    · rw [splitR_end he] at h; exact absurd rfl h
    · by_cases h32 : done.length = 32
      · rw [splitR_long he h32]; exact ⟨rfl, .inl rfl⟩
      · cases hb : best L (s.extract pos s.size) with
        | none => rw [splitR_none he h32 hb]; exact ⟨rfl, .inr rfl⟩
        | some i =>
          rw [splitR_next he h32 hb] at h ⊢
          exact ih _ _ h
end Go.Proofs.Ytaijphanpolegaa.Utf
/-
  All ways of a text: each joined is the text, no two are the same, and as many as are counted.
-/
namespace Go.Proofs.Ytaijphanpolegaa.Utf
open Go Go.Lib Go.RowKit

/-- Letters' numbers as integers. -/
def zs (l : List Nat) : List Int := l.map fun r : Nat => (r : Int)
theorem zs_len (l : List Nat) : (zs l).length = l.length := List.length_map _

theorem fromR_mem {L : List ByteArray} {rk : List Nat} {s : ByteArray} {ws : List Nat} {nx : Nat → List (List Nat)} {pos : Nat} : ∀ m r, ∀ p ∈ fromR L rk s ws nx pos m r, ∃ k q, p = k :: q ∧ r ≤ k ∧ k < r + m ∧ okR L rk s ws pos k = true ∧ q ∈ nx (pos + wid L rk k) := by
  intro m
  induction m with
  | zero => intro r p h; cases h
  | succ m ih =>
    intro r p h
    rw [fromR] at h
    rcases List.mem_append.1 h with h | h
    · by_cases e : okR L rk s ws pos r = true
      · rw [if_pos e] at h
        obtain ⟨q, h1, rfl⟩ := List.mem_map.1 h
        exact ⟨r, q, rfl, Nat.le_refl _, by omega, e, h1⟩
      · rw [if_neg e] at h
        cases h
    · obtain ⟨k, q, h1, h2, h3, h4, h5⟩ := ih (r + 1) p h
      exact ⟨k, q, h1, by omega, by omega, h4, h5⟩
theorem waysF_joins {L : List ByteArray} {rk : List Nat} (hRk : Ranked L rk) {s : ByteArray} {ws : List Nat} : ∀ f pos, pos ≤ s.size → ∀ p ∈ waysF L rk s ws f pos, (∀ r ∈ p, r < L.length) ∧ joinL L (zs (p.map (rkN rk))) = s.data.toList.drop pos ∧ okNums L (zs (p.map (rkN rk))) := by
  have hnil : ∀ pos, pos ≤ s.size → s.size ≤ pos → (∀ r ∈ ([] : List Nat), r < L.length) ∧ joinL L (zs (([] : List Nat).map (rkN rk))) = s.data.toList.drop pos ∧ okNums L (zs (([] : List Nat).map (rkN rk))) := fun pos h1 h2 => by
    refine ⟨(fun r hr => by cases hr), ?_, fun z hz => by cases hz⟩
    rw [show pos = s.data.toList.length by rw [ba_sz]; omega, List.drop_length]
    rfl
  intro f
  induction f with
  | zero =>
    intro pos hp p h
    rw [waysF] at h
    by_cases e : s.size ≤ pos
    · rw [if_pos e] at h
      rw [List.mem_singleton.1 h]
      exact hnil pos hp e
    · rw [if_neg e] at h
      cases h
  | succ f ih =>
    intro pos hp p h
    rw [waysF] at h
    by_cases e : s.size ≤ pos
    · rw [if_pos e] at h
      rw [List.mem_singleton.1 h]
      exact hnil pos hp e
    · rw [if_neg e] at h
      obtain ⟨k, q, rfl, _, hk, hok, hq⟩ := fromR_mem _ _ p h
      have hfit := okR_fit hok
      obtain ⟨h1, h2, h3⟩ := ih (pos + wid L rk k) (by omega) q hq
      have hlen : rk.length = L.length := by rw [hRk.perm.length_eq, List.length_range]
      have hkl : k < L.length := by omega
      obtain ⟨i, hki⟩ : ∃ i, rk[k]? = some i := ⟨_, List.getElem?_eq_getElem (by omega)⟩
      have hi : i < L.length := List.mem_range.1 (hRk.perm.mem_iff.1 (List.mem_of_getElem? hki))
      have hrk : rkN rk k = i := by unfold rkN; rw [hki]; rfl
      have hnm : nmR L rk k = L[i] := by
        unfold nmR
        rw [hki, Option.getD_some, List.getElem?_eq_getElem hi]
        rfl
      have hb : begins (s.extract pos s.size) L[i] = true := by
        unfold okR at hok
        rw [Bool.and_eq_true] at hok
        rw [← hnm]
        exact hok.1
      refine ⟨fun r hr => ?_, ?_, fun z hz => ?_⟩
      · rcases List.mem_cons.1 hr with e | e
        · omega
        · exact h1 r e
      · have hw : wid L rk k = L[i].size := by unfold wid; rw [hnm]
        rw [hw] at h2
        have e1 : joinL L (zs ((k :: q).map (rkN rk))) = (L[i]).data.toList ++ joinL L (zs (q.map (rkN rk))) := by
          unfold joinL zs
          rw [List.map_cons, List.map_cons, List.flatMap_cons, hrk, ltr_at hi]
        rw [e1, h2]
        have hpre := begins_iff.1 hb
        rw [rest_list] at hpre
        obtain ⟨u, hu⟩ := hpre
        rw [← List.drop_drop, ← hu, ← ba_sz L[i], List.drop_left]
      · rw [List.map_cons] at hz
        rcases List.mem_cons.1 hz with e | e
        · rw [e, hrk]
          show 0 ≤ (i : Int) ∧ (i : Int) < (L.length : Int)
          omega
        · exact h3 z e
theorem fromR_nodup {L : List ByteArray} {rk : List Nat} {s : ByteArray} {ws : List Nat} {nx : Nat → List (List Nat)} {pos : Nat} (h : ∀ q, (nx q).Nodup) : ∀ m r, (fromR L rk s ws nx pos m r).Nodup := by
  intro m
  induction m with
  | zero => intro r; exact List.nodup_nil
  | succ m ih =>
    intro r
    rw [fromR, List.nodup_append]
    refine ⟨?_, ih (r + 1), ?_⟩
    · by_cases e : okR L rk s ws pos r = true
      · rw [if_pos e]
        exact List.Pairwise.map _ (fun a b hab he => hab (List.cons.inj he).2) (h _)
      · rw [if_neg e]
        exact List.nodup_nil
    · intro a ha b hb hab
      by_cases e : okR L rk s ws pos r = true
      · rw [if_pos e] at ha
        obtain ⟨q, _, rfl⟩ := List.mem_map.1 ha
        obtain ⟨k, q', rfl, hk, _⟩ := fromR_mem _ _ b hb
        have := (List.cons.inj hab).1
        omega
      · rw [if_neg e] at ha
        cases ha
theorem waysF_nodup {L : List ByteArray} {rk : List Nat} {s : ByteArray} {ws : List Nat} : ∀ f pos, (waysF L rk s ws f pos).Nodup := by
  have h1 : ([[]] : List (List Nat)).Nodup := List.pairwise_singleton _ _
  intro f
  induction f with
  | zero =>
    intro pos
    rw [waysF]
    split
    · exact h1
    · exact List.nodup_nil
  | succ f ih =>
    intro pos
    rw [waysF]
    split
    · exact h1
    · exact fromR_nodup ih _ _
theorem rkN_inj {L : List ByteArray} {rk : List Nat} (hRk : Ranked L rk) {a b : Nat} (ha : a < L.length) (hb : b < L.length) (h : rkN rk a = rkN rk b) : a = b := by
  have hlen : rk.length = L.length := by rw [hRk.perm.length_eq, List.length_range]
  have hnd : rk.Nodup := hRk.perm.nodup_iff.2 List.nodup_range
  unfold rkN at h
  rw [List.getElem?_eq_getElem (by omega), List.getElem?_eq_getElem (by omega)] at h
  exact (List.getElem_inj hnd).1 h
theorem map_inj {L : List ByteArray} {rk : List Nat} (hRk : Ranked L rk) : ∀ p q : List Nat, (∀ r ∈ p, r < L.length) → (∀ r ∈ q, r < L.length) → p.map (rkN rk) = q.map (rkN rk) → p = q
  | [], [], _, _, _ => rfl
  | [], _ :: _, _, _, h => by cases h
  | _ :: _, [], _, _, h => by cases h
  | a :: p, b :: q, h1, h2, h => by
    rw [List.map_cons, List.map_cons] at h
    obtain ⟨e1, e2⟩ := List.cons.inj h
    rw [rkN_inj hRk (h1 a List.mem_cons_self) (h2 b List.mem_cons_self) e1, map_inj hRk p q (fun r hr => h1 r (List.mem_cons_of_mem _ hr)) (fun r hr => h2 r (List.mem_cons_of_mem _ hr)) e2]
theorem waysN_nodup {L : List ByteArray} {rk : List Nat} (hRk : Ranked L rk) {s : ByteArray} {ws : List Nat} : (waysN L rk s ws).Nodup := by
  unfold waysN
  have h : (waysAt L rk s ws 0).Pairwise fun a b => a ≠ b := waysF_nodup _ _
  have h2 : ∀ p ∈ waysAt L rk s ws 0, ∀ r ∈ p, r < L.length := fun p hp => (waysF_joins hRk _ 0 (Nat.zero_le _) p hp).1
  show ((waysAt L rk s ws 0).map _).Pairwise fun a b => a ≠ b
  rw [List.pairwise_map]
  exact h.imp_of_mem fun ha hb hne he => hne (map_inj hRk _ _ (h2 _ ha) (h2 _ hb) he)
theorem waysN_joins {L : List ByteArray} {rk : List Nat} (hRk : Ranked L rk) {s : ByteArray} {ws : List Nat} {x : List Nat} (hx : x ∈ waysN L rk s ws) : joinT L (zs x) = s ∧ okNums L (zs x) := by
  obtain ⟨p, hp, rfl⟩ := List.mem_map.1 hx
  obtain ⟨_, h2, h3⟩ := waysF_joins hRk _ 0 (Nat.zero_le _) p hp
  refine ⟨ba_eq ?_, h3⟩
  show (joinL L _).toArray.toList = _
  rw [h2, List.drop_zero]

/-- How many ways begin with one of the first ranks. -/
def sumL (L : List ByteArray) (rk : List Nat) (s : ByteArray) (ws : List Nat) (pos : Nat) : Nat → Nat
  | 0 => 0
  | r + 1 => sumL L rk s ws pos r + if okR L rk s ws pos r = true then (waysAt L rk s ws (pos + wid L rk r)).length else 0
theorem fromR_len {L : List ByteArray} {rk : List Nat} {s : ByteArray} {ws : List Nat} {pos : Nat} : ∀ m r, (fromR L rk s ws (waysAt L rk s ws) pos m r).length + sumL L rk s ws pos r = sumL L rk s ws pos (r + m) := by
  intro m
  induction m with
  | zero => intro r; rw [fromR]; simp
  | succ m ih =>
    intro r
    have := ih (r + 1)
    rw [sumL] at this
    rw [fromR, List.length_append, show r + (m + 1) = r + 1 + m by omega, ← this]
    by_cases e : okR L rk s ws pos r = true
    · rw [if_pos e, if_pos e, List.length_map]
      omega
    · rw [if_neg e, if_neg e, List.length_nil]
      omega
/-- The counts are those of the ways. -/
theorem ways_counted {L : List ByteArray} {rk : List Nat} (hw : ∀ r, r < L.length → 1 ≤ wid L rk r) {s : ByteArray} {ws : List Nat} (hW : WaysTo L rk s 0 ws) : ∀ d pos, s.size - pos ≤ d → pos ≤ s.size → ws.getD pos 0 = min (waysAt L rk s ws pos).length 100000 := by
  intro d
  induction d with
  | zero =>
    intro pos h hp
    obtain rfl : pos = s.size := by omega
    rw [waysAt_ge hw, geR_end (Nat.le_refl _), List.getD_eq_getElem?_getD, hW.last]
    rfl
  | succ d ih =>
    intro pos h hp
    by_cases e : pos = s.size
    · subst e
      rw [waysAt_ge hw, geR_end (Nat.le_refl _), List.getD_eq_getElem?_getD, hW.last]
      rfl
    · have hsum : ∀ n, n ≤ L.length → min (sumW L rk (s.extract pos s.size) ws pos n) 100000 = min (sumL L rk s ws pos n) 100000 := by
        intro n
        induction n with
        | zero => intro _; rfl
        | succ n ihn =>
          intro hn
          have h1 := ihn (by omega)
          rw [sumW, sumL]
          by_cases hb : begins (s.extract pos s.size) (nmR L rk n) = true
          · have hbs := begins_size hb
            rw [rest_size] at hbs
            have hwn := hw n (by omega)
            have h2 := ih (pos + wid L rk n) (by omega) (by unfold wid; omega)
            rw [if_pos hb]
            by_cases ho : okR L rk s ws pos n = true
            · rw [if_pos ho]
              unfold wid at h2 ⊢
              omega
            · rw [if_neg ho]
              have h3 : ws.getD (pos + wid L rk n) 0 = 0 := by
                unfold okR at ho
                rw [hb, Bool.true_and, bne_iff_ne] at ho
                exact Classical.byContradiction ho
              unfold wid at h3
              omega
          · have ho : ¬ okR L rk s ws pos n = true := by
              unfold okR
              rw [Bool.and_eq_true]
              exact fun h => hb h.1
            rw [if_neg hb, if_neg ho]
            omega
      have h2 := hsum L.length (Nat.le_refl _)
      have h3 := fromR_len (L := L) (rk := rk) (s := s) (ws := ws) (pos := pos) L.length 0
      rw [Nat.zero_add, sumL, Nat.add_zero] at h3
      rw [waysAt_ge hw]
      unfold geR
      rw [if_neg (by omega), Nat.sub_zero, h3, List.getD_eq_getElem?_getD, hW.at' pos (Nat.zero_le _) (by omega), Option.getD_some, h2]
theorem waysN_count {L : List ByteArray} {rk : List Nat} (hw : ∀ r, r < L.length → 1 ≤ wid L rk r) {s : ByteArray} {ws : List Nat} (hW : WaysTo L rk s 0 ws) {n : Nat} (h : ws[0]? = some n) : n = min (waysN L rk s ws).length 100000 := by
  have := ways_counted hw hW s.size 0 (by omega) (Nat.zero_le _)
  rw [List.getD_eq_getElem?_getD, h, Option.getD_some] at this
  rw [this]
  unfold waysN
  rw [List.length_map]
theorem waysF_size {L : List ByteArray} {rk : List Nat} (hw : ∀ r, r < L.length → 1 ≤ wid L rk r) {s : ByteArray} {ws : List Nat} : ∀ f pos, pos ≤ s.size → ∀ p ∈ waysF L rk s ws f pos, p.length + pos ≤ s.size := by
  intro f
  induction f with
  | zero =>
    intro pos hp p h
    rw [waysF] at h
    by_cases e : s.size ≤ pos
    · rw [if_pos e] at h
      rw [List.mem_singleton.1 h, List.length_nil]
      omega
    · rw [if_neg e] at h
      cases h
  | succ f ih =>
    intro pos hp p h
    rw [waysF] at h
    by_cases e : s.size ≤ pos
    · rw [if_pos e] at h
      rw [List.mem_singleton.1 h, List.length_nil]
      omega
    · rw [if_neg e] at h
      obtain ⟨k, q, rfl, _, hk, hok, hq⟩ := fromR_mem _ _ p h
      have hfit := okR_fit hok
      have h1 := ih (pos + wid L rk k) (by omega) q hq
      have h2 := hw k (by omega)
      rw [List.length_cons]
      omega
theorem waysN_size {L : List ByteArray} {rk : List Nat} (hw : ∀ r, r < L.length → 1 ≤ wid L rk r) {s : ByteArray} {ws : List Nat} {x : List Nat} (hx : x ∈ waysN L rk s ws) : x.length ≤ s.size := by
  obtain ⟨p, hp, rfl⟩ := List.mem_map.1 hx
  rw [List.length_map]
  exact waysF_size hw _ 0 (Nat.zero_le _) p hp
/-- The counts are one list. -/
theorem WaysTo.one {L : List ByteArray} {rk : List Nat} (hw : ∀ r, r < L.length → 1 ≤ wid L rk r) {s : ByteArray} {ws ws' : List Nat} (h : WaysTo L rk s 0 ws) (h' : WaysTo L rk s 0 ws') : ws = ws' := by
  have key : ∀ d p, s.size - p ≤ d → p ≤ s.size → ws[p]? = ws'[p]? := by
    intro d
    induction d with
    | zero =>
      intro p h1 h2
      obtain rfl : p = s.size := by omega
      rw [h.last, h'.last]
    | succ d ih =>
      intro p h1 h2
      by_cases e : p = s.size
      · rw [e, h.last, h'.last]
      · rw [h.at' p (Nat.zero_le _) (by omega), h'.at' p (Nat.zero_le _) (by omega)]
        have : ∀ n, n ≤ L.length → sumW L rk (s.extract p s.size) ws p n = sumW L rk (s.extract p s.size) ws' p n := by
          intro n
          induction n with
          | zero => intro _; rfl
          | succ n ihn =>
            intro hn
            rw [sumW, sumW, ihn (by omega)]
            by_cases hb : begins (s.extract p s.size) (nmR L rk n) = true
            · rw [if_pos hb, if_pos hb]
              have hbs := begins_size hb
              rw [rest_size] at hbs
              have hwn : 1 ≤ (nmR L rk n).size := hw n (by omega)
              rw [List.getD_eq_getElem?_getD, List.getD_eq_getElem?_getD, ih (p + (nmR L rk n).size) (by omega) (by omega)]
            · rw [if_neg hb, if_neg hb]
        rw [this L.length (Nat.le_refl _)]
  refine List.ext_getElem? fun i => ?_
  by_cases e : i ≤ s.size
  · exact key _ i (Nat.le_refl _) e
  · rw [List.getElem?_eq_none (by rw [h.len]; omega), List.getElem?_eq_none (by rw [h'.len]; omega)]
end Go.Proofs.Ytaijphanpolegaa.Utf
/-
  The document's counts and ways over letters, and that they are those over ranks.
-/
namespace Go.Proofs.Ytaijphanpolegaa.Utf
open Go Go.Lib Go.RowKit

/-- The ways behind the first letters that stand at a place. -/
def sumC (L : List ByteArray) (t : ByteArray) (ws : List Nat) (p : Nat) : Nat → Nat
  | 0 => 0
  | r + 1 => sumC L t ws p r + if begins t ((L[r]?).getD ⟨#[]⟩) = true then ws.getD (p + lsz L r) 0 else 0
structure CountsTo (L : List ByteArray) (s : ByteArray) (m : Nat) (ws : List Nat) : Prop where
  len : ws.length = s.size + 1
  last : ws[s.size]? = some 1
  small : ∀ x ∈ ws, x ≤ 100000
  at' : ∀ p, m ≤ p → p < s.size → ws[p]? = some (min (sumC L (s.extract p s.size) ws p L.length) 100000)
  rest : ∀ p, p < m → p < s.size → ws[p]? = some 0
theorem sumC_set {L : List ByteArray} (hs : ∀ x ∈ L, 1 ≤ x.size) {t : ByteArray} {ws : List Nat} {p q v : Nat} (hq : q ≤ p) : ∀ r, r ≤ L.length → sumC L t (ws.set q v) p r = sumC L t ws p r := by
  intro r
  induction r with
  | zero => intro _; rfl
  | succ r ih =>
    intro h
    have h1 : 1 ≤ lsz L r := by rw [lsz_at (by omega)]; exact hs _ (List.getElem_mem _)
    rw [sumC, sumC, ih (by omega)]
    congr 2
    rw [List.getD_eq_getElem?_getD, List.getD_eq_getElem?_getD, List.getElem?_set_ne (by omega)]
theorem CountsTo.step {L : List ByteArray} {s : ByteArray} {a : Nat} {ws : List Nat} (h : CountsTo L s (a + 1) ws) (hs : ∀ x ∈ L, 1 ≤ x.size) (ha : a < s.size) :
    CountsTo L s a (ws.set a (min (sumC L (s.extract a s.size) ws a L.length) 100000)) := by
  obtain ⟨h1, h2, h3, h4, h5⟩ := h
  refine ⟨by rw [List.length_set]; exact h1, by rw [List.getElem?_set_ne (by omega)]; exact h2, fun x hx => ?_, fun p hp hps => ?_, fun p hp hps => by rw [List.getElem?_set_ne (by omega)]; exact h5 p (by omega) hps⟩
  · rcases List.mem_or_eq_of_mem_set hx with h | h
    · exact h3 x h
    · omega
  · rw [sumC_set hs hp L.length (Nat.le_refl _)]
    by_cases e : p = a
    · subst e
      rw [List.getElem?_set_self (by omega)]
    · rw [List.getElem?_set_ne (by omega)]
      exact h4 p (by omega) hps
theorem CountsTo.start (L : List ByteArray) (s : ByteArray) : CountsTo L s s.size ((List.replicate (s.size + 1) 0).set s.size 1) := by
  refine ⟨by simp, by rw [List.getElem?_set_self (by simp)], fun x hx => ?_, fun p hp hps => by omega, fun p _ hps => ?_⟩
  · rcases List.mem_or_eq_of_mem_set hx with h | h
    · have := List.eq_of_mem_replicate h
      omega
    · omega
  · rw [List.getElem?_set_ne (by omega), List.getElem?_replicate, if_pos (by omega)]
theorem sumC_list {L : List ByteArray} {t : ByteArray} {ws : List Nat} {p : Nat} : ∀ n, sumC L t ws p n = ((List.range n).map fun i => if begins t ((L[i]?).getD ⟨#[]⟩) = true then ws.getD (p + lsz L i) 0 else 0).sum := by
  intro n
  induction n with
  | zero => rfl
  | succ n ih => rw [sumC, ih, List.range_succ, List.map_append, List.sum_append]; simp
theorem sumW_list {L : List ByteArray} {rk : List Nat} {t : ByteArray} {ws : List Nat} {p : Nat} : ∀ n, n ≤ rk.length → sumW L rk t ws p n = ((rk.take n).map fun i => if begins t ((L[i]?).getD ⟨#[]⟩) = true then ws.getD (p + lsz L i) 0 else 0).sum := by
  intro n
  induction n with
  | zero => intro _; rfl
  | succ n ih =>
    intro h
    have e : nmR L rk n = (L[rk[n]]?).getD ⟨#[]⟩ := by
      unfold nmR
      rw [List.getElem?_eq_getElem (l := rk) (i := n) (by omega), Option.getD_some]
    rw [sumW, ih (by omega), List.take_succ_eq_append_getElem (by omega), List.map_append, List.sum_append, e]
    simp [lsz]
theorem sums_same {L : List ByteArray} {rk : List Nat} (hRk : Ranked L rk) {t : ByteArray} {ws : List Nat} {p : Nat} : sumC L t ws p L.length = sumW L rk t ws p L.length := by
  have hl : rk.length = L.length := by rw [hRk.perm.length_eq, List.length_range]
  rw [sumC_list, sumW_list _ (by omega), ← hl, List.take_length, hl]
  exact ((hRk.perm.map _).sum_nat).symm
theorem CountsTo.ways {L : List ByteArray} {rk : List Nat} (hRk : Ranked L rk) {s : ByteArray} {ws : List Nat} (h : CountsTo L s 0 ws) : WaysTo L rk s 0 ws :=
  ⟨h.len, h.last, h.small, fun p h1 h2 => by rw [← sums_same hRk]; exact h.at' p h1 h2⟩

/-- Ways that begin with letter i, if it has n bytes and stands there. -/
def letB (L : List ByteArray) (s : ByteArray) (nx : Nat → List (List Nat)) (pos n i : Nat) : List (List Nat) := if lsz L i = n ∧ begins (s.extract pos s.size) ((L[i]?).getD ⟨#[]⟩) = true then (nx (pos + n)).map (i :: ·) else []
/-- Those of the letters from k on, of n bytes. -/
def letN (L : List ByteArray) (s : ByteArray) (nx : Nat → List (List Nat)) (pos n : Nat) : Nat → Nat → List (List Nat)
  | 0, _ => []
  | m + 1, k => letB L s nx pos n k ++ letN L s nx pos n m (k + 1)
/-- Those of the letters of n bytes and fewer. -/
def letA (L : List ByteArray) (s : ByteArray) (nx : Nat → List (List Nat)) (pos : Nat) : Nat → List (List Nat)
  | 0 => []
  | n + 1 => letN L s nx pos (n + 1) L.length 0 ++ letA L s nx pos n
theorem letA_pos {L : List ByteArray} {s : ByteArray} {nx : Nat → List (List Nat)} {pos m : Nat} (h : 1 ≤ m) : letA L s nx pos m = letN L s nx pos m L.length 0 ++ letA L s nx pos (m - 1) := by
  obtain ⟨n, rfl⟩ : ∃ n, m = n + 1 := ⟨m - 1, by omega⟩
  rfl
theorem letN_list {L : List ByteArray} {s : ByteArray} {nx : Nat → List (List Nat)} {pos n : Nat} : ∀ m k, letN L s nx pos n m k = (((List.range' k m).filter fun i => decide (lsz L i = n) && begins (s.extract pos s.size) ((L[i]?).getD ⟨#[]⟩)).flatMap fun i => (nx (pos + lsz L i)).map (i :: ·)) := by
  intro m
  induction m with
  | zero => intro k; rfl
  | succ m ih =>
    intro k
    rw [letN, ih, List.range'_succ, List.filter_cons, letB]
    by_cases h1 : lsz L k = n
    · by_cases h2 : begins (s.extract pos s.size) ((L[k]?).getD ⟨#[]⟩) = true
      · rw [if_pos ⟨h1, h2⟩, if_pos (by rw [h2]; simp [h1]), List.flatMap_cons, h1]
      · rw [if_neg (fun h => h2 h.2), if_neg (by intro h; rw [Bool.and_eq_true] at h; exact h2 h.2), List.nil_append]
    · rw [if_neg (fun h => h1 h.1), if_neg (by intro h; rw [Bool.and_eq_true] at h; exact h1 (of_decide_eq_true h.1)), List.nil_append]
/-- The letters that stand at a place, of at most n bytes, the longest first. -/
def candL (L : List ByteArray) (t : ByteArray) : Nat → List Nat
  | 0 => []
  | n + 1 => ((List.range' 0 L.length).filter fun i => decide (lsz L i = n + 1) && begins t ((L[i]?).getD ⟨#[]⟩)) ++ candL L t n
theorem letA_list {L : List ByteArray} {s : ByteArray} {nx : Nat → List (List Nat)} {pos : Nat} : ∀ n, letA L s nx pos n = (candL L (s.extract pos s.size) n).flatMap fun i => (nx (pos + lsz L i)).map (i :: ·) := by
  intro n
  induction n with
  | zero => rfl
  | succ n ih => rw [letA, candL, List.flatMap_append, ih, letN_list]
theorem candL_mem {L : List ByteArray} {t : ByteArray} {i : Nat} : ∀ n, i ∈ candL L t n ↔ i < L.length ∧ 1 ≤ lsz L i ∧ lsz L i ≤ n ∧ begins t ((L[i]?).getD ⟨#[]⟩) = true := by
  intro n
  induction n with
  | zero =>
    rw [candL]
    constructor
    · intro h; cases h
    · intro h; omega
  | succ n ih =>
    rw [candL, List.mem_append, ih, List.mem_filter, List.mem_range'_1, Bool.and_eq_true, decide_eq_true_iff]
    constructor
    · rintro (⟨h1, h2, h3⟩ | ⟨h1, h2, h3, h4⟩)
      · exact ⟨by omega, by omega, by omega, h3⟩
      · exact ⟨h1, h2, by omega, h4⟩
    · rintro ⟨h1, h2, h3, h4⟩
      by_cases e : lsz L i = n + 1
      · exact .inl ⟨by omega, e, h4⟩
      · exact .inr ⟨h1, h2, by omega, h4⟩
/-- Of one length one letter stands. -/
theorem stand_one {L : List ByteArray} (hN : L.Nodup) {t : ByteArray} {i j : Nat} (hi : i < L.length) (hj : j < L.length) (h1 : begins t ((L[i]?).getD ⟨#[]⟩) = true) (h2 : begins t ((L[j]?).getD ⟨#[]⟩) = true) (h3 : lsz L i = lsz L j) : i = j := by
  rw [List.getElem?_eq_getElem hi, Option.getD_some] at h1
  rw [List.getElem?_eq_getElem hj, Option.getD_some] at h2
  rw [lsz_at hi, lsz_at hj] at h3
  exact (List.getElem_inj hN).1 (begins_same h1 h2 h3)
theorem candL_sorted {L : List ByteArray} (hN : L.Nodup) {t : ByteArray} : ∀ n, (candL L t n).Pairwise fun i j => lsz L j < lsz L i := by
  intro n
  induction n with
  | zero => exact List.Pairwise.nil
  | succ n ih =>
    rw [candL, List.pairwise_append]
    refine ⟨?_, ih, ?_⟩
    · have hnd : ((List.range' 0 L.length).filter fun i => decide (lsz L i = n + 1) && begins t ((L[i]?).getD ⟨#[]⟩)).Nodup := List.Pairwise.filter _ ((List.pairwise_lt_range' (s := 0) (n := L.length)).imp fun h => Nat.ne_of_lt h)
      refine List.Pairwise.imp_of_mem ?_ hnd
      intro a b ha hb hne
      rw [List.mem_filter, List.mem_range'_1, Bool.and_eq_true, decide_eq_true_iff] at ha hb
      exact absurd (stand_one hN (by omega) (by omega) ha.2.2 hb.2.2 (by omega)) hne
    · intro a ha b hb
      rw [List.mem_filter, List.mem_range'_1, Bool.and_eq_true, decide_eq_true_iff] at ha
      have := (candL_mem n).1 hb
      omega
/-- The letters that stand at a place by their ranks. -/
def candR (L : List ByteArray) (rk : List Nat) (t : ByteArray) : List Nat := ((List.range' 0 L.length).filter fun r => begins t (nmR L rk r)).map (rkN rk)
theorem nm_rkN {L : List ByteArray} {rk : List Nat} (hRk : Ranked L rk) {r : Nat} (h : r < L.length) : rkN rk r < L.length ∧ nmR L rk r = (L[rkN rk r]?).getD ⟨#[]⟩ ∧ wid L rk r = lsz L (rkN rk r) := by
  have hl : rk.length = L.length := by rw [hRk.perm.length_eq, List.length_range]
  have e : rkN rk r = rk[r] := by unfold rkN; rw [List.getElem?_eq_getElem (by omega)]; rfl
  have hm : rk[r] < L.length := List.mem_range.1 (hRk.perm.mem_iff.1 (List.getElem_mem _))
  have e2 : nmR L rk r = (L[rkN rk r]?).getD ⟨#[]⟩ := by
    unfold nmR
    rw [e, List.getElem?_eq_getElem (l := rk) (i := r) (by omega), Option.getD_some]
  refine ⟨by rw [e]; exact hm, e2, ?_⟩
  unfold wid lsz
  rw [e2]
theorem candR_mem {L : List ByteArray} {rk : List Nat} (hRk : Ranked L rk) {t : ByteArray} {i : Nat} : i ∈ candR L rk t ↔ i < L.length ∧ begins t ((L[i]?).getD ⟨#[]⟩) = true := by
  unfold candR
  rw [List.mem_map]
  constructor
  · rintro ⟨r, hr, rfl⟩
    rw [List.mem_filter, List.mem_range'_1] at hr
    obtain ⟨h1, h2, _⟩ := nm_rkN hRk (r := r) (by omega)
    exact ⟨h1, by rw [← h2]; exact hr.2⟩
  · rintro ⟨h1, h2⟩
    obtain ⟨r, hr, hri, hnm⟩ := hRk.rank h1
    refine ⟨r, ?_, by unfold rkN; rw [hri]; rfl⟩
    rw [List.mem_filter, List.mem_range'_1]
    refine ⟨by omega, ?_⟩
    rw [hnm]
    rw [List.getElem?_eq_getElem h1, Option.getD_some] at h2
    exact h2
theorem candR_sorted {L : List ByteArray} {rk : List Nat} (hRk : Ranked L rk) (hN : L.Nodup) {t : ByteArray} : (candR L rk t).Pairwise fun i j => lsz L j < lsz L i := by
  unfold candR
  rw [List.pairwise_map]
  have hp : ((List.range' 0 L.length).filter fun r => begins t (nmR L rk r)).Pairwise fun a b => a < b := List.Pairwise.filter _ (List.pairwise_lt_range')
  refine List.Pairwise.imp_of_mem ?_ hp
  intro a b ha hb hab
  rw [List.mem_filter, List.mem_range'_1] at ha hb
  obtain ⟨a1, a2, a3⟩ := nm_rkN hRk (r := a) (by omega)
  obtain ⟨b1, b2, b3⟩ := nm_rkN hRk (r := b) (by omega)
  have hle := hRk.le (Nat.le_of_lt hab) (by omega : b < L.length)
  have hle2 : wid L rk b ≤ wid L rk a := hle
  rw [a3, b3] at hle2
  by_cases e : lsz L (rkN rk b) = lsz L (rkN rk a)
  · have := rkN_inj hRk (by omega) (by omega) (stand_one hN b1 a1 (by rw [← b2]; exact hb.2) (by rw [← a2]; exact ha.2) e)
    omega
  · omega
theorem sorted_same {f : Nat → Nat} : ∀ l1 l2 : List Nat, l1.Pairwise (fun i j => f j < f i) → l2.Pairwise (fun i j => f j < f i) → (∀ x, x ∈ l1 ↔ x ∈ l2) → l1 = l2
  | [], [], _, _, _ => rfl
  | [], b :: _, _, _, h => by have := (h b).2 List.mem_cons_self; cases this
  | a :: _, [], _, _, h => by have := (h a).1 List.mem_cons_self; cases this
  | a :: l1, b :: l2, h1, h2, h => by
    rw [List.pairwise_cons] at h1 h2
    have hab : a = b := by
      rcases List.mem_cons.1 ((h a).1 List.mem_cons_self) with e | e
      · exact e
      · rcases List.mem_cons.1 ((h b).2 List.mem_cons_self) with e2 | e2
        · exact e2.symm
        · have := h2.1 a e
          have := h1.1 b e2
          omega
    subst hab
    rw [sorted_same l1 l2 h1.2 h2.2 fun x => ?_]
    constructor
    · intro hx
      rcases List.mem_cons.1 ((h x).1 (List.mem_cons_of_mem _ hx)) with e | e
      · have := h1.1 x hx
        rw [e] at this
        omega
      · exact e
    · intro hx
      rcases List.mem_cons.1 ((h x).2 (List.mem_cons_of_mem _ hx)) with e | e
      · have := h2.1 x hx
        rw [e] at this
        omega
      · exact e
theorem cands_same {L : List ByteArray} {rk : List Nat} (hRk : Ranked L rk) (hN : L.Nodup) (hLs : ∀ x ∈ L, 1 ≤ x.size ∧ x.size ≤ 12) {t : ByteArray} : candR L rk t = candL L t 12 := by
  refine sorted_same (f := lsz L) _ _ (candR_sorted hRk hN) (candL_sorted hN 12) fun x => ?_
  rw [candR_mem hRk, candL_mem]
  constructor
  · rintro ⟨h1, h2⟩
    have := hLs L[x] (List.getElem_mem h1)
    rw [lsz_at h1]
    exact ⟨h1, this.1, this.2, h2⟩
  · rintro ⟨h1, _, _, h2⟩
    exact ⟨h1, h2⟩
/-- All ways from a place on, as letters. -/
def waysL (L : List ByteArray) (rk : List Nat) (s : ByteArray) (ws : List Nat) (pos : Nat) : List (List Nat) := (waysAt L rk s ws pos).map fun p => p.map (rkN rk)
theorem waysAt_none {L : List ByteArray} {rk : List Nat} (hw : ∀ r, r < L.length → 1 ≤ wid L rk r) {s : ByteArray} {ws : List Nat} (hW : WaysTo L rk s 0 ws) {pos : Nat} (hp : pos ≤ s.size) (h : ws.getD pos 0 = 0) : waysAt L rk s ws pos = [] := by
  have := ways_counted hw hW _ pos (Nat.le_refl _) hp
  exact List.eq_nil_of_length_eq_zero (by omega)
theorem fromR_list {L : List ByteArray} {rk : List Nat} (hRk : Ranked L rk) (hw : ∀ r, r < L.length → 1 ≤ wid L rk r) {s : ByteArray} {ws : List Nat} (hW : WaysTo L rk s 0 ws) {pos : Nat} (hp : pos < s.size) : ∀ m r, r + m ≤ L.length →
    (fromR L rk s ws (waysAt L rk s ws) pos m r).map (fun p => p.map (rkN rk)) = (((List.range' r m).filter fun r => begins (s.extract pos s.size) (nmR L rk r)).map (rkN rk)).flatMap fun i => (waysL L rk s ws (pos + lsz L i)).map (i :: ·) := by
  intro m
  induction m with
  | zero => intro r _; rfl
  | succ m ih =>
    intro r hr
    obtain ⟨_, _, h3⟩ := nm_rkN hRk (r := r) (by omega)
    rw [fromR, List.map_append, ih (r + 1) (by omega), List.range'_succ, List.filter_cons]
    by_cases hb : begins (s.extract pos s.size) (nmR L rk r) = true
    · have hbs := begins_size hb
      rw [rest_size] at hbs
      rw [if_pos hb, List.map_cons, List.flatMap_cons]
      congr 1
      by_cases ho : okR L rk s ws pos r = true
      · rw [if_pos ho, ← h3, waysL]
        simp [List.map_map, Function.comp_def]
      · rw [if_neg ho]
        have hz : ws.getD (pos + wid L rk r) 0 = 0 := by
          unfold okR at ho
          rw [hb, Bool.true_and, bne_iff_ne] at ho
          exact Classical.byContradiction ho
        rw [waysL, ← h3, waysAt_none hw hW (by unfold wid; omega) hz]
        rfl
    · have ho : ¬ okR L rk s ws pos r = true := by
        unfold okR
        rw [Bool.and_eq_true]
        exact fun h => hb h.1
      rw [if_neg hb, if_neg ho, List.map_nil, List.nil_append]
theorem waysL_step {L : List ByteArray} {rk : List Nat} (hRk : Ranked L rk) (hN : L.Nodup) (hLs : ∀ x ∈ L, 1 ≤ x.size ∧ x.size ≤ 12) (hw : ∀ r, r < L.length → 1 ≤ wid L rk r) {s : ByteArray} {ws : List Nat} (hW : WaysTo L rk s 0 ws) {pos : Nat} (hp : pos < s.size) : waysL L rk s ws pos = letA L s (waysL L rk s ws) pos 12 := by
  have h := fromR_list hRk hw hW hp L.length 0 (by omega)
  rw [letA_list, ← cands_same hRk hN hLs, candR, ← h, waysL, waysAt_ge hw]
  unfold geR
  rw [if_neg (by omega), Nat.sub_zero]
theorem waysL_end {L : List ByteArray} {rk : List Nat} (hw : ∀ r, r < L.length → 1 ≤ wid L rk r) {s : ByteArray} {ws : List Nat} : waysL L rk s ws s.size = [[]] := by
  rw [waysL, waysAt_ge hw, geR_end (Nat.le_refl _)]
  rfl
theorem waysL_none {L : List ByteArray} {rk : List Nat} (hw : ∀ r, r < L.length → 1 ≤ wid L rk r) {s : ByteArray} {ws : List Nat} (hW : WaysTo L rk s 0 ws) {pos : Nat} (hp : pos ≤ s.size) (h : ws.getD pos 0 = 0) : waysL L rk s ws pos = [] := by
  rw [waysL, waysAt_none hw hW hp h]
  rfl
/-- Some lists behind others, up to a number of them. -/
def upTo (m : Nat) (pre A : List (List Nat)) : List (List Nat) := pre ++ A.take (m - pre.length)
theorem upTo_nil (m : Nat) (pre : List (List Nat)) : upTo m pre [] = pre := by simp [upTo]
theorem upTo_app (m : Nat) (pre A B : List (List Nat)) : upTo m (upTo m pre A) B = upTo m pre (A ++ B) := by
  unfold upTo
  rw [List.append_assoc, List.take_append, List.length_append, List.length_take]
  congr 2
  by_cases h : A.length ≤ m - pre.length
  · rw [Nat.min_eq_right h]
    congr 1
    omega
  · rw [show m - (pre.length + min (m - pre.length) A.length) = 0 by omega, show m - pre.length - A.length = 0 by omega]
theorem upTo_full {m : Nat} {pre : List (List Nat)} (h : m ≤ pre.length) (A : List (List Nat)) : upTo m pre A = pre := by
  unfold upTo
  rw [show m - pre.length = 0 by omega, List.take_zero, List.append_nil]
theorem upTo_one {m : Nat} {pre : List (List Nat)} (h : pre.length < m) (x : List Nat) : upTo m pre [x] = pre ++ [x] := by
  unfold upTo
  rw [List.take_of_length_le (by simp; omega)]
end Go.Proofs.Ytaijphanpolegaa.Utf
