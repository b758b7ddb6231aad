/-
  All ways of a text: each joined is the text, no two are the same, and as many as are counted.
-/
import Derived.Test.YtaijphanpolegaaBkm
namespace Go.Proofs.Ytaijphanpolegaa.Utf
open Go Go.Lib Go.RowKit

/-- Letters' numbers as integers. -/
def zs (l : List Nat) : List Int := l.map fun r : Nat => (r : Int)
theorem zs_len (l : List Nat) : (zs l).length = l.length := List.length_map _

theorem fromR_mem {L : List ByteArray} {rk : List Nat} {s : ByteArray} {ws : List Nat} {nx : Nat → List (List Nat)} {pos : Nat} : ∀ m r, ∀ p ∈ fromR L rk s ws nx pos m r, ∃ k q, p = k :: q ∧ r ≤ k ∧ k < r + m ∧ okR L rk s ws pos k = true ∧ q ∈ nx (pos + wid L rk k) := by
  intro m
  induction m with
  | zero => intro r p h; cases h
  | succ m ih =>
    intro r p h
    rw [fromR] at h
    rcases List.mem_append.1 h with h | h
    · by_cases e : okR L rk s ws pos r = true
      · rw [if_pos e] at h
        obtain ⟨q, h1, rfl⟩ := List.mem_map.1 h
        exact ⟨r, q, rfl, Nat.le_refl _, by omega, e, h1⟩
      · rw [if_neg e] at h
        cases h
    · obtain ⟨k, q, h1, h2, h3, h4, h5⟩ := ih (r + 1) p h
      exact ⟨k, q, h1, by omega, by omega, h4, h5⟩
theorem waysF_joins {L : List ByteArray} {rk : List Nat} (hRk : Ranked L rk) {s : ByteArray} {ws : List Nat} : ∀ f pos, pos ≤ s.size → ∀ p ∈ waysF L rk s ws f pos, (∀ r ∈ p, r < L.length) ∧ joinL L (zs (p.map (rkN rk))) = s.data.toList.drop pos ∧ okNums L (zs (p.map (rkN rk))) := by
  have hnil : ∀ pos, pos ≤ s.size → s.size ≤ pos → (∀ r ∈ ([] : List Nat), r < L.length) ∧ joinL L (zs (([] : List Nat).map (rkN rk))) = s.data.toList.drop pos ∧ okNums L (zs (([] : List Nat).map (rkN rk))) := fun pos h1 h2 => by
    refine ⟨(fun r hr => by cases hr), ?_, fun z hz => by cases hz⟩
    rw [show pos = s.data.toList.length by rw [ba_sz]; omega, List.drop_length]
    rfl
  intro f
  induction f with
  | zero =>
    intro pos hp p h
    rw [waysF] at h
    by_cases e : s.size ≤ pos
    · rw [if_pos e] at h
      rw [List.mem_singleton.1 h]
      exact hnil pos hp e
    · rw [if_neg e] at h
      cases h
  | succ f ih =>
    intro pos hp p h
    rw [waysF] at h
    by_cases e : s.size ≤ pos
    · rw [if_pos e] at h
      rw [List.mem_singleton.1 h]
      exact hnil pos hp e
    · rw [if_neg e] at h
      obtain ⟨k, q, rfl, _, hk, hok, hq⟩ := fromR_mem _ _ p h
      have hfit := okR_fit hok
      obtain ⟨h1, h2, h3⟩ := ih (pos + wid L rk k) (by omega) q hq
      have hlen : rk.length = L.length := by rw [hRk.perm.length_eq, List.length_range]
      have hkl : k < L.length := by omega
      obtain ⟨i, hki⟩ : ∃ i, rk[k]? = some i := ⟨_, List.getElem?_eq_getElem (by omega)⟩
      have hi : i < L.length := List.mem_range.1 (hRk.perm.mem_iff.1 (List.mem_of_getElem? hki))
      have hrk : rkN rk k = i := by unfold rkN; rw [hki]; rfl
      have hnm : nmR L rk k = L[i] := by
        unfold nmR
        rw [hki, Option.getD_some, List.getElem?_eq_getElem hi]
        rfl
      have hb : begins (s.extract pos s.size) L[i] = true := by
        unfold okR at hok
        rw [Bool.and_eq_true] at hok
        rw [← hnm]
        exact hok.1
      refine ⟨fun r hr => ?_, ?_, fun z hz => ?_⟩
      · rcases List.mem_cons.1 hr with e | e
        · omega
        · exact h1 r e
      · have hw : wid L rk k = L[i].size := by unfold wid; rw [hnm]
        rw [hw] at h2
        have e1 : joinL L (zs ((k :: q).map (rkN rk))) = (L[i]).data.toList ++ joinL L (zs (q.map (rkN rk))) := by
          unfold joinL zs
          rw [List.map_cons, List.map_cons, List.flatMap_cons, hrk, ltr_at hi]
        rw [e1, h2]
        have hpre := begins_iff.1 hb
        rw [rest_list] at hpre
        obtain ⟨u, hu⟩ := hpre
        rw [← List.drop_drop, ← hu, ← ba_sz L[i], List.drop_left]
      · rw [List.map_cons] at hz
        rcases List.mem_cons.1 hz with e | e
        · rw [e, hrk]
          show 0 ≤ (i : Int) ∧ (i : Int) < (L.length : Int)
          omega
        · exact h3 z e
theorem fromR_nodup {L : List ByteArray} {rk : List Nat} {s : ByteArray} {ws : List Nat} {nx : Nat → List (List Nat)} {pos : Nat} (h : ∀ q, (nx q).Nodup) : ∀ m r, (fromR L rk s ws nx pos m r).Nodup := by
  intro m
  induction m with
  | zero => intro r; exact List.nodup_nil
  | succ m ih =>
    intro r
    rw [fromR, List.nodup_append]
    refine ⟨?_, ih (r + 1), ?_⟩
    · by_cases e : okR L rk s ws pos r = true
      · rw [if_pos e]
        exact List.Pairwise.map _ (fun a b hab he => hab (List.cons.inj he).2) (h _)
      · rw [if_neg e]
        exact List.nodup_nil
    · intro a ha b hb hab
      by_cases e : okR L rk s ws pos r = true
      · rw [if_pos e] at ha
        obtain ⟨q, _, rfl⟩ := List.mem_map.1 ha
        obtain ⟨k, q', rfl, hk, _⟩ := fromR_mem _ _ b hb
        have := (List.cons.inj hab).1
        omega
      · rw [if_neg e] at ha
        cases ha
theorem waysF_nodup {L : List ByteArray} {rk : List Nat} {s : ByteArray} {ws : List Nat} : ∀ f pos, (waysF L rk s ws f pos).Nodup := by
  have h1 : ([[]] : List (List Nat)).Nodup := List.pairwise_singleton _ _
  intro f
  induction f with
  | zero =>
    intro pos
    rw [waysF]
    split
    · exact h1
    · exact List.nodup_nil
  | succ f ih =>
    intro pos
    rw [waysF]
    split
    · exact h1
    · exact fromR_nodup ih _ _
theorem rkN_inj {L : List ByteArray} {rk : List Nat} (hRk : Ranked L rk) {a b : Nat} (ha : a < L.length) (hb : b < L.length) (h : rkN rk a = rkN rk b) : a = b := by
  have hlen : rk.length = L.length := by rw [hRk.perm.length_eq, List.length_range]
  have hnd : rk.Nodup := hRk.perm.nodup_iff.2 List.nodup_range
  unfold rkN at h
  rw [List.getElem?_eq_getElem (by omega), List.getElem?_eq_getElem (by omega)] at h
  exact (List.getElem_inj hnd).1 h
theorem map_inj {L : List ByteArray} {rk : List Nat} (hRk : Ranked L rk) : ∀ p q : List Nat, (∀ r ∈ p, r < L.length) → (∀ r ∈ q, r < L.length) → p.map (rkN rk) = q.map (rkN rk) → p = q
  | [], [], _, _, _ => rfl
  | [], _ :: _, _, _, h => by cases h
  | _ :: _, [], _, _, h => by cases h
  | a :: p, b :: q, h1, h2, h => by
    rw [List.map_cons, List.map_cons] at h
    obtain ⟨e1, e2⟩ := List.cons.inj h
    rw [rkN_inj hRk (h1 a List.mem_cons_self) (h2 b List.mem_cons_self) e1, map_inj hRk p q (fun r hr => h1 r (List.mem_cons_of_mem _ hr)) (fun r hr => h2 r (List.mem_cons_of_mem _ hr)) e2]
theorem waysN_nodup {L : List ByteArray} {rk : List Nat} (hRk : Ranked L rk) {s : ByteArray} {ws : List Nat} : (waysN L rk s ws).Nodup := by
  unfold waysN
  have h : (waysAt L rk s ws 0).Pairwise fun a b => a ≠ b := waysF_nodup _ _
  have h2 : ∀ p ∈ waysAt L rk s ws 0, ∀ r ∈ p, r < L.length := fun p hp => (waysF_joins hRk _ 0 (Nat.zero_le _) p hp).1
  show ((waysAt L rk s ws 0).map _).Pairwise fun a b => a ≠ b
  rw [List.pairwise_map]
  exact h.imp_of_mem fun ha hb hne he => hne (map_inj hRk _ _ (h2 _ ha) (h2 _ hb) he)
theorem waysN_joins {L : List ByteArray} {rk : List Nat} (hRk : Ranked L rk) {s : ByteArray} {ws : List Nat} {x : List Nat} (hx : x ∈ waysN L rk s ws) : joinT L (zs x) = s ∧ okNums L (zs x) := by
  obtain ⟨p, hp, rfl⟩ := List.mem_map.1 hx
  obtain ⟨_, h2, h3⟩ := waysF_joins hRk _ 0 (Nat.zero_le _) p hp
  refine ⟨ba_eq ?_, h3⟩
  show (joinL L _).toArray.toList = _
  rw [h2, List.drop_zero]

/-- How many ways begin with one of the first ranks. -/
def sumL (L : List ByteArray) (rk : List Nat) (s : ByteArray) (ws : List Nat) (pos : Nat) : Nat → Nat
  | 0 => 0
  | r + 1 => sumL L rk s ws pos r + if okR L rk s ws pos r = true then (waysAt L rk s ws (pos + wid L rk r)).length else 0
theorem fromR_len {L : List ByteArray} {rk : List Nat} {s : ByteArray} {ws : List Nat} {pos : Nat} : ∀ m r, (fromR L rk s ws (waysAt L rk s ws) pos m r).length + sumL L rk s ws pos r = sumL L rk s ws pos (r + m) := by
  intro m
  induction m with
  | zero => intro r; rw [fromR]; simp
  | succ m ih =>
    intro r
    have := ih (r + 1)
    rw [sumL] at this
    rw [fromR, List.length_append, show r + (m + 1) = r + 1 + m by omega, ← this]
    by_cases e : okR L rk s ws pos r = true
    · rw [if_pos e, if_pos e, List.length_map]
      omega
    · rw [if_neg e, if_neg e, List.length_nil]
      omega
/-- The counts are those of the ways. -/
theorem ways_counted {L : List ByteArray} {rk : List Nat} (hw : ∀ r, r < L.length → 1 ≤ wid L rk r) {s : ByteArray} {ws : List Nat} (hW : WaysTo L rk s 0 ws) : ∀ d pos, s.size - pos ≤ d → pos ≤ s.size → ws.getD pos 0 = min (waysAt L rk s ws pos).length 100000 := by
  intro d
  induction d with
  | zero =>
    intro pos h hp
    obtain rfl : pos = s.size := by omega
    rw [waysAt_ge hw, geR_end (Nat.le_refl _), List.getD_eq_getElem?_getD, hW.last]
    rfl
  | succ d ih =>
    intro pos h hp
    by_cases e : pos = s.size
    · subst e
      rw [waysAt_ge hw, geR_end (Nat.le_refl _), List.getD_eq_getElem?_getD, hW.last]
      rfl
    · have hsum : ∀ n, n ≤ L.length → min (sumW L rk (s.extract pos s.size) ws pos n) 100000 = min (sumL L rk s ws pos n) 100000 := by
        intro n
        induction n with
        | zero => intro _; rfl
        | succ n ihn =>
          intro hn
          have h1 := ihn (by omega)
          rw [sumW, sumL]
          by_cases hb : begins (s.extract pos s.size) (nmR L rk n) = true
          · have hbs := begins_size hb
            rw [rest_size] at hbs
            have hwn := hw n (by omega)
            have h2 := ih (pos + wid L rk n) (by omega) (by unfold wid; omega)
            rw [if_pos hb]
            by_cases ho : okR L rk s ws pos n = true
            · rw [if_pos ho]
              unfold wid at h2 ⊢
              omega
            · rw [if_neg ho]
              have h3 : ws.getD (pos + wid L rk n) 0 = 0 := by
                unfold okR at ho
                rw [hb, Bool.true_and, bne_iff_ne] at ho
                exact Classical.byContradiction ho
              unfold wid at h3
              omega
          · have ho : ¬ okR L rk s ws pos n = true := by
              unfold okR
              rw [Bool.and_eq_true]
              exact fun h => hb h.1
            rw [if_neg hb, if_neg ho]
            omega
      have h2 := hsum L.length (Nat.le_refl _)
      have h3 := fromR_len (L := L) (rk := rk) (s := s) (ws := ws) (pos := pos) L.length 0
      rw [Nat.zero_add, sumL, Nat.add_zero] at h3
      rw [waysAt_ge hw]
      unfold geR
      rw [if_neg (by omega), Nat.sub_zero, h3, List.getD_eq_getElem?_getD, hW.at' pos (Nat.zero_le _) (by omega), Option.getD_some, h2]
theorem waysN_count {L : List ByteArray} {rk : List Nat} (hw : ∀ r, r < L.length → 1 ≤ wid L rk r) {s : ByteArray} {ws : List Nat} (hW : WaysTo L rk s 0 ws) {n : Nat} (h : ws[0]? = some n) : n = min (waysN L rk s ws).length 100000 := by
  have := ways_counted hw hW s.size 0 (by omega) (Nat.zero_le _)
  rw [List.getD_eq_getElem?_getD, h, Option.getD_some] at this
  rw [this]
  unfold waysN
  rw [List.length_map]
theorem waysF_size {L : List ByteArray} {rk : List Nat} (hw : ∀ r, r < L.length → 1 ≤ wid L rk r) {s : ByteArray} {ws : List Nat} : ∀ f pos, pos ≤ s.size → ∀ p ∈ waysF L rk s ws f pos, p.length + pos ≤ s.size := by
  intro f
  induction f with
  | zero =>
    intro pos hp p h
    rw [waysF] at h
    by_cases e : s.size ≤ pos
    · rw [if_pos e] at h
      rw [List.mem_singleton.1 h, List.length_nil]
      omega
    · rw [if_neg e] at h
      cases h
  | succ f ih =>
    intro pos hp p h
    rw [waysF] at h
    by_cases e : s.size ≤ pos
    · rw [if_pos e] at h
      rw [List.mem_singleton.1 h, List.length_nil]
      omega
    · rw [if_neg e] at h
      obtain ⟨k, q, rfl, _, hk, hok, hq⟩ := fromR_mem _ _ p h
      have hfit := okR_fit hok
      have h1 := ih (pos + wid L rk k) (by omega) q hq
      have h2 := hw k (by omega)
      rw [List.length_cons]
      omega
theorem waysN_size {L : List ByteArray} {rk : List Nat} (hw : ∀ r, r < L.length → 1 ≤ wid L rk r) {s : ByteArray} {ws : List Nat} {x : List Nat} (hx : x ∈ waysN L rk s ws) : x.length ≤ s.size := by
  obtain ⟨p, hp, rfl⟩ := List.mem_map.1 hx
  rw [List.length_map]
  exact waysF_size hw _ 0 (Nat.zero_le _) p hp
/-- The counts are one list. -/
theorem WaysTo.one {L : List ByteArray} {rk : List Nat} (hw : ∀ r, r < L.length → 1 ≤ wid L rk r) {s : ByteArray} {ws ws' : List Nat} (h : WaysTo L rk s 0 ws) (h' : WaysTo L rk s 0 ws') : ws = ws' := by
  have key : ∀ d p, s.size - p ≤ d → p ≤ s.size → ws[p]? = ws'[p]? := by
    intro d
    induction d with
    | zero =>
      intro p h1 h2
      obtain rfl : p = s.size := by omega
      rw [h.last, h'.last]
    | succ d ih =>
      intro p h1 h2
      by_cases e : p = s.size
      · rw [e, h.last, h'.last]
      · rw [h.at' p (Nat.zero_le _) (by omega), h'.at' p (Nat.zero_le _) (by omega)]
        have : ∀ n, n ≤ L.length → sumW L rk (s.extract p s.size) ws p n = sumW L rk (s.extract p s.size) ws' p n := by
          intro n
          induction n with
          | zero => intro _; rfl
          | succ n ihn =>
            intro hn
            rw [sumW, sumW, ihn (by omega)]
            by_cases hb : begins (s.extract p s.size) (nmR L rk n) = true
            · rw [if_pos hb, if_pos hb]
              have hbs := begins_size hb
              rw [rest_size] at hbs
              have hwn : 1 ≤ (nmR L rk n).size := hw n (by omega)
              rw [List.getD_eq_getElem?_getD, List.getD_eq_getElem?_getD, ih (p + (nmR L rk n).size) (by omega) (by omega)]
            · rw [if_neg hb, if_neg hb]
        rw [this L.length (Nat.le_refl _)]
  refine List.ext_getElem? fun i => ?_
  by_cases e : i ≤ s.size
  · exact key _ i (Nat.le_refl _) e
  · rw [List.getElem?_eq_none (by rw [h.len]; omega), List.getElem?_eq_none (by rw [h'.len]; omega)]
end Go.Proofs.Ytaijphanpolegaa.Utf
