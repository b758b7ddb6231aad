/-
  All ways in which a text is letters, in the order of their ranks: what they are, and how going down and back goes through them.
-/
import Derived.Test.YtaijphanpolegaaWysm
namespace Go.Proofs.Ytaijphanpolegaa.Utf
open Go Go.Lib Go.RowKit

/-- The width of a rank's letter. -/
def wid (L : List ByteArray) (rk : List Nat) (r : Nat) : Nat := (nmR L rk r).size
/-- A letter that stands at a place, with a way to the end behind it. -/
def okR (L : List ByteArray) (rk : List Nat) (s : ByteArray) (ws : List Nat) (pos r : Nat) : Bool := begins (s.extract pos s.size) (nmR L rk r) && (ws.getD (pos + wid L rk r) 0 != 0)
theorem okR_fit {L : List ByteArray} {rk : List Nat} {s : ByteArray} {ws : List Nat} {pos r : Nat} (h : okR L rk s ws pos r = true) : wid L rk r ≤ s.size - pos := by
  unfold okR at h
  rw [Bool.and_eq_true] at h
  have := begins_size h.1
  rw [rest_size] at this
  exact this
/-- Ways that begin with one of m ranks, the first of them r. -/
def fromR (L : List ByteArray) (rk : List Nat) (s : ByteArray) (ws : List Nat) (nx : Nat → List (List Nat)) (pos : Nat) : Nat → Nat → List (List Nat)
  | 0, _ => []
  | m + 1, r => (if okR L rk s ws pos r = true then (nx (pos + wid L rk r)).map (r :: ·) else []) ++ fromR L rk s ws nx pos m (r + 1)
def waysF (L : List ByteArray) (rk : List Nat) (s : ByteArray) (ws : List Nat) : Nat → Nat → List (List Nat)
  | 0, pos => if s.size ≤ pos then [[]] else []
  | f + 1, pos => if s.size ≤ pos then [[]] else fromR L rk s ws (waysF L rk s ws f) pos L.length 0
/-- All ways from a place on, as ranks. -/
def waysAt (L : List ByteArray) (rk : List Nat) (s : ByteArray) (ws : List Nat) (pos : Nat) : List (List Nat) := waysF L rk s ws s.size pos

theorem fromR_congr {L : List ByteArray} {rk : List Nat} {s : ByteArray} {ws : List Nat} {nx nx' : Nat → List (List Nat)} {pos : Nat} : ∀ m r, (∀ k, r ≤ k → k < r + m → okR L rk s ws pos k = true → nx (pos + wid L rk k) = nx' (pos + wid L rk k)) → fromR L rk s ws nx pos m r = fromR L rk s ws nx' pos m r := by
  intro m
  induction m with
  | zero => intro r _; rfl
  | succ m ih =>
    intro r h
    rw [fromR, fromR, ih (r + 1) fun k h1 h2 h3 => h k (by omega) (by omega) h3]
    congr 1
    by_cases e : okR L rk s ws pos r = true
    · rw [if_pos e, if_pos e, h r (Nat.le_refl _) (by omega) e]
    · rw [if_neg e, if_neg e]
theorem waysF_fuel {L : List ByteArray} {rk : List Nat} {s : ByteArray} {ws : List Nat} (hw : ∀ r, r < L.length → 1 ≤ wid L rk r) : ∀ f f' pos, s.size - pos ≤ f → s.size - pos ≤ f' → waysF L rk s ws f pos = waysF L rk s ws f' pos := by
  intro f
  induction f with
  | zero =>
    intro f' pos h1 _
    have : s.size ≤ pos := by omega
    cases f' with
    | zero => rfl
    | succ f' => rw [waysF, waysF, if_pos this, if_pos this]
  | succ f ih =>
    intro f' pos h1 h2
    by_cases e : s.size ≤ pos
    · cases f' with
      | zero => rw [waysF, waysF, if_pos e, if_pos e]
      | succ f' => rw [waysF, waysF, if_pos e, if_pos e]
    · cases f' with
      | zero => omega
      | succ f' =>
        rw [waysF, waysF, if_neg e, if_neg e]
        refine fromR_congr _ _ fun k _ hk hok => ?_
        have := hw k (by omega)
        exact ih f' _ (by omega) (by omega)
/-- Ways from a place on whose first rank is at least r. -/
def geR (L : List ByteArray) (rk : List Nat) (s : ByteArray) (ws : List Nat) (pos r : Nat) : List (List Nat) := if s.size ≤ pos then [[]] else fromR L rk s ws (waysAt L rk s ws) pos (L.length - r) r
theorem waysAt_ge {L : List ByteArray} {rk : List Nat} {s : ByteArray} {ws : List Nat} (hw : ∀ r, r < L.length → 1 ≤ wid L rk r) (pos : Nat) : waysAt L rk s ws pos = geR L rk s ws pos 0 := by
  unfold waysAt geR
  rw [waysF_fuel hw s.size (s.size + 1) pos (by omega) (by omega), waysF]
  rfl
theorem geR_end {L : List ByteArray} {rk : List Nat} {s : ByteArray} {ws : List Nat} {pos r : Nat} (h : s.size ≤ pos) : geR L rk s ws pos r = [[]] := if_pos h
theorem geR_none {L : List ByteArray} {rk : List Nat} {s : ByteArray} {ws : List Nat} {pos r : Nat} (h : pos < s.size) (hr : L.length ≤ r) : geR L rk s ws pos r = [] := by
  unfold geR
  rw [if_neg (by omega), show L.length - r = 0 by omega]
  rfl
theorem geR_skip {L : List ByteArray} {rk : List Nat} {s : ByteArray} {ws : List Nat} {pos r : Nat} (h : pos < s.size) (ho : okR L rk s ws pos r = false) : geR L rk s ws pos r = geR L rk s ws pos (r + 1) := by
  unfold geR
  rw [if_neg (by omega), if_neg (by omega)]
  by_cases hr : r < L.length
  · rw [show L.length - r = (L.length - (r + 1)) + 1 by omega, fromR, if_neg (by rw [ho]; decide), List.nil_append]
  · rw [show L.length - r = 0 by omega, show L.length - (r + 1) = 0 by omega]
    rfl
theorem geR_skips {L : List ByteArray} {rk : List Nat} {s : ByteArray} {ws : List Nat} {pos a : Nat} (h : pos < s.size) : ∀ b, a ≤ b → (∀ j, a ≤ j → j < b → begins (s.extract pos s.size) (nmR L rk j) = false) → geR L rk s ws pos a = geR L rk s ws pos b := by
  intro b
  induction b with
  | zero => intro h1 _; rw [show a = 0 by omega]
  | succ b ih =>
    intro h1 hn
    by_cases e : a = b + 1
    · rw [e]
    · rw [ih (by omega) fun j h2 h3 => hn j h2 (by omega)]
      refine geR_skip h ?_
      unfold okR
      rw [hn b (by omega) (by omega)]
      rfl
theorem geR_take {L : List ByteArray} {rk : List Nat} {s : ByteArray} {ws : List Nat} {pos r : Nat} (h : pos < s.size) (hr : r < L.length) (ho : okR L rk s ws pos r = true) : geR L rk s ws pos r = (waysAt L rk s ws (pos + wid L rk r)).map (r :: ·) ++ geR L rk s ws pos (r + 1) := by
  unfold geR
  rw [if_neg (by omega), if_neg (by omega), show L.length - r = (L.length - (r + 1)) + 1 by omega, fromR, if_pos ho]

/-- The place behind some letters. -/
def posP (L : List ByteArray) (rk : List Nat) : List Nat → Nat
  | [] => 0
  | r :: q => posP L rk q + wid L rk r
theorem posP_snoc (L : List ByteArray) (rk : List Nat) (r : Nat) : ∀ q, posP L rk (q ++ [r]) = posP L rk q + wid L rk r := by
  intro q
  induction q with
  | nil => rfl
  | cons x q ih => rw [List.cons_append, posP, posP, ih]; omega
theorem posP_len {L : List ByteArray} {rk : List Nat} (hw : ∀ r, r < L.length → 1 ≤ wid L rk r) : ∀ q, (∀ r ∈ q, r < L.length) → q.length ≤ posP L rk q := by
  intro q
  induction q with
  | nil => intro _; exact Nat.zero_le _
  | cons r q ih =>
    intro h
    have h1 := ih fun x hx => h x (List.mem_cons_of_mem _ hx)
    have h2 := hw r (h r List.mem_cons_self)
    rw [posP, List.length_cons]
    omega
/-- What comes behind the ways that go on from a path (the path backward). -/
def restB (L : List ByteArray) (rk : List Nat) (s : ByteArray) (ws : List Nat) : List Nat → List (List Nat)
  | [] => []
  | r :: q => (geR L rk s ws (posP L rk q.reverse) (r + 1)).map (q.reverse ++ ·) ++ restB L rk s ws q
def restP (L : List ByteArray) (rk : List Nat) (s : ByteArray) (ws : List Nat) (path : List Nat) : List (List Nat) := restB L rk s ws path.reverse
/-- The ways that are still to come. -/
def todo (L : List ByteArray) (rk : List Nat) (s : ByteArray) (ws : List Nat) (path : List Nat) (r : Nat) : List (List Nat) := (geR L rk s ws (posP L rk path) r).map (path ++ ·) ++ restP L rk s ws path
theorem restP_pop (L : List ByteArray) (rk : List Nat) (s : ByteArray) (ws : List Nat) (path : List Nat) (r : Nat) : restP L rk s ws (path ++ [r]) = todo L rk s ws path (r + 1) := by
  unfold restP todo
  rw [List.reverse_append, List.reverse_singleton, List.singleton_append, restB, List.reverse_reverse]
  rfl
theorem todo_end {L : List ByteArray} {rk : List Nat} {s : ByteArray} {ws : List Nat} {path : List Nat} {r : Nat} (h : posP L rk path = s.size) : todo L rk s ws path r = path :: restP L rk s ws path := by
  unfold todo
  rw [geR_end (by omega)]
  simp
theorem todo_none {L : List ByteArray} {rk : List Nat} {s : ByteArray} {ws : List Nat} {path : List Nat} {r : Nat} (h : posP L rk path < s.size) (hr : L.length ≤ r) : todo L rk s ws path r = restP L rk s ws path := by
  unfold todo
  rw [geR_none h hr]
  rfl
theorem todo_take {L : List ByteArray} {rk : List Nat} (hw : ∀ r, r < L.length → 1 ≤ wid L rk r) {s : ByteArray} {ws : List Nat} {path : List Nat} {r : Nat} (h : posP L rk path < s.size) (hr : r < L.length) (ho : okR L rk s ws (posP L rk path) r = true) : todo L rk s ws path r = todo L rk s ws (path ++ [r]) 0 := by
  rw [todo, geR_take h hr ho, todo, restP_pop, todo, posP_snoc, waysAt_ge hw]
  simp [List.map_append, List.append_assoc, Function.comp_def]

/-- Where the count isn't nought there is a way. -/
theorem ways_ne {L : List ByteArray} {rk : List Nat} (hw : ∀ r, r < L.length → 1 ≤ wid L rk r) {s : ByteArray} {ws : List Nat} (hW : WaysTo L rk s 0 ws) : ∀ d pos, s.size - pos ≤ d → ws.getD pos 0 ≠ 0 → waysAt L rk s ws pos ≠ [] := by
  intro d
  induction d with
  | zero =>
    intro pos h _
    rw [waysAt_ge hw, geR_end (by omega)]
    simp
  | succ d ih =>
    intro pos h h0
    by_cases e : s.size ≤ pos
    · rw [waysAt_ge hw, geR_end e]
      simp
    · rw [List.getD_eq_getElem?_getD, hW.at' pos (Nat.zero_le _) (by omega), Option.getD_some] at h0
      have hs : sumW L rk (s.extract pos s.size) ws pos L.length ≠ 0 := by omega
      obtain ⟨r, hr, hok⟩ : ∃ r, r < L.length ∧ okR L rk s ws pos r = true := by
        have : ∀ n, sumW L rk (s.extract pos s.size) ws pos n ≠ 0 → ∃ r, r < n ∧ okR L rk s ws pos r = true := by
          intro n
          induction n with
          | zero => intro h; exact absurd rfl h
          | succ n ih =>
            intro h
            by_cases e : sumW L rk (s.extract pos s.size) ws pos n = 0
            · refine ⟨n, by omega, ?_⟩
              rw [sumW, e, Nat.zero_add] at h
              unfold okR
              by_cases hb : begins (s.extract pos s.size) (nmR L rk n) = true
              · rw [if_pos hb] at h
                rw [hb, Bool.true_and, bne_iff_ne]
                exact h
              · rw [if_neg hb] at h
                exact absurd rfl h
            · obtain ⟨r, h1, h2⟩ := ih e
              exact ⟨r, by omega, h2⟩
        exact this _ hs
      have hge : ∀ k, k ≤ r → geR L rk s ws pos k ≠ [] := by
        have hr1 : geR L rk s ws pos r ≠ [] := by
          rw [geR_take (by omega) hr hok]
          have hf := okR_fit hok
          have h1 := hw r hr
          have h2 : ws.getD (pos + wid L rk r) 0 ≠ 0 := by
            unfold okR at hok
            rw [Bool.and_eq_true, bne_iff_ne] at hok
            exact hok.2
          have h3 := ih (pos + wid L rk r) (by omega) h2
          intro h
          have h4 := (List.append_eq_nil_iff.1 h).1
          exact h3 (List.map_eq_nil_iff.1 h4)
        intro k hk
        obtain ⟨d, rfl⟩ : ∃ d, r = k + d := ⟨r - k, by omega⟩
        clear hok
        induction d generalizing k with
        | zero => exact hr1
        | succ d ihd =>
          have := ihd (k + 1) (by omega) (by rw [show k + 1 + d = k + (d + 1) by omega]; exact hr1) (by omega)
          by_cases ho : okR L rk s ws pos k = true
          · rw [geR_take (by omega) (by omega) ho]
            intro h
            exact this (List.append_eq_nil_iff.1 h).2
          · rw [geR_skip (by omega) (by simpa using ho)]
            exact this
      rw [waysAt_ge hw]
      exact hge 0 (Nat.zero_le _)
end Go.Proofs.Ytaijphanpolegaa.Utf
