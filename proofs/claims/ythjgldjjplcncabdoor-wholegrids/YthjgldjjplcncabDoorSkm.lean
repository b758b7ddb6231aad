/-
  Of no program: the signs of a drawn grid, read one by one: what a drawn text says.
-/
import Derived.Test.YthjgldjjplcncabDoorCutm
import Derived.Test.YthjgldjjplcncabDoorFldm
import Derived.Test.YthjgldjjplcncabDoorGrdm
namespace Go.Proofs.YthjgldjjplcncabDoor.Skt
open Go Go.Lib Utf Grd

/-- What is said of a cell. -/
structure C3 where
  b : Bool
  r : Bool
  d : Bool
/-- Which sign a rune is. -/
def sgn (r : Nat) : Nat := if r = 35 ∨ r = 9632 then 1 else if r = 46 ∨ r = 9633 then 2 else if r = 124 then 3 else if r = 95 then 4 else if cls (r : Int) = 3 then 0 else 5
theorem sgn_le (r : Nat) : sgn r ≤ 5 := by unfold sgn; repeat' split
                                           all_goals omega
theorem sgn_blank {r : Nat} (h : cls (r : Int) = 3) : sgn r = 0 := by
  have hb := cls_3.1 h
  unfold isB at hb
  unfold sgn
  rw [if_neg (by omega), if_neg (by omega), if_neg (by omega), if_neg (by omega), if_pos h]
theorem cls_ten : cls 10 = 3 := cls_3.2 (by unfold isB; omega)
def setR (c : C3) : C3 := { c with r := true }
def setD (c : C3) : C3 := { c with d := true }
/-- A sign at p, where n rows stand ahead. -/
def putC (r p n : Nat) (cur : List C3) : (Nat × Nat) ⊕ List C3 :=
  if sgn r = 0 then .inr cur
  else if sgn r ≤ 2 then (if cur.length = 16 ∨ n = 16 then .inl (p, 50) else .inr (cur ++ [⟨decide (sgn r = 1), false, false⟩]))
  else if sgn r = 3 then match cur.getLast? with
    | none => .inl (p, 83)
    | some c => if c.r then .inl (p, 83) else .inr (cur.dropLast ++ [setR c])
  else if sgn r = 4 then match cur.getLast? with
    | none => .inl (p, 83)
    | some c => if c.d then .inl (p, 83) else .inr (cur.dropLast ++ [setD c])
  else .inl (p, 80)
/-- A line's end. -/
def endRow (rows : List (List C3)) (cur : List C3) (ls : Nat) : (Nat × Nat) ⊕ List (List C3) :=
  if cur = [] then .inr rows else if rows = [] ∨ (rows.headD []).length = cur.length then .inr (rows ++ [cur]) else .inl (ls, 81)
def scan (s : ByteArray) (p ls : Nat) (rows : List (List C3)) (cur : List C3) : (Nat × Nat) ⊕ List (List C3) :=
  if _h : p < s.size then
    if (Utf8.decode s p).1 = 10 then
      match endRow rows cur ls with
      | .inl e => .inl e
      | .inr rows' => scan s (p + (Utf8.decode s p).2) (p + (Utf8.decode s p).2) rows' []
    else match putC (Utf8.decode s p).1 p rows.length cur with
      | .inl e => .inl e
      | .inr cur' => scan s (p + (Utf8.decode s p).2) ls rows cur'
  else endRow rows cur ls
termination_by s.size - p
decreasing_by
  all_goals have := decode_fits s p (by assumption); omega
theorem scan_end {s : ByteArray} {p ls : Nat} {rows : List (List C3)} {cur : List C3} (h : ¬ p < s.size) : scan s p ls rows cur = endRow rows cur ls := by rw [scan, dif_neg h]
theorem scan_line {s : ByteArray} {p ls : Nat} {rows : List (List C3)} {cur : List C3} (h : p < s.size) (h10 : (Utf8.decode s p).1 = 10) : scan s p ls rows cur = (match endRow rows cur ls with | .inl e => .inl e | .inr rows' => scan s (p + (Utf8.decode s p).2) (p + (Utf8.decode s p).2) rows' []) := by rw [scan, dif_pos h, if_pos h10]
theorem scan_put {s : ByteArray} {p ls : Nat} {rows : List (List C3)} {cur : List C3} (h : p < s.size) (h10 : ¬ (Utf8.decode s p).1 = 10) : scan s p ls rows cur = (match putC (Utf8.decode s p).1 p rows.length cur with | .inl e => .inl e | .inr cur' => scan s (p + (Utf8.decode s p).2) ls rows cur') := by rw [scan, dif_pos h, if_neg h10]
/-- The next sign's place: behind the blanks ahead of it that are no line's end. -/
def skip (s : ByteArray) (p : Nat) : Nat :=
  if _h : p < s.size then
    if (Utf8.decode s p).1 ≠ 10 ∧ cls ((Utf8.decode s p).1 : Int) = 3 then skip s (p + (Utf8.decode s p).2) else p
  else p
termination_by s.size - p
decreasing_by have := decode_fits s p (by assumption); omega
theorem skip_on {s : ByteArray} {p : Nat} (h : p < s.size) (h1 : (Utf8.decode s p).1 ≠ 10 ∧ cls ((Utf8.decode s p).1 : Int) = 3) : skip s p = skip s (p + (Utf8.decode s p).2) := by rw [skip, dif_pos h, if_pos h1]
theorem skip_stop {s : ByteArray} {p : Nat} (h1 : ∀ _ : p < s.size, ¬ ((Utf8.decode s p).1 ≠ 10 ∧ cls ((Utf8.decode s p).1 : Int) = 3)) : skip s p = p := by
  rw [skip]
  by_cases h : p < s.size
  · rw [dif_pos h, if_neg (h1 h)]
  · rw [dif_neg h]
theorem skip_spec (s : ByteArray) (p : Nat) (hp : p ≤ s.size) : p ≤ skip s p ∧ skip s p ≤ s.size ∧ (∀ _ : skip s p < s.size, ¬ ((Utf8.decode s (skip s p)).1 ≠ 10 ∧ cls ((Utf8.decode s (skip s p)).1 : Int) = 3)) := by
  generalize hn : s.size - p = n
  induction n using Nat.strongRecOn generalizing p with
  | _ n ih =>
    by_cases h : p < s.size
    · have hf := decode_fits s p h
      by_cases h1 : (Utf8.decode s p).1 ≠ 10 ∧ cls ((Utf8.decode s p).1 : Int) = 3
      · rw [skip_on h h1]
        obtain ⟨a, b, c⟩ := ih (s.size - (p + (Utf8.decode s p).2)) (by omega) (p + (Utf8.decode s p).2) (by omega) rfl
        exact ⟨by omega, b, c⟩
      · rw [skip_stop (fun _ => h1)]
        exact ⟨Nat.le_refl _, hp, fun _ => h1⟩
    · rw [skip_stop (fun h' => absurd h' h)]
      exact ⟨Nat.le_refl _, hp, fun h' => absurd h' h⟩
theorem scan_skip (s : ByteArray) (p ls : Nat) (rows : List (List C3)) (cur : List C3) : scan s p ls rows cur = scan s (skip s p) ls rows cur := by
  generalize hn : s.size - p = n
  induction n using Nat.strongRecOn generalizing p with
  | _ n ih =>
    by_cases h : p < s.size
    · have hf := decode_fits s p h
      by_cases h1 : (Utf8.decode s p).1 ≠ 10 ∧ cls ((Utf8.decode s p).1 : Int) = 3
      · rw [skip_on h h1, scan_put h h1.1]
        have : putC (Utf8.decode s p).1 p rows.length cur = .inr cur := by unfold putC; rw [if_pos (sgn_blank h1.2)]
        rw [this]
        exact ih (s.size - (p + (Utf8.decode s p).2)) (by omega) (p + (Utf8.decode s p).2) rfl
      · rw [skip_stop (fun _ => h1)]
    · rw [skip_stop (fun h' => absurd h' h)]
/-- The sign at hand, as the program holds it: -1 at the text's end. -/
def sigN (r : Nat) : Int := if r = 9632 then 35 else if r = 9633 then 46 else (r : Int)
def sigA (s : ByteArray) (p : Nat) : Int := if p < s.size then sigN (Utf8.decode s p).1 else -1
/-- Where the next sign is looked for. -/
def aft (s : ByteArray) (p : Nat) : Nat := if p < s.size then p + (Utf8.decode s p).2 else p
theorem aft_le {s : ByteArray} {p : Nat} (h : p ≤ s.size) : p ≤ aft s p ∧ aft s p ≤ s.size := by
  unfold aft
  split
  · have := decode_fits s p (by assumption); omega
  · omega
theorem aft_in {s : ByteArray} {p : Nat} (h : p < s.size) : p < aft s p := by
  unfold aft
  rw [if_pos h]
  have := decode_fits s p h; omega
/-- What stands at the sign's place tells the next step. -/
theorem scan_sig {s : ByteArray} {p ls : Nat} {rows : List (List C3)} {cur : List C3} (hs : ∀ _ : p < s.size, ¬ ((Utf8.decode s p).1 ≠ 10 ∧ cls ((Utf8.decode s p).1 : Int) = 3)) :
    (sigA s p = -1 → scan s p ls rows cur = endRow rows cur ls) ∧
    (sigA s p = 10 → scan s p ls rows cur = (match endRow rows cur ls with | .inl e => .inl e | .inr rows' => scan s (aft s p) (aft s p) rows' [])) ∧
    (sigA s p = 46 ∨ sigA s p = 35 → scan s p ls rows cur = if cur.length = 16 ∨ rows.length = 16 then .inl (p, 50) else scan s (aft s p) ls rows (cur ++ [⟨decide (sigA s p = 35), false, false⟩])) ∧
    (sigA s p = 124 → scan s p ls rows cur = match cur.getLast? with | none => .inl (p, 83) | some c => if c.r then .inl (p, 83) else scan s (aft s p) ls rows (cur.dropLast ++ [setR c])) ∧
    (sigA s p = 95 → scan s p ls rows cur = match cur.getLast? with | none => .inl (p, 83) | some c => if c.d then .inl (p, 83) else scan s (aft s p) ls rows (cur.dropLast ++ [setD c])) ∧
    (sigA s p ≠ -1 → sigA s p ≠ 10 → sigA s p ≠ 46 → sigA s p ≠ 35 → sigA s p ≠ 124 → sigA s p ≠ 95 → scan s p ls rows cur = .inl (p, 80)) := by
  by_cases h : p < s.size
  · have hn := hs h
    unfold sigA aft
    rw [if_pos h, if_pos h]
    by_cases h10 : (Utf8.decode s p).1 = 10
    · rw [scan_line h h10]
      unfold sigN
      rw [h10]
      refine ⟨fun e => absurd e (by decide), fun _ => rfl, fun e => absurd e (by decide), fun e => absurd e (by decide), fun e => absurd e (by decide), fun _ e => absurd rfl e⟩
    · rw [scan_put h h10]
      have hc : ¬ cls ((Utf8.decode s p).1 : Int) = 3 := fun e => hn ⟨h10, e⟩
      generalize (Utf8.decode s p).1 = r at *
      generalize (Utf8.decode s p).2 = w at *
      unfold putC
      have e0 : sgn r = if r = 35 ∨ r = 9632 then 1 else if r = 46 ∨ r = 9633 then 2 else if r = 124 then 3 else if r = 95 then 4 else 5 := by
        unfold sgn
        rw [if_neg hc]
      rw [e0]
      unfold sigN
      by_cases k1 : r = 35 ∨ r = 9632
      · rw [if_pos k1]
        have e1 : (if r = 9632 then (35 : Int) else if r = 9633 then 46 else (r : Int)) = 35 := by
          rcases k1 with rfl | rfl <;> decide
        rw [e1]
        refine ⟨fun e => absurd e (by decide), fun e => absurd e (by decide), fun _ => ?_, fun e => absurd e (by decide), fun e => absurd e (by decide), fun _ _ _ e => absurd rfl e⟩
        by_cases k : cur.length = 16 ∨ rows.length = 16
        · rw [if_neg (by decide), if_pos (by decide), if_pos k, if_pos k]
        · rw [if_neg (by decide), if_pos (by decide), if_neg k, if_neg k]
          rfl
      · rw [if_neg k1]
        by_cases k2 : r = 46 ∨ r = 9633
        · rw [if_pos k2]
          have e1 : (if r = 9632 then (35 : Int) else if r = 9633 then 46 else (r : Int)) = 46 := by
            rcases k2 with rfl | rfl <;> decide
          rw [e1]
          refine ⟨fun e => absurd e (by decide), fun e => absurd e (by decide), fun _ => ?_, fun e => absurd e (by decide), fun e => absurd e (by decide), fun _ _ e => absurd rfl e⟩
          by_cases k : cur.length = 16 ∨ rows.length = 16
          · rw [if_neg (by decide), if_pos (by decide), if_pos k, if_pos k]
          · rw [if_neg (by decide), if_pos (by decide), if_neg k, if_neg k]
            rfl
        · rw [if_neg k2]
          have e1 : (if r = 9632 then (35 : Int) else if r = 9633 then 46 else (r : Int)) = (r : Int) := by
            rw [if_neg (by omega), if_neg (by omega)]
          rw [e1]
          by_cases k3 : r = 124
          · subst k3
            refine ⟨fun e => absurd e (by decide), fun e => absurd e (by decide), fun e => absurd e (by decide), fun _ => ?_, fun e => absurd e (by decide), fun _ _ _ _ e => absurd rfl e⟩
            rw [if_pos rfl, if_neg (by decide), if_neg (by decide), if_pos rfl]
            cases cur.getLast? with
            | none => rfl
            | some c => cases hh : c.r <;> simp [hh]
          · rw [if_neg k3]
            by_cases k4 : r = 95
            · subst k4
              refine ⟨fun e => absurd e (by decide), fun e => absurd e (by decide), fun e => absurd e (by decide), fun e => absurd e (by decide), fun _ => ?_, fun _ _ _ _ _ e => absurd rfl e⟩
              rw [if_pos rfl, if_neg (by decide), if_neg (by decide), if_neg (by decide), if_pos rfl]
              cases cur.getLast? with
              | none => rfl
              | some c => cases hh : c.d <;> simp [hh]
            · rw [if_neg k4]
              refine ⟨fun e => absurd e (by omega), fun e => absurd e (by omega), fun e => absurd e (by omega), fun e => absurd e (by omega), fun e => absurd e (by omega), fun _ _ _ _ _ _ => ?_⟩
              rw [if_neg (by decide), if_neg (by decide), if_neg (by decide), if_neg (by decide)]
  · unfold sigA aft
    rw [if_neg h, if_neg h, scan_end h]
    exact ⟨fun _ => rfl, fun e => absurd e (by decide), fun e => absurd e (by decide), fun e => absurd e (by decide), fun e => absurd e (by decide), fun e => absurd rfl e⟩

/-- Rows as they come: all of one length, 1 to 16; the row at hand. -/
structure RowsOk (rows : List (List C3)) (cur : List C3) : Prop where
  same : ∀ r ∈ rows, r.length = (rows.headD []).length
  some : ∀ r ∈ rows, 1 ≤ r.length ∧ r.length ≤ 16
  few : rows.length ≤ 16
  short : cur.length ≤ 16
  room : cur ≠ [] → rows.length < 16
theorem RowsOk.nil : RowsOk [] [] := ⟨fun _ h => by simp at h, fun _ h => by simp at h, by simp, by simp, fun h => absurd rfl h⟩
theorem RowsOk.cell {rows : List (List C3)} {cur : List C3} (h : RowsOk rows cur) (hn : ¬ (cur.length = 16 ∨ rows.length = 16)) (c : C3) : RowsOk rows (cur ++ [c]) :=
  ⟨h.same, h.some, h.few, by rw [List.length_append, List.length_singleton]; have := h.short; omega, fun _ => by have := h.few; omega⟩
theorem RowsOk.last {rows : List (List C3)} {cur : List C3} (h : RowsOk rows cur) (hn : cur ≠ []) (c : C3) : RowsOk rows (cur.dropLast ++ [c]) :=
  ⟨h.same, h.some, h.few, by
    rw [List.length_append, List.length_singleton, List.length_dropLast]
    have := h.short
    have : 0 < cur.length := List.length_pos_iff.2 hn
    omega, fun _ => h.room hn⟩
theorem RowsOk.row {rows : List (List C3)} {cur : List C3} (h : RowsOk rows cur) (hn : cur ≠ []) (he : rows = [] ∨ (rows.headD []).length = cur.length) : RowsOk (rows ++ [cur]) [] := by
  have hc : 0 < cur.length := List.length_pos_iff.2 hn
  refine ⟨fun r hr => ?_, fun r hr => ?_, by rw [List.length_append, List.length_singleton]; exact h.room hn, by simp, fun e => absurd rfl e⟩
  · cases rows with
    | nil => simp at hr ⊢; rw [hr]
    | cons r0 rs =>
      rcases List.mem_append.1 hr with hr | hr
      · exact h.same r hr
      · rw [List.mem_singleton.1 hr]
        rcases he with e | e
        · cases e
        · exact e.symm
  · rcases List.mem_append.1 hr with hr | hr
    · exact h.some r hr
    · rw [List.mem_singleton.1 hr]
      exact ⟨hc, h.short⟩
theorem endRow_ok {rows rows' : List (List C3)} {cur : List C3} {ls : Nat} (h : RowsOk rows cur) (he : endRow rows cur ls = .inr rows') : RowsOk rows' [] := by
  unfold endRow at he
  by_cases e : cur = []
  · rw [if_pos e] at he
    cases he
    subst e
    exact h
  · rw [if_neg e] at he
    by_cases k : rows = [] ∨ (rows.headD []).length = cur.length
    · rw [if_pos k] at he
      cases he
      exact h.row e k
    · rw [if_neg k] at he
      cases he
theorem putC_ok {r p : Nat} {rows : List (List C3)} {cur cur' : List C3} (h : RowsOk rows cur) (he : putC r p rows.length cur = .inr cur') : RowsOk rows cur' := by
  unfold putC at he
  by_cases e : sgn r = 0
  · rw [if_pos e] at he
    cases he
    exact h
  · rw [if_neg e] at he
    by_cases e2 : sgn r ≤ 2
    · rw [if_pos e2] at he
      by_cases e3 : cur.length = 16 ∨ rows.length = 16
      · rw [if_pos e3] at he
        cases he
      · rw [if_neg e3] at he
        cases he
        exact h.cell e3 _
    · rw [if_neg e2] at he
      have key : ∀ (f : C3 → Bool) (g : C3 → C3), (match cur.getLast? with | none => (Sum.inl (p, 83) : (Nat × Nat) ⊕ List C3) | some c => if f c = true then .inl (p, 83) else .inr (cur.dropLast ++ [g c])) = .inr cur' → RowsOk rows cur' := by
        intro f g hm
        cases hl : cur.getLast? with
        | none => rw [hl] at hm; cases hm
        | some c =>
          rw [hl] at hm
          have hne : cur ≠ [] := by rintro rfl; cases hl
          by_cases k : f c = true
          · simp only [if_pos k] at hm
            cases hm
          · simp only [if_neg k] at hm
            cases hm
            exact h.last hne _
      by_cases e3 : sgn r = 3
      · rw [if_pos e3] at he
        exact key (fun c => c.r) setR he
      · rw [if_neg e3] at he
        by_cases e4 : sgn r = 4
        · rw [if_pos e4] at he
          exact key (fun c => c.d) setD he
        · rw [if_neg e4] at he
          cases he
theorem scan_ok (s : ByteArray) (p ls : Nat) (rows rows' : List (List C3)) (cur : List C3) (h : RowsOk rows cur) (he : scan s p ls rows cur = .inr rows') : RowsOk rows' [] := by
  generalize hn : s.size - p = n
  induction n using Nat.strongRecOn generalizing p ls rows cur with
  | _ n ih =>
    by_cases hp : p < s.size
    · have hf := decode_fits s p hp
      by_cases h10 : (Utf8.decode s p).1 = 10
      · rw [scan_line hp h10] at he
        cases hr : endRow rows cur ls with
        | inl x => rw [hr] at he; cases he
        | inr r2 =>
          rw [hr] at he
          exact ih _ (by omega) (p + (Utf8.decode s p).2) _ r2 [] (endRow_ok h hr) he rfl
      · rw [scan_put hp h10] at he
        cases hr : putC (Utf8.decode s p).1 p rows.length cur with
        | inl x => rw [hr] at he; cases he
        | inr c2 =>
          rw [hr] at he
          exact ih _ (by omega) (p + (Utf8.decode s p).2) ls rows c2 (putC_ok h hr) he rfl
    · rw [scan_end hp] at he
      exact endRow_ok h he

/-- The grid that rows say. -/
def mkG (rows : List (List C3)) : Gr := ⟨(rows.length : Int), ((rows.headD []).length : Int), rows.flatten.map (·.b), rows.flatten.map (·.r), rows.flatten.map (·.d)⟩
def zeroG : Gr := ⟨0, 0, [], [], []⟩
/-- What Parse answers. -/
def prs (s : ByteArray) : Gr × Nat × Nat :=
  if 65536 < s.size then (zeroG, 65536, 1) else match scan s 0 0 [] [] with
  | .inl (p, e) => (zeroG, p, e)
  | .inr rows => if rows = [] then (zeroG, s.size, 82) else if (mkG rows).chk = 0 then (mkG rows, 0, 0) else (zeroG, 0, (mkG rows).chk)
end Go.Proofs.YthjgldjjplcncabDoor.Skt
