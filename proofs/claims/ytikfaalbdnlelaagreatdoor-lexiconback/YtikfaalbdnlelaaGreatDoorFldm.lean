/-
  Plain facts on classes, capitals and plain forms of runes, with no word of any program; what folding makes of a list of runes, and that folding again changes nothing.
-/
import Derived.Test.YtikfaalbdnlelaaGreatDoorFixm
namespace Go.Proofs.YtikfaalbdnlelaaGreatDoor.Utf
open Go Go.Lib

def isL (n : Int) : Prop := (65 ≤ n ∧ n ≤ 90) ∨ (97 ≤ n ∧ n ≤ 122) ∨ (192 ≤ n ∧ n ≤ 383 ∧ n ≠ 215 ∧ n ≠ 247) ∨ (913 ≤ n ∧ n ≤ 937 ∧ n ≠ 930) ∨ (945 ≤ n ∧ n ≤ 969) ∨ (1024 ≤ n ∧ n ≤ 1119)
instance (n : Int) : Decidable (isL n) := by unfold isL; infer_instance
def isB (n : Int) : Prop := (9 ≤ n ∧ n ≤ 13) ∨ n = 32 ∨ n = 160
instance (n : Int) : Decidable (isB n) := by unfold isB; infer_instance
/-- The class. -/
def cls (n : Int) : Int := if isL n then 1 else if 48 ≤ n ∧ n ≤ 57 then 2 else if isB n then 3 else if 768 ≤ n ∧ n ≤ 879 then 4 else 0
def up32 (n : Int) : Prop := (97 ≤ n ∧ n ≤ 122) ∨ (224 ≤ n ∧ n ≤ 254 ∧ n ≠ 247) ∨ (945 ≤ n ∧ n ≤ 969 ∧ n ≠ 962) ∨ (1072 ≤ n ∧ n ≤ 1103)
instance (n : Int) : Decidable (up32 n) := by unfold up32; infer_instance
def up1 (n : Int) : Prop := (257 ≤ n ∧ n ≤ 311 ∧ n % 2 = 1 ∧ n ≠ 305) ∨ (314 ≤ n ∧ n ≤ 328 ∧ n % 2 = 0) ∨ (331 ≤ n ∧ n ≤ 375 ∧ n % 2 = 1) ∨ n = 378 ∨ n = 380 ∨ n = 382
instance (n : Int) : Decidable (up1 n) := by unfold up1; infer_instance
/-- The capital. -/
def up (n : Int) : Int := if up32 n then n - 32 else if n = 255 then 376 else if n = 962 then 931 else if 1104 ≤ n ∧ n ≤ 1119 then n - 80 else if up1 n then n - 1 else n

theorem cls_1 {n : Int} : cls n = 1 ↔ isL n := by
  unfold cls
  repeat' split
  all_goals simp_all
theorem cls_3 {n : Int} : cls n = 3 ↔ isB n := by
  unfold cls
  repeat' split
  all_goals (try simp_all)
  unfold isL isB at *; omega
  unfold isB at *; omega
theorem cls_bd (n : Int) : 0 ≤ cls n ∧ cls n ≤ 4 := by
  unfold cls
  repeat' split
  all_goals omega
theorem up_cases (n : Int) : (up32 n ∧ up n = n - 32) ∨ (n = 255 ∧ up n = 376) ∨ (n = 962 ∧ up n = 931) ∨ ((1104 ≤ n ∧ n ≤ 1119) ∧ up n = n - 80) ∨ (up1 n ∧ up n = n - 1) ∨
    ((¬ up32 n ∧ n ≠ 255 ∧ n ≠ 962 ∧ ¬ (1104 ≤ n ∧ n ≤ 1119) ∧ ¬ up1 n) ∧ up n = n) := by
  unfold up
  repeat' split
  all_goals simp_all
theorem up_letter (n : Int) : isL (up n) ↔ isL n := by
  have h := up_cases n
  unfold up32 up1 at h
  unfold isL
  omega
theorem up_id {n : Int} (h : ¬ up32 n ∧ n ≠ 255 ∧ n ≠ 962 ∧ ¬ (1104 ≤ n ∧ n ≤ 1119) ∧ ¬ up1 n) : up n = n := by
  unfold up
  rw [if_neg h.1, if_neg h.2.1, if_neg h.2.2.1, if_neg h.2.2.2.1, if_neg h.2.2.2.2]
theorem up_up (n : Int) : up (up n) = up n := by
  have h := up_cases n
  refine up_id ?_
  unfold up32 up1 at *
  omega
theorem up_letter_only {n : Int} (h : ¬ isL n) : up n = n := by
  refine up_id ?_
  unfold isL at h
  unfold up32 up1
  omega
theorem up_cls (n : Int) : cls (up n) = cls n := by
  by_cases h : isL n
  · rw [cls_1.2 h, cls_1.2 ((up_letter n).2 h)]
  · rw [up_letter_only h]

/-- The plain form, as runes. -/
def plT (n : Int) : List Nat :=
  if (192 ≤ n ∧ n ≤ 197) ∨ n = 256 ∨ n = 258 ∨ n = 260 then [65]
  else if n = 198 then [65, 69]
  else if n = 199 ∨ n = 262 ∨ n = 264 ∨ n = 266 ∨ n = 268 then [67]
  else if n = 270 ∨ n = 272 then [68]
  else if (200 ≤ n ∧ n ≤ 203) ∨ n = 274 ∨ n = 276 ∨ n = 278 ∨ n = 280 ∨ n = 282 then [69]
  else if n = 284 ∨ n = 286 ∨ n = 288 ∨ n = 290 then [71]
  else if n = 292 ∨ n = 294 then [72]
  else if (204 ≤ n ∧ n ≤ 207) ∨ n = 296 ∨ n = 298 ∨ n = 300 ∨ n = 302 ∨ n = 304 then [73]
  else if n = 308 then [74]
  else if n = 310 then [75]
  else if n = 313 ∨ n = 315 ∨ n = 317 ∨ n = 319 ∨ n = 321 then [76]
  else if n = 209 ∨ n = 323 ∨ n = 325 ∨ n = 327 then [78]
  else if (210 ≤ n ∧ n ≤ 214) ∨ n = 216 ∨ n = 332 ∨ n = 334 ∨ n = 336 then [79]
  else if n = 338 then [79, 69]
  else if n = 340 ∨ n = 342 ∨ n = 344 then [82]
  else if n = 346 ∨ n = 348 ∨ n = 350 ∨ n = 352 then [83]
  else if n = 223 then [83, 83]
  else if n = 354 ∨ n = 356 ∨ n = 358 then [84]
  else if (217 ≤ n ∧ n ≤ 220) ∨ n = 360 ∨ n = 362 ∨ n = 364 ∨ n = 366 ∨ n = 368 ∨ n = 370 then [85]
  else if n = 372 then [87]
  else if n = 221 ∨ n = 374 ∨ n = 376 then [89]
  else if n = 377 ∨ n = 379 ∨ n = 381 then [90]
  else []
def plR (n : Int) : List Nat := if plT n = [] then [wr n] else plT n
def pl (n : Int) : ByteArray := ⟨(encR (plR n)).toArray⟩

/-- What folding makes of a rune. -/
def foldR (p : Bool) (n : Int) : List Nat := if isL n then (if p then plR (up n) else [wr (up n)]) else []
/-- What folding makes of a list of runes. -/
def foldRs (p : Bool) (l : List Nat) : List Nat := l.flatMap fun r : Nat => foldR p (r : Int)
theorem foldRs_append (p : Bool) (a b : List Nat) : foldRs p (a ++ b) = foldRs p a ++ foldRs p b := List.flatMap_append
theorem foldRs_cons (p : Bool) (a : Nat) (b : List Nat) : foldRs p (a :: b) = foldR p a ++ foldRs p b := List.flatMap_cons
theorem foldRs_nil (p : Bool) : foldRs p [] = [] := rfl

theorem ite_both {P : List Nat → Prop} {c : Prop} [Decidable c] {a b : List Nat} (ha : P a) (hb : P b) : P (if c then a else b) := by
  split
  · exact ha
  · exact hb
theorem plT_good (n : Int) : (∀ x ∈ plT n, 65 ≤ x ∧ x ≤ 90) ∧ (plT n).length ≤ 2 := by
  unfold plT
  repeat (refine ite_both (P := fun l => (∀ x ∈ l, 65 ≤ x ∧ x ≤ 90) ∧ l.length ≤ 2) (by simp) ?_)
  simp
theorem plT_letters (n : Int) : ∀ x ∈ plT n, 65 ≤ x ∧ x ≤ 90 := (plT_good n).1
theorem plT_len (n : Int) : (plT n).length ≤ 2 := (plT_good n).2
theorem plR_len (n : Int) : 1 ≤ (plR n).length ∧ (plR n).length ≤ 2 := by
  unfold plR
  have := plT_len n
  split
  · simp
  · rename_i h
    have : (plT n).length ≠ 0 := by simpa using h
    omega
/-- A letter's number is a rune. -/
theorem letter_wr {n : Int} (h : isL n) : ((wr n : Nat) : Int) = n := by
  unfold isL at h
  rw [wr_valid (by omega)]
  omega
theorem plT_none {n : Int} (h : 65 ≤ n ∧ n ≤ 90) : plT n = [] := by
  unfold plT
  repeat (first | rw [if_neg (by omega)] | rfl)
theorem basic_wr {x : Nat} (h : 65 ≤ x ∧ x ≤ 90) : wr (x : Int) = x := by
  have := letter_wr (n := (x : Int)) (by unfold isL; omega)
  omega
theorem plR_basic {x : Nat} (h : 65 ≤ x ∧ x ≤ 90) : plR (x : Int) = [x] := by
  unfold plR
  rw [if_pos (plT_none (by omega)), basic_wr h]
theorem up_basic {x : Nat} (h : 65 ≤ x ∧ x ≤ 90) : up (x : Int) = x := by
  refine up_id ?_
  unfold up32 up1
  omega
/-- THE RUNES OF A CAPITAL LETTER's PLAIN FORM: capital letters that are plain. -/
theorem plR_plain {c : Int} (hc : isL c) (hu : up c = c) : ∀ x ∈ plR c, isL (x : Int) ∧ up (x : Int) = x ∧ plR (x : Int) = [x] ∧ wr (x : Int) = x := by
  intro x hx
  unfold plR at hx
  split at hx
  · rename_i h
    have e := letter_wr hc
    simp only [List.mem_singleton] at hx
    subst hx
    rw [e]
    refine ⟨hc, hu, ?_, rfl⟩
    unfold plR
    rw [if_pos h]
  · have h := plT_letters c x hx
    exact ⟨by unfold isL; omega, up_basic h, plR_basic h, basic_wr h⟩
theorem foldR_self {p : Bool} {x : Nat} (h1 : isL (x : Int)) (h2 : up (x : Int) = x) (h3 : plR (x : Int) = [x]) (h4 : wr (x : Int) = x) : foldR p x = [x] := by
  unfold foldR
  rw [if_pos h1, h2, h3, h4]
  cases p <;> rfl
/-- The runes of a folded text. -/
theorem foldR_mem {p : Bool} {n : Int} {x : Nat} (hx : x ∈ foldR p n) : isL (x : Int) ∧ up (x : Int) = x ∧ wr (x : Int) = x ∧ foldR p x = [x] := by
  unfold foldR at hx
  split at hx
  · rename_i h
    have hl := (up_letter n).2 h
    cases p
    · have e := letter_wr hl
      simp only [Bool.false_eq_true, if_false, List.mem_singleton] at hx
      subst hx
      rw [e]
      refine ⟨hl, up_up n, rfl, ?_⟩
      unfold foldR
      rw [if_pos hl, up_up]
      rfl
    · simp only [if_true] at hx
      obtain ⟨a, b, c, d⟩ := plR_plain hl (up_up n) x hx
      exact ⟨a, b, d, foldR_self a b c d⟩
  · simp at hx
theorem foldRs_mem {p : Bool} {l : List Nat} {x : Nat} (hx : x ∈ foldRs p l) : isL (x : Int) ∧ up (x : Int) = x ∧ wr (x : Int) = x ∧ foldR p x = [x] := by
  unfold foldRs at hx
  obtain ⟨r, _, hr⟩ := List.mem_flatMap.1 hx
  exact foldR_mem hr
theorem flatMap_self {l : List Nat} {f : Nat → List Nat} (h : ∀ x ∈ l, f x = [x]) : l.flatMap f = l := by
  induction l with
  | nil => rfl
  | cons x r ih => rw [List.flatMap_cons, h x (by simp), ih (fun y hy => h y (by simp [hy]))]; rfl
/-- FOLDING AGAIN CHANGES NOTHING. -/
theorem foldRs_twice (p : Bool) (l : List Nat) : foldRs p (foldRs p l) = foldRs p l := flatMap_self fun _ hx => (foldRs_mem hx).2.2.2
theorem foldR_both (n : Int) : foldRs true (foldR false n) = foldR true n := by
  unfold foldR
  split
  · rename_i h
    have hl := (up_letter n).2 h
    simp only [Bool.false_eq_true, if_false, if_true]
    rw [foldRs_cons, foldRs_nil, List.append_nil, letter_wr hl]
    unfold foldR
    rw [if_pos hl, up_up]
    rfl
  · rfl
theorem foldRs_both (l : List Nat) : foldRs true (foldRs false l) = foldRs true l := by
  induction l with
  | nil => rfl
  | cons x r ih => rw [foldRs_cons, foldRs_append, ih, foldR_both, foldRs_cons]
/-- The runes of what was written, where each is one. -/
theorem written_self {l : List Nat} (h : ∀ x ∈ l, wr (x : Int) = x) : (pairs ⟨(encR l).toArray⟩).map (fun x => x.2) = l := by
  rw [written_runes]
  conv => rhs; rw [← List.map_id l]
  exact List.map_congr_left h
/-- FOLD, on texts. -/
def foldS (p : Bool) (s : ByteArray) : ByteArray := ⟨(encR (foldRs p ((pairs s).map fun x => x.2))).toArray⟩
theorem foldS_runes (p : Bool) (s : ByteArray) : (pairs (foldS p s)).map (fun x => x.2) = foldRs p ((pairs s).map fun x => x.2) := written_self fun _ hx => (foldRs_mem hx).2.2.1
theorem foldS_twice (p : Bool) (s : ByteArray) : foldS p (foldS p s) = foldS p s := by
  rw [foldS, foldS_runes, foldRs_twice]; rfl
theorem foldS_both (s : ByteArray) : foldS true (foldS false s) = foldS true s := by
  rw [foldS, foldS_runes, foldRs_both]; rfl
theorem foldS_valid (p : Bool) (s : ByteArray) : validB (foldS p s) = true := written_valid _
theorem encR_le (l : List Nat) : (encR l).length ≤ 4 * l.length := by
  induction l with
  | nil => exact Nat.le_refl _
  | cons x r ih =>
    have h := encB_le x
    rw [encR_cons, List.length_append, List.length_cons]
    omega
theorem foldR_len (p : Bool) (n : Int) : (foldR p n).length ≤ 2 := by
  unfold foldR
  have := plR_len (up n)
  repeat' split
  all_goals simp; try omega
theorem foldRs_len (p : Bool) (l : List Nat) : (foldRs p l).length ≤ 2 * l.length := by
  induction l with
  | nil => exact Nat.le_refl _
  | cons x r ih =>
    have h := foldR_len p x
    rw [foldRs_cons, List.length_append, List.length_cons]
    omega
theorem foldS_size (p : Bool) (s : ByteArray) : (foldS p s).size ≤ 8 * s.size := by
  have h1 := encR_le (foldRs p ((pairs s).map fun x => x.2))
  have h2 := foldRs_len p ((pairs s).map fun x => x.2)
  have h3 := pairs_le s
  rw [List.length_map] at h2
  show (encR _).toArray.size ≤ _
  rw [List.size_toArray]
  omega
end Go.Proofs.YtikfaalbdnlelaaGreatDoor.Utf
