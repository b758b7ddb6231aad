/-
  Of no program: what WholeSymmetric marks and seeks.
-/
import Derived.Test.YthjgldjjplcncabDoorWtmq
import Derived.Test.YthjgldjjplcncabDoorTrnuq
namespace Go.Proofs.YthjgldjjplcncabDoor.Grd

/-- What is marked when the first j cells have been taken. -/
def went (f : Nat → Nat) (cs : List Nat) (j : Nat) : List Bool := (List.range 256).map fun x => decide (x ∈ (cs.take j).map f)
theorem went_len (f : Nat → Nat) (cs : List Nat) (j : Nat) : (went f cs j).length = 256 := by unfold went; rw [List.length_map, List.length_range]
theorem went_zero (f : Nat → Nat) (cs : List Nat) : went f cs 0 = List.replicate 256 false := by
  unfold went
  apply List.ext_getElem
  · rw [List.length_map, List.length_range, List.length_replicate]
  · intro i h1 h2
    rw [List.getElem_map, List.getElem_replicate]
    simp only [List.take_zero, List.map_nil, List.not_mem_nil, decide_false]
theorem went_at (f : Nat → Nat) (cs : List Nat) (j : Nat) {x : Nat} (hx : x < 256) : bt (went f cs j) x = decide (x ∈ (cs.take j).map f) := bt_map hx
theorem went_set (f : Nat → Nat) {cs : List Nat} {j c : Nat} (h : cs[j]? = some c) : (went f cs j).set (f c) true = went f cs (j + 1) := by
  have ht : cs.take (j + 1) = cs.take j ++ [c] := by rw [List.take_add_one, h]; rfl
  unfold went
  rw [ht]
  apply List.ext_getElem
  · rw [List.length_set, List.length_map, List.length_map]
  · intro i h1 h2
    rw [List.getElem_set]
    by_cases e : f c = i
    · rw [if_pos e]
      simp [e]
    · rw [if_neg e]
      simp only [List.getElem_map, List.getElem_range, List.map_append, List.map_cons, List.map_nil]
      have e2 : ¬ i = f c := fun x => e x.symm
      simp [e2]
def okO (Z : List Bool) (n : Nat) (o : Sl) : Bool := (o.cs.length == n) && o.cs.all fun c => bt Z c
/-- The first cells of a slot, held against the marks. -/
def okC (Z : List Bool) (n : Nat) (o : Sl) (j : Nat) : Bool := (o.cs.length == n) && (o.cs.take j).all fun c => bt Z c
theorem okC_zero (Z : List Bool) (n : Nat) (o : Sl) : okC Z n o 0 = (o.cs.length == n) := by simp [okC]
theorem okC_end (Z : List Bool) (n : Nat) (o : Sl) : okC Z n o o.cs.length = okO Z n o := by simp [okC, okO]
theorem okC_step (Z : List Bool) (n : Nat) {o : Sl} {j c : Nat} (h : o.cs[j]? = some c) : okC Z n o (j + 1) = (okC Z n o j && bt Z c) := by
  have ht : o.cs.take (j + 1) = o.cs.take j ++ [c] := by rw [List.take_add_one, h]; rfl
  unfold okC
  rw [ht, List.all_append, Bool.and_assoc]
  simp
def fnd (Z : List Bool) (n : Nat) (L : List Sl) (m : Nat) : Bool := (L.take m).any fun o => okO Z n o
theorem fnd_zero (Z : List Bool) (n : Nat) (L : List Sl) : fnd Z n L 0 = false := by simp [fnd]
theorem fnd_step (Z : List Bool) (n : Nat) {L : List Sl} {m : Nat} {o : Sl} (h : L[m]? = some o) : fnd Z n L (m + 1) = (fnd Z n L m || okO Z n o) := by
  have ht : L.take (m + 1) = L.take m ++ [o] := by rw [List.take_add_one, h]; rfl
  unfold fnd
  rw [ht, List.any_append]
  simp
/-- The turns that leave a grid as it is. -/
def Gr.syA (g : Gr) : List Nat := if g.ok then g.syK 8 else []
theorem Gr.syA_lt {g : Gr} {k : Nat} (h : k ∈ g.syA) : g.ok ∧ k < 8 ∧ g.turn k = g := by
  unfold Gr.syA at h
  by_cases hk : g.ok
  · rw [if_pos hk] at h
    unfold Gr.syK at h
    rw [List.mem_filter, List.mem_range] at h
    exact ⟨hk, h.1, Gr.same_iff.1 h.2⟩
  · rw [if_neg hk] at h; cases h
theorem Gr.syA_len (g : Gr) : g.syA.length ≤ 8 := by
  unfold Gr.syA
  by_cases hk : g.ok
  · rw [if_pos hk]; exact g.syK_len 8
  · rw [if_neg hk]; exact Nat.zero_le _
theorem Gr.syA_found {g : Gr} {k : Nat} {s : Sl} (hk : k ∈ g.syA) (hs : s ∈ g.sl) : fnd (went (fun c => plc g.H g.W c k) s.cs s.cs.length) s.cs.length g.sl g.sl.length = true := by
  obtain ⟨hok, h8, ht⟩ := Gr.syA_lt hk
  obtain ⟨o, ho, hc⟩ := Gr.sl_turn hok k hs
  rw [ht] at ho
  unfold fnd
  rw [List.take_length, List.any_eq_true]
  refine ⟨o, ho, ?_⟩
  have hlen : o.cs.length = s.cs.length := by rcases hc with h | h <;> rw [h] <;> simp
  have hmem : ∀ c, c ∈ o.cs → c ∈ s.cs.map fun c => plc g.H g.W c k := fun c h => by
    rcases hc with e | e
    · rw [e] at h; exact h
    · rw [e] at h; exact List.mem_reverse.1 h
  have hn := (Gr.right_of hok).sz.n_le
  have hW : 0 < g.W := by have := (Gr.right_of hok).sw.1; omega
  obtain ⟨_, i, hi, hS⟩ := Gr.mem_sl ho
  unfold okO
  rw [hlen, Bool.and_eq_true, List.all_eq_true]
  refine ⟨by simp, fun c h => ?_⟩
  have hlt : c < g.n := by
    obtain ⟨j, hj, e⟩ := List.getElem_of_mem h
    have h2 : o.cs[j]? = some c := by rw [List.getElem?_eq_getElem hj, e]
    rw [hS.cs] at h2
    exact Gr.run_lt hW (way_lt _) hi j c h2
  rw [went_at _ _ _ (by omega), List.take_length]
  exact decide_eq_true (hmem c h)
theorem Gr.sl_cell {g : Gr} {s : Sl} (hs : s ∈ g.sl) {j c : Nat} (h : s.cs[j]? = some c) : c < g.n ∧ g.n ≤ 256 ∧ 2 ≤ s.cs.length ∧ s.cs.length ≤ 257 := by
  obtain ⟨hok, i, hi, hS⟩ := Gr.mem_sl hs
  have hR := Gr.right_of hok
  have hW : 0 < g.W := by have := hR.sw.1; omega
  have hl := hS.two hW
  rw [hS.cs] at h hl
  have h2 := g.run_len (way s.dn) i
  have h3 := hR.sz.n_le
  rw [hS.cs]
  exact ⟨Gr.run_lt hW (way_lt _) hi j c h, by omega, hl, by omega⟩
end Go.Proofs.YthjgldjjplcncabDoor.Grd
