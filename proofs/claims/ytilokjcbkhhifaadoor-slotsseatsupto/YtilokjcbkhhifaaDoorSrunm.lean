/-
  Of no program: what the law on runs asks of each slot and each of its cells.
-/
import Derived.Test.YtilokjcbkhhifaaDoorSlm
import Derived.Test.YtilokjcbkhhifaaDoorGrdf
namespace Go.Proofs.YtilokjcbkhhifaaDoor.Grd

theorem Gr.stI_st {g : Gr} (hok : g.ok) {i d : Nat} (ho : g.opn i = true) (hd : d < 4) : g.stI (i : Int) (d : Int) = g.st i d := by
  unfold Gr.stI
  rw [if_pos ⟨Gr.opI_iff.2 ⟨hok, i, rfl, ho⟩, by omega, by omega⟩, Int.toNat_natCast, Int.toNat_natCast]
theorem Gr.run_opn {g : Gr} (hW : 0 < g.W) {d i : Nat} (hd : d < 2) (hi : g.opn i = true) : ∀ (k c : Nat), (g.run d i)[k]? = some c → g.opn c = true := by
  intro k
  induction k with
  | zero => intro c h; rw [Gr.run_head] at h; cases h; exact hi
  | succ k _ =>
    intro c h
    have hl := (List.getElem?_eq_some_iff.1 h).1
    have hk : k < (g.run d i).length := by omega
    have e : (g.run d i)[k]? = some ((g.run d i)[k]'hk) := List.getElem?_eq_getElem hk
    exact Gr.st_to hW ((Gr.run_chain hW hd e).trans h)
theorem Gr.IsSl.opn {g : Gr} {s : Sl} {i : Nat} (h : g.IsSl s i) : g.opn i = true := by
  have := h.beg
  unfold Gr.beg at this
  simp only [Bool.and_eq_true] at this
  obtain ⟨j, hj⟩ := Option.isSome_iff_exists.1 this.2
  exact Gr.st_opn hj
/-- A slot's cells are joined by steps, and it can't be made longer. -/
theorem Gr.sl_good {g : Gr} {k : Nat} {s : Sl} (h : g.sl[k]? = some s) : g.ok ∧ 2 ≤ s.cs.length ∧ s.cs.length ≤ 257 ∧ (∀ (a c : Nat), s.cs[a]? = some c → c < 256 ∧ g.opn c = true ∧ g.stI (c : Int) (way s.dn : Nat) = s.cs[a + 1]?) ∧ (∀ c : Nat, s.cs[0]? = some c → g.stI (c : Int) ((way s.dn + 2 : Nat) : Int) = none) := by
  obtain ⟨hok, i, hi, hs⟩ := Gr.mem_sl (List.mem_of_getElem? h)
  have hz := (Gr.right_of hok).sz
  have hW := hz.sw.1
  have hn := hz.n_le.2
  refine ⟨hok, hs.two hW, ?_, ?_, ?_⟩
  · rw [hs.cs]; have := g.run_len (way s.dn) i; omega
  · intro a c hc
    rw [hs.cs] at hc
    have ho := Gr.run_opn hW (way_lt _) hs.opn a c hc
    refine ⟨by have := (Gr.opn_iff.1 ho).1; omega, ho, ?_⟩
    rw [Gr.stI_st hok ho (by have := way_lt s.dn; omega), Gr.run_chain hW (way_lt _) hc, hs.cs]
  · intro c hc
    rw [hs.first.1] at hc
    cases hc
    rw [Gr.stI_st hok hs.opn (by have := way_lt s.dn; omega)]
    exact hs.first.2
theorem Gr.sl_num {g : Gr} {k : Nat} {s : Sl} (h : g.sl[k]? = some s) : s.num ≤ 512 := by
  have hm := List.mem_of_getElem? h
  unfold Gr.sl at hm
  by_cases hok : g.ok
  · rw [if_pos hok] at hm
    obtain ⟨i, hi, _, e⟩ := Gr.mem_slTo (Nat.le_refl _) hm
    have := g.numTo_le (i + 1)
    have := (Gr.right_of hok).n_le
    omega
  · rw [if_neg hok] at hm; cases hm
end Go.Proofs.YtilokjcbkhhifaaDoor.Grd
