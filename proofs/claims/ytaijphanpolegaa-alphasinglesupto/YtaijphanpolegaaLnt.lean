/-
  The laws' list in longer memory (lent); the program's Number.
-/
import Derived.Test.YtaijphanpolegaaNew
import Derived.Deep.DeepAppendRoom
import Derived.Laws.AppendOwnNone
import Derived.Laws.MakeOwn
namespace Go.Proofs.Ytaijphanpolegaa.Utf
open Go Go.Lib Go.RowKit

/-- The text behind the list's end. -/
def spareT : ByteArray := ⟨#[115, 112, 97, 114, 101]⟩

set_option maxHeartbeats 2000000 in
theorem lent_any (L : List ByteArray) (ao : Option Addr) (cap : Nat) (w : World) (hlen : L.length ≤ 16777216) (hao : ao = none → cap = 0) (hR : ReadsO w ao (L.map Value.string)) :
    Calls Try.prog 10 #[.slice ao L.length cap] w fun e w' => (∃ g, e = .returned (.slice (some ⟨g, 0, none⟩) L.length (L.length + 1)) ∧ w'.ownsRow w.heap.size 9 1 (.slice (some ⟨g, 0, none⟩) (L.length + 1) (L.length + 1)) (L.length + 1) (L.map Value.string ++ [.string spareT])) ∧ Below w.heap.size w w' := by
  obtain ⟨j0, hj, hy0, hy1, hy2⟩ := info_parts infoStr'
  obtain ⟨M, hM⟩ : ∃ M, M = madeCells (Value.string ⟨#[]⟩).cells ((L.length + 1) * j0.size) := ⟨_, rfl⟩
  have hMs : M.size = (L.length + 1) * 1 := by rw [hM, size_madeCells, hy1]
  have hmk : ∀ W : World, (Instr.makeSlice 22 (.int .i64 0) (.int .i64 ((L.length : Int) + 1))).run Try.prog W = .ok (.slice (some ⟨W.heap.size, 0, none⟩) 0 (L.length + 1)) (W.alloc (.cells M 9)) := fun W => by
    have h := run_make (P := Try.prog) W 22 9 j0 (.string ⟨#[]⟩) Try.underlying22 hj hy0 .i64 .i64 0 ((L.length : Int) + 1) (by omega) (by omega) (by rw [hy2]; omega) (by omega)
    have e1 : ((L.length : Int) + 1).toNat = L.length + 1 := by omega
    rw [e1, ← hM] at h
    exact h
  have o0 := World.ownsRow_made (e := 9) (size := 1) (base := w.heap.size) w M (L.length + 1) (Nat.le_refl _) (by unfold maxLen; omega) hMs
  have hb0 : Below w.heap.size w (w.alloc (.cells M 9)) := (Below.refl _ _).alloc (Nat.le_refl _) _
  have hz0 : (w.alloc (.cells M 9)).heap.size = w.heap.size + 1 := World.size_alloc _ _
  have hml : (L.map Value.string).length = L.length := List.length_map _
  have hone : ∀ u ∈ L.map Value.string, u.oneCell' = true := fun u hu => by
    obtain ⟨x, _, rfl⟩ := List.mem_map.1 hu
    rfl
  clear hM
  go_enter Try.func10, Try.ntmps10
  cases ao with
  | none =>
    obtain rfl := hao rfl
    have hl0 : L = [] := by
      cases L with
      | nil => rfl
      | cons x r =>
        obtain ⟨g, o, h, _⟩ := hR 0 (by simp)
        cases h
    subst hl0
    have hmk0 : ∀ W : World, (Instr.makeSlice 22 (.int .i64 0) (.int .i64 1)).run Try.prog W = .ok (.slice (some ⟨W.heap.size, 0, none⟩) 0 1) (W.alloc (.cells M 9)) := fun W => hmk W
    clear hmk
    go_wp2_with (first
      | (at_builtin; refine wpList_append_own_none rfl _ _ 22 rfl w.heap.size 9 j0 1 Try.underlying22 hj _ 0 [] rfl o0 rfl ?_)
      | (at_builtin; refine wpList_append_own_spare _ rfl _ _ 22 rfl w.heap.size 9 j0 1 Try.underlying22 hj hy1 w.heap.size 0 1 [] rfl (o0.alloc _) ⟨w.heap.size + 1, 0, none⟩ 1 1 [.string spareT] rfl rfl (by rw [← hz0]; exact cell_one_new _ _ _) (by simp [Value.oneCell']) (by omega) ?_))
    intro w2 o2 hg2
    go_wp2
    go_ret
    exact ⟨⟨_, rfl, o2⟩, Below.grown (hb0.alloc (by simp) _) hg2 (by simp; omega) (fun j hj => by injection hj with h; omega)⟩
  | some ad =>
    have hnews : ∀ j u, (L.map Value.string)[j]? = some u → (w.alloc (.cells M 9)).cell? (ad.add j) = some u := fun j u hu => by
      obtain ⟨hj', e⟩ := List.getElem?_eq_some_iff.1 hu
      obtain ⟨g, o, h1, h2, h3⟩ := hR j hj'
      injection h1 with h1
      subst h1
      rw [Addr.add_lit]
      exact (hb0.cell (p := ⟨g, o + j, none⟩) h2).trans (h3.trans (by rw [e]))
    go_wp2_with (first
      | (at_builtin; refine wpList_append_own_spare _ rfl _ _ 22 rfl w.heap.size 9 j0 1 Try.underlying22 hj hy1 w.heap.size 0 (L.length + 1) [] rfl o0 ad L.length cap (L.map Value.string) rfl (by omega) hnews hone (by omega) ?_))
    intro w2 o2 hg2
    have hb2 : Below w.heap.size w w2 := Below.grown hb0 hg2 (by omega) (fun j hj => by injection hj with h; omega)
    clear o0 hg2 hnews hb0 hmk
    have hz2 : w.heap.size < w2.heap.size := (o2.lt w.heap.size rfl).2
    go_wp2_with (first
      | (at_builtin; refine wpList_append_own_spare _ rfl _ _ 22 rfl w.heap.size 9 j0 1 Try.underlying22 hj hy1 w.heap.size L.length (L.length + 1) (L.map Value.string) rfl (o2.alloc _) ⟨w2.heap.size, 0, none⟩ 1 1 [.string spareT] rfl rfl (cell_one_new _ _ _) (by simp [Value.oneCell']) (by omega) ?_))
    intro w3 o3 hg3
    go_wp2
    go_ret
    exact ⟨⟨_, rfl, o3⟩, Below.grown (hb2.alloc (by omega) _) hg3 (by simp; omega) (fun j hj => by injection hj with h; omega)⟩

/-- What Number tells: the first number of the text. -/
def NumAt (zs : List ByteArray) (v : ByteArray) (e : Ending) : Prop := ∃ (k : Nat) (t : Bool), e = .returned (.tuple #[.int .i64 (k : Int), .bool t]) ∧ (t = false → k = 0 ∧ v ∉ zs) ∧ (t = true → zs[k]? = some v)

set_option maxHeartbeats 1000000 in
theorem number_any {W : World} {b : Nat} {L : List ByteArray} {rk : List Nat} (hA : IsAlpha W b L rk) (v : ByteArray) :
    Calls Try.prog 16 #[.pointer (some ⟨b, 0, none⟩), .string v] W fun e w' => NumAt L v e ∧ Below W.heap.size W w' := by
  have h40 := hA.small
  have cS := size_any hA
  obtain ⟨⟨a1, c1, a2, c2, g1, g2, _⟩, h4, h5, _⟩ := hA
  have hbl := (Array.getElem?_eq_some_iff.1 g1).1
  obtain ⟨e1, e2⟩ := cells_two g1
  clear g1
  go_enter Try.func16, Try.ntmps16
  go_wp2_with (first | (go_at_call 14; refine cS.mono ?_; rintro e w' ⟨rfl, hw⟩; obtain rfl := hw.symm))
  go_loopg [9] L.length (fun g1 vi wr => ∃ k : Nat, vi = .int .i64 (k : Int) ∧ k ≤ L.length ∧ L.length - k ≤ g1 ∧ Aside (Below W.heap.size W wr) ∧ Aside (∀ j (h : j < L.length), j < k → v ≠ L[j]))
  case atStart => exact ⟨0, rfl, Nat.zero_le _, Nat.le_refl _, Below.refl _ _, fun j _ h => by omega⟩
  case round =>
    obtain ⟨k, rfl, hk, hg1, hB, HN⟩ := hrel
    have e1' := (hB.out.cell (p := ⟨b, 0, none⟩) hbl).trans e1
    by_cases hlt : k < L.length
    · have hltz : (k : Int) < (L.length : Int) := by omega
      obtain ⟨g, rfl, _, ec⟩ := (g2.below hB.out) k (by simpa using hlt)
      rw [List.getElem_map] at ec
      by_cases hv : v = L[k]
      · have HM : Aside (L[k]? = some v) := by show _ = _; rw [hv]; exact List.getElem?_eq_getElem hlt
        rw [← hv] at ec
        clear hv HN g2 e1 e2
        go_wp2
        (try go_quiet (fail))
        go_wp2
        go_ret2
        exact ⟨⟨k, true, rfl, fun h => (by cases h), fun _ => HM.out⟩, by first | exact hB.out | exact below_drewN hB.out _⟩
      · have hne : (L[k].toList == v.toList) = false := by rw [beq_eq_false_iff_ne]; exact fun h => hv (toList_inj h.symm)
        have HX : Aside (∀ j (h : j < L.length), j < k + 1 → v ≠ L[j]) := fun j h h2 => by
          by_cases hj : j = k
          · subst hj; exact hv
          · exact HN.out j h (by omega)
        clear HN hv g2 e1 e2
        generalize L[k] = z at *
        go_wp2
        (try go_quiet (fail))
        go_wp2
        go_roundg (L.length - (k + 1))
        case measure => omega
        case rel => exact ⟨k + 1, by go_num, by omega, Nat.le_refl _, by first | exact hB | exact below_drewN hB.out _, HX⟩
    · have hltz : ¬ (k : Int) < (L.length : Int) := by omega
      have HM : Aside (v ∉ L) := fun h => by
        obtain ⟨j, hj, e⟩ := List.getElem_of_mem h
        exact HN.out j hj (by omega) e.symm
      go_wp2
      go_ret2
      exact ⟨⟨0, false, rfl, fun _ => ⟨rfl, HM.out⟩, fun h => (by cases h)⟩, hB.out⟩
end Go.Proofs.Ytaijphanpolegaa.Utf
