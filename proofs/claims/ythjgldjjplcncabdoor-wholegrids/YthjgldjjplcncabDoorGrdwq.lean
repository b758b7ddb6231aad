/-
  Of no program: one part while it is numbered, with a list of cells that wait to be looked at.
-/
import Derived.Test.YthjgldjjplcncabDoorGgd
namespace Go.Proofs.YthjgldjjplcncabDoor.Grd

/-- The cell has the part's number. -/
def Gr.Lab (g : Gr) (k : Nat) (p' : List Int) (j : Nat) : Prop := p'[j]? = some (g.ahead k : Int)
theorem Gr.mid_label {g : Gr} (hW : 0 < g.W) {k : Nat} {p p' : List Int} {S : Nat → Prop} (hp : g.Upto k p) (h : g.Mid k p p' S) : g.Mid k p p' (g.Lab k p') := by
  have own : ∀ j, g.Lab k p' j → S j := fun j hj => by
    have hl : j < g.n := by rw [← h.len]; exact (List.getElem?_eq_some_iff.1 hj).1
    exact Gr.mid_own hW hp h hl hj
  exact ⟨h.len, h.yes k h.me, fun j hj => h.sub j (own j hj), fun j hj => hj, fun j hj => h.no j fun hs => hj (h.yes j hs)⟩
structure Gr.Spr (g : Gr) (k : Nat) (p p' : List Int) (T : List Nat) (fr : Nat → Prop) : Prop where
  mid : g.Mid k p p' (g.Lab k p')
  wait : ∀ j, j ∈ T → g.Lab k p' j
  cur : ∀ a, fr a → g.Lab k p' a
  clo : ∀ a, g.Lab k p' a → a ∈ T ∨ fr a ∨ ∀ b, b ∈ g.near a → g.Lab k p' b
theorem Gr.spr_start {g : Gr} (hW : 0 < g.W) {k : Nat} {p : List Int} (hp : g.Upto k p) (hk : k < g.n) : g.Spr k p (p.set k (g.ahead k : Int)) [k] (fun _ => False) := by
  have hm := Gr.mid_label hW hp (Gr.mid_start hp.1 hk)
  have only : ∀ a, g.Lab k (p.set k (g.ahead k : Int)) a → a = k := fun a ha => by
    have hl : a < g.n := by rw [← hm.len]; exact (List.getElem?_eq_some_iff.1 ha).1
    exact Gr.mid_own hW hp (Gr.mid_start hp.1 hk) hl ha
  refine ⟨hm, fun j hj => ?_, fun a h => h.elim, fun a ha => .inl ?_⟩
  · rw [List.mem_singleton] at hj; subst hj; exact hm.me
  · rw [only a ha]; exact List.mem_singleton.2 rfl
theorem Gr.spr_pop {g : Gr} {k : Nat} {p p' : List Int} {T : List Nat} {a : Nat} (h : g.Spr k p p' (T ++ [a]) (fun _ => False)) : g.Spr k p p' T (fun j => j = a) := by
  have ha : g.Lab k p' a := h.wait a (List.mem_append.2 (.inr (List.mem_singleton.2 rfl)))
  refine ⟨h.mid, fun j hj => h.wait j (List.mem_append.2 (.inl hj)), fun b hb => by subst hb; exact ha, fun b hb => ?_⟩
  rcases h.clo b hb with h1 | h1 | h1
  · rcases List.mem_append.1 h1 with h1 | h1
    · exact .inl h1
    · exact .inr (.inl (List.mem_singleton.1 h1))
  · exact h1.elim
  · exact .inr (.inr h1)
theorem Gr.Spr.opn {g : Gr} (hW : 0 < g.W) {k : Nat} (hk : g.opn k = true) {p p' : List Int} {T : List Nat} {fr : Nat → Prop} (h : g.Spr k p p' T fr) {a : Nat} (ha : g.Lab k p' a) : g.opn a = true := (h.mid.sub a ha).opn hW hk
/-- A cell near the one that is looked at has the number, or none yet. -/
theorem Gr.spr_val {g : Gr} (hW : 0 < g.W) {k : Nat} (hf : g.first k = true) {p p' : List Int} {T : List Nat} {a b : Nat} (hp : g.Upto k p) (h : g.Spr k p p' T (fun j => j = a)) (hb : b ∈ g.near a) : (g.Lab k p' b) ∨ p'[b]? = some (-1) := by
  have hr : g.Reach k b := .snoc (h.mid.sub a (h.cur a rfl)) hb
  rcases Gr.mid_val hf hp h.mid (Gr.opn_iff.1 (Gr.near_opn hW hb).2).1 hr with ⟨h1, _⟩ | ⟨_, h1⟩
  · exact .inl h1
  · exact .inr h1
theorem Gr.spr_push {g : Gr} (hW : 0 < g.W) {k : Nat} (hf : g.first k = true) {p p' : List Int} {T : List Nat} {a b : Nat} (hp : g.Upto k p) (h : g.Spr k p p' T (fun j => j = a)) (hb : b ∈ g.near a) : g.Spr k p (p'.set b (g.ahead k : Int)) (T ++ [b]) (fun j => j = a) ∧ ∀ c, g.Lab k p' c → g.Lab k (p'.set b (g.ahead k : Int)) c := by
  have hk := (Gr.first_iff.1 hf).1
  have hm := Gr.mid_mark hW hk h.mid (h.cur a rfl) hb
  have hl := Gr.mid_label hW hp hm
  have keep : ∀ c, g.Lab k p' c → g.Lab k (p'.set b (g.ahead k : Int)) c := fun c hc => hm.yes c (.inl hc)
  refine ⟨⟨hl, fun j hj => ?_, fun c hc => keep c (h.cur c hc), fun c hc => ?_⟩, keep⟩
  · rcases List.mem_append.1 hj with hj | hj
    · exact keep j (h.wait j hj)
    · rw [List.mem_singleton] at hj; subst hj; exact hm.yes _ (.inr rfl)
  · have hln : c < g.n := by rw [← hl.len]; exact (List.getElem?_eq_some_iff.1 hc).1
    rcases Gr.mid_own hW hp hm hln hc with h1 | h1
    · rcases h.clo c h1 with h2 | h2 | h2
      · exact .inl (List.mem_append.2 (.inl h2))
      · exact .inr (.inl h2)
      · exact .inr (.inr fun d hd => keep d (h2 d hd))
    · exact .inl (List.mem_append.2 (.inr (List.mem_singleton.2 h1)))
theorem Gr.spr_shut {g : Gr} {k : Nat} {p p' : List Int} {T : List Nat} {a : Nat} (h : g.Spr k p p' T (fun j => j = a)) (hn : ∀ b, b ∈ g.near a → g.Lab k p' b) : g.Spr k p p' T (fun _ => False) := by
  refine ⟨h.mid, h.wait, fun _ h => h.elim, fun c hc => ?_⟩
  rcases h.clo c hc with h1 | h1 | h1
  · exact .inl h1
  · subst h1; exact .inr (.inr hn)
  · exact .inr (.inr h1)
theorem Gr.spr_end {g : Gr} (hW : 0 < g.W) {k : Nat} (hf : g.first k = true) {p p' : List Int} (hp : g.Upto k p) (h : g.Spr k p p' [] (fun _ => False)) : g.Upto (k + 1) p' :=
  Gr.mid_end hW hf hp h.mid fun a b ha hb => by
    rcases h.clo a ha with h1 | h1 | h1
    · cases h1
    · exact h1.elim
    · exact h1 b hb
theorem Gr.ahead_le (g : Gr) (k : Nat) : g.ahead k ≤ k := by
  unfold Gr.ahead
  exact Nat.le_trans (List.length_filter_le _ _) (by rw [List.length_range]; exact Nat.le_refl _)
end Go.Proofs.YthjgldjjplcncabDoor.Grd
