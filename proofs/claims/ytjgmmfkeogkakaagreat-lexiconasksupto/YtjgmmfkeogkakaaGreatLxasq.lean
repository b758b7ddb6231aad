/-
  LexiconAsks is proved for all lists of up to 1048576 letters, words and numbers (the second form): Find, Span and Letters of any numbers are the document's.
-/
import Derived.Test.YtjgmmfkeogkakaaGreatLxaskq
import Derived.Test.YtjgmmfkeogkakaaGreatGag
import Derived.Test.YtjgmmfkeogkakaaGreatArgwq
namespace Go.Proofs.YtjgmmfkeogkakaaGreat.LexiconAsks
open Go Go.Lib Go.RowKit Go.ChangeShapes Go.WideShapes Go.ChangeAt Utf

set_option maxRecDepth 100000 in
theorem contract (H : Type) (enc : TypeId × Value → H) (W : World) (base : Nat) (args : Array Value) (ds gs : List (DataW H)) (before : List MemPlace)
    (hval : ∀ (j : Nat) t v, Tryz.f3.params[j]? = some t → args[j]? = some v → Value.okWide Tryz.prog W .any base t v)
    (hW : DataW.Whole enc Tryz.prog Tryz.f3.params.toList Rows.lexiconAsksSpec.vars false W args.toList ds gs before) (hk : Rows.uptoSmall H (ds ++ gs) = true) :
    Calls Tryz.prog 3 args W fun e W' => ∃ v, e = .returned v ∧ Rows.lexiconAsksSpec.post enc Tryz.prog Tryz.f3 false true false false W args v W' := by
  have hW' := hW
  obtain ⟨p, q, hA0, hV, rfl, _, _⟩ := hW
  have hA : DataW.TrodAll enc Tryz.prog W 0 (fun _ => true) true Tryz.f3.params.toList args.toList ds p := hA0
  rw [Tryz.params3] at hA hval
  obtain ⟨v0, v1, v2, d0, d1, d2, p0, p1, p2, rfl, rfl, rfl, h0, h1, h2⟩ := trodAll_three hA
  obtain ⟨rfl, rfl⟩ := trodVars_none hV
  obtain ⟨L, ao, cap, rfl, hzb, hzs, hcp, hao, hzc⟩ := open_strArg (hval 0 22 v0 rfl rfl) h0
  obtain ⟨ws, aw, cw, rfl, hwb, hwc, hRW⟩ := open_wordArg (hval 1 23 v1 rfl rfl) h1
  obtain ⟨zs, a2, c2, rfl, hzb2, _, hzc2⟩ := open_intArg (hval 2 24 v2 rfl rfl) h2
  clear hA0
  simp only [List.append_nil] at hW' hk
  have hsm : Rows.uptoBulkAll [d0, d1, d2] ≤ 1048576 := of_decide_eq_true hk
  simp only [Rows.uptoBulkAll] at hsm
  refine (lexAsks_walk L ao cap ws aw cw zs a2 c2 W (by omega) (fun s hs => by have := hzs s hs; omega) hcp hzc (by omega) (fun x hx => by have := hwc x hx; omega) hRW (by omega) hzc2).mono fun e W' ⟨he, hb⟩ => ?_
  subst he
  have ht0 := Below.trod laidOut (by kernel_rfl) (of_decide_eq_true (by kernel_rfl)) h0 hb (fun x hx => by simpa using hW'.lt x (List.mem_append.2 (.inl (List.mem_append.2 (.inl hx)))))
  have ht1 := Below.trod laidOut (by kernel_rfl) (of_decide_eq_true (by kernel_rfl)) h1 hb (fun x hx => by simpa using hW'.lt x (List.mem_append.2 (.inl (List.mem_append.2 (.inr hx)))))
  have ht2 := Below.trod laidOut (by kernel_rfl) (of_decide_eq_true (by kernel_rfl)) h2 hb (fun x hx => by simpa using hW'.lt x (List.mem_append.2 (.inr hx)))
  exact ⟨_, rfl, _, _, _, [], p0 ++ (p1 ++ p2), [], hW', trodAll_mk1 (shut_bool Tryz.underlying4 _), trodAll_mk3 ht0 ht1 ht2, rfl, hb.frame _, fun h => by cases h⟩

theorem reads (os : Os) {H : Type} (enc : TypeId × Value → H) : ∃ places, DataW.whole enc Tryz.prog ((World.laidAll Tryz.prog os Rows.lexiconAsksUptoRow.laid).forCall (fun _ _ => 0) ⟨#[], #[.slice none 0 0, .slice none 0 0, .slice none 0 0], []⟩).memory Tryz.f3.params.toList Rows.lexiconAsksSpec.vars false #[Value.slice none 0 0, .slice none 0 0, .slice none 0 0].toList 8 = some ([.nil, .nil, .nil], [], places) :=
  ⟨[], by kernel_rfl⟩

set_option maxRecDepth 100000 in
theorem lifted (os : Os) (started : os.Started) (H : Type) (enc : TypeId × Value → H) (F : Stop.Interp) :
    ReturnsInHanded {} Tryz.checked os 3 .any ((Rows.OpenSpec.upto Rows.lexiconAsksSpec).preRow enc Tryz.prog Tryz.f3 Rows.lexiconAsksUptoRow.domain false Rows.lexiconAsksUptoRow.laid) (((Rows.OpenSpec.upto Rows.lexiconAsksSpec).at F).post enc Tryz.prog Tryz.f3 false true false false) := by
  obtain ⟨places, hx⟩ := reads os enc
  refine returnsInHanded_of_row (C := Tryz.checked) (s := (Rows.OpenSpec.upto Rows.lexiconAsksSpec)) own started (by kernel_rfl) Tryz.func3
    (witness_row_at (enc := enc) (C := Tryz.checked) false (World.laidAll Tryz.prog os Rows.lexiconAsksUptoRow.laid) #[.slice none 0 0, .slice none 0 0, .slice none 0 0] (World.laidAll_os _ _ _) (by kernel_rfl) (by kernel_rfl) (by kernel_rfl)
      (OpenSpec.preRow_of_cond 8 hx (by kernel_rfl) (fun k hk => by cases hk; kernel_rfl) (by kernel_rfl) (laid_met os _))) ?_
  intro W base args ds gs before hval hW _ hc _ _ _ _
  exact contract H enc W base args ds gs before hval hW (hc _ rfl)

theorem said : Rows.LexiconAsksUptoSaid :=
  OpenClaim.holds_of_cond 3 Tryz.f3 rfl rfl rfl rfl rfl rfl rfl ⟨rfl, rfl, rfl, rfl, rfl⟩ rfl rfl rfl rfl rfl (by kernel_rfl) Tryz.func3 (by kernel_rfl)
    (of_decide_eq_true (by kernel_rfl)) (by unfold Func.isWrapper; rw [if_neg (of_decide_eq_false (by kernel_rfl))]; exact ⟨rfl, rfl⟩)
    (fun os started H enc _ F => by rw [OpenClaim.pre_eq_preRow]; exact lifted os started H enc F)
end Go.Proofs.YtjgmmfkeogkakaaGreat.LexiconAsks
namespace Go.Proofs.YtjgmmfkeogkakaaGreat
theorem lexiconAsksUpto_holds : Rows.LexiconAsksUptoSaid := LexiconAsks.said
end Go.Proofs.YtjgmmfkeogkakaaGreat
