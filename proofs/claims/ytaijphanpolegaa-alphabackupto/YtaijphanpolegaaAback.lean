/-
  AlphaBack is proved for all arguments of up to 1048576 values and letters (the second form): what Split answers without an error is joined by Join to the same text, is sure, has at most 32 letters, and is the first way that Each gives; Ways is then at least 1.
-/
import Derived.Test.YtaijphanpolegaaAbackw
import Derived.Test.YtaijphanpolegaaLaid0
import Derived.Test.YtaijphanpolegaaArgs2
namespace Go.Proofs.Ytaijphanpolegaa.AlphaBack
open Go Go.Lib Go.RowKit Go.ChangeShapes Go.WideShapes Go.ChangeAt Utf

set_option maxRecDepth 100000 in
theorem contract (H : Type) (enc : TypeId × Value → H) (W : World) (base : Nat) (args : Array Value) (ds gs : List (DataW H)) (before : List MemPlace)
    (hval : ∀ (j : Nat) t v, Try.f6.params[j]? = some t → args[j]? = some v → Value.okWide Try.prog W .any base t v)
    (hW : DataW.Whole enc Try.prog Try.f6.params.toList Rows.alphaBackSpec.vars false W args.toList ds gs before) (hk : Rows.uptoSmall H (ds ++ gs) = true) :
    Calls Try.prog 6 args W fun e W' => ∃ v, e = .returned v ∧ Rows.alphaBackSpec.post enc Try.prog Try.f6 false true false false W args v W' := by
  have hW' := hW
  obtain ⟨p, q, hA0, hV, rfl, _, _⟩ := hW
  have hA : DataW.TrodAll enc Try.prog W 0 (fun _ => true) true Try.f6.params.toList args.toList ds p := hA0
  rw [Try.params6] at hA hval
  obtain ⟨v0, v1, d0, d1, p0, p1, rfl, rfl, rfl, h0, h1⟩ := trodAll_two hA
  obtain ⟨rfl, rfl⟩ := trodVars_none hV
  obtain ⟨L, ao, cap, rfl, hzb, hzs, hcp, hao, hzc⟩ := open_strArg (hval 0 22 v0 rfl rfl) h0
  obtain ⟨x1, rfl, rfl, rfl, wx1⟩ := Go.ChangeMaps.open_string Try.underlying9 (hval 1 9 v1 rfl rfl) h1
  clear hA0
  simp only [List.append_nil] at hW' hk
  have hsm : Rows.uptoBulkAll [d0, DataW.lit (H := H) (.string x1.data.toList)] ≤ 1048576 := of_decide_eq_true hk
  have hlit : Rows.uptoBulk (DataW.lit (H := H) (.string x1.data.toList)) = x1.data.toList.length + 1 := by simp [Rows.uptoBulk]
  simp only [Rows.uptoBulkAll] at hsm
  have hx1 : x1.size ≤ 1048576 := by have e : x1.data.toList.length = x1.size := Array.length_toList; omega
  refine (alphaBack_walk L ao cap x1 W (by omega) hx1 hzc).mono fun e W' ⟨he, hb⟩ => ?_
  subst he
  have ht := Below.trod laidOut (by kernel_rfl) (of_decide_eq_true (by kernel_rfl)) h0 hb (fun x hx => by simpa using hW'.lt x hx)
  exact ⟨_, rfl, _, _, _, [], p0 ++ [], [], hW', trodAll_mk1 (shut_bool Try.underlying4 _), trodAll_mk2 ht (Go.ChangeMaps.shut_string Try.underlying9 wx1), rfl, hb.frame _, fun h => by cases h⟩

theorem reads (os : Os) {H : Type} (enc : TypeId × Value → H) : ∃ places, DataW.whole enc Try.prog ((World.laidAll Try.prog os Rows.alphaBackUptoRow.laid).forCall (fun _ _ => 0) ⟨#[], #[.slice none 0 0, .string ⟨#[]⟩], []⟩).memory Try.f6.params.toList Rows.alphaBackSpec.vars false #[Value.slice none 0 0, .string ⟨#[]⟩].toList 8 = some ([.nil, .lit (.string [])], [], places) :=
  ⟨[], by kernel_rfl⟩

set_option maxRecDepth 100000 in
theorem lifted (os : Os) (started : os.Started) (H : Type) (enc : TypeId × Value → H) (F : Stop.Interp) :
    ReturnsInHanded {} Try.checked os 6 .any ((Rows.OpenSpec.upto Rows.alphaBackSpec).preRow enc Try.prog Try.f6 Rows.alphaBackUptoRow.domain false Rows.alphaBackUptoRow.laid) (((Rows.OpenSpec.upto Rows.alphaBackSpec).at F).post enc Try.prog Try.f6 false true false false) := by
  obtain ⟨places, hx⟩ := reads os enc
  refine returnsInHanded_of_row (C := Try.checked) (s := (Rows.OpenSpec.upto Rows.alphaBackSpec)) own started (by kernel_rfl) Try.func6
    (witness_row_at (enc := enc) (C := Try.checked) false (World.laidAll Try.prog os Rows.alphaBackUptoRow.laid) #[.slice none 0 0, .string ⟨#[]⟩] (World.laidAll_os _ _ _) (by kernel_rfl) (by kernel_rfl) (by kernel_rfl)
      (OpenSpec.preRow_of_cond 8 hx (by kernel_rfl) (fun k hk => by cases hk; kernel_rfl) (by kernel_rfl) (laid_met os _))) ?_
  intro W base args ds gs before hval hW _ hc _ _ _ _
  exact contract H enc W base args ds gs before hval hW (hc _ rfl)

theorem said : Rows.AlphaBackUptoSaid :=
  OpenClaim.holds_of_cond 6 Try.f6 rfl rfl rfl rfl rfl rfl rfl ⟨rfl, rfl, rfl, rfl, rfl⟩ rfl rfl rfl rfl rfl (by kernel_rfl) Try.func6 (by kernel_rfl)
    (of_decide_eq_true (by kernel_rfl)) (by unfold Func.isWrapper; rw [if_neg (of_decide_eq_false (by kernel_rfl))]; exact ⟨rfl, rfl⟩)
    (fun os started H enc _ F => by rw [OpenClaim.pre_eq_preRow]; exact lifted os started H enc F)
end Go.Proofs.Ytaijphanpolegaa.AlphaBack
namespace Go.Proofs.Ytaijphanpolegaa
theorem alphaBackUpto_holds : Rows.AlphaBackUptoSaid := AlphaBack.said
end Go.Proofs.Ytaijphanpolegaa
