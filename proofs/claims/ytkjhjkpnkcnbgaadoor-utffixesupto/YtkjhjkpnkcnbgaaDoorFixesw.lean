/-
  The law on mending walked: for every text of up to 1048576 bytes it answers true, in every world that holds the two tables.
-/
import Derived.Test.YtkjhjkpnkcnbgaaDoorFixm
import Derived.Test.YtkjhjkpnkcnbgaaDoorBck
namespace Go.Proofs.YtkjhjkpnkcnbgaaDoor.Utf
open Go Go.Lib Go.RowKit


set_option maxHeartbeats 1000000 in
theorem fixes_walk (s : ByteArray) (w : World) (hs : s.size ≤ 1048576) (hT : Lib.Utf8Tabs 0 1 w) :
    Calls Tryd.prog 7 #[.string s] w fun e w' => e = .returned (.bool true) ∧ Below w.heap.size w w' := by
  have hsz := tabs_size hT
  have hms : s.size ≤ maxLen := by unfold maxLen; omega
  have cA := awake_any w hT
  have cF := fun w => fix_any s w (by omega)
  have cB := fun w hT => back_any s w (by omega) hT
  have cK := fun w => count_any s w hms
  have cV := fun w hT => valid_any s w hT
  have hv0 := valid_fix s
  have hn := pairs_length s
  have hle := encs_le (pairs s)
  have hpl := pairs_le s
  rw [encs_eq] at cF hle hv0
  have e1 : (pairs s).reverse.map (fun x => x.2) = ((pairs s).map fun x => x.2).reverse := List.map_reverse
  have hrl : (pairs s).length = ((pairs s).map fun x => x.2).length := (List.length_map _).symm
  have cB' : ∀ w, Lib.Utf8Tabs 0 1 w → Calls Tryd.prog 23 #[.string s] w fun e w' => e = .returned (.string ⟨(encR ((pairs s).map fun x => x.2).reverse).toArray⟩) ∧ Below w.heap.size w w' := by
    intro w hT
    have := cB w hT
    rw [encs_eq, e1] at this
    exact this
  clear cB e1
  generalize ((pairs s).map fun x => x.2) = R at *
  -- the text f = encR R, the text b = encR R.reverse
  have rf := written_runes R
  have rb := written_runes R.reverse
  have vf := written_valid R
  have lb := encR_rev_length R
  have sf : (⟨(encR R).toArray⟩ : ByteArray).size ≤ 4194304 := by show (encR R).toArray.size ≤ _; rw [List.size_toArray]; omega
  have sb : (⟨(encR R.reverse).toArray⟩ : ByteArray).size ≤ 4194304 := by show (encR R.reverse).toArray.size ≤ _; rw [List.size_toArray]; omega
  have kF := fun w => fix_any ⟨(encR R).toArray⟩ w (by omega)
  have kFb := fun w => fix_any ⟨(encR R.reverse).toArray⟩ w (by omega)
  have kB := fun w hT => back_any ⟨(encR R.reverse).toArray⟩ w (by omega) hT
  have kC := fun w => count_any ⟨(encR R).toArray⟩ w (by unfold maxLen; omega)
  have kV := fun w hT => valid_any ⟨(encR R).toArray⟩ w hT
  have nf : Lib.runeCount ⟨(encR R).toArray⟩ = Lib.runeCount s := by
    rw [← pairs_length, ← hn, hrl]
    have := congrArg List.length rf
    rwa [List.length_map, List.length_map] at this
  rw [encs_eq, rf, encR_wr] at kF
  rw [encs_eq, rb, encR_wr] at kFb
  have kB' : ∀ w, Lib.Utf8Tabs 0 1 w → Calls Tryd.prog 23 #[.string ⟨(encR R.reverse).toArray⟩] w fun e w' => e = .returned (.string ⟨(encR R).toArray⟩) ∧ Below w.heap.size w w' := by
    intro w hT
    have := kB w hT
    rw [encs_eq, List.map_reverse, rb, List.map_reverse, List.reverse_reverse, encR_wr] at this
    exact this
  rw [vf] at kV
  rw [nf] at kC
  clear kB rf rb vf nf hn hrl hpl
  have hvs : validB s = false ∨ (validB s = true ∧ (encR R == s.toList) = true) := by
    cases h : validB s with
    | false => exact .inl rfl
    | true => exact .inr ⟨rfl, by rw [hv0 h, Lib.toList_data]; exact beq_self_eq_true _⟩
  clear hv0
  have HT : ∀ w', Below w.heap.size w w' → Hid (Lib.Utf8Tabs 0 1 w') := fun w' h => tabs_below h hsz hT
  clear hT
  have hlen : (((encR R.reverse).length : Int) == ((encR R).length : Int)) = true := by rw [lb]; exact beq_self_eq_true _
  have hbb : (encR R.reverse == encR R.reverse) = true := beq_self_eq_true _
  have hff : (encR R == encR R) = true := beq_self_eq_true _
  generalize encR R.reverse = LB at *
  generalize encR R = LF at *
  have hbn : ((Lib.runeCount s : Int) == (Lib.runeCount s : Int)) = true := beq_self_eq_true _
  generalize Lib.runeCount s = CS at *
  go_enter Tryd.func7, Tryd.ntmps7
  go_wp2_with fail
  refine cA.mono ?_
  rintro e w1 ⟨rfl, hb1⟩
  go_wp2_with fail
  refine (cF _).mono ?_
  rintro e w2 ⟨rfl, hb2⟩
  have k2 := hb1.trans (hb2.mono hb1.size)
  go_wp2_with fail
  refine (cB' _ (HT _ k2).out).mono ?_
  rintro e w3 ⟨rfl, hb3⟩
  have k3 := k2.trans (hb3.mono k2.size)
  go_wp2_with fail
  refine (kV _ (HT _ k3).out).mono ?_
  rintro e w4 ⟨rfl, hb4⟩
  have k4 := k3.trans (hb4.mono k3.size)
  go_wp2_with fail
  refine (kC _).mono ?_
  rintro e w5 ⟨rfl, hb5⟩
  have k5 := k4.trans (hb5.mono k4.size)
  go_wp2_with fail
  refine (cK _).mono ?_
  rintro e w6 ⟨rfl, hb6⟩
  have k6 := k5.trans (hb6.mono k5.size)
  go_wp2_with fail
  refine (kF _).mono ?_
  rintro e w7 ⟨rfl, hb7⟩
  have k7 := k6.trans (hb7.mono k6.size)
  go_wp2_with fail
  refine (cV _ (HT _ k7).out).mono ?_
  rintro e w8 ⟨rfl, hb8⟩
  have k8 := k7.trans (hb8.mono k7.size)
  clear cA cF cB' kV kC cK kF cV hb1 hb2 hb3 hb4 hb5 hb6 hb7 hb8 k2 k3 k4 k5 k6 k7
  rcases hvs with hv | ⟨hv, hq⟩
  all_goals
    rw [hv]
    clear hv
    go_wp2_with fail
    refine (kB' _ (HT _ k8).out).mono ?_
    rintro e w9 ⟨rfl, hb9⟩
    have k9 := k8.trans (hb9.mono k8.size)
    go_wp2_with fail
    refine (kFb _).mono ?_
    rintro e w10 ⟨rfl, hb10⟩
    have k10 := k9.trans (hb10.mono k9.size)
    go_wp2
    go_ret
    exact ⟨rfl, k10⟩
end Go.Proofs.YtkjhjkpnkcnbgaaDoor.Utf
