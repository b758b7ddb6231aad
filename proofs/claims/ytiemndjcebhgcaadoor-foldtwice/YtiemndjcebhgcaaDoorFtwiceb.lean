/-
  The law on folding again walked: for every text that there can be it answers true, in every world that holds the two tables.
-/
import Derived.Test.YtiemndjcebhgcaaDoorAwk2
import Derived.Test.YtiemndjcebhgcaaDoorFldk
import Derived.Test.YtiemndjcebhgcaaDoorUtfw
namespace Go.Proofs.YtiemndjcebhgcaaDoor.Utf
open Go Go.Lib Go.RowKit

set_option maxHeartbeats 2000000 in
theorem foldTwice_full (s : ByteArray) (p : Bool) (w : World) (hs : s.size ≤ 140737488351232) (hT : Lib.Utf8Tabs 0 1 w) :
    Calls Tryd.prog 3 #[.string s, .bool p] w fun e w' => e = .returned (.bool true) ∧ Below w.heap.size w w' := by
  have hsz := tabs_size hT
  have cA := awake2_any w
  have z1 := foldS_fits p s
  have z2 := foldS_fits false s
  have c1 := fun w => fold_big s p w (by omega)
  have c2 := fun w => fold_big (foldS p s) p w (by omega)
  have c3 := fun w => fold_big s false w (by omega)
  have c4 := fun w => fold_big (foldS false s) true w (by omega)
  have c5 := fun w => fold_big s true w (by omega)
  have cV := fun w hT => valid_any (foldS p s) w hT
  rw [foldS_twice] at c2
  rw [foldS_both] at c4
  rw [foldS_valid] at cV
  have HT : ∀ w', Below w.heap.size w w' → Hid (Lib.Utf8Tabs 0 1 w') := fun w' h => tabs_below h hsz hT
  clear hT z1 z2
  generalize foldS p s = F at *
  generalize foldS false s = G at *
  generalize foldS true s = H at *
  go_enter Tryd.func3, Tryd.ntmps3
  go_wp2_with fail
  refine cA.mono ?_
  rintro e w1 ⟨rfl, hb1⟩
  go_wp2_with fail
  refine (c1 _).mono ?_
  rintro e w2 ⟨rfl, hb2⟩
  have hb12 := hb1.trans (hb2.mono hb1.size)
  go_wp2_with fail
  refine (c2 _).mono ?_
  rintro e w3 ⟨rfl, hb3⟩
  have hb13 := hb12.trans (hb3.mono hb12.size)
  go_wp2_with fail
  refine (c3 _).mono ?_
  rintro e w4 ⟨rfl, hb4⟩
  have hb14 := hb13.trans (hb4.mono hb13.size)
  go_wp2_with fail
  refine (c4 _).mono ?_
  rintro e w5 ⟨rfl, hb5⟩
  have hb15 := hb14.trans (hb5.mono hb14.size)
  go_wp2_with fail
  refine (c5 _).mono ?_
  rintro e w6 ⟨rfl, hb6⟩
  have hb16 := hb15.trans (hb6.mono hb15.size)
  go_wp2_with fail
  refine (cV _ (HT _ hb16).out).mono ?_
  rintro e w7 ⟨rfl, hb7⟩
  go_wp2
  go_ret
  exact ⟨rfl, hb16.trans (hb7.mono hb16.size)⟩
end Go.Proofs.YtiemndjcebhgcaaDoor.Utf
