/-
  The law on joined texts walked: for all texts of up to 1048576 bytes it answers true.
-/
import Derived.Test.YtjfkihljgicijaaAwk2
import Derived.Test.YtjfkihljgicijaaJoim
namespace Go.Proofs.Ytjfkihljgicijaa.Utf
open Go Go.Lib Go.RowKit

set_option maxHeartbeats 2000000 in
theorem foldJoins_walk (s t : ByteArray) (p : Bool) (w : World) (hs : s.size ≤ 1048576) (ht : t.size ≤ 1048576) :
    Calls Try.prog 6 #[.string s, .string t, .bool p] w fun e w' => e = .returned (.bool true) ∧ Below w.heap.size w w' := by
  have cA := awake2_any w
  have cF := fun w => fix_any s w (by omega)
  have e1 := foldS_fix p s
  have e2 := foldS_join p s t
  have hza : (⟨(encs (pairs s)).toArray⟩ : ByteArray).size ≤ 4194304 := by
    have h1 := encs_le (pairs s)
    have h2 := pairs_le s
    show (encs (pairs s)).toArray.size ≤ _
    rw [List.size_toArray]; omega
  generalize (⟨(encs (pairs s)).toArray⟩ : ByteArray) = A at *
  have hzj : (A ++ t).size ≤ 5242880 := by rw [ByteArray.size_append]; omega
  have c1 := fun w => fold_any (A ++ t) p w (by omega)
  have c2 := fun w => fold_any A p w (by omega)
  have c3 := fun w => fold_any t p w (by omega)
  have c5 := fun w => fold_any s p w (by omega)
  have hzs := foldS_size p s
  have hzt := foldS_size p t
  rw [e2] at c1
  rw [e1] at c2
  clear e1 e2
  generalize foldS p s = FS at *
  generalize foldS p t = FT at *
  generalize hJ : A ++ t = J at *
  generalize hK : FS ++ FT = K at *
  have hlJ : A.size + t.size ≤ 5242880 := by omega
  have hlK : FS.size + FT.size ≤ 16777216 := by omega
  go_enter Try.func6, Try.ntmps6
  go_wp2_with fail
  refine cA.mono ?_
  rintro e w1 ⟨rfl, hb1⟩
  go_wp2_with fail
  refine (cF _).mono ?_
  rintro e w2 ⟨rfl, hb2⟩
  clear cF cA
  have hb12 := hb1.trans (hb2.mono hb1.size)
  go_wp2_with fail
  refine (c1 _).mono ?_
  rintro e w3 ⟨rfl, hb3⟩
  have hb13 := hb12.trans (hb3.mono hb12.size)
  go_wp2_with fail
  refine (c2 _).mono ?_
  rintro e w4 ⟨rfl, hb4⟩
  have hb14 := hb13.trans (hb4.mono hb13.size)
  go_wp2_with fail
  refine (c3 _).mono ?_
  rintro e w5 ⟨rfl, hb5⟩
  have hb15 := hb14.trans (hb5.mono hb14.size)
  go_wp2_with fail
  refine (c2 _).mono ?_
  rintro e w6 ⟨rfl, hb6⟩
  have hb16 := hb15.trans (hb6.mono hb15.size)
  go_wp2_with fail
  refine (c5 _).mono ?_
  rintro e w7 ⟨rfl, hb7⟩
  go_wp2
  go_ret
  exact ⟨rfl, hb16.trans (hb7.mono hb16.size)⟩
end Go.Proofs.Ytjfkihljgicijaa.Utf
