/-
  The program's Name, of any number.
-/
import Derived.Test.YtilokjcbkhhifaaDoorNmm
import Derived.Test.YtilokjcbkhhifaaDoorGrda
import Derived.Test.YtilokjcbkhhifaaDoorItoa
import Derived.Lib.AppendIntMem
namespace Go.Proofs.YtilokjcbkhhifaaDoor.Grd
open Go Go.Lib Go.RowKit

/-- The table of powers, in its variable. -/
def Pw (W : World) : Prop := Lib.TabIs Tryd.prog W "internal/strconv.uint64pow10" .u64 Lib.pow10Tab
theorem Pw.below {W W' : World} (h : Pw W) (hb : Below W.heap.size W W') : Pw W' := tabBelow_of_tabIs h W' hb
theorem Name_any (num : Int) (dn : Bool) (w : World) (h0 : -9223372036854775808 ≤ num) (h1 : num ≤ 9223372036854775807) (hT : Pw w) :
    Calls Tryd.prog 26 #[.int .i64 num, .bool dn] w fun e w' => e = .returned (.string (nameS num dn)) ∧ Below w.heap.size w w' := by
  by_cases hn : 1 ≤ num ∧ num ≤ 999
  · obtain ⟨n, rfl⟩ := Int.eq_ofNat_of_zero_le (show 0 ≤ num by omega)
    have hn1 : 1 ≤ n ∧ n < 1000 := by omega
    have cI : Calls Tryd.prog 41 #[.int .i64 (n : Int)] w fun e w' => e = .returned (.string ⟨(dig3 n).toArray⟩) ∧ Below w.heap.size w w' := by
      refine (Tryd.strconv_Itoa (n : Int) h0 h1 w hT).mono ?_
      rintro e w' ⟨rfl, k, os, rfl⟩
      refine ⟨?_, Lib.below_grow _ _ (Nat.le_refl _) _ _⟩
      rw [← digs_dig3 hn1.2]
      unfold Lib.itoa
      rw [if_neg (by omega), Int.toNat_natCast]
    have hl := dig3_len n
    have hb : ((decide ((n : Int) < 1)) || decide ((999 : Int) < (n : Int))) = false := by rw [decide_eq_false (by omega), decide_eq_false (by omega)]; rfl
    have h3 : ¬ (n : Int) < 1 := by omega
    have h4 : ¬ (999 : Int) < (n : Int) := by omega
    have HV : Aside (nameS (n : Int) dn = ⟨(dig3 n ++ [if dn then 68 else 65]).toArray⟩) := by show _ = _; unfold nameS nmL; rw [if_pos hn, Int.toNat_natCast]
    clear hn
    cases dn with
    | false =>
      go_enter Tryd.func26, Tryd.ntmps26
      go_wp2_with fail
      refine cI.mono ?_
      rintro e w1 ⟨rfl, hb1⟩
      go_wp2
      go_ret
      exact ⟨by rw [HV.out]; rfl, hb1⟩
    | true =>
      go_enter Tryd.func26, Tryd.ntmps26
      go_wp2_with fail
      refine cI.mono ?_
      rintro e w1 ⟨rfl, hb1⟩
      go_wp2
      go_ret
      exact ⟨by rw [HV.out]; rfl, hb1⟩
  · have HV : Aside (nameS num dn = ⟨#[]⟩) := if_neg hn
    by_cases h3 : num < 1
    · clear hn
      go_enter Tryd.func26, Tryd.ntmps26
      go_wp2
      go_ret
      exact ⟨by rw [HV.out]; rfl, Below.refl _ _⟩
    · have h4 : (999 : Int) < num := by omega
      clear hn
      go_enter Tryd.func26, Tryd.ntmps26
      go_wp2
      go_ret
      exact ⟨by rw [HV.out]; rfl, Below.refl _ _⟩
end Go.Proofs.YtilokjcbkhhifaaDoor.Grd
