/-
  The law on cutting walked: for every text that a builder can hold thrice and every number it answers true, in every world that holds the two tables.
-/
import Derived.Test.YtkjhjkpnkcnbgaaDoorCutw
import Derived.Test.YtkjhjkpnkcnbgaaDoorFix
import Derived.Test.YtkjhjkpnkcnbgaaDoorUtfw
namespace Go.Proofs.YtkjhjkpnkcnbgaaDoor.Utf
open Go Go.Lib Go.RowKit

set_option maxHeartbeats 1000000 in
theorem cuts_walk (s : ByteArray) (n : Int) (w : World) (hs : s.size ≤ 1048576) (h0 : -9223372036854775808 ≤ n) (h1 : n ≤ 9223372036854775807) (hT : Lib.Utf8Tabs 0 1 w) :
    Calls Tryd.prog 8 #[.string s, .int .i64 n] w fun e w' => e = .returned (.bool true) ∧ Below w.heap.size w w' := by
  obtain ⟨p1, p2, p3, p4⟩ := cut_pieces s n
  have cA := awake_any w hT
  have cC := fun w => cut_any s n w h0 h1
  have q1 := head_size s _ p1
  have q2 := Lib.tail_size s (cutPos s n)
  have p5 := runeCount_le s
  generalize hc : cutPos s n = c at *
  clear hc
  obtain ⟨a, ha⟩ : ∃ a, a = s.extract 0 c := ⟨_, rfl⟩
  obtain ⟨b, hb⟩ : ∃ b, b = s.extract c s.size := ⟨_, rfl⟩
  rw [← ha] at p2 p3 p4 q1 cC
  rw [← hb] at p2 p4 q2
  subst q1
  have hbx : s.extract a.size s.size = b := hb.symm
  have hq : ((s.extract 0 a.size).toList == a.toList) = true := by rw [← ha]; exact beq_self_eq_true _
  have hlt : decide (s.size < a.size) = false := by simpa using p1
  clear ha hb
  have hma : a.size ≤ maxLen := by unfold maxLen; omega
  have hmb : b.size ≤ maxLen := by unfold maxLen; omega
  have hms : s.size ≤ maxLen := by unfold maxLen; omega
  have kA := fun w => count_any a w hma
  have kB := fun w => count_any b w hmb
  have kS := fun w => count_any s w hms
  have fA := fun w => fix_any a w (by omega)
  have fB := fun w => fix_any b w (by omega)
  have fS := fun w => fix_any s w (by omega)
  have hla : (encs (pairs a)).length ≤ 4194304 := by have := encs_le (pairs a); have := pairs_le a; omega
  have hlb : (encs (pairs b)).length ≤ 4194304 := by have := encs_le (pairs b); have := pairs_le b; omega
  generalize encs (pairs a) = LA at *
  generalize encs (pairs b) = LB at *
  rw [← p2] at fS
  have hcn : (((runeCount a : Nat) : Int) == min (max n 0) ((runeCount s : Nat) : Int)) = true := by rw [p3]; exact beq_self_eq_true _
  have hcs : ((((runeCount a : Nat) : Int) + ((runeCount b : Nat) : Int)) == ((runeCount s : Nat) : Int)) = true := by rw [beq_iff_eq]; omega
  have p6 : runeCount a ≤ runeCount s := by omega
  have p7 : runeCount b ≤ runeCount s := by omega
  clear p2 p3 p4 hma hmb hms
  generalize runeCount a = CA at *
  generalize runeCount b = CB at *
  generalize runeCount s = CS at *
  go_enter Tryd.func8, Tryd.ntmps8
  go_wp2_with fail
  refine cA.mono ?_
  rintro e w1 ⟨rfl, hb1⟩
  go_wp2_with fail
  refine (cC _).mono ?_
  rintro e w2 ⟨rfl, hb2⟩
  clear cC cA
  go_wp2_with fail
  refine (kA _).mono ?_
  rintro e w3 ⟨rfl, hb3⟩
  go_wp2_with fail
  refine (kS _).mono ?_
  rintro e w4 ⟨rfl, hb4⟩
  go_wp2_with fail
  refine (kA _).mono ?_
  rintro e w5 ⟨rfl, hb5⟩
  go_wp2_with fail
  refine (kB _).mono ?_
  rintro e w6 ⟨rfl, hb6⟩
  go_wp2_with fail
  refine (kS _).mono ?_
  rintro e w7 ⟨rfl, hb7⟩
  go_wp2_with fail
  refine (fA _).mono ?_
  rintro e w8 ⟨rfl, hb8⟩
  go_wp2_with fail
  refine (fB _).mono ?_
  rintro e w9 ⟨rfl, hb9⟩
  go_wp2_with fail
  refine (fS _).mono ?_
  rintro e w10 ⟨rfl, hb10⟩
  go_wp2
  go_ret
  refine ⟨?_, ?_⟩
  · exact ret_b (by rw [beq_iff_eq, Lib.toList_data, ByteArray.data_append]; simp)
  · have k1 := hb1.trans (hb2.mono hb1.size)
    have k2 := k1.trans (hb3.mono k1.size)
    have k3 := k2.trans (hb4.mono k2.size)
    have k4 := k3.trans (hb5.mono k3.size)
    have k5 := k4.trans (hb6.mono k4.size)
    have k6 := k5.trans (hb7.mono k5.size)
    have k7 := k6.trans (hb8.mono k6.size)
    have k8 := k7.trans (hb9.mono k7.size)
    exact k8.trans (hb10.mono k8.size)
end Go.Proofs.YtkjhjkpnkcnbgaaDoor.Utf
