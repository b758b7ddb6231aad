/-
  The law on Encode walked: for every rune that an int32 can be it answers true, in every world that holds the two tables.
-/
import Derived.Test.YtkjhjkpnkcnbgaaDoorUtfw
namespace Go.Proofs.YtkjhjkpnkcnbgaaDoor.Utf
open Go Go.Lib Go.RowKit

theorem enc_next (r : Int) : nextR (Utf8.encode r) 0 = (wr r : Int) ∧ nextW (Utf8.encode r) 0 = ((Utf8.encode r).size : Int) := by
  have hz := enc_size r
  have hd := dec_enc r
  have e1 := nextR_in (s := Utf8.encode r) (p := 0) (by omega)
  have e2 := nextW_in (s := Utf8.encode r) (p := 0) (by omega)
  rw [hd] at e1 e2
  exact ⟨e1, e2⟩

theorem ret_bool {a b : Bool} (h : a = b) : Ending.returned (.bool a) = .returned (.bool b) := by rw [h]
set_option maxHeartbeats 1000000 in
theorem encodes_walk (r : Int) (w : World) (h0 : -2147483648 ≤ r) (h1 : r ≤ 2147483647) (hT : Lib.Utf8Tabs 0 1 w) :
    Calls Tryd.prog 4 #[.int .i32 r] w fun e w' => e = .returned (.bool true) ∧ Below w.heap.size w w' := by
  have hsz := tabs_size hT
  obtain ⟨hn1, hn2⟩ := enc_next r
  have hc := enc_count r
  have hv := enc_valid r
  have hl := enc_size r
  have cE := fun w => encode_any r w
  have cR := fun w => refEncode_any r w h0 h1
  have hwv := wr_valid (r := r)
  have hwb := wr_bad (r := r)
  generalize Utf8.encode r = S at *
  have cA := awake_any w hT
  have hm : S.size ≤ maxLen := by unfold maxLen; omega
  go_enter Tryd.func4, Tryd.ntmps4
  go_wp2_with fail
  refine cA.mono ?_
  rintro e w1 ⟨rfl, hb1⟩
  go_wp2_with fail
  refine (cE _).mono ?_
  rintro e w2 ⟨rfl, rfl⟩
  go_wp2_with fail
  refine (cR _).mono ?_
  rintro e w3 ⟨rfl, hb3⟩
  have hb13 := hb1.trans (hb3.mono hb1.size)
  have cN := next_any S 0 w3 (tabs_below hb13 hsz hT)
  rw [hn1, hn2] at cN
  have cC := fun w => count_any S w hm
  rw [hc] at cC
  have cV := fun w hT => valid_any S w hT
  rw [hv] at cV
  have hcase : (r < 0 ∧ ((wr r : Nat) : Int) = 65533) ∨ (1114111 < r ∧ ((wr r : Nat) : Int) = 65533) ∨ ((55296 ≤ r ∧ r ≤ 57343) ∧ ((wr r : Nat) : Int) = 65533) ∨ ((0 ≤ r ∧ r < 55296) ∧ ((wr r : Nat) : Int) = r) ∨ ((57343 < r ∧ r ≤ 1114111) ∧ ((wr r : Nat) : Int) = r) := by omega
  clear hwv hwb hn1 hn2 hc hv hl hm cE cR cA
  have HT : ∀ w', Below w.heap.size w w' → Hid (Lib.Utf8Tabs 0 1 w') := fun w' h => tabs_below h hsz hT
  clear hT
  rcases hcase with ⟨hr, hwr⟩ | ⟨hr, hwr⟩ | ⟨hr, hwr⟩ | ⟨hr, hwr⟩ | ⟨hr, hwr⟩
  all_goals
    rw [hwr] at cN
    clear hwr
    go_wp2_with fail
    refine cN.mono ?_
    rintro e w4 ⟨rfl, hb4⟩
    go_wp2_with fail
    refine (cC _).mono ?_
    rintro e w5 ⟨rfl, hb5⟩
    have hb14 := hb13.trans (hb4.mono hb13.size)
    have hb15 := hb14.trans (hb5.mono hb14.size)
    go_wp2_with fail
    refine (cV _ (HT _ hb15).out).mono ?_
    rintro e w6 ⟨rfl, hb6⟩
    go_wp2
    go_ret
    refine ⟨?_, hb15.trans (hb6.mono hb15.size)⟩
    first | rfl | exact ret_bool (by simp; omega)
end Go.Proofs.YtkjhjkpnkcnbgaaDoor.Utf
