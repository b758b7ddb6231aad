/-
  The law on every call walked: for every text of up to 1048576 bytes, place and number the program's calls are the document's, in every world that holds the two tables.
-/
import Derived.Test.YtkjhjkpnkcnbgaaDoorRefy
import Derived.Test.YtkjhjkpnkcnbgaaDoorRlin
namespace Go.Proofs.YtkjhjkpnkcnbgaaDoor.Utf
open Go Go.Lib Go.RowKit

theorem plc_ints (l : List (Nat × Nat)) : plc l = (l.map fun x => (x.1 : Int)).map (Value.int .i64) := by simp [plc]
theorem reads_of {W : World} {B : Nat} {e : TypeId} {v : Value} {xs : List Value} {n : Nat} (h : W.ownsRow B e 1 v n xs) : ∃ ao cap, v = .slice ao n cap ∧ Reads W ao xs := by
  obtain ⟨ao, cap, hv, hc⟩ := own_slice h
  exact ⟨ao, cap, hv, fun j hj => by obtain ⟨g, h1, _, h3, h4⟩ := hc j hj; exact ⟨g, h1, h3, h4⟩⟩

set_option maxHeartbeats 2000000 in
theorem exact_walk (s : ByteArray) (p n : Int) (w : World) (hs : s.size ≤ 1048576) (_ : -9223372036854775808 ≤ p) (_ : p ≤ 9223372036854775807) (h0 : -9223372036854775808 ≤ n) (h1 : n ≤ 9223372036854775807) (hT : Lib.Utf8Tabs 0 1 w) :
    Calls Tryd.prog 3 #[.string s, .int .i64 p, .int .i64 n] w fun e w' => e = .returned (.bool true) ∧ Below w.heap.size w w' := by
  have hsz := tabs_size hT
  have hms : s.size ≤ maxLen := by unfold maxLen; omega
  have hpl := pairs_le s
  have cA := awake_any w hT
  have c1 := fun w hT => next_any s p w hT
  have c2 := fun w => refNext_any s p w (by omega)
  have c3 := fun w => places_any s w (by omega)
  have c4 := fun w => refPlaces_any s w (by omega)
  have c5 := fun w => count_any s w hms
  have c6 := fun w => refCount_any s w (by omega)
  have c7 := fun w hT => valid_any s w hT
  have c8 := fun w => refValid_any s w (by omega)
  have c9 := fun w => cut_any s n w h0 h1
  have c10 := fun w => refCut_any s n w (by omega) h0 h1
  have c11 := fun w => fix_any s w (by omega)
  have c12 := fun w => refFix_any s w (by omega)
  have c13 := fun w hT => back_any s w (by omega) hT
  have c14 := fun w => refBack_any s w (by omega)
  have c15 := fun w => lines_any s w (by omega)
  have c16 := fun w => refLines_any s w (by omega)
  have hll : (lines s.data.toList).length ≤ 16777216 := by
    have := lines_len s.data.toList
    rw [← Lib.size_eq] at this
    omega
  rw [plc_ints] at c3 c4
  have e1 : (pairs s).length = ((pairs s).map fun x => (x.1 : Int)).length := (List.length_map _).symm
  rw [e1] at c3 c4 hpl
  have e2 : (lines s.data.toList).length = (txts (lines s.data.toList)).length := (txts_length _).symm
  rw [e2] at c15 c16 hll
  clear e1 e2
  generalize ((pairs s).map fun x => (x.1 : Int)) = PL at *
  generalize txts (lines s.data.toList) = TL at *
  generalize nextR s p = NR at *
  generalize nextW s p = NW at *
  generalize Lib.runeCount s = CS at *
  generalize validB s = VB at *
  generalize s.extract 0 (cutPos s n) = CU at *
  generalize encs (pairs s) = FX at *
  generalize encs (pairs s).reverse = BK at *
  have HT : ∀ w', Below w.heap.size w w' → Hid (Lib.Utf8Tabs 0 1 w') := fun w' h => tabs_below h hsz hT
  clear hT hms
  go_enter Tryd.func3, Tryd.ntmps3
  go_wp2_with fail
  refine cA.mono ?_
  rintro e w1 ⟨rfl, b1⟩
  clear cA
  go_wp2_with fail
  refine (c1 _ (HT _ b1).out).mono ?_
  rintro e w2 ⟨rfl, b2⟩
  have k2 := b1.trans (b2.mono b1.size)
  clear c1 b1 b2
  go_wp2_with fail
  refine (c2 _).mono ?_
  rintro e w3 ⟨rfl, rfl⟩
  clear c2
  go_wp2_with fail
  refine (c3 _).mono ?_
  rintro e w4 ⟨v, rfl, o4, b4⟩
  obtain ⟨a4, cap4, rfl, r4⟩ := reads_of o4
  have k4 := k2.trans (b4.mono k2.size)
  clear c3 o4 b4 k2
  go_wp2_with fail
  refine (c4 _).mono ?_
  rintro e w5 ⟨v, rfl, o5, b5⟩
  obtain ⟨a5, cap5, rfl, r5⟩ := reads_of o5
  have r4' := r4.below b5
  have k5 := k4.trans (b5.mono k4.size)
  have cS := sameInts_eq PL a4 a5 cap4 cap5 w5 (by omega) r4' r5
  clear c4 o5 b5 k4 r4 r5 r4'
  go_wp2_with fail
  refine cS.mono ?_
  rintro e w6 ⟨rfl, b6⟩
  have k6 := k5.trans (b6.mono k5.size)
  clear cS b6 k5
  go_wp2_with fail
  refine (c5 _).mono ?_
  rintro e w7 ⟨rfl, b7⟩
  have k7 := k6.trans (b7.mono k6.size)
  clear c5 b7 k6
  go_wp2_with fail
  refine (c6 _).mono ?_
  rintro e w8 ⟨rfl, b8⟩
  have k8 := k7.trans (b8.mono k7.size)
  clear c6 b8 k7
  go_wp2_with fail
  refine (c7 _ (HT _ k8).out).mono ?_
  rintro e w9 ⟨rfl, b9⟩
  have k9 := k8.trans (b9.mono k8.size)
  clear c7 b9 k8
  go_wp2_with fail
  refine (c8 _).mono ?_
  rintro e w10 ⟨rfl, rfl⟩
  clear c8
  go_wp2_with fail
  refine (c9 _).mono ?_
  rintro e w11 ⟨rfl, b11⟩
  have k11 := k9.trans (b11.mono k9.size)
  clear c9 b11 k9
  go_wp2_with fail
  refine (c10 _).mono ?_
  rintro e w12 ⟨rfl, b12⟩
  have k12 := k11.trans (b12.mono k11.size)
  clear c10 b12 k11
  go_wp2_with fail
  refine (c11 _).mono ?_
  rintro e w13 ⟨rfl, b13⟩
  have k13 := k12.trans (b13.mono k12.size)
  clear c11 b13 k12
  go_wp2_with fail
  refine (c12 _).mono ?_
  rintro e w14 ⟨rfl, b14⟩
  have k14 := k13.trans (b14.mono k13.size)
  clear c12 b14 k13
  go_wp2_with fail
  refine (c13 _ (HT _ k14).out).mono ?_
  rintro e w15 ⟨rfl, b15⟩
  have k15 := k14.trans (b15.mono k14.size)
  clear c13 b15 k14
  go_wp2_with fail
  refine (c14 _).mono ?_
  rintro e w16 ⟨rfl, b16⟩
  have k16 := k15.trans (b16.mono k15.size)
  clear c14 b16 k15
  go_wp2_with fail
  refine (c15 _).mono ?_
  rintro e w17 ⟨v, rfl, o17, b17⟩
  obtain ⟨a17, cap17, rfl, r17⟩ := reads_of o17
  have k17 := k16.trans (b17.mono k16.size)
  clear c15 o17 b17 k16
  go_wp2_with fail
  refine (c16 _).mono ?_
  rintro e w18 ⟨v, rfl, o18, b18⟩
  obtain ⟨a18, cap18, rfl, r18⟩ := reads_of o18
  have r17' := r17.below b18
  have k18 := k17.trans (b18.mono k17.size)
  have cT := sameTexts_eq TL a17 a18 cap17 cap18 w18 (by omega) r17' r18
  clear c16 o18 b18 k17 r17 r18 r17'
  go_wp2_with fail
  refine cT.mono ?_
  rintro e w19 ⟨rfl, b19⟩
  have k19 := k18.trans (b19.mono k18.size)
  clear cT b19 k18
  go_wp2
  go_ret
  exact ⟨rfl, k19⟩
end Go.Proofs.YtkjhjkpnkcnbgaaDoor.Utf
