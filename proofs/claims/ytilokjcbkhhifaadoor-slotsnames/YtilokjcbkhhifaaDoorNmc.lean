/-
  The document's Name, of any number.
-/
import Derived.Test.YtilokjcbkhhifaaDoorNmb
namespace Go.Proofs.YtilokjcbkhhifaaDoor.Grd
open Go Go.Lib Go.RowKit

theorem dig3_more {n : Nat} (h1 : ¬ n < 10) (h : n < 1000) : dig3 (n / 10) ++ [UInt8.ofNat (48 + n % 10)] = dig3 n := by
  unfold dig3
  rw [if_neg h1]
  by_cases h2 : n < 100
  · rw [if_pos h2, if_pos (by omega)]
    rfl
  · rw [if_neg h2, if_neg (by omega), if_pos (by omega), Nat.div_div_eq_div_mul]
    rfl
theorem Decimal_any (n : Nat) (h : n < 1000) (w : World) :
    Calls Tryd.prog 42 #[.int .i64 n] w fun e w' => e = .returned (.string ⟨(dig3 n).toArray⟩) ∧ Below w.heap.size w w' := by
  by_cases h1 : n < 10
  · exact dec_one n h1 w
  · have two : ∀ m, m < 100 → ∀ W, Calls Tryd.prog 42 #[.int .i64 (m : Nat)] W fun e w' => e = .returned (.string ⟨(dig3 m).toArray⟩) ∧ Below W.heap.size W w' := fun m hm W => by
      by_cases hm1 : m < 10
      · exact dec_one m hm1 W
      · rw [← dig3_more hm1 (by omega)]
        exact dec_more m (m / 10) (m % 10) (dig3 (m / 10)) hm1 (by omega) rfl rfl (dig3_len _).2 W fun W' => dec_one (m / 10) (by omega) W'
    rw [← dig3_more h1 h]
    exact dec_more n (n / 10) (n % 10) (dig3 (n / 10)) h1 h rfl rfl (dig3_len _).2 w fun W' => two (n / 10) (by omega) W'
theorem refName_any (num : Int) (dn : Bool) (w : World) :
    Calls Tryd.prog 27 #[.int .i64 num, .bool dn] w fun e w' => e = .returned (.string (nameS num dn)) ∧ Below w.heap.size w w' := by
  by_cases hn : 1 ≤ num ∧ num ≤ 999
  · obtain ⟨n, rfl⟩ := Int.eq_ofNat_of_zero_le (show 0 ≤ num by omega)
    have hn1 : 1 ≤ n ∧ n < 1000 := by omega
    have cI := Decimal_any n hn1.2 w
    have hl := dig3_len n
    have hb : ((decide ((n : Int) < 1)) || decide ((999 : Int) < (n : Int))) = false := by rw [decide_eq_false (by omega), decide_eq_false (by omega)]; rfl
    have h3 : ¬ (n : Int) < 1 := by omega
    have h4 : ¬ (999 : Int) < (n : Int) := by omega
    have HV : Aside (nameS (n : Int) dn = ⟨(dig3 n ++ [if dn then 68 else 65]).toArray⟩) := by show _ = _; unfold nameS nmL; rw [if_pos hn, Int.toNat_natCast]
    clear hn
    cases dn with
    | false =>
      go_enter Tryd.func27, Tryd.ntmps27
      go_wp2_with fail
      refine cI.mono ?_
      rintro e w1 ⟨rfl, hb1⟩
      go_wp2
      go_ret
      exact ⟨by rw [HV.out]; rfl, hb1⟩
    | true =>
      go_enter Tryd.func27, Tryd.ntmps27
      go_wp2_with fail
      refine cI.mono ?_
      rintro e w1 ⟨rfl, hb1⟩
      go_wp2
      go_ret
      exact ⟨by rw [HV.out]; rfl, hb1⟩
  · have HV : Aside (nameS num dn = ⟨#[]⟩) := if_neg hn
    by_cases h3 : num < 1
    · clear hn
      go_enter Tryd.func27, Tryd.ntmps27
      go_wp2
      go_ret
      exact ⟨by rw [HV.out]; rfl, Below.refl _ _⟩
    · have h4 : (999 : Int) < num := by omega
      clear hn
      go_enter Tryd.func27, Tryd.ntmps27
      go_wp2
      go_ret
      exact ⟨by rw [HV.out]; rfl, Below.refl _ _⟩

/-- WHAT A TEXT READS AS: the number and the direction whose name it is. -/
def Reads (s : ByteArray) (n : Nat) (dn : Bool) : Prop := 1 ≤ n ∧ n < 1000 ∧ s = ⟨(nmL n dn).toArray⟩
theorem Reads.unique {s : ByteArray} {n n' : Nat} {dn dn' : Bool} (h : Reads s n dn) (h' : Reads s n' dn') : n = n' ∧ dn = dn' := by
  have e := h.2.2.symm.trans h'.2.2
  refine nmL_inj h.2.1 h'.2.1 ?_
  have := congrArg (fun b : ByteArray => b.data.toList) e
  simpa using this
open Classical in
noncomputable def rd (s : ByteArray) : Option (Nat × Bool) := if h : ∃ p : Nat × Bool, Reads s p.1 p.2 then some h.choose else none
open Classical in
theorem rd_some {s : ByteArray} {n : Nat} {dn : Bool} (h : Reads s n dn) : rd s = some (n, dn) := by
  have he : ∃ p : Nat × Bool, Reads s p.1 p.2 := ⟨(n, dn), h⟩
  unfold rd
  rw [dif_pos he]
  obtain ⟨e1, e2⟩ := Reads.unique he.choose_spec h
  exact congrArg some (Prod.ext e1 e2)
open Classical in
theorem rd_none {s : ByteArray} (h : ∀ n dn, ¬ Reads s n dn) : rd s = none := by
  unfold rd
  rw [dif_neg (fun ⟨p, hp⟩ => h _ _ hp)]
theorem nameS_reads {s : ByteArray} {v : Int} {dn : Bool} (hs : s.size ≠ 0) (h : nameS v dn = s) : ∃ n : Nat, v = (n : Int) ∧ Reads s n dn := by
  unfold nameS at h
  by_cases hv : 1 ≤ v ∧ v ≤ 999
  · rw [if_pos hv] at h
    refine ⟨v.toNat, by omega, by omega, by omega, h.symm⟩
  · rw [if_neg hv] at h
    subst h
    exact absurd rfl hs
theorem reads_nameS {s : ByteArray} {n : Nat} {dn : Bool} (h : Reads s n dn) : nameS (n : Int) dn = s := by
  unfold nameS
  rw [if_pos (by have := h.1; have := h.2.1; omega), Int.toNat_natCast]
  exact h.2.2.symm
/-- What Read answers. -/
def rdV : Option (Nat × Bool) → Value
  | some (n, dn) => .tuple #[.int .i64 n, .bool dn, .bool true]
  | none => .tuple #[.int .i64 0, .bool false, .bool false]
end Go.Proofs.YtilokjcbkhhifaaDoor.Grd
