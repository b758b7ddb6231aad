/-
  The program's Find, of a word that is there.
-/
import Derived.Test.YtjgmmfkeogkakaaGreatGxd
import Derived.Test.YtjgmmfkeogkakaaGreatGxw
import Derived.Test.YtjgmmfkeogkakaaGreatEqiq
import Derived.OrdersHeld
namespace Go.Proofs.YtjgmmfkeogkakaaGreat.Utf
open Go Go.Lib Go.RowKit

theorem findF_any (x : List Int × Int) (c : List Int) (ao ac : Option Addr) (cp cc b : Nat) (w : World) (hx : x.1.length ≤ 32) (hr : ReadsO w ao (ints x.1)) (hb : w.cell? ⟨b, 0, none⟩ = some (.slice ac c.length cc)) (hc : ReadsO w ac (ints c)) :
    Calls Tryz.prog 33 #[.slice ao x.1.length cp, .pointer (some ⟨b, 0, none⟩)] w fun e w' => e = .returned (.bool (decide (0 ≤ ordI x.1 c))) ∧ Below w.heap.size w w' := by
  have cO := order_any x.1 c (by omega) ao ac cp cc w hr hc
  go_enter Tryz.func33, Tryz.ntmps33
  go_wp2_with fail
  refine cO.mono ?_
  rintro e w2 ⟨rfl, hg⟩
  go_wp2
  go_ret
  exact ⟨rfl, hg.1⟩
theorem ord_mono {l : List (List Int × Int)} (hs : SortL l) (c : List Int) {i j : Nat} (hi : i < l.length) (hj : j < l.length) (hij : i ≤ j) (h : 0 ≤ ordI l[i].1 c) : 0 ≤ ordI l[j].1 c := by
  rcases Nat.lt_or_ge i j with h1 | h1
  · have h2 := (List.pairwise_iff_getElem.1 hs) i j hi hj h1
    rcases Int.lt_or_le (ordI l[j].1 c) 0 with h3 | h3
    · have := ordI_trans h2 h3
      omega
    · exact h3
  · have : i = j := by omega
    subst this
    exact h

set_option maxRecDepth 100000 in
set_option maxHeartbeats 4000000 in
theorem find_any {W : World} {base xb : Nat} {L : List ByteArray} {l : List (List Int × Int)} (h : IsLex W base xb L l) (hl : l.length ≤ 1000) (hs : SortL l) (h32 : ∀ x ∈ l, x.1.length ≤ 32 ∧ 1 ≤ x.1.length) (k : Nat) (hk : k < l.length) (ac : Option Addr) (cc : Nat) (hR : ReadsO W ac (ints l[k].1)) :
    Calls Tryz.prog 9 #[.pointer (some ⟨xb, 0, none⟩), .slice ac l[k].1.length cc] W fun e w' => e = .returned (.tuple #[.int .i64 (k : Nat), .bool true]) ∧ Below W.heap.size W w' := by
  have hb0 := below_box' W (.cells #[.slice ac l[k].1.length cc] 24)
  have hX0 := h.below hb0
  have hc0 : (W.alloc (.cells #[.slice ac l[k].1.length cc] 24)).cell? ⟨W.heap.size, 0, none⟩ = some (.slice ac l[k].1.length cc) := box_at W _ 24 0 rfl
  have c1 := first_any hX0 hl (fun c => decide (0 ≤ ordI c l[k].1)) 33 #[.pointer (some ⟨W.heap.size, 0, none⟩)] (enters_of Tryz.func33 (by kernel_rfl) rfl)
    (fun x ao cp w hx hb hr => findF_any x l[k].1 ao ac cp cc W.heap.size w (h32 x hx).1 hr ((hb.cell (p := ⟨W.heap.size, 0, none⟩) (by simp)).trans hc0) ((hR.below hb0).below hb))
    (fun i j hi hj hij hp => decide_eq_true (ord_mono hs l[k].1 hi hj hij (of_decide_eq_true hp)))
  have hk32 := h32 _ (List.getElem_mem hk)
  have hX : ∀ Z, Below W.heap.size W Z → IsLex Z base xb L l := fun Z hb => h.below hb
  go_enter Tryz.func9, Tryz.ntmps9
  go_wp2_with fail
  refine c1.mono ?_
  rintro e w1 ⟨⟨r, rfl, hr1, hr2⟩, hb1⟩
  have hself : 0 ≤ ordI l[k].1 l[k].1 := by rw [ordI_zero.2 rfl]; exact Int.le_refl _
  have hrk : r = k := by
    have h1 := (hr2 k hk).1 (decide_eq_true hself)
    have h2 := of_decide_eq_true ((hr2 r (by omega)).2 (Nat.le_refl _))
    rcases Nat.lt_or_ge r k with h3 | h3
    · have h4 := (List.pairwise_iff_getElem.1 hs) r k (by omega) hk h3
      omega
    · omega
  subst hrk
  have hB1 : Below W.heap.size W w1.drew := Below.drew (hb0.trans (hb1.mono (by simp)))
  have hX1 := hX w1.drew hB1
  have cL := len_any hX1
  obtain ⟨⟨wo, cap, k1, k2⟩, _⟩ := hX1
  obtain ⟨g, ao, cp, rfl, e2, e3, e4, _, _⟩ := k2 r hk
  rw [Nat.add_zero] at e3
  have cx : w1.drew.cell? ⟨xb, 0, none⟩ = some (.slice (some ⟨g, 0, none⟩) l.length cap) := (show Boxed w1.drew xb 79 _ from k1).cell
  have hxl : xb < w1.drew.heap.size := (Array.getElem?_eq_some_iff.1 k1).1
  have cb : w1.drew.cell? ⟨W.heap.size, 0, none⟩ = some (.slice ac l[r].1.length cc) := (hb1.cell (p := ⟨W.heap.size, 0, none⟩) (by simp)).trans hc0
  have hbl : W.heap.size < w1.drew.heap.size := by have := hb1.size; rw [World.size_alloc] at this; show W.heap.size < w1.heap.size; omega
  have hrc : ReadsO w1.drew ac (ints l[r].1) := hR.below hB1
  have cE0 := equal_any l[r].1 l[r].1 ao ac cp cc w1.drew (by omega) (by omega) e4.1 hrc
  have cE : Calls Tryz.prog 35 #[.slice ao l[r].1.length cp, .slice ac l[r].1.length cc] w1.drew fun e w' => e = .returned (.bool true) ∧ Below w1.drew.heap.size w1.drew w' := cE0.mono fun e w' hh => by
    rcases hh with ⟨⟨_, he⟩ | ⟨hno, _⟩, hb⟩
    · exact ⟨he, hb⟩
    · exact absurd rfl hno
  have hrl : ((r : Int) == (l.length : Int)) = false := by rw [beq_eq_false_iff_ne]; omega
  have hrz : (r : Int) < (l.length : Int) := by omega
  generalize l[r].1.length = N at *
  have hSS : ∀ Z, Below w1.drew.heap.size w1.drew Z → Z.cell? ⟨xb, 0, none⟩ = some (.slice (some ⟨g, 0, none⟩) l.length cap) ∧ Z.cell? ⟨g, r * 3, none⟩ = some (.slice ao N cp) ∧ Z.cell? ⟨W.heap.size, 0, none⟩ = some (.slice ac N cc) := fun Z hZ => ⟨(hZ.cell (p := ⟨xb, 0, none⟩) hxl).trans cx, (hZ.cell (p := ⟨g, r * 3, none⟩) e2.2).trans e3, (hZ.cell (p := ⟨W.heap.size, 0, none⟩) hbl).trans cb⟩
  have hS0 := hSS _ (Below.refl _ _)
  clear c1 hr2 hself k1 k2 e4 cE0 hX hX0 hc0 hb0 hb1 hrc hbl hk32 cx cb e3
  go_wp2
  refine wp_region_held (S := fun Z => Z.cell? ⟨xb, 0, none⟩ = some (.slice (some ⟨g, 0, none⟩) l.length cap) ∧ Z.cell? ⟨g, r * 3, none⟩ = some (.slice ao N cp) ∧ Z.cell? ⟨W.heap.size, 0, none⟩ = some (.slice ac N cc)) (by kernel_rfl) ?_
  refine (show wpAnyH _ .any _ _ _ 17 (Array.replicate 17 false) _ w1.drew from ?_)
  refine takeD (i := 0) (d := 10) (v := .int .i64 (r : Int)) rfl (by kernel_rfl) (by kernel_rfl) (by kernel_rfl) (fun _ _ _ h => h) (fun oi ho => yields_now ho rfl fun Z hSw => ?_) hS0 ?_
  · obtain ⟨s1, s2, s3⟩ := hSw
    go_simp
  simp only [Act.put, List.setIfInBounds_toArray, List.set_cons_zero, List.set_cons_succ]
  refine takeD (i := 1) (d := 11) (v := .pointer (some ⟨xb, 0, none⟩)) rfl (by kernel_rfl) (by kernel_rfl) (by kernel_rfl) (fun _ _ _ h => h) (fun oi ho => yields_now ho rfl fun Z hSw => ?_) hS0 ?_
  · obtain ⟨s1, s2, s3⟩ := hSw
    go_simp
  simp only [Act.put, List.setIfInBounds_toArray, List.set_cons_zero, List.set_cons_succ]
  refine wpAnyH_all (rs := [2]) (by kernel_rfl) (by simp) (fun i hi => ?_)
  obtain rfl := List.mem_singleton.1 hi
  refine wpOp_call rfl rfl rfl (by go_simp) (cL) ?_
  rintro e w2 ⟨rfl, hw⟩
  obtain rfl := hw.symm
  clear hw
  refine ⟨_, rfl, hS0, ?_⟩
  simp only [Act.put, List.setIfInBounds_toArray, List.set_cons_zero, List.set_cons_succ]
  refine takeD (i := 3) (d := 13) (v := .bool false) rfl (by kernel_rfl) (by kernel_rfl) (by kernel_rfl) (fun _ _ _ h => h) (fun oi ho => yields_now ho rfl fun Z hSw => ?_) hS0 ?_
  · obtain ⟨s1, s2, s3⟩ := hSw
    go_simp
  simp only [Act.put, List.setIfInBounds_toArray, List.set_cons_zero, List.set_cons_succ]
  refine takeD (i := 4) (d := 14) (v := .bool false) rfl (by kernel_rfl) (by kernel_rfl) (by kernel_rfl) (fun _ _ _ h => h) (fun oi ho => yields_now ho rfl fun Z hSw => ?_) hS0 ?_
  · obtain ⟨s1, s2, s3⟩ := hSw
    go_simp
  simp only [Act.put, List.setIfInBounds_toArray, List.set_cons_zero, List.set_cons_succ]
  refine takeD (i := 5) (d := 15) (v := .pointer (some ⟨xb, 0, none⟩)) rfl (by kernel_rfl) (by kernel_rfl) (by kernel_rfl) (fun _ _ _ h => h) (fun oi ho => yields_now ho rfl fun Z hSw => ?_) hS0 ?_
  · obtain ⟨s1, s2, s3⟩ := hSw
    go_simp
  simp only [Act.put, List.setIfInBounds_toArray, List.set_cons_zero, List.set_cons_succ]
  refine takeD (i := 6) (d := 16) (v := .pointer (some ⟨xb, 0, none⟩)) rfl (by kernel_rfl) (by kernel_rfl) (by kernel_rfl) (fun _ _ _ h => h) (fun oi ho => yields_now ho rfl fun Z hSw => ?_) hS0 ?_
  · obtain ⟨s1, s2, s3⟩ := hSw
    go_simp
  simp only [Act.put, List.setIfInBounds_toArray, List.set_cons_zero, List.set_cons_succ]
  refine takeD (i := 7) (d := 17) (v := .pointer (some ⟨xb, 0, none⟩)) rfl (by kernel_rfl) (by kernel_rfl) (by kernel_rfl) (fun _ _ _ h => h) (fun oi ho => yields_now ho rfl fun Z hSw => ?_) hS0 ?_
  · obtain ⟨s1, s2, s3⟩ := hSw
    go_simp
  simp only [Act.put, List.setIfInBounds_toArray, List.set_cons_zero, List.set_cons_succ]
  refine takeD (i := 8) (d := 18) (v := .slice (some ⟨g, 0, none⟩) l.length cap) rfl (by kernel_rfl) (by kernel_rfl) (by kernel_rfl) (fun _ _ _ h => h) (fun oi ho => yields_now ho rfl fun Z hSw => ?_) hS0 ?_
  · obtain ⟨s1, s2, s3⟩ := hSw
    go_simp
  simp only [Act.put, List.setIfInBounds_toArray, List.set_cons_zero, List.set_cons_succ]
  refine takeD (i := 9) (d := 19) (v := .int .i64 (r : Int)) rfl (by kernel_rfl) (by kernel_rfl) (by kernel_rfl) (fun _ _ _ h => h) (fun oi ho => yields_now ho rfl fun Z hSw => ?_) hS0 ?_
  · obtain ⟨s1, s2, s3⟩ := hSw
    go_simp
  simp only [Act.put, List.setIfInBounds_toArray, List.set_cons_zero, List.set_cons_succ]
  refine takeD (i := 10) (d := 20) (v := .pointer (some ⟨g, r * 3, none⟩)) rfl (by kernel_rfl) (by kernel_rfl) (by kernel_rfl) (fun _ _ _ h => h) (fun oi ho => yields_now ho rfl fun Z hSw => ?_) hS0 ?_
  · obtain ⟨s1, s2, s3⟩ := hSw
    go_simp
  simp only [Act.put, List.setIfInBounds_toArray, List.set_cons_zero, List.set_cons_succ]
  refine takeD (i := 11) (d := 21) (v := .pointer (some ⟨g, r * 3, none⟩)) rfl (by kernel_rfl) (by kernel_rfl) (by kernel_rfl) (fun _ _ _ h => h) (fun oi ho => yields_now ho rfl fun Z hSw => ?_) hS0 ?_
  · obtain ⟨s1, s2, s3⟩ := hSw
    go_simp
  simp only [Act.put, List.setIfInBounds_toArray, List.set_cons_zero, List.set_cons_succ]
  refine takeD (i := 12) (d := 22) (v := .slice ao N cp) rfl (by kernel_rfl) (by kernel_rfl) (by kernel_rfl) (fun _ _ _ h => h) (fun oi ho => yields_now ho rfl fun Z hSw => ?_) hS0 ?_
  · obtain ⟨s1, s2, s3⟩ := hSw
    go_simp
  simp only [Act.put, List.setIfInBounds_toArray, List.set_cons_zero, List.set_cons_succ]
  refine takeD (i := 13) (d := 23) (v := .slice ac N cc) rfl (by kernel_rfl) (by kernel_rfl) (by kernel_rfl) (fun _ _ _ h => h) (fun oi ho => yields_now ho rfl fun Z hSw => ?_) hS0 ?_
  · obtain ⟨s1, s2, s3⟩ := hSw
    go_simp
  simp only [Act.put, List.setIfInBounds_toArray, List.set_cons_zero, List.set_cons_succ]
  refine wpAnyH_all (rs := [14]) (by kernel_rfl) (by simp) (fun i hi => ?_)
  obtain rfl := List.mem_singleton.1 hi
  refine wpOp_call rfl rfl rfl (by go_simp) (cE) ?_
  rintro e w3 ⟨rfl, hb3⟩
  have HB3 : Aside (Below W.heap.size W w3) := hB1.trans (hb3.mono hB1.size)
  have hS3 := hSS w3 hb3
  refine ⟨_, rfl, hS3, ?_⟩
  simp only [Act.put, List.setIfInBounds_toArray, List.set_cons_zero, List.set_cons_succ]
  refine takeD (i := 15) (d := 25) (v := .bool false) rfl (by kernel_rfl) (by kernel_rfl) (by kernel_rfl) (fun _ _ _ h => h) (fun oi ho => yields_now ho rfl fun Z hSw => ?_) hS3 ?_
  · obtain ⟨s1, s2, s3⟩ := hSw
    go_simp
  simp only [Act.put, List.setIfInBounds_toArray, List.set_cons_zero, List.set_cons_succ]
  refine takeD (i := 16) (d := 26) (v := .bool false) rfl (by kernel_rfl) (by kernel_rfl) (by kernel_rfl) (fun _ _ _ h => h) (fun oi ho => yields_now ho rfl fun Z hSw => ?_) hS3 ?_
  · obtain ⟨s1, s2, s3⟩ := hSw
    go_simp
  simp only [Act.put, List.setIfInBounds_toArray, List.set_cons_zero, List.set_cons_succ]
  refine wpAnyH_done (by kernel_rfl) ?_ _
  clear hS3 hSS hS0 cE cL hb3
  go_wp2
  go_ret2
  exact ⟨rfl, HB3.out⟩
end Go.Proofs.YtjgmmfkeogkakaaGreat.Utf
/-
  The program's Find, of any cells.
-/
namespace Go.Proofs.YtjgmmfkeogkakaaGreat.Utf
open Go Go.Lib Go.RowKit

theorem yields_notF {P : Program} {ops : Array Oper} {S : World → Prop} {o oi : Oper} {a : Act} (ho : some o = some oi) (hw : Region.wanted o (yielded ops a.tmps) = false) : YieldsIf P ops S oi undef a := by
  obtain rfl := Option.some.inj ho
  exact Or.inr ⟨hw, rfl⟩
/-- What Find answers. -/
def FoundQ (W : World) (l : List (List Int × Int)) (c : List Int) (e : Ending) (w' : World) : Prop := ((∃ k : Nat, ∃ h : k < l.length, l[k].1 = c ∧ e = .returned (.tuple #[.int .i64 (k : Nat), .bool true])) ∨ ((∀ x ∈ l, x.1 ≠ c) ∧ e = .returned (.tuple #[.int .i64 0, .bool false]))) ∧ Below W.heap.size W w'

set_option maxRecDepth 100000 in
set_option maxHeartbeats 4000000 in
theorem findG_any {W : World} {base xb : Nat} {L : List ByteArray} {l : List (List Int × Int)} (h : IsLex W base xb L l) (hl : l.length ≤ 1000) (hs : SortL l) (h32 : ∀ x ∈ l, x.1.length ≤ 32) (c : List Int) (hcl : c.length ≤ 1048576) (ac : Option Addr) (cc : Nat) (hR : ReadsO W ac (ints c)) :
    Calls Tryz.prog 9 #[.pointer (some ⟨xb, 0, none⟩), .slice ac c.length cc] W (FoundQ W l c) := by
  have hb0 := below_box' W (.cells #[.slice ac c.length cc] 24)
  have hX0 := h.below hb0
  have hc0 : (W.alloc (.cells #[.slice ac c.length cc] 24)).cell? ⟨W.heap.size, 0, none⟩ = some (.slice ac c.length cc) := box_at W _ 24 0 rfl
  have c1 := first_any hX0 hl (fun x => decide (0 ≤ ordI x c)) 33 #[.pointer (some ⟨W.heap.size, 0, none⟩)] (enters_of Tryz.func33 (by kernel_rfl) rfl)
    (fun x ao cp w hx hb hr => findF_any x c ao ac cp cc W.heap.size w (h32 x hx) hr ((hb.cell (p := ⟨W.heap.size, 0, none⟩) (by simp)).trans hc0) ((hR.below hb0).below hb))
    (fun i j hi hj hij hp => decide_eq_true (ord_mono hs c hi hj hij (of_decide_eq_true hp)))
  have hX : ∀ Z, Below W.heap.size W Z → IsLex Z base xb L l := fun Z hb => h.below hb
  go_enter Tryz.func9, Tryz.ntmps9
  go_wp2_with fail
  refine c1.mono ?_
  rintro e w1 ⟨⟨r, rfl, hr1, hr2⟩, hb1⟩
  have hB1 : Below W.heap.size W w1.drew := Below.drew (hb0.trans (hb1.mono (by simp)))
  have hX1 := hX w1.drew hB1
  have cL := len_any hX1
  have hne : ∀ i (hi : i < l.length), l[i].1 = c → i = r := fun i hi e => by
    have hself : 0 ≤ ordI l[i].1 c := by rw [e, ordI_zero.2 rfl]; exact Int.le_refl _
    have h1 := (hr2 i hi).1 (decide_eq_true hself)
    have h2 := of_decide_eq_true ((hr2 r (by omega)).2 (Nat.le_refl _))
    rcases Nat.lt_or_ge r i with h3 | h3
    · have h4 := (List.pairwise_iff_getElem.1 hs) r i (by omega) hi h3
      rw [e] at h4
      omega
    · omega
  by_cases hrl : r = l.length
  · have hrz : ((r : Int) == (l.length : Int)) = true := by rw [beq_iff_eq]; omega
    have HQ : Aside (∀ x ∈ l, x.1 ≠ c) := fun x hx e => by
      obtain ⟨i, hi, rfl⟩ := List.mem_iff_getElem.1 hx
      have := hne i hi e
      omega
    have HB : Aside (Below W.heap.size W w1.drew) := hB1
    have hS0 : True ∧ True ∧ True := ⟨trivial, trivial, trivial⟩
    clear c1 hr2 hne hX hX0 hc0 hb0 hb1 hX1 h hr1 hrl hB1
    generalize l.length = n at *
    go_wp2
    refine wp_region_held (S := fun _ => True ∧ True ∧ True) (by kernel_rfl) ?_
    refine (show wpAnyH _ .any _ _ _ 17 (Array.replicate 17 false) _ w1.drew from ?_)
    refine takeD (i := 0) (d := 10) (v := .int .i64 (r : Int)) rfl (by kernel_rfl) (by kernel_rfl) (by kernel_rfl) (fun _ _ _ h => h) (fun oi ho => yields_now ho rfl fun Z hSw => ?_) hS0 ?_
    · obtain ⟨s1, s2, s3⟩ := hSw
      go_simp
    simp only [Act.put, List.setIfInBounds_toArray, List.set_cons_zero, List.set_cons_succ]
    refine takeD (i := 1) (d := 11) (v := .pointer (some ⟨xb, 0, none⟩)) rfl (by kernel_rfl) (by kernel_rfl) (by kernel_rfl) (fun _ _ _ h => h) (fun oi ho => yields_now ho rfl fun Z hSw => ?_) hS0 ?_
    · obtain ⟨s1, s2, s3⟩ := hSw
      go_simp
    simp only [Act.put, List.setIfInBounds_toArray, List.set_cons_zero, List.set_cons_succ]
    refine wpAnyH_all (rs := [2]) (by kernel_rfl) (by simp) (fun i hi => ?_)
    obtain rfl := List.mem_singleton.1 hi
    refine wpOp_call rfl rfl rfl (by go_simp) (cL) ?_
    rintro e w2 ⟨rfl, hw⟩
    obtain rfl := hw.symm
    clear hw
    refine ⟨_, rfl, hS0, ?_⟩
    simp only [Act.put, List.setIfInBounds_toArray, List.set_cons_zero, List.set_cons_succ]
    refine takeD (i := 3) (d := 13) (v := .bool true) rfl (by kernel_rfl) (by kernel_rfl) (by kernel_rfl) (fun _ _ _ h => h) (fun oi ho => yields_now ho rfl fun Z hSw => ?_) hS0 ?_
    · obtain ⟨s1, s2, s3⟩ := hSw
      go_simp
    simp only [Act.put, List.setIfInBounds_toArray, List.set_cons_zero, List.set_cons_succ]
    refine takeD (i := 4) (d := 14) (v := .bool true) rfl (by kernel_rfl) (by kernel_rfl) (by kernel_rfl) (fun _ _ _ h => h) (fun oi ho => yields_now ho rfl fun Z hSw => ?_) hS0 ?_
    · obtain ⟨s1, s2, s3⟩ := hSw
      go_simp
    simp only [Act.put, List.setIfInBounds_toArray, List.set_cons_zero, List.set_cons_succ]
    refine takeD (i := 5) (d := 15) (v := undef) rfl (by kernel_rfl) (by kernel_rfl) (by kernel_rfl) (fun _ _ _ h => h) (fun oi ho => yields_notF ho (by kernel_rfl)) hS0 ?_
    simp only [Act.put, List.setIfInBounds_toArray, List.set_cons_zero, List.set_cons_succ]
    refine takeD (i := 6) (d := 16) (v := undef) rfl (by kernel_rfl) (by kernel_rfl) (by kernel_rfl) (fun _ _ _ h => h) (fun oi ho => yields_notF ho (by kernel_rfl)) hS0 ?_
    simp only [Act.put, List.setIfInBounds_toArray, List.set_cons_zero, List.set_cons_succ]
    refine takeD (i := 7) (d := 17) (v := undef) rfl (by kernel_rfl) (by kernel_rfl) (by kernel_rfl) (fun _ _ _ h => h) (fun oi ho => yields_notF ho (by kernel_rfl)) hS0 ?_
    simp only [Act.put, List.setIfInBounds_toArray, List.set_cons_zero, List.set_cons_succ]
    refine takeD (i := 8) (d := 18) (v := undef) rfl (by kernel_rfl) (by kernel_rfl) (by kernel_rfl) (fun _ _ _ h => h) (fun oi ho => yields_notF ho (by kernel_rfl)) hS0 ?_
    simp only [Act.put, List.setIfInBounds_toArray, List.set_cons_zero, List.set_cons_succ]
    refine takeD (i := 9) (d := 19) (v := undef) rfl (by kernel_rfl) (by kernel_rfl) (by kernel_rfl) (fun _ _ _ h => h) (fun oi ho => yields_notF ho (by kernel_rfl)) hS0 ?_
    simp only [Act.put, List.setIfInBounds_toArray, List.set_cons_zero, List.set_cons_succ]
    refine takeD (i := 10) (d := 20) (v := undef) rfl (by kernel_rfl) (by kernel_rfl) (by kernel_rfl) (fun _ _ _ h => h) (fun oi ho => yields_notF ho (by kernel_rfl)) hS0 ?_
    simp only [Act.put, List.setIfInBounds_toArray, List.set_cons_zero, List.set_cons_succ]
    refine takeD (i := 11) (d := 21) (v := undef) rfl (by kernel_rfl) (by kernel_rfl) (by kernel_rfl) (fun _ _ _ h => h) (fun oi ho => yields_notF ho (by kernel_rfl)) hS0 ?_
    simp only [Act.put, List.setIfInBounds_toArray, List.set_cons_zero, List.set_cons_succ]
    refine takeD (i := 12) (d := 22) (v := undef) rfl (by kernel_rfl) (by kernel_rfl) (by kernel_rfl) (fun _ _ _ h => h) (fun oi ho => yields_notF ho (by kernel_rfl)) hS0 ?_
    simp only [Act.put, List.setIfInBounds_toArray, List.set_cons_zero, List.set_cons_succ]
    refine takeD (i := 13) (d := 23) (v := undef) rfl (by kernel_rfl) (by kernel_rfl) (by kernel_rfl) (fun _ _ _ h => h) (fun oi ho => yields_notF ho (by kernel_rfl)) hS0 ?_
    simp only [Act.put, List.setIfInBounds_toArray, List.set_cons_zero, List.set_cons_succ]
    refine takeD (i := 14) (d := 24) (v := undef) rfl (by kernel_rfl) (by kernel_rfl) (by kernel_rfl) (fun _ _ _ h => h) (fun oi ho => yields_notF ho (by kernel_rfl)) hS0 ?_
    simp only [Act.put, List.setIfInBounds_toArray, List.set_cons_zero, List.set_cons_succ]
    refine takeD (i := 15) (d := 25) (v := undef) rfl (by kernel_rfl) (by kernel_rfl) (by kernel_rfl) (fun _ _ _ h => h) (fun oi ho => yields_notF ho (by kernel_rfl)) hS0 ?_
    simp only [Act.put, List.setIfInBounds_toArray, List.set_cons_zero, List.set_cons_succ]
    refine takeD (i := 16) (d := 26) (v := .bool true) rfl (by kernel_rfl) (by kernel_rfl) (by kernel_rfl) (fun _ _ _ h => h) (fun oi ho => yields_now ho rfl fun Z hSw => ?_) hS0 ?_
    · obtain ⟨s1, s2, s3⟩ := hSw
      go_simp
    simp only [Act.put, List.setIfInBounds_toArray, List.set_cons_zero, List.set_cons_succ]
    refine wpAnyH_done (by kernel_rfl) ?_ _
    clear hS0 cL
    go_wp2
    go_ret2
    exact ⟨.inr ⟨HQ.out, rfl⟩, HB.out⟩
  · have hrk : r < l.length := by omega
    obtain ⟨⟨wo, cap, k1, k2⟩, _⟩ := hX1
    obtain ⟨g, ao, cp, rfl, e2, e3, e4, _, _⟩ := k2 r hrk
    rw [Nat.add_zero] at e3
    have cx : w1.drew.cell? ⟨xb, 0, none⟩ = some (.slice (some ⟨g, 0, none⟩) l.length cap) := (show Boxed w1.drew xb 79 _ from k1).cell
    have hxl : xb < w1.drew.heap.size := (Array.getElem?_eq_some_iff.1 k1).1
    have cb : w1.drew.cell? ⟨W.heap.size, 0, none⟩ = some (.slice ac c.length cc) := (hb1.cell (p := ⟨W.heap.size, 0, none⟩) (by simp)).trans hc0
    have hbl : W.heap.size < w1.drew.heap.size := by have := hb1.size; rw [World.size_alloc] at this; show W.heap.size < w1.heap.size; omega
    have hrc : ReadsO w1.drew ac (ints c) := hR.below hB1
    have hr32 := h32 _ (List.getElem_mem hrk)
    have cE0 := equal_any l[r].1 c ao ac cp cc w1.drew (by omega) (by omega) e4.1 hrc
    obtain ⟨be, hbe⟩ : ∃ be : Bool, be = decide (l[r].1 = c) := ⟨_, rfl⟩
    have cE : Calls Tryz.prog 35 #[.slice ao l[r].1.length cp, .slice ac c.length cc] w1.drew fun e w' => e = .returned (.bool be) ∧ Below w1.drew.heap.size w1.drew w' := cE0.mono fun e w' hh => by
      rcases hh with ⟨⟨hq, he⟩ | ⟨hno, he⟩, hb⟩
      · exact ⟨by rw [he, hbe, decide_eq_true hq], hb⟩
      · exact ⟨by rw [he, hbe, decide_eq_false hno], hb⟩
    have HQ : Aside ((be = true → ∃ h : r < l.length, l[r].1 = c) ∧ (be = false → ∀ x ∈ l, x.1 ≠ c)) := ⟨fun hb => ⟨hrk, by rw [hb] at hbe; exact of_decide_eq_true hbe.symm⟩, fun hb x hx e => by
      obtain ⟨i, hi, rfl⟩ := List.mem_iff_getElem.1 hx
      have h1 := hne i hi e
      subst h1
      rw [hb] at hbe
      exact (of_decide_eq_false hbe.symm) e⟩
    have hrlz : ((r : Int) == (l.length : Int)) = false := by rw [beq_eq_false_iff_ne]; omega
    have hrz : (r : Int) < (l.length : Int) := by omega
    obtain ⟨M, hM⟩ : ∃ M, l[r].1.length = M := ⟨_, rfl⟩
    obtain ⟨N, hN⟩ : ∃ N, c.length = N := ⟨_, rfl⟩
    rw [hM] at cE e3
    rw [hN] at cE cb ⊢
    have hSS : ∀ Z, Below w1.drew.heap.size w1.drew Z → Z.cell? ⟨xb, 0, none⟩ = some (.slice (some ⟨g, 0, none⟩) l.length cap) ∧ Z.cell? ⟨g, r * 3, none⟩ = some (.slice ao M cp) ∧ Z.cell? ⟨W.heap.size, 0, none⟩ = some (.slice ac N cc) := fun Z hZ => ⟨(hZ.cell (p := ⟨xb, 0, none⟩) hxl).trans cx, (hZ.cell (p := ⟨g, r * 3, none⟩) e2.2).trans e3, (hZ.cell (p := ⟨W.heap.size, 0, none⟩) hbl).trans cb⟩
    have hS0 := hSS _ (Below.refl _ _)
    clear c1 hr2 k1 k2 e4 cE0 hX hX0 hc0 hb0 hb1 hrc hbl cx cb e3 hne hM hN hbe hr32 hrl
    go_wp2
    refine wp_region_held (S := fun Z => Z.cell? ⟨xb, 0, none⟩ = some (.slice (some ⟨g, 0, none⟩) l.length cap) ∧ Z.cell? ⟨g, r * 3, none⟩ = some (.slice ao M cp) ∧ Z.cell? ⟨W.heap.size, 0, none⟩ = some (.slice ac N cc)) (by kernel_rfl) ?_
    refine (show wpAnyH _ .any _ _ _ 17 (Array.replicate 17 false) _ w1.drew from ?_)
    refine takeD (i := 0) (d := 10) (v := .int .i64 (r : Int)) rfl (by kernel_rfl) (by kernel_rfl) (by kernel_rfl) (fun _ _ _ h => h) (fun oi ho => yields_now ho rfl fun Z hSw => ?_) hS0 ?_
    · obtain ⟨s1, s2, s3⟩ := hSw
      go_simp
    simp only [Act.put, List.setIfInBounds_toArray, List.set_cons_zero, List.set_cons_succ]
    refine takeD (i := 1) (d := 11) (v := .pointer (some ⟨xb, 0, none⟩)) rfl (by kernel_rfl) (by kernel_rfl) (by kernel_rfl) (fun _ _ _ h => h) (fun oi ho => yields_now ho rfl fun Z hSw => ?_) hS0 ?_
    · obtain ⟨s1, s2, s3⟩ := hSw
      go_simp
    simp only [Act.put, List.setIfInBounds_toArray, List.set_cons_zero, List.set_cons_succ]
    refine wpAnyH_all (rs := [2]) (by kernel_rfl) (by simp) (fun i hi => ?_)
    obtain rfl := List.mem_singleton.1 hi
    refine wpOp_call rfl rfl rfl (by go_simp) (cL) ?_
    rintro e w2 ⟨rfl, hw⟩
    obtain rfl := hw.symm
    clear hw
    refine ⟨_, rfl, hS0, ?_⟩
    simp only [Act.put, List.setIfInBounds_toArray, List.set_cons_zero, List.set_cons_succ]
    refine takeD (i := 3) (d := 13) (v := .bool false) rfl (by kernel_rfl) (by kernel_rfl) (by kernel_rfl) (fun _ _ _ h => h) (fun oi ho => yields_now ho rfl fun Z hSw => ?_) hS0 ?_
    · obtain ⟨s1, s2, s3⟩ := hSw
      go_simp
    simp only [Act.put, List.setIfInBounds_toArray, List.set_cons_zero, List.set_cons_succ]
    refine takeD (i := 4) (d := 14) (v := .bool false) rfl (by kernel_rfl) (by kernel_rfl) (by kernel_rfl) (fun _ _ _ h => h) (fun oi ho => yields_now ho rfl fun Z hSw => ?_) hS0 ?_
    · obtain ⟨s1, s2, s3⟩ := hSw
      go_simp
    simp only [Act.put, List.setIfInBounds_toArray, List.set_cons_zero, List.set_cons_succ]
    refine takeD (i := 5) (d := 15) (v := .pointer (some ⟨xb, 0, none⟩)) rfl (by kernel_rfl) (by kernel_rfl) (by kernel_rfl) (fun _ _ _ h => h) (fun oi ho => yields_now ho rfl fun Z hSw => ?_) hS0 ?_
    · obtain ⟨s1, s2, s3⟩ := hSw
      go_simp
    simp only [Act.put, List.setIfInBounds_toArray, List.set_cons_zero, List.set_cons_succ]
    refine takeD (i := 6) (d := 16) (v := .pointer (some ⟨xb, 0, none⟩)) rfl (by kernel_rfl) (by kernel_rfl) (by kernel_rfl) (fun _ _ _ h => h) (fun oi ho => yields_now ho rfl fun Z hSw => ?_) hS0 ?_
    · obtain ⟨s1, s2, s3⟩ := hSw
      go_simp
    simp only [Act.put, List.setIfInBounds_toArray, List.set_cons_zero, List.set_cons_succ]
    refine takeD (i := 7) (d := 17) (v := .pointer (some ⟨xb, 0, none⟩)) rfl (by kernel_rfl) (by kernel_rfl) (by kernel_rfl) (fun _ _ _ h => h) (fun oi ho => yields_now ho rfl fun Z hSw => ?_) hS0 ?_
    · obtain ⟨s1, s2, s3⟩ := hSw
      go_simp
    simp only [Act.put, List.setIfInBounds_toArray, List.set_cons_zero, List.set_cons_succ]
    refine takeD (i := 8) (d := 18) (v := .slice (some ⟨g, 0, none⟩) l.length cap) rfl (by kernel_rfl) (by kernel_rfl) (by kernel_rfl) (fun _ _ _ h => h) (fun oi ho => yields_now ho rfl fun Z hSw => ?_) hS0 ?_
    · obtain ⟨s1, s2, s3⟩ := hSw
      go_simp
    simp only [Act.put, List.setIfInBounds_toArray, List.set_cons_zero, List.set_cons_succ]
    refine takeD (i := 9) (d := 19) (v := .int .i64 (r : Int)) rfl (by kernel_rfl) (by kernel_rfl) (by kernel_rfl) (fun _ _ _ h => h) (fun oi ho => yields_now ho rfl fun Z hSw => ?_) hS0 ?_
    · obtain ⟨s1, s2, s3⟩ := hSw
      go_simp
    simp only [Act.put, List.setIfInBounds_toArray, List.set_cons_zero, List.set_cons_succ]
    refine takeD (i := 10) (d := 20) (v := .pointer (some ⟨g, r * 3, none⟩)) rfl (by kernel_rfl) (by kernel_rfl) (by kernel_rfl) (fun _ _ _ h => h) (fun oi ho => yields_now ho rfl fun Z hSw => ?_) hS0 ?_
    · obtain ⟨s1, s2, s3⟩ := hSw
      go_simp
    simp only [Act.put, List.setIfInBounds_toArray, List.set_cons_zero, List.set_cons_succ]
    refine takeD (i := 11) (d := 21) (v := .pointer (some ⟨g, r * 3, none⟩)) rfl (by kernel_rfl) (by kernel_rfl) (by kernel_rfl) (fun _ _ _ h => h) (fun oi ho => yields_now ho rfl fun Z hSw => ?_) hS0 ?_
    · obtain ⟨s1, s2, s3⟩ := hSw
      go_simp
    simp only [Act.put, List.setIfInBounds_toArray, List.set_cons_zero, List.set_cons_succ]
    refine takeD (i := 12) (d := 22) (v := .slice ao M cp) rfl (by kernel_rfl) (by kernel_rfl) (by kernel_rfl) (fun _ _ _ h => h) (fun oi ho => yields_now ho rfl fun Z hSw => ?_) hS0 ?_
    · obtain ⟨s1, s2, s3⟩ := hSw
      go_simp
    simp only [Act.put, List.setIfInBounds_toArray, List.set_cons_zero, List.set_cons_succ]
    refine takeD (i := 13) (d := 23) (v := .slice ac N cc) rfl (by kernel_rfl) (by kernel_rfl) (by kernel_rfl) (fun _ _ _ h => h) (fun oi ho => yields_now ho rfl fun Z hSw => ?_) hS0 ?_
    · obtain ⟨s1, s2, s3⟩ := hSw
      go_simp
    simp only [Act.put, List.setIfInBounds_toArray, List.set_cons_zero, List.set_cons_succ]
    refine wpAnyH_all (rs := [14]) (by kernel_rfl) (by simp) (fun i hi => ?_)
    obtain rfl := List.mem_singleton.1 hi
    refine wpOp_call rfl rfl rfl (by go_simp) (cE) ?_
    rintro e w3 ⟨rfl, hb3⟩
    have HB3 : Aside (Below W.heap.size W w3) := hB1.trans (hb3.mono hB1.size)
    have hS3 := hSS w3 hb3
    refine ⟨_, rfl, hS3, ?_⟩
    simp only [Act.put, List.setIfInBounds_toArray, List.set_cons_zero, List.set_cons_succ]
    refine takeD (i := 15) (d := 25) (v := .bool (!be)) rfl (by kernel_rfl) (by kernel_rfl) (by kernel_rfl) (fun _ _ _ h => h) (fun oi ho => yields_now ho rfl fun Z hSw => ?_) hS3 ?_
    · obtain ⟨s1, s2, s3⟩ := hSw
      go_simp
    simp only [Act.put, List.setIfInBounds_toArray, List.set_cons_zero, List.set_cons_succ]
    refine takeD (i := 16) (d := 26) (v := .bool (!be)) rfl (by kernel_rfl) (by kernel_rfl) (by kernel_rfl) (fun _ _ _ h => h) (fun oi ho => yields_now ho rfl fun Z hSw => ?_) hS3 ?_
    · obtain ⟨s1, s2, s3⟩ := hSw
      go_simp
    simp only [Act.put, List.setIfInBounds_toArray, List.set_cons_zero, List.set_cons_succ]
    refine wpAnyH_done (by kernel_rfl) ?_ _
    clear hS3 hSS hS0 cE cL hb3
    cases be with
    | true =>
      go_wp2
      go_ret2
      exact ⟨.inl ⟨r, (HQ.out.1 trivial).1, (HQ.out.1 trivial).2, rfl⟩, HB3.out⟩
    | false =>
      go_wp2
      go_ret2
      exact ⟨.inr ⟨HQ.out.2 trivial, rfl⟩, HB3.out⟩
end Go.Proofs.YtjgmmfkeogkakaaGreat.Utf
