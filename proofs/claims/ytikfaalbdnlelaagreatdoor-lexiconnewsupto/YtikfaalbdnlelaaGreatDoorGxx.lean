/-
  The document's Decimal, below 1000 (as Nmb and Nmc have it, at a cut without slots).
-/
import Derived.Test.YtikfaalbdnlelaaGreatDoorGxm
import Derived.Test.YtikfaalbdnlelaaGreatDoorGxt
import Derived.Deep.CutRange
import Derived.Deep.RegionWith
import Derived.Test.YtikfaalbdnlelaaGreatDoorGxv
import Derived.Test.YtikfaalbdnlelaaGreatDoorGxp
import Derived.Test.YtikfaalbdnlelaaGreatDoorRjnq
import Derived.Test.YtikfaalbdnlelaaGreatDoorEqiq
import Derived.Test.YtikfaalbdnlelaaGreatDoorGxd
import Derived.Test.YtikfaalbdnlelaaGreatDoorGxw
namespace Go.Proofs.YtikfaalbdnlelaaGreatDoor.Grd
open Go Go.Lib Go.RowKit

theorem cells_box (w : World) (cs : Array Value) (t : TypeId) (j : Nat) : (w.alloc (.cells cs t)).cell? ⟨w.heap.size, j, none⟩ = cs[j]? := by
  have hn : (w.alloc (.cells cs t)).heap[w.heap.size]? = some (.cells cs t) := by unfold World.alloc; simp
  simp only [World.cell?]
  rw [hn]
  rfl
theorem below_box (w : World) (o : Obj) : Below w.heap.size w (w.alloc o) := (Below.refl _ _).alloc (Nat.le_refl _) o
theorem byte_string (W : World) (y : Nat) (hy : y < 256) :
    (convert 84 9 (.slice (some ⟨W.heap.size, 0, none⟩) 1 1)).run Tryz.prog (W.alloc (.cells #[.int .u8 (y : Int)] 5)) = .ok (.string ⟨#[UInt8.ofNat y]⟩) (W.alloc (.cells #[.int .u8 (y : Int)] 5)) := by
  refine run_convert_bytes_back _ 84 9 5 ⟨W.heap.size, 0, none⟩ 1 [UInt8.ofNat y] Tryz.underlying84 Tryz.underlying5 Tryz.underlying9 (fun j hj => ?_)
  obtain rfl : j = 0 := by simp at hj; omega
  rw [Addr.add_lit, cells_box]
  have : (UInt8.ofNat y).toNat = y := by rw [UInt8.toNat_ofNat']; exact Nat.mod_eq_of_lt (by omega)
  simp [this]
set_option maxRecDepth 20000 in
theorem dec_one (n : Nat) (h : n < 10) (w : World) :
    Calls Tryz.prog 62 #[.int .i64 n] w fun e w' => e = .returned (.string ⟨(dig3 n).toArray⟩) ∧ Below w.heap.size w w' := by
  have HV : Aside (dig3 n = [UInt8.ofNat (48 + n)]) := if_pos h
  have hz : (n : Int) < 10 := by omega
  have hcv := fun W => byte_string W (48 + n) (by omega)
  have hx1 : ((48 + n : Nat) : Int) ≤ 255 := by omega
  have hx0 : 0 ≤ ((48 + n : Nat) : Int) := by omega
  have HB : Aside (Below w.heap.size w (w.alloc (.cells #[.int .u8 ((48 + n : Nat) : Int)] 5))) := below_box _ _
  obtain ⟨y, hy⟩ : ∃ y, 48 + n = y := ⟨_, rfl⟩
  have hxx : (48 : Int) + (n : Int) = (y : Int) := by omega
  rw [hy] at hcv hx1 hx0 HB HV
  clear hy
  go_enter Tryz.func62, Tryz.ntmps62
  go_wp2
  go_ret
  exact ⟨by rw [HV.out]; rfl, HB.out⟩
theorem byte_kept {W w' : World} {v : Value} {t : TypeId} (h : Below (W.alloc (.cells #[v] t)).drew.heap.size (W.alloc (.cells #[v] t)).drew w') : w'.cell? ⟨W.heap.size, 0, none⟩ = some v := by
  have hb : Below W.heap.size W (W.alloc (.cells #[v] t)).drew := Below.drew (below_box _ _)
  rw [h.cell (p := ⟨W.heap.size, 0, none⟩) (show W.heap.size < (W.alloc (.cells #[v] t)).heap.size by rw [World.size_alloc]; omega)]
  show (W.alloc (.cells #[v] t)).cell? _ = _
  rw [cells_box]
  rfl
theorem byte_conv (W : World) (b y : Nat) (hy : y < 256) (hc : W.cell? ⟨b, 0, none⟩ = some (.int .u8 (y : Int))) :
    (convert 84 9 (.slice (some ⟨b, 0, none⟩) 1 1)).run Tryz.prog W = .ok (.string ⟨#[UInt8.ofNat y]⟩) W := by
  refine run_convert_bytes_back _ 84 9 5 ⟨b, 0, none⟩ 1 [UInt8.ofNat y] Tryz.underlying84 Tryz.underlying5 Tryz.underlying9 (fun j hj => ?_)
  obtain rfl : j = 0 := by simp at hj; omega
  rw [Addr.add_lit]
  have : (UInt8.ofNat y).toNat = y := by rw [UInt8.toNat_ofNat']; exact Nat.mod_eq_of_lt (by omega)
  simpa [this] using hc
set_option maxRecDepth 20000 in
set_option maxHeartbeats 2000000 in
/-- One digit more. -/
theorem dec_more (n q r : Nat) (D : List UInt8) (hn : ¬ n < 10) (hl : n < 1000) (hq : n / 10 = q) (hr : n % 10 = r) (hD : D.length ≤ 3) (w : World)
    (CD : ∀ W, Calls Tryz.prog 62 #[.int .i64 q] W fun e w' => e = .returned (.string ⟨D.toArray⟩) ∧ Below W.heap.size W w') :
    Calls Tryz.prog 62 #[.int .i64 n] w fun e w' => e = .returned (.string ⟨(D ++ [UInt8.ofNat (48 + r)]).toArray⟩) ∧ Below w.heap.size w w' := by
  have hz : ¬ (n : Int) < 10 := by omega
  have hd : (n : Int) / 10 = (q : Int) := by omega
  have hm : (n : Int) % 10 = (r : Int) := by omega
  have hr10 : r < 10 := by omega
  have hq100 : q < 100 := by omega
  obtain ⟨y, hy⟩ : ∃ y, 48 + r = y := ⟨_, rfl⟩
  rw [hy]
  have hx : (48 : Int) + (r : Int) = (y : Int) := by omega
  have hx1 : (y : Int) ≤ 255 := by omega
  have hx0 : 0 ≤ (y : Int) := by omega
  have hcv := fun W => byte_string W y (by omega)
  have hcw := fun W b => byte_conv W b y (by omega)
  have hw1 : IntKind.i64.wrap (q : Int) = (q : Int) := by simp [IntKind.wrap, IntKind.signed, IntKind.bits]; omega
  have hmt : (n : Int).tmod 10 = (r : Int) := by rw [Int.tmod_eq_emod_of_nonneg (by omega)]; exact hm
  have hw2 : IntKind.i64.wrap (y : Int) = (y : Int) := by simp [IntKind.wrap, IntKind.signed, IntKind.bits]; omega
  have hw3 : IntKind.u8.wrap (y : Int) = (y : Int) := by simp [IntKind.wrap, IntKind.signed, IntKind.bits]; omega
  have hB0 : Below w.heap.size w w.drew := Below.drew (Below.refl _ _)
  have hB1 : Below w.heap.size w (w.alloc (.cells #[.int .u8 (y : Int)] 5)).drew := Below.drew (below_box _ _)
  have cA := CD (w.alloc (.cells #[.int .u8 (y : Int)] 5)).drew
  have cB := CD w.drew
  clear hq hr hy CD hr10
  go_enter Tryz.func62, Tryz.ntmps62
  go_wp2
  go_region_with (first
    | (go_at_call 62; with_reducible refine cA.mono ?_; rintro e w1 ⟨rfl, hb1⟩; have hc1 := byte_kept hb1; have HE := hB1.trans (hb1.mono hB1.size); clear cA cB)
    | (go_at_call 62; with_reducible refine cB.mono ?_; rintro e w1 ⟨rfl, hb1⟩; have HE := hB0.trans (hb1.mono hB0.size); clear cA cB))
  all_goals (try go_simp)
  all_goals (go_wp2_with fail)
  all_goals go_ret
  all_goals first
    | exact ⟨rfl, HE⟩
    | exact ⟨rfl, HE.alloc HE.size _⟩
theorem dig3_more {n : Nat} (h1 : ¬ n < 10) (h : n < 1000) : dig3 (n / 10) ++ [UInt8.ofNat (48 + n % 10)] = dig3 n := by
  unfold dig3
  rw [if_neg h1]
  by_cases h2 : n < 100
  · rw [if_pos h2, if_pos (by omega)]
    rfl
  · rw [if_neg h2, if_neg (by omega), if_pos (by omega), Nat.div_div_eq_div_mul]
    rfl
theorem Decimal_any (n : Nat) (h : n < 1000) (w : World) :
    Calls Tryz.prog 62 #[.int .i64 n] w fun e w' => e = .returned (.string ⟨(dig3 n).toArray⟩) ∧ Below w.heap.size w w' := by
  by_cases h1 : n < 10
  · exact dec_one n h1 w
  · have two : ∀ m, m < 100 → ∀ W, Calls Tryz.prog 62 #[.int .i64 (m : Nat)] W fun e w' => e = .returned (.string ⟨(dig3 m).toArray⟩) ∧ Below W.heap.size W w' := fun m hm W => by
      by_cases hm1 : m < 10
      · exact dec_one m hm1 W
      · rw [← dig3_more hm1 (by omega)]
        exact dec_more m (m / 10) (m % 10) (dig3 (m / 10)) hm1 (by omega) rfl rfl (dig3_len _).2 W fun W' => dec_one (m / 10) (by omega) W'
    rw [← dig3_more h1 h]
    exact dec_more n (n / 10) (n % 10) (dig3 (n / 10)) h1 h rfl rfl (dig3_len _).2 w fun W' => two (n / 10) (by omega) W'
end Go.Proofs.YtikfaalbdnlelaaGreatDoor.Grd
/-
  The document's Text and Print, and its SameWord.
-/
namespace Go.Proofs.YtikfaalbdnlelaaGreatDoor.Utf
open Go Go.Lib Go.RowKit

theorem refText_any {W : World} (L : List ByteArray) (hLs : ∀ x ∈ L, x.size ≤ 12) (h40 : L.length ≤ 40) (al : Option Addr) (cl : Nat) (hRL : ReadsO W al (L.map Value.string)) {B : Nat} {v : Value} {es : List WdV} (h : IsWd B W v es) (_hes : es.length ≤ 1000) (k : Nat) (hk : k < es.length) (h32 : es[k].c.length ≤ 32) (hok : okNums L es[k].c) :
    Calls Tryz.prog 35 #[.slice al L.length cl, v, .int .i64 (k : Nat)] W fun e w' => e = .returned (.string (joinT L es[k].c)) ∧ Below W.heap.size W w' := by
  obtain ⟨ao, cap, rfl, -, -⟩ := h.slice
  obtain ⟨g, rfl, q1, q2⟩ := h.at' hk
  have hm := (h.mem es[k] (List.getElem_mem hk)).1
  have cJ := refJoin_any L hLs h40 al cl es[k].c es[k].ao es[k].cap W (by omega) hRL hm
  have h0z : ¬ (k : Int) < 0 := by omega
  have hkz : (k : Int) < (es.length : Int) := by omega
  have hkz2 : ¬ (es.length : Int) ≤ (k : Int) := by omega
  clear hm h
  generalize es[k].c = c at *
  generalize hN : c.length = N at *
  go_enter Tryz.func35, Tryz.ntmps35
  go_wp2_with fail
  refine cJ.mono ?_
  rintro e w2 ⟨⟨_, rfl⟩ | ⟨hno, rfl⟩, hb2⟩
  · go_wp2
    go_ret
    exact ⟨rfl, hb2⟩
  · exact absurd hok hno

set_option maxRecDepth 100000 in
set_option maxHeartbeats 4000000 in
theorem refPrint_any {W : World} (L : List ByteArray) (hLs : ∀ x ∈ L, x.size ≤ 12) (h40 : L.length ≤ 40) (al : Option Addr) (cl : Nat) (hRL : ReadsO W al (L.map Value.string)) {B : Nat} {v : Value} {es : List WdV} (h : IsWd B W v es) (hes : es.length ≤ 1000) (hok : okE L (toL es)) :
    Calls Tryz.prog 34 #[.slice al L.length cl, v] W fun e w' => e = .returned (.string ⟨(printB L (toL es)).toArray⟩) ∧ Below W.heap.size W w' := by
  obtain ⟨ao, cap, rfl, -, -⟩ := h.slice
  have H : Aside (∀ Z, Below W.heap.size W Z → IsWd B Z (.slice ao es.length cap) es) := fun Z hb => h.below hb
  have HRL : Aside (∀ Z, Below W.heap.size W Z → ReadsO Z al (L.map Value.string)) := fun Z hb => hRL.below hb
  have HOK : Aside (okE L (toL es)) := hok
  have HLS : Aside (∀ x ∈ L, x.size ≤ 12) := hLs
  have htl := toL_len es
  clear h hRL hok
  go_enter Tryz.func34, Tryz.ntmps34
  go_wp2
  go_loopg [5, 6] es.length (fun g1 vs vi wr => ∃ (k : Nat) (P : ByteArray), vi = .int .i64 (k : Int) ∧ vs = .string P ∧ k ≤ es.length ∧ es.length - k ≤ g1 ∧ P.size ≤ 400 * k ∧ Aside (P.data.toList = printB L ((toL es).take k)) ∧ Aside (Below W.heap.size W wr))
  case atStart => exact ⟨0, ⟨#[]⟩, rfl, rfl, Nat.zero_le _, Nat.le_refl _, Nat.le_refl _, rfl, Below.refl _ _⟩
  case round =>
    obtain ⟨k, P, rfl, rfl, hk, hg1, hP, HP, HB⟩ := hrel
    by_cases hlt : k < es.length
    · have hltz : (k : Int) < (es.length : Int) := by omega
      obtain ⟨g, rfl, q1, q2⟩ := (H.out wr HB.out).at' hlt
      have hkl : k < (toL es).length := by omega
      have hen := HOK.out _ (List.getElem_mem hkl)
      rw [toL_at hlt] at hen
      have hB0 : Below W.heap.size W wr.drew := Below.drew HB.out
      have cT := refText_any L HLS.out h40 al cl (HRL.out wr.drew hB0) (H.out wr.drew hB0) hes k hlt hen.1 hen.2.1
      have HNX := printB_next L (toL es) hkl
      rw [toL_at hlt] at HNX
      have hlen := lineE_len (L := L) HLS.out (x := (es[k].c, es[k].s)) hen.1
      have hgl : g < wr.drew.heap.size := ((H.out wr HB.out).row.lt g rfl).2
      obtain ⟨sn, hsn0⟩ : ∃ sn : Nat, es[k].s = (sn : Int) := ⟨es[k].s.toNat, by have := hen.2.2.1; simp only at this; omega⟩
      have hsn : sn < 1000 := by have := hen.2.2.2.1; simp only at this; omega
      simp only at HNX
      unfold lineE at hlen
      rw [hsn0] at q2 HNX hlen
      simp only [Int.toNat_natCast] at HNX hlen
      obtain ⟨X, hX⟩ : ∃ X, joinT L es[k].c = X := ⟨_, rfl⟩
      have hXl : joinL L es[k].c = X.data.toList := by rw [← hX]; rfl
      rw [hX] at cT
      rw [hXl] at HNX hlen
      have hXs : X.data.toList.length = X.size := ba_len X
      have hXb : X.size ≤ 400 := by
        rw [List.length_append, List.length_append] at hlen
        omega
      have hd3l := (Grd.dig3_len sn).2
      have hds : (⟨(Grd.dig3 sn).toArray⟩ : ByteArray).size ≤ 3 := by
        have h3 := (Grd.dig3_len sn).2
        have e : (⟨(Grd.dig3 sn).toArray⟩ : ByteArray).size = (Grd.dig3 sn).length := by simp [ByteArray.size]
        omega
      have HN2 : Aside ((P ++ X ++ ⟨#[59]⟩ ++ ⟨(Grd.dig3 sn).toArray⟩ ++ ⟨#[10]⟩).data.toList = printB L ((toL es).take (k + 1))) := by
        show _ = _
        rw [HNX, ba_append, ba_append, ba_append, ba_append, HP.out]
        simp
      have hsz : (P ++ X ++ ⟨#[59]⟩ ++ ⟨(Grd.dig3 sn).toArray⟩ ++ ⟨#[10]⟩).size ≤ 400 * (k + 1) := by
        have h7 := congrArg List.length HN2.out
        rw [ba_len] at h7
        have h8 := congrArg List.length HNX
        have h9 := congrArg List.length HP.out
        rw [ba_len] at h9
        simp only [List.length_append, List.length_cons, List.length_nil] at h8 hlen
        omega
      have hp1 : P.size ≤ 400000 := by omega
      have hp2 : (P ++ X).size ≤ 400400 := by rw [ByteArray.size_append]; omega
      have h59s : (⟨#[59]⟩ : ByteArray).size = 1 := rfl
      have hp3 : (P ++ X ++ ⟨#[59]⟩).size ≤ 400401 := by rw [ByteArray.size_append, h59s]; omega
      have hp4 : (P ++ X ++ ⟨#[59]⟩ ++ ⟨(Grd.dig3 sn).toArray⟩).size ≤ 400404 := by rw [ByteArray.size_append]; omega
      have hS0 : wr.drew.cell? ⟨g, k * 2 + 1, none⟩ = some (.int .i64 (sn : Int)) := q2
      clear q1 q2 HNX hlen hX hXl hXs hen hkl htl HP
      generalize es[k].c = c at *
      clear hsn0
      go_wp2
      refine wp_region_held (S := fun Z => Z.cell? ⟨g, k * 2 + 1, none⟩ = some (.int .i64 (sn : Int))) (by kernel_rfl) ?_
      refine (show wpAnyH _ .any _ _ _ 16 (Array.replicate 16 false) _ wr.drew from ?_)
      refine takeD (i := 0) (d := 13) (v := .string P) rfl (by kernel_rfl) (by kernel_rfl) (by kernel_rfl) (fun _ _ _ h => h) (fun oi ho => yields_now ho rfl fun Z hSw => ?_) hS0 ?_
      · have s1 : Z.cell? ⟨g, k * 2 + 1, none⟩ = some (.int .i64 (sn : Int)) := hSw
        go_simp
      simp only [Act.put, List.setIfInBounds_toArray, List.set_cons_zero, List.set_cons_succ]
      refine takeD (i := 1) (d := 14) (v := .slice al L.length cl) rfl (by kernel_rfl) (by kernel_rfl) (by kernel_rfl) (fun _ _ _ h => h) (fun oi ho => yields_now ho rfl fun Z hSw => ?_) hS0 ?_
      · have s1 : Z.cell? ⟨g, k * 2 + 1, none⟩ = some (.int .i64 (sn : Int)) := hSw
        go_simp
      simp only [Act.put, List.setIfInBounds_toArray, List.set_cons_zero, List.set_cons_succ]
      refine takeD (i := 2) (d := 15) (v := .slice (some ⟨g, 0, none⟩) es.length cap) rfl (by kernel_rfl) (by kernel_rfl) (by kernel_rfl) (fun _ _ _ h => h) (fun oi ho => yields_now ho rfl fun Z hSw => ?_) hS0 ?_
      · have s1 : Z.cell? ⟨g, k * 2 + 1, none⟩ = some (.int .i64 (sn : Int)) := hSw
        go_simp
      simp only [Act.put, List.setIfInBounds_toArray, List.set_cons_zero, List.set_cons_succ]
      refine takeD (i := 3) (d := 16) (v := .int .i64 (k : Int)) rfl (by kernel_rfl) (by kernel_rfl) (by kernel_rfl) (fun _ _ _ h => h) (fun oi ho => yields_now ho rfl fun Z hSw => ?_) hS0 ?_
      · have s1 : Z.cell? ⟨g, k * 2 + 1, none⟩ = some (.int .i64 (sn : Int)) := hSw
        go_simp
      simp only [Act.put, List.setIfInBounds_toArray, List.set_cons_zero, List.set_cons_succ]
      refine takeD (i := 7) (d := 20) (v := .slice (some ⟨g, 0, none⟩) es.length cap) rfl (by kernel_rfl) (by kernel_rfl) (by kernel_rfl) (fun _ _ _ h => h) (fun oi ho => yields_now ho rfl fun Z hSw => ?_) hS0 ?_
      · have s1 : Z.cell? ⟨g, k * 2 + 1, none⟩ = some (.int .i64 (sn : Int)) := hSw
        go_simp
      simp only [Act.put, List.setIfInBounds_toArray, List.set_cons_zero, List.set_cons_succ]
      refine takeD (i := 8) (d := 21) (v := .int .i64 (k : Int)) rfl (by kernel_rfl) (by kernel_rfl) (by kernel_rfl) (fun _ _ _ h => h) (fun oi ho => yields_now ho rfl fun Z hSw => ?_) hS0 ?_
      · have s1 : Z.cell? ⟨g, k * 2 + 1, none⟩ = some (.int .i64 (sn : Int)) := hSw
        go_simp
      simp only [Act.put, List.setIfInBounds_toArray, List.set_cons_zero, List.set_cons_succ]
      refine takeD (i := 9) (d := 22) (v := .pointer (some ⟨g, k * 2, none⟩)) rfl (by kernel_rfl) (by kernel_rfl) (by kernel_rfl) (fun _ _ _ h => h) (fun oi ho => yields_now ho rfl fun Z hSw => ?_) hS0 ?_
      · have s1 : Z.cell? ⟨g, k * 2 + 1, none⟩ = some (.int .i64 (sn : Int)) := hSw
        go_simp
      simp only [Act.put, List.setIfInBounds_toArray, List.set_cons_zero, List.set_cons_succ]
      refine takeD (i := 10) (d := 23) (v := .pointer (some ⟨g, k * 2 + 1, none⟩)) rfl (by kernel_rfl) (by kernel_rfl) (by kernel_rfl) (fun _ _ _ h => h) (fun oi ho => yields_now ho rfl fun Z hSw => ?_) hS0 ?_
      · have s1 : Z.cell? ⟨g, k * 2 + 1, none⟩ = some (.int .i64 (sn : Int)) := hSw
        go_simp
      simp only [Act.put, List.setIfInBounds_toArray, List.set_cons_zero, List.set_cons_succ]
      refine takeD (i := 11) (d := 24) (v := .int .i64 (sn : Int)) rfl (by kernel_rfl) (by kernel_rfl) (by kernel_rfl) (fun _ _ _ h => h) (fun oi ho => yields_now ho rfl fun Z hSw => ?_) hS0 ?_
      · have s1 : Z.cell? ⟨g, k * 2 + 1, none⟩ = some (.int .i64 (sn : Int)) := hSw
        go_simp
      simp only [Act.put, List.setIfInBounds_toArray, List.set_cons_zero, List.set_cons_succ]
      refine wpAnyH_all (rs := [4]) (by kernel_rfl) (by simp) (fun i hi => ?_)
      obtain rfl := List.mem_singleton.1 hi
      refine wpOp_call rfl rfl rfl (by go_simp) (cT) ?_
      rintro e w2 ⟨rfl, hb2⟩
      have hB2 : Below W.heap.size W w2 := hB0.trans (hb2.mono hB0.size)
      have hS2 : w2.cell? ⟨g, k * 2 + 1, none⟩ = some (.int .i64 (sn : Int)) := (hb2.cell (p := ⟨g, k * 2 + 1, none⟩) hgl).trans hS0
      have cD := Grd.Decimal_any sn hsn w2
      refine ⟨_, rfl, hS2, ?_⟩
      simp only [Act.put, List.setIfInBounds_toArray, List.set_cons_zero, List.set_cons_succ]
      refine takeD (i := 5) (d := 18) (v := .string (P ++ X)) rfl (by kernel_rfl) (by kernel_rfl) (by kernel_rfl) (fun _ _ _ h => h) (fun oi ho => yields_now ho rfl fun Z hSw => ?_) hS2 ?_
      · have s1 : Z.cell? ⟨g, k * 2 + 1, none⟩ = some (.int .i64 (sn : Int)) := hSw
        go_simp
        omega
      simp only [Act.put, List.setIfInBounds_toArray, List.set_cons_zero, List.set_cons_succ]
      refine takeD (i := 6) (d := 19) (v := .string (P ++ X ++ ⟨#[59]⟩)) rfl (by kernel_rfl) (by kernel_rfl) (by kernel_rfl) (fun _ _ _ h => h) (fun oi ho => yields_now ho rfl fun Z hSw => ?_) hS2 ?_
      · have s1 : Z.cell? ⟨g, k * 2 + 1, none⟩ = some (.int .i64 (sn : Int)) := hSw
        go_simp
        omega
      simp only [Act.put, List.setIfInBounds_toArray, List.set_cons_zero, List.set_cons_succ]
      refine wpAnyH_all (rs := [12]) (by kernel_rfl) (by simp) (fun i hi => ?_)
      obtain rfl := List.mem_singleton.1 hi
      refine wpOp_call rfl rfl rfl (by go_simp) (cD) ?_
      rintro e w3 ⟨rfl, hb3⟩
      have HB3 : Aside (Below W.heap.size W w3) := hB2.trans (hb3.mono hB2.size)
      have hS3 : w3.cell? ⟨g, k * 2 + 1, none⟩ = some (.int .i64 (sn : Int)) := (hb3.cell (p := ⟨g, k * 2 + 1, none⟩) (Nat.lt_of_lt_of_le hgl hb2.size)).trans hS2
      refine ⟨_, rfl, hS3, ?_⟩
      simp only [Act.put, List.setIfInBounds_toArray, List.set_cons_zero, List.set_cons_succ]
      refine takeD (i := 13) (d := 26) (v := .string (P ++ X ++ ⟨#[59]⟩ ++ ⟨(Grd.dig3 sn).toArray⟩)) rfl (by kernel_rfl) (by kernel_rfl) (by kernel_rfl) (fun _ _ _ h => h) (fun oi ho => yields_now ho rfl fun Z hSw => ?_) hS3 ?_
      · have s1 : Z.cell? ⟨g, k * 2 + 1, none⟩ = some (.int .i64 (sn : Int)) := hSw
        go_simp
        omega
      simp only [Act.put, List.setIfInBounds_toArray, List.set_cons_zero, List.set_cons_succ]
      refine takeD (i := 14) (d := 27) (v := .string (P ++ X ++ ⟨#[59]⟩ ++ ⟨(Grd.dig3 sn).toArray⟩ ++ ⟨#[10]⟩)) rfl (by kernel_rfl) (by kernel_rfl) (by kernel_rfl) (fun _ _ _ h => h) (fun oi ho => yields_now ho rfl fun Z hSw => ?_) hS3 ?_
      · have s1 : Z.cell? ⟨g, k * 2 + 1, none⟩ = some (.int .i64 (sn : Int)) := hSw
        go_simp
        omega
      simp only [Act.put, List.setIfInBounds_toArray, List.set_cons_zero, List.set_cons_succ]
      refine takeD (i := 15) (d := 5) (v := .string (P ++ X ++ ⟨#[59]⟩ ++ ⟨(Grd.dig3 sn).toArray⟩ ++ ⟨#[10]⟩)) rfl (by kernel_rfl) (by kernel_rfl) (by kernel_rfl) (fun _ _ _ h => h) (fun oi ho => yields_now ho rfl fun Z hSw => ?_) hS3 ?_
      · have s1 : Z.cell? ⟨g, k * 2 + 1, none⟩ = some (.int .i64 (sn : Int)) := hSw
        go_simp
      simp only [Act.put, List.setIfInBounds_toArray, List.set_cons_zero, List.set_cons_succ]
      refine wpAnyH_done (by kernel_rfl) ?_ _
      have HS : Aside ((P ++ X ++ ⟨#[59]⟩ ++ ⟨(Grd.dig3 sn).toArray⟩ ++ ⟨#[10]⟩).size ≤ 400 * (k + 1)) := hsz
      clear hsz hp1 hp2 hp3 hp4 hds hXb h59s
      obtain ⟨Y, hY⟩ : ∃ Y, P ++ X ++ ⟨#[59]⟩ ++ ⟨(Grd.dig3 sn).toArray⟩ ++ ⟨#[10]⟩ = Y := ⟨_, rfl⟩
      rw [hY] at HN2 HS ⊢
      clear hY cT cD hb2 hb3 hB2 hS2 hS3 hS0
      go_wp2
      go_roundg (es.length - (k + 1))
      case measure => omega
      case rel => exact ⟨k + 1, Y, by go_num, rfl, by omega, Nat.le_refl _, HS.out, HN2, HB3⟩
    · have hltz : ¬ (k : Int) < (es.length : Int) := by omega
      obtain rfl : k = es.length := by omega
      have hF : P = ⟨(printB L (toL es)).toArray⟩ := ba_eq (by rw [HP.out, List.take_of_length_le (by omega)])
      have HF : Aside (P = ⟨(printB L (toL es)).toArray⟩) := hF
      clear hF htl
      go_wp2
      go_ret
      exact ⟨by rw [HF.out]; rfl, HB.out⟩
/-- The document's SameWord, of the same words. -/
theorem sameWord_any {W : World} (c : List Int) (s : Int) (hc : c.length ≤ 32) (a1 a2 : Option Addr) (c1 c2 : Nat) (h1 : ReadsO W a1 (ints c)) (h2 : ReadsO W a2 (ints c)) :
    Calls Tryz.prog 11 #[.agg #[.slice a1 c.length c1, .int .i64 s], .agg #[.slice a2 c.length c2, .int .i64 s]] W fun e w' => e = .returned (.bool true) ∧ Below W.heap.size W w' := by
  have hb1 := below_box' W (.cells #[.slice a1 c.length c1, .int .i64 s] 33)
  have hb2 : Below W.heap.size W ((W.alloc (.cells #[.slice a1 c.length c1, .int .i64 s] 33)).alloc (.cells #[.slice a2 c.length c2, .int .i64 s] 33)) := hb1.alloc (by simp) _
  have x1 : Bx2 ((W.alloc (.cells #[.slice a1 c.length c1, .int .i64 s] 33)).alloc (.cells #[.slice a2 c.length c2, .int .i64 s] 33)) W.heap.size 33 (.slice a1 c.length c1) (.int .i64 s) := Bx2.keep (W := W.alloc (.cells #[.slice a1 c.length c1, .int .i64 s] 33)) ⟨heap_box W _⟩ (below_box' _ _)
  have x2 : Bx2 ((W.alloc (.cells #[.slice a1 c.length c1, .int .i64 s] 33)).alloc (.cells #[.slice a2 c.length c2, .int .i64 s] 33)) (W.heap.size + 1) 33 (.slice a2 c.length c2) (.int .i64 s) := ⟨by have := heap_box (W.alloc (.cells #[.slice a1 c.length c1, .int .i64 s] 33)) (.cells #[.slice a2 c.length c2, .int .i64 s] 33); simpa using this⟩
  have k0 := x1.c0
  have k1 := x1.c1
  have k2 := x2.c0
  have k3 := x2.c1
  have cS := sameInts_any c c a1 a2 c1 c2 _ (by omega) (by omega) (h1.below hb2) (h2.below hb2)
  have hss : (s == s) = true := beq_self_eq_true _
  go_enter Tryz.func11, Tryz.ntmps11
  go_wp2_with fail
  refine cS.mono ?_
  rintro e w2 ⟨⟨_, rfl⟩ | ⟨hno, rfl⟩, hb3⟩
  · have l1 := (x1.keep hb3).c1
    have l3 := (x2.keep hb3).c1
    have hbf : Below W.heap.size W w2 := hb2.trans (hb3.mono hb2.size)
    clear k0 k1 k2 k3
    go_wp2
    go_ret
    exact ⟨rfl, hbf⟩
  · exact absurd trivial hno
end Go.Proofs.YtikfaalbdnlelaaGreatDoor.Utf
/-
  The program's Find, of a word that is there.
-/
namespace Go.Proofs.YtikfaalbdnlelaaGreatDoor.Utf
open Go Go.Lib Go.RowKit

theorem findF_any (x : List Int × Int) (c : List Int) (ao ac : Option Addr) (cp cc b : Nat) (w : World) (hx : x.1.length ≤ 32) (hr : ReadsO w ao (ints x.1)) (hb : w.cell? ⟨b, 0, none⟩ = some (.slice ac c.length cc)) (hc : ReadsO w ac (ints c)) :
    Calls Tryz.prog 64 #[.slice ao x.1.length cp, .pointer (some ⟨b, 0, none⟩)] w fun e w' => e = .returned (.bool (decide (0 ≤ ordI x.1 c))) ∧ Below w.heap.size w w' := by
  have cO := order_any x.1 c (by omega) ao ac cp cc w hr hc
  go_enter Tryz.func64, Tryz.ntmps64
  go_wp2_with fail
  refine cO.mono ?_
  rintro e w2 ⟨rfl, hg⟩
  go_wp2
  go_ret
  exact ⟨rfl, hg.1⟩
theorem ord_mono {l : List (List Int × Int)} (hs : SortL l) (c : List Int) {i j : Nat} (hi : i < l.length) (hj : j < l.length) (hij : i ≤ j) (h : 0 ≤ ordI l[i].1 c) : 0 ≤ ordI l[j].1 c := by
  rcases Nat.lt_or_ge i j with h1 | h1
  · have h2 := (List.pairwise_iff_getElem.1 hs) i j hi hj h1
    rcases Int.lt_or_le (ordI l[j].1 c) 0 with h3 | h3
    · have := ordI_trans h2 h3
      omega
    · exact h3
  · have : i = j := by omega
    subst this
    exact h

set_option maxRecDepth 100000 in
set_option maxHeartbeats 4000000 in
theorem find_any {W : World} {base xb : Nat} {L : List ByteArray} {l : List (List Int × Int)} (h : IsLex W base xb L l) (hl : l.length ≤ 1000) (hs : SortL l) (h32 : ∀ x ∈ l, x.1.length ≤ 32 ∧ 1 ≤ x.1.length) (k : Nat) (hk : k < l.length) (ac : Option Addr) (cc : Nat) (hR : ReadsO W ac (ints l[k].1)) :
    Calls Tryz.prog 36 #[.pointer (some ⟨xb, 0, none⟩), .slice ac l[k].1.length cc] W fun e w' => e = .returned (.tuple #[.int .i64 (k : Nat), .bool true]) ∧ Below W.heap.size W w' := by
  have hb0 := below_box' W (.cells #[.slice ac l[k].1.length cc] 31)
  have hX0 := h.below hb0
  have hc0 : (W.alloc (.cells #[.slice ac l[k].1.length cc] 31)).cell? ⟨W.heap.size, 0, none⟩ = some (.slice ac l[k].1.length cc) := box_at W _ 31 0 rfl
  have c1 := first_any hX0 hl (fun c => decide (0 ≤ ordI c l[k].1)) 64 #[.pointer (some ⟨W.heap.size, 0, none⟩)] (enters_of Tryz.func64 (by kernel_rfl) rfl)
    (fun x ao cp w hx hb hr => findF_any x l[k].1 ao ac cp cc W.heap.size w (h32 x hx).1 hr ((hb.cell (p := ⟨W.heap.size, 0, none⟩) (by simp)).trans hc0) ((hR.below hb0).below hb))
    (fun i j hi hj hij hp => decide_eq_true (ord_mono hs l[k].1 hi hj hij (of_decide_eq_true hp)))
  have hk32 := h32 _ (List.getElem_mem hk)
  have hX : ∀ Z, Below W.heap.size W Z → IsLex Z base xb L l := fun Z hb => h.below hb
  go_enter Tryz.func36, Tryz.ntmps36
  go_wp2_with fail
  refine c1.mono ?_
  rintro e w1 ⟨⟨r, rfl, hr1, hr2⟩, hb1⟩
  have hself : 0 ≤ ordI l[k].1 l[k].1 := by rw [ordI_zero.2 rfl]; exact Int.le_refl _
  have hrk : r = k := by
    have h1 := (hr2 k hk).1 (decide_eq_true hself)
    have h2 := of_decide_eq_true ((hr2 r (by omega)).2 (Nat.le_refl _))
    rcases Nat.lt_or_ge r k with h3 | h3
    · have h4 := (List.pairwise_iff_getElem.1 hs) r k (by omega) hk h3
      omega
    · omega
  subst hrk
  have hB1 : Below W.heap.size W w1.drew := Below.drew (hb0.trans (hb1.mono (by simp)))
  have hX1 := hX w1.drew hB1
  have cL := len_any hX1
  obtain ⟨⟨wo, cap, k1, k2⟩, _⟩ := hX1
  obtain ⟨g, ao, cp, rfl, e2, e3, e4, _, _⟩ := k2 r hk
  rw [Nat.add_zero] at e3
  have cx : w1.drew.cell? ⟨xb, 0, none⟩ = some (.slice (some ⟨g, 0, none⟩) l.length cap) := (show Boxed w1.drew xb 82 _ from k1).cell
  have hxl : xb < w1.drew.heap.size := (Array.getElem?_eq_some_iff.1 k1).1
  have cb : w1.drew.cell? ⟨W.heap.size, 0, none⟩ = some (.slice ac l[r].1.length cc) := (hb1.cell (p := ⟨W.heap.size, 0, none⟩) (by simp)).trans hc0
  have hbl : W.heap.size < w1.drew.heap.size := by have := hb1.size; rw [World.size_alloc] at this; show W.heap.size < w1.heap.size; omega
  have hrc : ReadsO w1.drew ac (ints l[r].1) := hR.below hB1
  have cE0 := equal_any l[r].1 l[r].1 ao ac cp cc w1.drew (by omega) (by omega) e4.1 hrc
  have cE : Calls Tryz.prog 65 #[.slice ao l[r].1.length cp, .slice ac l[r].1.length cc] w1.drew fun e w' => e = .returned (.bool true) ∧ Below w1.drew.heap.size w1.drew w' := cE0.mono fun e w' hh => by
    rcases hh with ⟨⟨_, he⟩ | ⟨hno, _⟩, hb⟩
    · exact ⟨he, hb⟩
    · exact absurd rfl hno
  have hrl : ((r : Int) == (l.length : Int)) = false := by rw [beq_eq_false_iff_ne]; omega
  have hrz : (r : Int) < (l.length : Int) := by omega
  generalize l[r].1.length = N at *
  have hSS : ∀ Z, Below w1.drew.heap.size w1.drew Z → Z.cell? ⟨xb, 0, none⟩ = some (.slice (some ⟨g, 0, none⟩) l.length cap) ∧ Z.cell? ⟨g, r * 3, none⟩ = some (.slice ao N cp) ∧ Z.cell? ⟨W.heap.size, 0, none⟩ = some (.slice ac N cc) := fun Z hZ => ⟨(hZ.cell (p := ⟨xb, 0, none⟩) hxl).trans cx, (hZ.cell (p := ⟨g, r * 3, none⟩) e2.2).trans e3, (hZ.cell (p := ⟨W.heap.size, 0, none⟩) hbl).trans cb⟩
  have hS0 := hSS _ (Below.refl _ _)
  clear c1 hr2 hself k1 k2 e4 cE0 hX hX0 hc0 hb0 hb1 hrc hbl hk32 cx cb e3
  go_wp2
  refine wp_region_held (S := fun Z => Z.cell? ⟨xb, 0, none⟩ = some (.slice (some ⟨g, 0, none⟩) l.length cap) ∧ Z.cell? ⟨g, r * 3, none⟩ = some (.slice ao N cp) ∧ Z.cell? ⟨W.heap.size, 0, none⟩ = some (.slice ac N cc)) (by kernel_rfl) ?_
  refine (show wpAnyH _ .any _ _ _ 17 (Array.replicate 17 false) _ w1.drew from ?_)
  refine takeD (i := 0) (d := 10) (v := .int .i64 (r : Int)) rfl (by kernel_rfl) (by kernel_rfl) (by kernel_rfl) (fun _ _ _ h => h) (fun oi ho => yields_now ho rfl fun Z hSw => ?_) hS0 ?_
  · obtain ⟨s1, s2, s3⟩ := hSw
    go_simp
  simp only [Act.put, List.setIfInBounds_toArray, List.set_cons_zero, List.set_cons_succ]
  refine takeD (i := 1) (d := 11) (v := .pointer (some ⟨xb, 0, none⟩)) rfl (by kernel_rfl) (by kernel_rfl) (by kernel_rfl) (fun _ _ _ h => h) (fun oi ho => yields_now ho rfl fun Z hSw => ?_) hS0 ?_
  · obtain ⟨s1, s2, s3⟩ := hSw
    go_simp
  simp only [Act.put, List.setIfInBounds_toArray, List.set_cons_zero, List.set_cons_succ]
  refine wpAnyH_all (rs := [2]) (by kernel_rfl) (by simp) (fun i hi => ?_)
  obtain rfl := List.mem_singleton.1 hi
  refine wpOp_call rfl rfl rfl (by go_simp) (cL) ?_
  rintro e w2 ⟨rfl, hw⟩
  obtain rfl := hw.symm
  clear hw
  refine ⟨_, rfl, hS0, ?_⟩
  simp only [Act.put, List.setIfInBounds_toArray, List.set_cons_zero, List.set_cons_succ]
  refine takeD (i := 3) (d := 13) (v := .bool false) rfl (by kernel_rfl) (by kernel_rfl) (by kernel_rfl) (fun _ _ _ h => h) (fun oi ho => yields_now ho rfl fun Z hSw => ?_) hS0 ?_
  · obtain ⟨s1, s2, s3⟩ := hSw
    go_simp
  simp only [Act.put, List.setIfInBounds_toArray, List.set_cons_zero, List.set_cons_succ]
  refine takeD (i := 4) (d := 14) (v := .bool false) rfl (by kernel_rfl) (by kernel_rfl) (by kernel_rfl) (fun _ _ _ h => h) (fun oi ho => yields_now ho rfl fun Z hSw => ?_) hS0 ?_
  · obtain ⟨s1, s2, s3⟩ := hSw
    go_simp
  simp only [Act.put, List.setIfInBounds_toArray, List.set_cons_zero, List.set_cons_succ]
  refine takeD (i := 5) (d := 15) (v := .pointer (some ⟨xb, 0, none⟩)) rfl (by kernel_rfl) (by kernel_rfl) (by kernel_rfl) (fun _ _ _ h => h) (fun oi ho => yields_now ho rfl fun Z hSw => ?_) hS0 ?_
  · obtain ⟨s1, s2, s3⟩ := hSw
    go_simp
  simp only [Act.put, List.setIfInBounds_toArray, List.set_cons_zero, List.set_cons_succ]
  refine takeD (i := 6) (d := 16) (v := .pointer (some ⟨xb, 0, none⟩)) rfl (by kernel_rfl) (by kernel_rfl) (by kernel_rfl) (fun _ _ _ h => h) (fun oi ho => yields_now ho rfl fun Z hSw => ?_) hS0 ?_
  · obtain ⟨s1, s2, s3⟩ := hSw
    go_simp
  simp only [Act.put, List.setIfInBounds_toArray, List.set_cons_zero, List.set_cons_succ]
  refine takeD (i := 7) (d := 17) (v := .pointer (some ⟨xb, 0, none⟩)) rfl (by kernel_rfl) (by kernel_rfl) (by kernel_rfl) (fun _ _ _ h => h) (fun oi ho => yields_now ho rfl fun Z hSw => ?_) hS0 ?_
  · obtain ⟨s1, s2, s3⟩ := hSw
    go_simp
  simp only [Act.put, List.setIfInBounds_toArray, List.set_cons_zero, List.set_cons_succ]
  refine takeD (i := 8) (d := 18) (v := .slice (some ⟨g, 0, none⟩) l.length cap) rfl (by kernel_rfl) (by kernel_rfl) (by kernel_rfl) (fun _ _ _ h => h) (fun oi ho => yields_now ho rfl fun Z hSw => ?_) hS0 ?_
  · obtain ⟨s1, s2, s3⟩ := hSw
    go_simp
  simp only [Act.put, List.setIfInBounds_toArray, List.set_cons_zero, List.set_cons_succ]
  refine takeD (i := 9) (d := 19) (v := .int .i64 (r : Int)) rfl (by kernel_rfl) (by kernel_rfl) (by kernel_rfl) (fun _ _ _ h => h) (fun oi ho => yields_now ho rfl fun Z hSw => ?_) hS0 ?_
  · obtain ⟨s1, s2, s3⟩ := hSw
    go_simp
  simp only [Act.put, List.setIfInBounds_toArray, List.set_cons_zero, List.set_cons_succ]
  refine takeD (i := 10) (d := 20) (v := .pointer (some ⟨g, r * 3, none⟩)) rfl (by kernel_rfl) (by kernel_rfl) (by kernel_rfl) (fun _ _ _ h => h) (fun oi ho => yields_now ho rfl fun Z hSw => ?_) hS0 ?_
  · obtain ⟨s1, s2, s3⟩ := hSw
    go_simp
  simp only [Act.put, List.setIfInBounds_toArray, List.set_cons_zero, List.set_cons_succ]
  refine takeD (i := 11) (d := 21) (v := .pointer (some ⟨g, r * 3, none⟩)) rfl (by kernel_rfl) (by kernel_rfl) (by kernel_rfl) (fun _ _ _ h => h) (fun oi ho => yields_now ho rfl fun Z hSw => ?_) hS0 ?_
  · obtain ⟨s1, s2, s3⟩ := hSw
    go_simp
  simp only [Act.put, List.setIfInBounds_toArray, List.set_cons_zero, List.set_cons_succ]
  refine takeD (i := 12) (d := 22) (v := .slice ao N cp) rfl (by kernel_rfl) (by kernel_rfl) (by kernel_rfl) (fun _ _ _ h => h) (fun oi ho => yields_now ho rfl fun Z hSw => ?_) hS0 ?_
  · obtain ⟨s1, s2, s3⟩ := hSw
    go_simp
  simp only [Act.put, List.setIfInBounds_toArray, List.set_cons_zero, List.set_cons_succ]
  refine takeD (i := 13) (d := 23) (v := .slice ac N cc) rfl (by kernel_rfl) (by kernel_rfl) (by kernel_rfl) (fun _ _ _ h => h) (fun oi ho => yields_now ho rfl fun Z hSw => ?_) hS0 ?_
  · obtain ⟨s1, s2, s3⟩ := hSw
    go_simp
  simp only [Act.put, List.setIfInBounds_toArray, List.set_cons_zero, List.set_cons_succ]
  refine wpAnyH_all (rs := [14]) (by kernel_rfl) (by simp) (fun i hi => ?_)
  obtain rfl := List.mem_singleton.1 hi
  refine wpOp_call rfl rfl rfl (by go_simp) (cE) ?_
  rintro e w3 ⟨rfl, hb3⟩
  have HB3 : Aside (Below W.heap.size W w3) := hB1.trans (hb3.mono hB1.size)
  have hS3 := hSS w3 hb3
  refine ⟨_, rfl, hS3, ?_⟩
  simp only [Act.put, List.setIfInBounds_toArray, List.set_cons_zero, List.set_cons_succ]
  refine takeD (i := 15) (d := 25) (v := .bool false) rfl (by kernel_rfl) (by kernel_rfl) (by kernel_rfl) (fun _ _ _ h => h) (fun oi ho => yields_now ho rfl fun Z hSw => ?_) hS3 ?_
  · obtain ⟨s1, s2, s3⟩ := hSw
    go_simp
  simp only [Act.put, List.setIfInBounds_toArray, List.set_cons_zero, List.set_cons_succ]
  refine takeD (i := 16) (d := 26) (v := .bool false) rfl (by kernel_rfl) (by kernel_rfl) (by kernel_rfl) (fun _ _ _ h => h) (fun oi ho => yields_now ho rfl fun Z hSw => ?_) hS3 ?_
  · obtain ⟨s1, s2, s3⟩ := hSw
    go_simp
  simp only [Act.put, List.setIfInBounds_toArray, List.set_cons_zero, List.set_cons_succ]
  refine wpAnyH_done (by kernel_rfl) ?_ _
  clear hS3 hSS hS0 cE cL hb3
  go_wp2
  go_ret2
  exact ⟨rfl, HB3.out⟩
end Go.Proofs.YtikfaalbdnlelaaGreatDoor.Utf
/-
  The law's told walked: a lexicon tells just these words.
-/
namespace Go.Proofs.YtikfaalbdnlelaaGreatDoor.Utf
open Go Go.Lib Go.RowKit

theorem text_none {W : World} {base xb : Nat} {L : List ByteArray} {l : List (List Int × Int)} (h : IsLex W base xb L l) (i : Int) (hi : i < 0 ∨ (l.length : Int) ≤ i) :
    Calls Tryz.prog 18 #[.pointer (some ⟨xb, 0, none⟩), .int .i64 i] W fun e w' => e = .returned (.string ⟨#[]⟩) ∧ w' = W := by
  have cL := len_any h
  clear h
  generalize l.length = n at *
  by_cases h0 : i < 0
  · go_enter Tryz.func18, Tryz.ntmps18
    go_wp2
    go_ret
    exact ⟨rfl, rfl⟩
  · have h1 : (n : Int) ≤ i := by omega
    go_enter Tryz.func18, Tryz.ntmps18
    go_wp2_with fail
    refine cL.mono ?_
    rintro e w1 ⟨rfl, hw⟩
    obtain rfl := hw.symm
    go_wp2
    go_ret
    exact ⟨rfl, rfl⟩
theorem word_none {W : World} {base xb : Nat} {L : List ByteArray} {l : List (List Int × Int)} (h : IsLex W base xb L l) (i : Int) (hi : i < 0 ∨ (l.length : Int) ≤ i) :
    Calls Tryz.prog 19 #[.pointer (some ⟨xb, 0, none⟩), .int .i64 i] W fun e w' => e = .returned (.agg #[.slice none 0 0, .int .i64 0]) ∧ Below W.heap.size W w' := by
  have hB1 := below_box' W (.cells #[.slice none 0 0, .int .i64 0] 33)
  have hbx : Bx2 (W.alloc (.cells #[.slice none 0 0, .int .i64 0] 33)) W.heap.size 33 (.slice none 0 0) (.int .i64 0) := ⟨heap_box W _⟩
  have cL := len_any (h.below hB1)
  have k0 := hbx.c0
  have k1 := hbx.c1
  clear h
  generalize l.length = n at *
  by_cases h0 : i < 0
  · go_enter Tryz.func19, Tryz.ntmps19
    go_wp2
    refine bodyPost_ret (results_w rfl _ _ W.heap.size _ _ rfl k0 k1) rfl ⟨rfl, hB1⟩
  · have h1 : (n : Int) ≤ i := by omega
    go_enter Tryz.func19, Tryz.ntmps19
    go_wp2_with fail
    refine cL.mono ?_
    rintro e w1 ⟨rfl, hw⟩
    obtain rfl := hw.symm
    go_wp2
    refine bodyPost_ret (results_w rfl _ _ W.heap.size _ _ rfl k0 k1) rfl ⟨rfl, hB1⟩

set_option maxRecDepth 100000 in
set_option maxHeartbeats 6000000 in
theorem told_any {W : World} {base xb B : Nat} {L : List ByteArray} {v : Value} {es : List WdV} (hX : IsLex W base xb L (toL es)) (hI : IsWd B W v es) (hok : okE L (toL es)) (hsrt : SortL (toL es)) (hlen : es.length ≤ 1000) (h40 : L.length ≤ 40) (hLs : ∀ x ∈ L, x.size ≤ 12) (al : Option Addr) (cl : Nat) (hRL : ReadsO W al (L.map Value.string)) (hPw : Pw W) :
    Calls Tryz.prog 12 #[.pointer (some ⟨xb, 0, none⟩), .slice al L.length cl, v] W fun e w' => e = .returned (.bool true) ∧ Below W.heap.size W w' := by
  obtain ⟨ao, cap, rfl, -, -⟩ := hI.slice
  have hlt := toL_len es
  have hl1000 : (toL es).length ≤ 1000 := by omega
  have HX : Aside (∀ Z, Below W.heap.size W Z → IsLex Z base xb L (toL es)) := fun Z hb => hX.below hb
  have HI : Aside (∀ Z, Below W.heap.size W Z → IsWd B Z (.slice ao es.length cap) es) := fun Z hb => hI.below hb
  have HRL : Aside (∀ Z, Below W.heap.size W Z → ReadsO Z al (L.map Value.string)) := fun Z hb => hRL.below hb
  have HPW : Aside (∀ Z, Below W.heap.size W Z → Pw Z) := fun Z hb => hPw.below hb
  have HOK : Aside (okE L (toL es) ∧ SortL (toL es) ∧ ∀ x ∈ L, x.size ≤ 12) := ⟨hok, hsrt, hLs⟩
  have cL := len_any hX
  have cT1 := text_none hX (-1) (.inl (by decide))
  have cT2 := text_none hX (es.length : Int) (.inr (by rw [hlt]; exact Int.le_refl _))
  have cW1 := word_none hX (es.length : Int) (.inr (by rw [hlt]; exact Int.le_refl _))
  rw [hlt] at cL
  clear hX hI hRL hPw hok hsrt
  have hee : ((es.length : Int) != (es.length : Int)) = false := by simp
  have hem : ((⟨#[]⟩ : ByteArray).toList != (⟨#[]⟩ : ByteArray).toList) = false := by simp
  have hem2 : (((⟨#[]⟩ : ByteArray).toList.isEmpty)) = true := by rw [ByteArray.toList_eq]; rfl
  have hfs : ∀ W, (Instr.field 33 (.agg #[.slice none 0 0, .int .i64 0]) 1).run Tryz.prog W = .ok (.int .i64 0) W := fun W => by kernel_rfl
  have hfc : ∀ W, (Instr.field 33 (.agg #[.slice none 0 0, .int .i64 0]) 0).run Tryz.prog W = .ok (.slice none 0 0) W := fun W => by kernel_rfl
  go_enter Tryz.func12, Tryz.ntmps12
  go_wp2_with fail
  refine cL.mono ?_
  rintro e w1 ⟨rfl, hw⟩
  obtain rfl := hw.symm
  go_wp2_with fail
  refine cT1.mono ?_
  rintro e w1 ⟨rfl, hw⟩
  obtain rfl := hw.symm
  go_wp2_with fail
  refine cT2.mono ?_
  rintro e w1 ⟨rfl, hw⟩
  obtain rfl := hw.symm
  go_wp2_with fail
  refine cW1.mono ?_
  rintro e w1 ⟨rfl, hb1⟩
  have cW2 := word_none (HX.out w1 hb1) (-1) (.inl (by decide))
  clear cL cT1 cT2 cW1 hw
  go_wp2_with fail
  refine cW2.mono ?_
  rintro e w2 ⟨rfl, hb2⟩
  have hB2 : Below W.heap.size W w2 := hb1.trans (hb2.mono hb1.size)
  have cP := lprint_any (HX.out w2 hB2) HOK.out.1 HOK.out.2.2 hl1000 (HPW.out w2 hB2)
  clear cW2
  go_wp2_with fail
  refine cP.mono ?_
  rintro e w3 ⟨rfl, hb3⟩
  have hB3 : Below W.heap.size W w3 := hB2.trans (hb3.mono hB2.size)
  have cP2 := refPrint_any L HOK.out.2.2 h40 al cl (HRL.out w3 hB3) (HI.out w3 hB3) hlen HOK.out.1
  clear cP
  generalize (⟨(printB L (toL es)).toArray⟩ : ByteArray) = PS at *
  have hps : (PS.toList != PS.toList) = false := by simp
  go_wp2_with fail
  refine cP2.mono ?_
  rintro e w4 ⟨rfl, hb4⟩
  have HB4 : Aside (Below W.heap.size W w4) := hB3.trans (hb4.mono hB3.size)
  clear cP2 hb1 hb2 hb3 hb4 hB2 hB3
  go_wp2
  go_loopg [54] es.length (fun g1 vi wr => ∃ k : Nat, vi = .int .i64 (k : Int) ∧ k ≤ es.length ∧ es.length - k ≤ g1 ∧ Aside (Below W.heap.size W wr))
  case atStart => exact ⟨0, rfl, Nat.zero_le _, Nat.le_refl _, HB4⟩
  case round =>
    clear HB4 hps
    obtain ⟨k, rfl, hk, hg1, HB⟩ := hrel
    by_cases hkl : k < es.length
    · have hltz : (k : Int) < (es.length : Int) := by omega
      have hkt : k < (toL es).length := by omega
      have hat := toL_at hkl
      have hoki := HOK.out.1 _ (List.getElem_mem hkt)
      rw [hat] at hoki
      simp only at hoki
      have cW := word_any (HX.out wr HB.out) k hkt (by rw [hat]; exact hoki.2.2.2.2) (by rw [hat]; exact hoki.1)
      rw [hat] at cW
      simp only at cW
      obtain ⟨g, rfl, e1, e2⟩ := (HI.out wr HB.out).at' hkl
      have hm := (HI.out wr HB.out).mem es[k] (List.getElem_mem hkl)
      have hgl : g < wr.heap.size := ((HI.out wr HB.out).row.lt g rfl).2
      have HMM : Aside (∀ Z, Below wr.heap.size wr Z → ReadsO Z es[k].ao (ints es[k].c)) := fun Z hb => hm.1.below hb
      have HTX : Aside (∀ Z, Below W.heap.size W Z → Calls Tryz.prog 18 #[.pointer (some ⟨xb, 0, none⟩), .int .i64 (k : Nat)] Z fun e w' => e = .returned (.string (joinT L es[k].c)) ∧ w' = Z) := fun Z hb => by
        have := text_any (HX.out Z hb) k hkt
        rw [hat] at this
        exact this
      have HTR : Aside (∀ Z, Below W.heap.size W Z → Calls Tryz.prog 35 #[.slice al L.length cl, .slice (some ⟨g, 0, none⟩) es.length cap, .int .i64 (k : Nat)] Z fun e w' => e = .returned (.string (joinT L es[k].c)) ∧ Below Z.heap.size Z w') := fun Z hb => refText_any L HOK.out.2.2 h40 al cl (HRL.out Z hb) (HI.out Z hb) hlen k hkl hoki.1 hoki.2.1
      have HFI : Aside (∀ Z, Below W.heap.size W Z → ∀ ac cc, ReadsO Z ac (ints es[k].c) → Calls Tryz.prog 36 #[.pointer (some ⟨xb, 0, none⟩), .slice ac es[k].c.length cc] Z fun e w' => e = .returned (.tuple #[.int .i64 (k : Nat), .bool true]) ∧ Below Z.heap.size Z w') := fun Z hb ac cc hr => by
        have := find_any (HX.out Z hb) hl1000 HOK.out.2.1 (fun x hx => ⟨(HOK.out.1 x hx).1, (HOK.out.1 x hx).2.2.2.2⟩) k hkt ac cc (by rw [hat]; exact hr)
        rw [hat] at this
        exact this
      have HWD : Aside (∀ Z, Below W.heap.size W Z → Calls Tryz.prog 19 #[.pointer (some ⟨xb, 0, none⟩), .int .i64 (k : Nat)] Z fun e w' => (∃ v, e = .returned (.agg #[v, .int .i64 es[k].s]) ∧ w'.ownsRow Z.heap.size 3 1 v es[k].c.length (ints es[k].c)) ∧ Below Z.heap.size Z w') := fun Z hb => by
        have := word_any (HX.out Z hb) k hkt (by rw [hat]; exact hoki.2.2.2.2) (by rw [hat]; exact hoki.1)
        rw [hat] at this
        exact this
      have HEL : Aside (∀ Z, Below wr.heap.size wr Z → Z.cell? ⟨g, k * 2, none⟩ = some (.slice es[k].ao es[k].c.length es[k].cap) ∧ Z.cell? ⟨g, k * 2 + 1, none⟩ = some (.int .i64 es[k].s)) := fun Z hb => ⟨(hb.cell (p := ⟨g, k * 2, none⟩) hgl).trans e1, (hb.cell (p := ⟨g, k * 2 + 1, none⟩) hgl).trans e2⟩
      have HSW0 : Aside (∀ Z, Below wr.heap.size wr Z → ∀ a6 c6 base, Z.ownsRow base 3 1 (.slice a6 es[k].c.length c6) es[k].c.length (ints es[k].c) → Calls Tryz.prog 11 #[.agg #[.slice a6 es[k].c.length c6, .int .i64 es[k].s], .agg #[.slice es[k].ao es[k].c.length es[k].cap, .int .i64 es[k].s]] Z fun e w' => e = .returned (.bool true) ∧ Below Z.heap.size Z w') := fun Z hb a6 c6 base hrow => by
        obtain ⟨a7, c7, e7, hrd⟩ := row_reads hrow
        injection e7 with e7
        subst e7
        exact sameWord_any es[k].c es[k].s hoki.1 a6 es[k].ao c6 es[k].cap hrd.o (hm.1.below hb)
      have hc32 := hoki.1
      clear hat hoki hm e1 e2 hkt
      generalize es[k].c = c at *
      obtain ⟨N, hN⟩ : ∃ N, c.length = N := ⟨_, rfl⟩
      have hN32 : N ≤ 32 := by rw [← hN]; exact hc32
      clear hc32
      rw [hN] at cW HFI HWD HEL HSW0
      have hNN : (ints c).length = N := by rw [← hN]; simp [ints]
      generalize joinT L c = JT at *
      generalize es[k].s = sc at *
      generalize es[k].ao = ea at *
      generalize es[k].cap = ec at *
      go_wp2_with fail
      refine cW.mono ?_
      rintro e w6 ⟨⟨v6, rfl, hrow6⟩, hb6⟩
      obtain ⟨a6, c6, rfl⟩ := row_slice hrow6
      have hbx : Bx2 (w6.alloc (.cells #[.slice a6 N c6, .int .i64 sc] 33)) w6.heap.size 33 (.slice a6 N c6) (.int .i64 sc) := ⟨heap_box w6 _⟩
      have hbY : Below w6.heap.size w6 (w6.alloc (.cells #[.slice a6 N c6, .int .i64 sc] 33)) := below_box' w6 _
      clear cW
      go_wp2
      generalize hwY : (w6.alloc (.cells #[.slice a6 N c6, .int .i64 sc] 33)) = wY at *
      clear hwY
      have hWY : Below wr.heap.size wr wY := hb6.trans (hbY.mono hb6.size)
      have hwWY : Below W.heap.size W wY := HB.out.trans (hWY.mono HB.out.size)
      have hY0 : Below wY.heap.size wY wY.drew := Below.drew (Below.refl _ _)
      have hrowY : wY.ownsRow wr.heap.size 3 1 (.slice a6 N c6) N (ints c) := row_turn hrow6 (below_but hbY none) (fun _ _ _ => by simp)
      have hSS : ∀ Z, Below wY.heap.size wY Z → (Z.cell? ⟨w6.heap.size, 0, none⟩ = some (.slice a6 N c6) ∧ Z.cell? ⟨w6.heap.size, 1, none⟩ = some (.int .i64 sc)) ∧ (Z.cell? ⟨g, k * 2, none⟩ = some (.slice ea N ec) ∧ Z.cell? ⟨g, k * 2 + 1, none⟩ = some (.int .i64 sc)) := fun Z hZ => ⟨⟨(hbx.keep hZ).c0, (hbx.keep hZ).c1⟩, HEL.out Z (hWY.trans (hZ.mono hWY.size))⟩
      have hS0 := hSS _ hY0
      have cW1 := HSW0.out wY.drew (hWY.trans (hY0.mono hWY.size)) a6 c6 wr.heap.size (row_turn hrowY (below_but hY0 none) (fun _ _ _ => by simp))
      have HCT : Aside (∀ Z, Below wY.heap.size wY Z → Calls Tryz.prog 18 #[.pointer (some ⟨xb, 0, none⟩), .int .i64 (k : Nat)] Z fun e w' => e = .returned (.string JT) ∧ w' = Z) := fun Z hb => HTX.out Z (hwWY.trans (hb.mono hwWY.size))
      have HCR : Aside (∀ Z, Below wY.heap.size wY Z → Calls Tryz.prog 35 #[.slice al L.length cl, .slice (some ⟨g, 0, none⟩) es.length cap, .int .i64 (k : Nat)] Z fun e w' => e = .returned (.string JT) ∧ Below Z.heap.size Z w') := fun Z hb => HTR.out Z (hwWY.trans (hb.mono hwWY.size))
      have hjt : (JT.toList != JT.toList) = false := by simp
      refine wp_region_held (S := fun Z => (Z.cell? ⟨w6.heap.size, 0, none⟩ = some (.slice a6 N c6) ∧ Z.cell? ⟨w6.heap.size, 1, none⟩ = some (.int .i64 sc)) ∧ (Z.cell? ⟨g, k * 2, none⟩ = some (.slice ea N ec) ∧ Z.cell? ⟨g, k * 2 + 1, none⟩ = some (.int .i64 sc))) (by kernel_rfl) ?_
      refine (show wpAnyH _ .any _ _ _ 17 (Array.replicate 17 false) _ wY.drew from ?_)
      refine takeD (i := 0) (d := 60) (v := .agg #[.slice a6 N c6, .int .i64 sc]) rfl (by kernel_rfl) (by kernel_rfl) (by kernel_rfl) (fun _ _ _ h => h) (fun oi ho => yields_now ho rfl fun Z hSw => ?_) hS0 ?_
      · obtain ⟨⟨s1, s2⟩, s3, s4⟩ := hSw
        go_simp
      simp only [Act.put, List.setIfInBounds_toArray, List.set_cons_zero, List.set_cons_succ]
      refine takeD (i := 1) (d := 61) (v := .slice (some ⟨g, 0, none⟩) es.length cap) rfl (by kernel_rfl) (by kernel_rfl) (by kernel_rfl) (fun _ _ _ h => h) (fun oi ho => yields_now ho rfl fun Z hSw => ?_) hS0 ?_
      · obtain ⟨⟨s1, s2⟩, s3, s4⟩ := hSw
        go_simp
      simp only [Act.put, List.setIfInBounds_toArray, List.set_cons_zero, List.set_cons_succ]
      refine takeD (i := 2) (d := 62) (v := .int .i64 (k : Int)) rfl (by kernel_rfl) (by kernel_rfl) (by kernel_rfl) (fun _ _ _ h => h) (fun oi ho => yields_now ho rfl fun Z hSw => ?_) hS0 ?_
      · obtain ⟨⟨s1, s2⟩, s3, s4⟩ := hSw
        go_simp
      simp only [Act.put, List.setIfInBounds_toArray, List.set_cons_zero, List.set_cons_succ]
      refine takeD (i := 3) (d := 63) (v := .pointer (some ⟨g, k * 2, none⟩)) rfl (by kernel_rfl) (by kernel_rfl) (by kernel_rfl) (fun _ _ _ h => h) (fun oi ho => yields_now ho rfl fun Z hSw => ?_) hS0 ?_
      · obtain ⟨⟨s1, s2⟩, s3, s4⟩ := hSw
        go_simp
      simp only [Act.put, List.setIfInBounds_toArray, List.set_cons_zero, List.set_cons_succ]
      refine takeD (i := 4) (d := 64) (v := .agg #[.slice ea N ec, .int .i64 sc]) rfl (by kernel_rfl) (by kernel_rfl) (by kernel_rfl) (fun _ _ _ h => h) (fun oi ho => yields_now ho rfl fun Z hSw => ?_) hS0 ?_
      · obtain ⟨⟨s1, s2⟩, s3, s4⟩ := hSw
        go_simp
      simp only [Act.put, List.setIfInBounds_toArray, List.set_cons_zero, List.set_cons_succ]
      refine wpAnyH_all (rs := [5]) (by kernel_rfl) (by simp) (fun i hi => ?_)
      obtain rfl := List.mem_singleton.1 hi
      refine wpOp_call rfl rfl rfl (by go_simp) (cW1) ?_
      rintro e w7 ⟨rfl, hb7⟩
      have hB7 : Below wY.heap.size wY w7 := hY0.trans (hb7.mono hY0.size)
      have hS7 := hSS w7 hB7
      have cT := HCT.out w7 hB7
      refine ⟨_, rfl, hS7, ?_⟩
      simp only [Act.put, List.setIfInBounds_toArray, List.set_cons_zero, List.set_cons_succ]
      refine takeD (i := 6) (d := 66) (v := .bool false) rfl (by kernel_rfl) (by kernel_rfl) (by kernel_rfl) (fun _ _ _ h => h) (fun oi ho => yields_now ho rfl fun Z hSw => ?_) hS7 ?_
      · obtain ⟨⟨s1, s2⟩, s3, s4⟩ := hSw
        go_simp
      simp only [Act.put, List.setIfInBounds_toArray, List.set_cons_zero, List.set_cons_succ]
      refine takeD (i := 7) (d := 67) (v := .bool false) rfl (by kernel_rfl) (by kernel_rfl) (by kernel_rfl) (fun _ _ _ h => h) (fun oi ho => yields_now ho rfl fun Z hSw => ?_) hS7 ?_
      · obtain ⟨⟨s1, s2⟩, s3, s4⟩ := hSw
        go_simp
      simp only [Act.put, List.setIfInBounds_toArray, List.set_cons_zero, List.set_cons_succ]
      refine takeD (i := 8) (d := 68) (v := .pointer (some ⟨xb, 0, none⟩)) rfl (by kernel_rfl) (by kernel_rfl) (by kernel_rfl) (fun _ _ _ h => h) (fun oi ho => yields_now ho rfl fun Z hSw => ?_) hS7 ?_
      · obtain ⟨⟨s1, s2⟩, s3, s4⟩ := hSw
        go_simp
      simp only [Act.put, List.setIfInBounds_toArray, List.set_cons_zero, List.set_cons_succ]
      refine takeD (i := 9) (d := 69) (v := .int .i64 (k : Int)) rfl (by kernel_rfl) (by kernel_rfl) (by kernel_rfl) (fun _ _ _ h => h) (fun oi ho => yields_now ho rfl fun Z hSw => ?_) hS7 ?_
      · obtain ⟨⟨s1, s2⟩, s3, s4⟩ := hSw
        go_simp
      simp only [Act.put, List.setIfInBounds_toArray, List.set_cons_zero, List.set_cons_succ]
      refine takeD (i := 11) (d := 71) (v := .slice al L.length cl) rfl (by kernel_rfl) (by kernel_rfl) (by kernel_rfl) (fun _ _ _ h => h) (fun oi ho => yields_now ho rfl fun Z hSw => ?_) hS7 ?_
      · obtain ⟨⟨s1, s2⟩, s3, s4⟩ := hSw
        go_simp
      simp only [Act.put, List.setIfInBounds_toArray, List.set_cons_zero, List.set_cons_succ]
      refine takeD (i := 12) (d := 72) (v := .slice (some ⟨g, 0, none⟩) es.length cap) rfl (by kernel_rfl) (by kernel_rfl) (by kernel_rfl) (fun _ _ _ h => h) (fun oi ho => yields_now ho rfl fun Z hSw => ?_) hS7 ?_
      · obtain ⟨⟨s1, s2⟩, s3, s4⟩ := hSw
        go_simp
      simp only [Act.put, List.setIfInBounds_toArray, List.set_cons_zero, List.set_cons_succ]
      refine takeD (i := 13) (d := 73) (v := .int .i64 (k : Int)) rfl (by kernel_rfl) (by kernel_rfl) (by kernel_rfl) (fun _ _ _ h => h) (fun oi ho => yields_now ho rfl fun Z hSw => ?_) hS7 ?_
      · obtain ⟨⟨s1, s2⟩, s3, s4⟩ := hSw
        go_simp
      simp only [Act.put, List.setIfInBounds_toArray, List.set_cons_zero, List.set_cons_succ]
      refine wpAnyH_all (rs := [10]) (by kernel_rfl) (by simp) (fun i hi => ?_)
      obtain rfl := List.mem_singleton.1 hi
      refine wpOp_call rfl rfl rfl (by go_simp) (cT) ?_
      rintro e w8 ⟨rfl, hw⟩
      obtain rfl := hw.symm
      clear hw
      have cR := HCR.out w7 hB7
      refine ⟨_, rfl, hS7, ?_⟩
      simp only [Act.put, List.setIfInBounds_toArray, List.set_cons_zero, List.set_cons_succ]
      refine wpAnyH_all (rs := [14]) (by kernel_rfl) (by simp) (fun i hi => ?_)
      obtain rfl := List.mem_singleton.1 hi
      refine wpOp_call rfl rfl rfl (by go_simp) (cR) ?_
      rintro e w9 ⟨rfl, hb9⟩
      have hB9 : Below wY.heap.size wY w9 := hB7.trans (hb9.mono hB7.size)
      have hS9 := hSS w9 hB9
      refine ⟨_, rfl, hS9, ?_⟩
      simp only [Act.put, List.setIfInBounds_toArray, List.set_cons_zero, List.set_cons_succ]
      refine takeD (i := 15) (d := 75) (v := .bool false) rfl (by kernel_rfl) (by kernel_rfl) (by kernel_rfl) (fun _ _ _ h => h) (fun oi ho => yields_now ho rfl fun Z hSw => ?_) hS9 ?_
      · obtain ⟨⟨s1, s2⟩, s3, s4⟩ := hSw
        go_simp
      simp only [Act.put, List.setIfInBounds_toArray, List.set_cons_zero, List.set_cons_succ]
      refine takeD (i := 16) (d := 76) (v := .bool false) rfl (by kernel_rfl) (by kernel_rfl) (by kernel_rfl) (fun _ _ _ h => h) (fun oi ho => yields_now ho rfl fun Z hSw => ?_) hS9 ?_
      · obtain ⟨⟨s1, s2⟩, s3, s4⟩ := hSw
        go_simp
      simp only [Act.put, List.setIfInBounds_toArray, List.set_cons_zero, List.set_cons_succ]
      refine wpAnyH_done (by kernel_rfl) ?_ _
      have hbx9 := hbx.keep hB9
      have hrow9 : w9.ownsRow wr.heap.size 3 1 (.slice a6 N c6) N (ints c) := row_turn hrowY (below_but hB9 none) (fun _ _ _ => by simp)
      have HWR9 : Aside (Below wr.heap.size wr w9) := hWY.trans (hB9.mono hWY.size)
      have h60 := hbx9.c0
      have hlow6 : w6.heap.size < w9.heap.size := hbx9.lt
      have hne6 : ∀ b, (Value.slice a6 N c6).ownBlock = some b → b ≠ w6.heap.size ∧ wr.heap.size ≤ b := fun b e => by
        have := hrow6.lt b e
        omega
      have HRW9 : Aside (∃ xs, w9.ownsRow wr.heap.size 3 1 (.slice a6 N c6) N xs) := ⟨_, hrow9⟩
      have HBX9 : Aside (Bx2 w9 w6.heap.size 33 (.slice a6 N c6) (.int .i64 sc)) := hbx9
      have HNE6 : Aside (∀ b, (Value.slice a6 N c6).ownBlock = some b → b ≠ w6.heap.size ∧ wr.heap.size ≤ b) := hne6
      clear hbx9 hrow9 hB9 hS9 hB7 hS7 hS0 hSS cW1 HCT HCR hjt hb9 hb7 hrowY hY0 hwWY hWY hbY hbx hrow6 hb6 hne6 hlow6 cT cR
      generalize w6.heap.size = s6 at *
      go_wp2
      generalize wr = wr0 at *
      go_loopg [80] N (fun g2 vj wr => ∃ j : Nat, vj = .int .i64 (j : Int) ∧ j ≤ N ∧ N - j ≤ g2 ∧ Aside (∃ xs, wr.ownsRow wr0.heap.size 3 1 (.slice a6 N c6) N xs) ∧ Aside (Bx2 wr s6 33 (.slice a6 N c6) (.int .i64 sc)) ∧ Aside (Below wr0.heap.size wr0 wr))
      case atStart => exact ⟨0, rfl, Nat.zero_le _, Nat.le_refl _, HRW9, HBX9, HWR9⟩
      case round =>
        clear HRW9 HBX9 HWR9 h60
        obtain ⟨j, rfl, hj, hg2, HRW, HBX, HBj⟩ := hrel
        by_cases hjN : j < N
        · have hjz : (j : Int) < (N : Int) := by omega
          obtain ⟨xs, hrow⟩ := HRW.out
          obtain ⟨g6, rfl⟩ : ∃ g6, a6 = some ⟨g6, 0, none⟩ := by
            rcases hrow.2 with ⟨e, h0⟩ | ⟨g', cp', cur, e, _⟩
            · omega
            · injection e with e; exact ⟨g', e⟩
          have hxl : xs.length = N := by have := hrow.1; omega
          have hfr := hrow.frozenAt j
          obtain ⟨u, hu⟩ : ∃ u, wr.cell? ⟨g6, j, none⟩ = some u := ⟨_, (hrow.cellAt j (by omega)).trans (List.getElem?_eq_getElem (by omega))⟩
          have st := hrow.stored j (.int .i64 (-3))
          have h60 := HBX.out.c0
          have hne := HNE6.out g6 rfl
          have HRW2 : Aside (∃ xs, (wr.setCell ⟨g6, j, none⟩ (.int .i64 (-3))).ownsRow wr0.heap.size 3 1 (.slice (some ⟨g6, 0, none⟩) N c6) N xs) := ⟨_, st.1⟩
          have HBX2 : Aside (Bx2 (wr.setCell ⟨g6, j, none⟩ (.int .i64 (-3))) s6 33 (.slice (some ⟨g6, 0, none⟩) N c6) (.int .i64 sc)) := ⟨(st.2.block s6 HBX.out.lt (fun e => by injection e with e; exact hne.1 e.symm)).trans HBX.out.blk⟩
          have HBj2 : Aside (Below wr0.heap.size wr0 (wr.setCell ⟨g6, j, none⟩ (.int .i64 (-3)))) := HBj.out.grown st.2 HBj.out.size (fun q e => by injection e with e; omega)
          clear st hrow HRW HBX hne hxl
          go_wp2
          go_roundg (N - (j + 1))
          case measure => omega
          case rel => exact ⟨j + 1, by go_num, by omega, Nat.le_refl _, HRW2, HBX2, HBj2⟩
        · have hjz : ¬ (j : Int) < (N : Int) := by omega
          obtain ⟨c1, c2⟩ := HEL.out wr HBj.out
          have cF := HFI.out wr (HB.out.trans (HBj.out.mono HB.out.size)) ea ec (HMM.out wr HBj.out)
          have HBJ : Aside (Below wr0.heap.size wr0 wr) := HBj.out
          generalize wr = wq at *
          clear HRW HBX
          go_wp2_with fail
          refine cF.mono ?_
          rintro e wf ⟨rfl, hbf⟩
          have hBf0 : Below wr0.heap.size wr0 wf := HBJ.out.trans (hbf.mono HBJ.out.size)
          have hBf : Below wr0.heap.size wr0 wf.drew := Below.drew hBf0
          have hTT : ∀ Z, Below wr0.heap.size wr0 Z → Z.cell? ⟨g, k * 2, none⟩ = some (.slice ea N ec) ∧ Z.cell? ⟨g, k * 2 + 1, none⟩ = some (.int .i64 sc) := fun Z hb => HEL.out Z hb
          have hT0 := hTT wf.drew hBf
          have cW := HWD.out wf.drew (HB.out.trans (hBf.mono HB.out.size))
          have HSW : Aside (∀ Z, Below wr0.heap.size wr0 Z → ∀ a6 c6 base, Z.ownsRow base 3 1 (.slice a6 N c6) N (ints c) → Calls Tryz.prog 11 #[.agg #[.slice a6 N c6, .int .i64 sc], .agg #[.slice ea N ec, .int .i64 sc]] Z fun e w' => e = .returned (.bool true) ∧ Below Z.heap.size Z w') := HSW0.out
          have hkk : ((k : Int) != (k : Int)) = false := by simp
          clear cF c1 c2 hbf
          go_wp2
          refine wp_region_held (S := fun Z => Z.cell? ⟨g, k * 2, none⟩ = some (.slice ea N ec) ∧ Z.cell? ⟨g, k * 2 + 1, none⟩ = some (.int .i64 sc)) (by kernel_rfl) ?_
          refine (show wpAnyH _ .any _ _ _ 18 (Array.replicate 18 false) _ wf.drew from ?_)
          refine takeD (i := 0) (d := 98) (v := .bool true) rfl (by kernel_rfl) (by kernel_rfl) (by kernel_rfl) (fun _ _ _ h => h) (fun oi ho => yields_now ho rfl fun Z hSw => ?_) hT0 ?_
          · obtain ⟨s3, s4⟩ := hSw
            go_simp
          simp only [Act.put, List.setIfInBounds_toArray, List.set_cons_zero, List.set_cons_succ]
          refine takeD (i := 1) (d := 99) (v := .bool false) rfl (by kernel_rfl) (by kernel_rfl) (by kernel_rfl) (fun _ _ _ h => h) (fun oi ho => yields_now ho rfl fun Z hSw => ?_) hT0 ?_
          · obtain ⟨s3, s4⟩ := hSw
            go_simp
          simp only [Act.put, List.setIfInBounds_toArray, List.set_cons_zero, List.set_cons_succ]
          refine takeD (i := 2) (d := 100) (v := .bool false) rfl (by kernel_rfl) (by kernel_rfl) (by kernel_rfl) (fun _ _ _ h => h) (fun oi ho => yields_now ho rfl fun Z hSw => ?_) hT0 ?_
          · obtain ⟨s3, s4⟩ := hSw
            go_simp
          simp only [Act.put, List.setIfInBounds_toArray, List.set_cons_zero, List.set_cons_succ]
          refine takeD (i := 3) (d := 101) (v := .int .i64 (k : Int)) rfl (by kernel_rfl) (by kernel_rfl) (by kernel_rfl) (fun _ _ _ h => h) (fun oi ho => yields_now ho rfl fun Z hSw => ?_) hT0 ?_
          · obtain ⟨s3, s4⟩ := hSw
            go_simp
          simp only [Act.put, List.setIfInBounds_toArray, List.set_cons_zero, List.set_cons_succ]
          refine takeD (i := 4) (d := 102) (v := .int .i64 (k : Int)) rfl (by kernel_rfl) (by kernel_rfl) (by kernel_rfl) (fun _ _ _ h => h) (fun oi ho => yields_now ho rfl fun Z hSw => ?_) hT0 ?_
          · obtain ⟨s3, s4⟩ := hSw
            go_simp
          simp only [Act.put, List.setIfInBounds_toArray, List.set_cons_zero, List.set_cons_succ]
          refine takeD (i := 5) (d := 103) (v := .bool false) rfl (by kernel_rfl) (by kernel_rfl) (by kernel_rfl) (fun _ _ _ h => h) (fun oi ho => yields_now ho rfl fun Z hSw => ?_) hT0 ?_
          · obtain ⟨s3, s4⟩ := hSw
            go_simp
          simp only [Act.put, List.setIfInBounds_toArray, List.set_cons_zero, List.set_cons_succ]
          refine takeD (i := 6) (d := 104) (v := .bool false) rfl (by kernel_rfl) (by kernel_rfl) (by kernel_rfl) (fun _ _ _ h => h) (fun oi ho => yields_now ho rfl fun Z hSw => ?_) hT0 ?_
          · obtain ⟨s3, s4⟩ := hSw
            go_simp
          simp only [Act.put, List.setIfInBounds_toArray, List.set_cons_zero, List.set_cons_succ]
          refine takeD (i := 7) (d := 105) (v := .bool false) rfl (by kernel_rfl) (by kernel_rfl) (by kernel_rfl) (fun _ _ _ h => h) (fun oi ho => yields_now ho rfl fun Z hSw => ?_) hT0 ?_
          · obtain ⟨s3, s4⟩ := hSw
            go_simp
          simp only [Act.put, List.setIfInBounds_toArray, List.set_cons_zero, List.set_cons_succ]
          refine takeD (i := 8) (d := 106) (v := .pointer (some ⟨xb, 0, none⟩)) rfl (by kernel_rfl) (by kernel_rfl) (by kernel_rfl) (fun _ _ _ h => h) (fun oi ho => yields_now ho rfl fun Z hSw => ?_) hT0 ?_
          · obtain ⟨s3, s4⟩ := hSw
            go_simp
          simp only [Act.put, List.setIfInBounds_toArray, List.set_cons_zero, List.set_cons_succ]
          refine takeD (i := 9) (d := 107) (v := .int .i64 (k : Int)) rfl (by kernel_rfl) (by kernel_rfl) (by kernel_rfl) (fun _ _ _ h => h) (fun oi ho => yields_now ho rfl fun Z hSw => ?_) hT0 ?_
          · obtain ⟨s3, s4⟩ := hSw
            go_simp
          simp only [Act.put, List.setIfInBounds_toArray, List.set_cons_zero, List.set_cons_succ]
          refine takeD (i := 11) (d := 109) (v := .slice (some ⟨g, 0, none⟩) es.length cap) rfl (by kernel_rfl) (by kernel_rfl) (by kernel_rfl) (fun _ _ _ h => h) (fun oi ho => yields_now ho rfl fun Z hSw => ?_) hT0 ?_
          · obtain ⟨s3, s4⟩ := hSw
            go_simp
          simp only [Act.put, List.setIfInBounds_toArray, List.set_cons_zero, List.set_cons_succ]
          refine takeD (i := 12) (d := 110) (v := .int .i64 (k : Int)) rfl (by kernel_rfl) (by kernel_rfl) (by kernel_rfl) (fun _ _ _ h => h) (fun oi ho => yields_now ho rfl fun Z hSw => ?_) hT0 ?_
          · obtain ⟨s3, s4⟩ := hSw
            go_simp
          simp only [Act.put, List.setIfInBounds_toArray, List.set_cons_zero, List.set_cons_succ]
          refine takeD (i := 13) (d := 111) (v := .pointer (some ⟨g, k * 2, none⟩)) rfl (by kernel_rfl) (by kernel_rfl) (by kernel_rfl) (fun _ _ _ h => h) (fun oi ho => yields_now ho rfl fun Z hSw => ?_) hT0 ?_
          · obtain ⟨s3, s4⟩ := hSw
            go_simp
          simp only [Act.put, List.setIfInBounds_toArray, List.set_cons_zero, List.set_cons_succ]
          refine takeD (i := 14) (d := 112) (v := .agg #[.slice ea N ec, .int .i64 sc]) rfl (by kernel_rfl) (by kernel_rfl) (by kernel_rfl) (fun _ _ _ h => h) (fun oi ho => yields_now ho rfl fun Z hSw => ?_) hT0 ?_
          · obtain ⟨s3, s4⟩ := hSw
            go_simp
          simp only [Act.put, List.setIfInBounds_toArray, List.set_cons_zero, List.set_cons_succ]
          refine wpAnyH_all (rs := [10]) (by kernel_rfl) (by simp) (fun i hi => ?_)
          obtain rfl := List.mem_singleton.1 hi
          refine wpOp_call rfl rfl rfl (by go_simp) (cW) ?_
          rintro e wg ⟨⟨vg, rfl, hrowg⟩, hbg⟩
          obtain ⟨ag, cg, rfl⟩ := row_slice hrowg
          have hBg : Below wr0.heap.size wr0 wg := hBf.trans (hbg.mono hBf.size)
          have hTg := hTT wg hBg
          have cS2 := HSW.out wg hBg ag cg _ hrowg
          refine ⟨_, rfl, hTg, ?_⟩
          simp only [Act.put, List.setIfInBounds_toArray, List.set_cons_zero, List.set_cons_succ]
          refine wpAnyH_all (rs := [15]) (by kernel_rfl) (by simp) (fun i hi => ?_)
          obtain rfl := List.mem_singleton.1 hi
          refine wpOp_call rfl rfl rfl (by go_simp) (cS2) ?_
          rintro e wh ⟨rfl, hbh⟩
          have HBh : Aside (Below wr0.heap.size wr0 wh) := hBg.trans (hbh.mono hBg.size)
          have hTh := hTT wh HBh.out
          refine ⟨_, rfl, hTh, ?_⟩
          simp only [Act.put, List.setIfInBounds_toArray, List.set_cons_zero, List.set_cons_succ]
          refine takeD (i := 16) (d := 114) (v := .bool false) rfl (by kernel_rfl) (by kernel_rfl) (by kernel_rfl) (fun _ _ _ h => h) (fun oi ho => yields_now ho rfl fun Z hSw => ?_) hTh ?_
          · obtain ⟨s3, s4⟩ := hSw
            go_simp
          simp only [Act.put, List.setIfInBounds_toArray, List.set_cons_zero, List.set_cons_succ]
          refine takeD (i := 17) (d := 115) (v := .bool false) rfl (by kernel_rfl) (by kernel_rfl) (by kernel_rfl) (fun _ _ _ h => h) (fun oi ho => yields_now ho rfl fun Z hSw => ?_) hTh ?_
          · obtain ⟨s3, s4⟩ := hSw
            go_simp
          simp only [Act.put, List.setIfInBounds_toArray, List.set_cons_zero, List.set_cons_succ]
          refine wpAnyH_done (by kernel_rfl) ?_ _
          have HBF : Aside (Below W.heap.size W wh) := HB.out.trans (HBh.out.mono HB.out.size)
          clear hTh hTg hT0 hTT hBg hBf hBf0 hbg hbh cW cS2 hrowg hkk HSW
          go_wp2
          go_roundg (es.length - (k + 1))
          case measure => omega
          case rel => exact ⟨k + 1, by go_num, by omega, Nat.le_refl _, HBF⟩
    · have hltz : ¬ (k : Int) < (es.length : Int) := by omega
      go_wp2
      go_ret
      exact ⟨rfl, HB.out⟩
end Go.Proofs.YtikfaalbdnlelaaGreatDoor.Utf
