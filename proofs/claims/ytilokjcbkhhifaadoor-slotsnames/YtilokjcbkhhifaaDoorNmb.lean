/-
  The document's Decimal and Name.
-/
import Derived.Test.YtilokjcbkhhifaaDoorNma
import Derived.Deep.CutRange
import Derived.Deep.RegionWith
namespace Go.Proofs.YtilokjcbkhhifaaDoor.Grd
open Go Go.Lib Go.RowKit

theorem byte_string (W : World) (y : Nat) (hy : y < 256) :
    (convert 73 9 (.slice (some ⟨W.heap.size, 0, none⟩) 1 1)).run Tryd.prog (W.alloc (.cells #[.int .u8 (y : Int)] 5)) = .ok (.string ⟨#[UInt8.ofNat y]⟩) (W.alloc (.cells #[.int .u8 (y : Int)] 5)) := by
  refine run_convert_bytes_back _ 73 9 5 ⟨W.heap.size, 0, none⟩ 1 [UInt8.ofNat y] Tryd.underlying73 Tryd.underlying5 Tryd.underlying9 (fun j hj => ?_)
  obtain rfl : j = 0 := by simp at hj; omega
  rw [Addr.add_lit, cells_box]
  have : (UInt8.ofNat y).toNat = y := by rw [UInt8.toNat_ofNat']; exact Nat.mod_eq_of_lt (by omega)
  simp [this]
set_option maxRecDepth 20000 in
theorem dec_one (n : Nat) (h : n < 10) (w : World) :
    Calls Tryd.prog 42 #[.int .i64 n] w fun e w' => e = .returned (.string ⟨(dig3 n).toArray⟩) ∧ Below w.heap.size w w' := by
  have HV : Aside (dig3 n = [UInt8.ofNat (48 + n)]) := if_pos h
  have hz : (n : Int) < 10 := by omega
  have hcv := fun W => byte_string W (48 + n) (by omega)
  have hx1 : ((48 + n : Nat) : Int) ≤ 255 := by omega
  have hx0 : 0 ≤ ((48 + n : Nat) : Int) := by omega
  have HB : Aside (Below w.heap.size w (w.alloc (.cells #[.int .u8 ((48 + n : Nat) : Int)] 5))) := below_box _ _
  obtain ⟨y, hy⟩ : ∃ y, 48 + n = y := ⟨_, rfl⟩
  have hxx : (48 : Int) + (n : Int) = (y : Int) := by omega
  rw [hy] at hcv hx1 hx0 HB HV
  clear hy
  go_enter Tryd.func42, Tryd.ntmps42
  go_wp2
  go_ret
  exact ⟨by rw [HV.out]; rfl, HB.out⟩
theorem byte_kept {W w' : World} {v : Value} {t : TypeId} (h : Below (W.alloc (.cells #[v] t)).drew.heap.size (W.alloc (.cells #[v] t)).drew w') : w'.cell? ⟨W.heap.size, 0, none⟩ = some v := by
  have hb : Below W.heap.size W (W.alloc (.cells #[v] t)).drew := Below.drew (below_box _ _)
  rw [h.cell (p := ⟨W.heap.size, 0, none⟩) (show W.heap.size < (W.alloc (.cells #[v] t)).heap.size by rw [World.size_alloc]; omega)]
  show (W.alloc (.cells #[v] t)).cell? _ = _
  rw [cells_box]
  rfl
theorem byte_conv (W : World) (b y : Nat) (hy : y < 256) (hc : W.cell? ⟨b, 0, none⟩ = some (.int .u8 (y : Int))) :
    (convert 73 9 (.slice (some ⟨b, 0, none⟩) 1 1)).run Tryd.prog W = .ok (.string ⟨#[UInt8.ofNat y]⟩) W := by
  refine run_convert_bytes_back _ 73 9 5 ⟨b, 0, none⟩ 1 [UInt8.ofNat y] Tryd.underlying73 Tryd.underlying5 Tryd.underlying9 (fun j hj => ?_)
  obtain rfl : j = 0 := by simp at hj; omega
  rw [Addr.add_lit]
  have : (UInt8.ofNat y).toNat = y := by rw [UInt8.toNat_ofNat']; exact Nat.mod_eq_of_lt (by omega)
  simpa [this] using hc
set_option maxRecDepth 20000 in
set_option maxHeartbeats 2000000 in
/-- One digit more. -/
theorem dec_more (n q r : Nat) (D : List UInt8) (hn : ¬ n < 10) (hl : n < 1000) (hq : n / 10 = q) (hr : n % 10 = r) (hD : D.length ≤ 3) (w : World)
    (CD : ∀ W, Calls Tryd.prog 42 #[.int .i64 q] W fun e w' => e = .returned (.string ⟨D.toArray⟩) ∧ Below W.heap.size W w') :
    Calls Tryd.prog 42 #[.int .i64 n] w fun e w' => e = .returned (.string ⟨(D ++ [UInt8.ofNat (48 + r)]).toArray⟩) ∧ Below w.heap.size w w' := by
  have hz : ¬ (n : Int) < 10 := by omega
  have hd : (n : Int) / 10 = (q : Int) := by omega
  have hm : (n : Int) % 10 = (r : Int) := by omega
  have hr10 : r < 10 := by omega
  have hq100 : q < 100 := by omega
  obtain ⟨y, hy⟩ : ∃ y, 48 + r = y := ⟨_, rfl⟩
  rw [hy]
  have hx : (48 : Int) + (r : Int) = (y : Int) := by omega
  have hx1 : (y : Int) ≤ 255 := by omega
  have hx0 : 0 ≤ (y : Int) := by omega
  have hcv := fun W => byte_string W y (by omega)
  have hcw := fun W b => byte_conv W b y (by omega)
  have hw1 : IntKind.i64.wrap (q : Int) = (q : Int) := by simp [IntKind.wrap, IntKind.signed, IntKind.bits]; omega
  have hmt : (n : Int).tmod 10 = (r : Int) := by rw [Int.tmod_eq_emod_of_nonneg (by omega)]; exact hm
  have hw2 : IntKind.i64.wrap (y : Int) = (y : Int) := by simp [IntKind.wrap, IntKind.signed, IntKind.bits]; omega
  have hw3 : IntKind.u8.wrap (y : Int) = (y : Int) := by simp [IntKind.wrap, IntKind.signed, IntKind.bits]; omega
  have hB0 : Below w.heap.size w w.drew := Below.drew (Below.refl _ _)
  have hB1 : Below w.heap.size w (w.alloc (.cells #[.int .u8 (y : Int)] 5)).drew := Below.drew (below_box _ _)
  have cA := CD (w.alloc (.cells #[.int .u8 (y : Int)] 5)).drew
  have cB := CD w.drew
  clear hq hr hy CD hr10
  go_enter Tryd.func42, Tryd.ntmps42
  go_wp2
  go_region_with (first
    | (go_at_call 42; with_reducible refine cA.mono ?_; rintro e w1 ⟨rfl, hb1⟩; have hc1 := byte_kept hb1; have HE := hB1.trans (hb1.mono hB1.size); clear cA cB)
    | (go_at_call 42; with_reducible refine cB.mono ?_; rintro e w1 ⟨rfl, hb1⟩; have HE := hB0.trans (hb1.mono hB0.size); clear cA cB))
  all_goals (try go_simp)
  all_goals (go_wp2_with fail)
  all_goals go_ret
  all_goals first
    | exact ⟨rfl, HE⟩
    | exact ⟨rfl, HE.alloc HE.size _⟩
end Go.Proofs.YtilokjcbkhhifaaDoor.Grd
