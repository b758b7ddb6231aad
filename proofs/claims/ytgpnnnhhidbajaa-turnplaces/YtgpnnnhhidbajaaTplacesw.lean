/-
  TurnPlaces walked: Place, Then and Back of any numbers are the document's.
-/
import Derived.Test.YtgpnnnhhidbajaaTrnh
import Derived.Deep.RegionWith
namespace Go.Proofs.Ytgpnnnhhidbajaa.Grd
open Go Go.Lib Go.RowKit

/-- A block of three numbers. -/
structure Tri (W : World) (b : Nat) (x y z : Int) : Prop where
  lt : b < W.heap.size
  c0 : W.cell? ⟨b, 0, none⟩ = some (.int .i64 x)
  c1 : W.cell? ⟨b, 1, none⟩ = some (.int .i64 y)
  c2 : W.cell? ⟨b, 2, none⟩ = some (.int .i64 z)
theorem Tri.keep {W W' : World} {b : Nat} {x y z : Int} (h : Tri W b x y z) (hb : Below W.heap.size W W') : Tri W' b x y z :=
  ⟨Nat.lt_of_lt_of_le h.lt hb.size, (hb.cell (p := ⟨b, 0, none⟩) h.lt).trans h.c0, (hb.cell (p := ⟨b, 1, none⟩) h.lt).trans h.c1, (hb.cell (p := ⟨b, 2, none⟩) h.lt).trans h.c2⟩
theorem Tri.new (W : World) (x y z : Int) (t : TypeId) : Tri (W.alloc (.cells #[.int .i64 x, .int .i64 y, .int .i64 z] t)) W.heap.size x y z :=
  ⟨by rw [World.size_alloc]; omega, cells_new _ _ _ _, cells_new _ _ _ _, cells_new _ _ _ _⟩

set_option maxHeartbeats 2000000 in
theorem turnPlaces_walk (h w i k l : Int) (W : World) :
    Calls Try.prog 3 #[.int .i64 h, .int .i64 w, .agg #[.int .i64 i, .int .i64 k, .int .i64 l]] W fun e W' => e = .returned (.bool true) ∧ Below W.heap.size W W' := by
  have cA := fun W => awake6_any W
  have cP := fun W => Place_any h w i k W
  have cQ := fun W => refPlace_any h w i k W
  have cT := fun W => Then_any k l W
  have cU := fun W => refThen_any k l W
  have cB := fun W => Back_any k W
  have cC := fun W => refBack_any k W
  generalize pAns h w i k = pa at *
  generalize thnI k l = t at *
  generalize bckI k = b at *
  obtain ⟨p1, p2⟩ := pa
  dsimp only at cP cQ
  go_enter Try.func3, Try.ntmps3
  go_wp2_with fail
  have HX : Aside (Tri (W.alloc (.cells #[.int .i64 i, .int .i64 k, .int .i64 l] 22)) W.heap.size i k l) := Tri.new W i k l _
  have HB : Aside (Below W.heap.size W (W.alloc (.cells #[.int .i64 i, .int .i64 k, .int .i64 l] 22))) := below_one W _
  refine (cA _).mono ?_
  rintro e w1 ⟨rfl, hb⟩
  replace HX : Aside (Tri w1 W.heap.size i k l) := HX.out.keep hb
  replace HB : Aside (Below W.heap.size W w1) := HB.out.trans (hb.mono HB.out.size)
  clear hb cA
  obtain ⟨_, k0, k1, k2⟩ := HX.out
  go_wp2_with fail
  refine (cP _).mono ?_
  rintro e w2 ⟨rfl, hb⟩
  replace HX : Aside (Tri w2 W.heap.size i k l) := HX.out.keep hb
  replace HB : Aside (Below W.heap.size W w2) := HB.out.trans (hb.mono HB.out.size)
  clear hb cP k0 k1 k2
  obtain ⟨_, k0, k1, k2⟩ := HX.out
  go_wp2_with fail
  refine (cQ _).mono ?_
  rintro e w3 ⟨rfl, hb⟩
  replace HX : Aside (Tri w3 W.heap.size i k l) := HX.out.keep hb
  replace HB : Aside (Below W.heap.size W w3) := HB.out.trans (hb.mono HB.out.size)
  clear hb cQ k0 k1 k2
  obtain ⟨_, k0, k1, k2⟩ := HX.out
  go_wp2
  clear k0 k1 k2
  have HT : Aside (∀ W', Below w3.heap.size w3 W' → Tri W' W.heap.size i k l) := fun W' h => HX.out.keep h
  refine wp_region_quiet (C := fun W => Below w3.heap.size w3 W) (by kernel_rfl) (by kernel_rfl) (Below.drew (Below.refl _ _)) ?_
  repeat (
    refine wpQuiet_step (fun K hK => ?_)
    go_simp
    first
      | (refine hK _ ?_; clear hK K)
      | (apply Exists.intro
         refine ⟨fun W' hW => ?_, hK _ ?_⟩
         first
           | exact rfl
           | (with_reducible refine (cT W').mono ?_; rintro e w6 ⟨rfl, rfl⟩; exact ⟨rfl, hW⟩)
           | (with_reducible refine (cU W').mono ?_; rintro e w6 ⟨rfl, hb6⟩; exact ⟨rfl, hW.trans (hb6.mono hW.size)⟩)
           | (with_reducible refine (cB W').mono ?_; rintro e w6 ⟨rfl, rfl⟩; exact ⟨rfl, hW⟩)
           | (with_reducible refine (cC W').mono ?_; rintro e w6 ⟨rfl, hb6⟩; exact ⟨rfl, hW.trans (hb6.mono hW.size)⟩)
           | (obtain ⟨_, k0, k1, k2⟩ := HT.out W' hW; go_simp; exact rfl)
         clear hK K))
  refine wpQuiet_nil ?_
  intro w6 hb6
  replace HB : Aside (Below W.heap.size W w6) := HB.out.trans (hb6.mono HB.out.size)
  clear hb6
  go_wp2
  go_ret
  exact ⟨rfl, HB.out⟩
end Go.Proofs.Ytgpnnnhhidbajaa.Grd
