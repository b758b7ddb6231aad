/-
  The law on bytes below 128 walked: for every list of bytes that there can be it answers true.
-/
import Derived.Test.YtiemndjcebhgcaaAwk2
import Derived.Test.YtiemndjcebhgcaaFldk
import Derived.Test.YtiemndjcebhgcaaAscm
import Derived.Maps.AppendAt
import Derived.Laws.BytesArg
import Derived.Lib.OwnKind
import Derived.Deep.RegionWith
namespace Go.Proofs.Ytiemndjcebhgcaa.Utf
open Go Go.Lib Go.RowKit

/-- Bytes that the call has put together, as a string. -/
theorem own_convert {W : World} {B : Nat} {v : Value} {l : List UInt8} (h : W.ownsRow B 5 1 v l.length (Lib.byteCells l)) :
    (convert 22 9 v).run Try.prog W = .ok (.string ⟨l.toArray⟩) W := by
  have hh := h
  rcases h.2 with ⟨rfl, h0⟩ | ⟨g, cap, cur, rfl, hb, _⟩
  · have : l = [] := List.eq_nil_of_length_eq_zero h0
    subst this
    exact run_convert_bytes_nil W 22 5 Try.underlying22 Try.underlying5 0 0 9 Try.underlying9
  · exact run_convert_bytes_back W 22 9 5 ⟨g, 0, none⟩ cap l Try.underlying22 Try.underlying5 Try.underlying9 (fun j hj => hh.cells (g := g) rfl j (.int .u8 (l[j].toNat : Int)) (by simp [Lib.byteCells, hj]))
theorem bits7_all : ((List.range 256).all fun n => bits .and .u8 (n : Int) 127 == (n : Int) % 128) = true := by kernel_rfl
theorem bits7 (z : Int) (h0 : 0 ≤ z) (h1 : z ≤ 255) : bits .and .u8 z 127 = z % 128 := by
  have := List.all_eq_true.1 bits7_all z.toNat (by rw [List.mem_range]; omega)
  rw [beq_iff_eq, Int.toNat_of_nonneg h0] at this
  exact this
theorem bc_snoc (L : List UInt8) (b : UInt8) (c : Int) (h : (b.toNat : Int) = c) : Lib.byteCells (L ++ [b]) = Lib.byteCells L ++ [.int .u8 c] := by
  simp [Lib.byteCells, h]
theorem want_cases (b : UInt8) : ((97 ≤ b.toNat ∧ b.toNat ≤ 122) ∧ wantB b = [UInt8.ofNat (b.toNat - 32)]) ∨ ((65 ≤ b.toNat ∧ b.toNat ≤ 90) ∧ wantB b = [b]) ∨ ((¬ (97 ≤ b.toNat ∧ b.toNat ≤ 122) ∧ ¬ (65 ≤ b.toNat ∧ b.toNat ≤ 90)) ∧ wantB b = []) := by
  unfold wantB
  by_cases h1 : 97 ≤ b.toNat ∧ b.toNat ≤ 122
  · exact .inl ⟨h1, if_pos h1⟩
  · by_cases h2 : 65 ≤ b.toNat ∧ b.toNat ≤ 90
    · exact .inr (.inl ⟨h2, by rw [if_neg h1, if_pos h2]⟩)
    · exact .inr (.inr ⟨⟨h1, h2⟩, by rw [if_neg h1, if_neg h2]⟩)
/-- Two lists of the call's own lie apart. -/
def Apart (v u : Value) : Prop := ∀ g, v.ownBlock = some g → u.ownBlock ≠ some g

theorem apart_nil (u : Value) : Apart (.slice none 0 0) u := fun g h => by simp [Value.ownBlock] at h
theorem Apart.kept {v u : Value} (h : Apart v u) : u.ownBlock = none ∨ u.ownBlock ≠ v.ownBlock := by
  cases hu : u.ownBlock with
  | none => exact .inl rfl
  | some g => exact .inr fun e => h g e.symm hu
theorem Apart.symm {v u : Value} (h : Apart v u) : Apart u v := fun g hu hv => h g hv hu
theorem Apart.new {W : World} {B : Nat} {e : TypeId} {v v' u : Value} {n N : Nat} {xs : List Value} (h : Apart v u) (hu : W.ownsRow B e 1 u n xs) (hN : W.heap.size ≤ N) (hat : v'.ownBlock = v.ownBlock ∨ v'.ownBlock = some N) : Apart v' u := fun g hv hg => by
  rcases hat with e | e
  · rw [e] at hv; exact h g hv hg
  · rw [e] at hv
    cases hv
    have := (hu.lt _ hg).2
    omega

theorem row_under {W W' : World} {B : Nat} {e : TypeId} {sz : Nat} {v : Value} {n : Nat} {xs : List Value} (h : W.ownsRow B e sz v n xs) (hb : Below W.heap.size W W') : W'.ownsRow B e sz v n xs := by
  refine ⟨h.1, ?_⟩
  rcases h.2 with hn | ⟨g, cap, cur, hv, hbg, hg, rest⟩
  · exact .inl hn
  · exact .inr ⟨g, cap, cur, hv, hbg, (hb.block g (Array.getElem?_eq_some_iff.1 hg).1).trans hg, rest⟩

set_option maxHeartbeats 4000000 in
theorem foldAscii_full (zs : List Int) (ao : Option Addr) (cap : Nat) (p : Bool) (w : World) (hl : zs.length ≤ 140737488351232) (hz : ∀ n ∈ zs, 0 ≤ n ∧ n ≤ 255)
    (hcell : ∀ i, i < zs.length → ∃ b off, ao = some ⟨b, off, none⟩ ∧ b < w.heap.size ∧ w.cell? ⟨b, off + i, none⟩ = some (.int .u8 (zs[i]?.getD 0))) :
    Calls Try.prog 3 #[.slice ao zs.length cap, .bool p] w fun e w' => e = .returned (.bool true) ∧ Below w.heap.size w w' := by
  obtain ⟨i0, hi, hz0, hz1, hz2⟩ := info_parts infoByte
  have cA := awake2_any w
  go_enter Try.func3, Try.ntmps3
  go_wp2_with fail
  refine cA.mono ?_
  rintro e w1 ⟨rfl, hb1⟩
  go_wp2_with fail
  go_loopw [5, 6, 13] (fun tv wv iv wr => ∃ k : Nat, iv = .int .i64 (k : Int) ∧ k ≤ zs.length ∧ wr.ownsRow w1.heap.size 5 1 tv ((zs.take k).map lowB).length (Lib.byteCells ((zs.take k).map lowB)) ∧
      wr.ownsRow w1.heap.size 5 1 wv (((zs.take k).map lowB).flatMap wantB).length (Lib.byteCells (((zs.take k).map lowB).flatMap wantB)) ∧ Apart tv wv ∧ Below w1.heap.size w1 wr ∧ (((zs.take k).map lowB).flatMap wantB).length ≤ k)
    (fun _ _ iv _ => zs.length - (RowKit.intOf iv).toNat)
  case atStart => exact ⟨0, rfl, Nat.zero_le _, World.ownsRow_nil _ _ _ _, World.ownsRow_nil _ _ _ _, apart_nil _, Below.refl _ _, Nat.le_refl _⟩
  case round =>
    obtain ⟨k, rfl, hk, ot, ow, hap, hB, hwk⟩ := hrel
    by_cases hlt : k < zs.length
    · obtain ⟨b, off, rfl, hb, hc⟩ := hcell k hlt
      have hc' : wr.cell? ⟨b, off + k, none⟩ = some (.int .u8 (zs[k]?.getD 0)) := (hB.cell (p := ⟨b, off + k, none⟩) (by have := hb1.size; show b < _; omega)).trans ((hb1.cell (p := ⟨b, off + k, none⟩) hb).trans hc)
      have hzk := hz zs[k] (List.getElem_mem hlt)
      rw [List.getElem?_eq_getElem hlt, Option.getD_some] at hc'
      have htk : (zs.take (k + 1)).map lowB = (zs.take k).map lowB ++ [lowB zs[k]] := by rw [List.take_succ_eq_append_getElem hlt, List.map_append]; rfl
      generalize zs[k] = z at *
      clear hcell hz hc
      have hbits := bits7 z hzk.1 hzk.2
      have hlow := lowB_int z
      have hwant := want_cases (lowB z)
      have HT : Hid ((zs.take (k + 1)).map lowB = (zs.take k).map lowB ++ [lowB z]) := htk
      have HM : Hid (((zs.take (k + 1)).map lowB).flatMap wantB = ((zs.take k).map lowB).flatMap wantB ++ wantB (lowB z)) := by
        show _ = _
        rw [htk, List.flatMap_append]
        simp
      clear htk
      have hTl : ((zs.take k).map lowB).length ≤ k := by rw [List.length_map, List.length_take]; omega
      generalize hM : ((zs.take k).map lowB).flatMap wantB = M at *
      clear hM
      generalize (zs.take k).map lowB = L at *
      generalize hb2 : lowB z = bz at *
      clear hb2
      have hc0 : 0 ≤ z % 128 ∧ z % 128 < 128 := by omega
      generalize z % 128 = c at *
      have e1 : Lib.byteCells (L ++ [bz]) = Lib.byteCells L ++ [.int .u8 c] := bc_snoc L bz c hlow
      obtain ⟨ta, tc, htv⟩ := ownsRow_slice ot
      obtain ⟨wa, wc, hwv⟩ := ownsRow_slice ow
      subst htv hwv
      have hBz := hB.size
      go_wp2_with (at_builtin; refine wpList_append_own_at _ rfl _ _ 22 rfl w1.heap.size 5 i0 (.int .u8 0) 1 1 Try.underlying22 hi hz0 hz1 hz2 rfl (by decide) _ _ _ rfl (ot.alloc _) ⟨wr.heap.size, 0, none⟩ 1 1 [.int .u8 c] rfl rfl (cell_one_new _ _ _) (by simp [Value.oneCell']) (by unfold maxLen; omega) (by omega) (by simp; omega) ?_)
      intro v' w2 ot2 hgrow _ hat
      have ow2 := (ow.alloc (.cells #[.int .u8 c] 5)).kept hgrow hap.kept
      have hap2 : Apart v' (.slice wa M.length wc) := hap.new (ow.alloc (.cells #[.int .u8 c] 5)) (N := wr.heap.size + 1) (by simp) hat
      have hB2 : Below w1.heap.size w1 w2 := Below.grown (hB.alloc (by omega) _) hgrow (by simp; omega) (fun j hj => (ot.lt _ hj).1)
      have ot3 : w2.ownsRow w1.heap.size 5 1 v' (L.length + 1) (Lib.byteCells L ++ [.int .u8 c]) := ot2
      obtain ⟨ta2, tc2, hv2⟩ := ownsRow_slice ot3
      subst hv2
      have hBz2 := hB2.size
      clear hgrow ot ow hB hap ot2 hat
      rcases hwant with ⟨hwc, hw⟩ | ⟨hwc, hw⟩ | ⟨hwc, hw⟩
      · have hcc : 97 ≤ c ∧ c ≤ 122 := by omega
        clear hbits
        have e2 : Lib.byteCells (M ++ [UInt8.ofNat (bz.toNat - 32)]) = Lib.byteCells M ++ [.int .u8 (c - 32)] := bc_snoc M _ _ (by first | exact hlow | (rw [u8n (by omega)]; omega))
        go_wp2_with (at_builtin; refine wpList_append_own_at _ rfl _ _ 22 rfl w1.heap.size 5 i0 (.int .u8 0) 1 1 Try.underlying22 hi hz0 hz1 hz2 rfl (by decide) _ _ _ rfl (ow2.alloc _) ⟨w2.heap.size, 0, none⟩ 1 1 [.int .u8 (c - 32)] rfl rfl (cell_one_new _ _ _) (by simp [Value.oneCell']) (by unfold maxLen; omega) (by omega) (by simp; omega) ?_)
        intro u' w3 ow3 hgrow3 _ hat3
        have ot4 := (ot3.alloc (.cells #[.int .u8 (c - 32)] 5)).kept hgrow3 hap2.symm.kept
        have hap3 : Apart (.slice ta2 (L.length + 1) tc2) u' := (hap2.symm.new (ot3.alloc (.cells #[.int .u8 c] 5)) (N := w2.heap.size + 1) (by simp) hat3).symm
        have hB3 : Below w1.heap.size w1 w3 := Below.grown (hB2.alloc (by omega) _) hgrow3 (by simp; omega) (fun j hj => (ow2.lt _ hj).1)
        have ow4 : w3.ownsRow w1.heap.size 5 1 u' (M ++ [UInt8.ofNat (bz.toNat - 32)]).length (Lib.byteCells (M ++ [UInt8.ofNat (bz.toNat - 32)])) := by
          rw [e2, List.length_append]; exact ow3
        obtain ⟨wa2, wc2, hu⟩ := ownsRow_slice ow3
        subst hu
        clear hgrow3 ot3 ow2 hB2 hap2 ow3 hat3
        go_wp2
        go_roundw
        case rel =>
          refine ⟨k + 1, by go_num, by omega, ?_, ?_, hap3, hB3, ?_⟩
          · rw [HT.out, e1, List.length_append]; exact ot4
          · rw [HM.out, hw]; exact ow4
          · rw [HM.out, hw, List.length_append]; simp only [List.length_singleton]; omega
        case measure => simp [RowKit.intOf]; omega
      · have hcc : 65 ≤ c ∧ c ≤ 90 := by omega
        clear hbits
        have e2 : Lib.byteCells (M ++ [bz]) = Lib.byteCells M ++ [.int .u8 (c)] := bc_snoc M _ _ (by first | exact hlow | (rw [u8n (by omega)]; omega))
        go_wp2_with (at_builtin; refine wpList_append_own_at _ rfl _ _ 22 rfl w1.heap.size 5 i0 (.int .u8 0) 1 1 Try.underlying22 hi hz0 hz1 hz2 rfl (by decide) _ _ _ rfl (ow2.alloc _) ⟨w2.heap.size, 0, none⟩ 1 1 [.int .u8 (c)] rfl rfl (cell_one_new _ _ _) (by simp [Value.oneCell']) (by unfold maxLen; omega) (by omega) (by simp; omega) ?_)
        intro u' w3 ow3 hgrow3 _ hat3
        have ot4 := (ot3.alloc (.cells #[.int .u8 (c)] 5)).kept hgrow3 hap2.symm.kept
        have hap3 : Apart (.slice ta2 (L.length + 1) tc2) u' := (hap2.symm.new (ot3.alloc (.cells #[.int .u8 c] 5)) (N := w2.heap.size + 1) (by simp) hat3).symm
        have hB3 : Below w1.heap.size w1 w3 := Below.grown (hB2.alloc (by omega) _) hgrow3 (by simp; omega) (fun j hj => (ow2.lt _ hj).1)
        have ow4 : w3.ownsRow w1.heap.size 5 1 u' (M ++ [bz]).length (Lib.byteCells (M ++ [bz])) := by
          rw [e2, List.length_append]; exact ow3
        obtain ⟨wa2, wc2, hu⟩ := ownsRow_slice ow3
        subst hu
        clear hgrow3 ot3 ow2 hB2 hap2 ow3 hat3
        go_wp2
        go_roundw
        case rel =>
          refine ⟨k + 1, by go_num, by omega, ?_, ?_, hap3, hB3, ?_⟩
          · rw [HT.out, e1, List.length_append]; exact ot4
          · rw [HM.out, hw]; exact ow4
          · rw [HM.out, hw, List.length_append]; simp only [List.length_singleton]; omega
        case measure => simp [RowKit.intOf]; omega
      · have hcc : ¬ (97 ≤ c ∧ c ≤ 122) ∧ ¬ (65 ≤ c ∧ c ≤ 90) := by omega
        clear hbits
        have key : ∀ w3 : World, w3 = w2 → True := fun _ _ => trivial
        clear key
        have ow4 := ow2
        rcases (show (c < 65) ∨ (90 < c ∧ c < 97) ∨ 122 < c by omega) with h | h | h
        all_goals
          go_wp2
          go_roundw
          case rel =>
            refine ⟨k + 1, by go_num, by omega, ?_, ?_, hap2, hB2, ?_⟩
            · rw [HT.out, e1, List.length_append]; exact ot3
            · rw [HM.out, hw, List.append_nil]; exact ow4
            · rw [HM.out, hw, List.append_nil]; omega
          case measure => simp [RowKit.intOf]; omega
    · obtain rfl : k = zs.length := by omega
      rw [List.take_length] at ot ow hwk
      have hlw : ∀ b ∈ zs.map lowB, b.toNat < 128 := fun b hb => by
        obtain ⟨z, _, rfl⟩ := List.mem_map.1 hb
        rw [lowB_nat]; omega
      have hfold := ascii_fold p (zs.map lowB) hlw
      have hll : (zs.map lowB).length ≤ zs.length := Nat.le_of_eq (List.length_map _)
      clear hcell hz hlw
      generalize (zs.map lowB).flatMap wantB = M at *
      generalize zs.map lowB = L at *
      have cF := fun W => fold_big ⟨L.toArray⟩ p W (by rw [← ba_len]; simp; omega)
      rw [hfold] at cF
      clear hfold
      have otd := ot.drew
      have owd := ow.drew
      have hcT := own_convert otd
      have hcW := own_convert owd
      have hcN : ∀ W, Below wr.heap.size wr.drew W → Hid ((convert 22 9 u6).run Try.prog W = .ok (.string ⟨M.toArray⟩) W) := fun W hb => own_convert (row_under owd hb)
      obtain ⟨ta, tc, htv⟩ := ownsRow_slice ot
      obtain ⟨wa, wc, hwv⟩ := ownsRow_slice ow
      subst htv hwv
      have hBd : Below w.heap.size w wr.drew := (hb1.trans (hB.mono hb1.size)).drew
      clear ot ow otd owd
      go_wp2_with fail
      generalize (⟨L.toArray⟩ : ByteArray) = S at *
      generalize (⟨M.toArray⟩ : ByteArray) = R at *
      go_region_with (go_at_call 5; refine (cF _).mono ?_; rintro e w' ⟨rfl, hbf⟩; have hcN' := (hcN _ hbf).out; have HBf : Hid (Below w.heap.size w w') := hBd.trans (hbf.mono hBd.size); clear hbf)
      all_goals go_wp2
      all_goals go_ret
      all_goals exact ⟨rfl, HBf.out⟩
end Go.Proofs.Ytiemndjcebhgcaa.Utf
