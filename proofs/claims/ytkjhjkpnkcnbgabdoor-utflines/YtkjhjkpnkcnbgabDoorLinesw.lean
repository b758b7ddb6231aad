/-
  The law on lines walked: for every list of texts it answers true, in every world that holds the two tables.
-/
import Derived.Test.YtkjhjkpnkcnbgabDoorUtfa
import Derived.Test.YtkjhjkpnkcnbgabDoorLin
namespace Go.Proofs.YtkjhjkpnkcnbgabDoor.Utf
open Go Go.Lib Go.RowKit

/-- Lines, each with a byte 10 behind it. -/
def joined (rs : List (List UInt8)) : List UInt8 := rs.flatMap fun r => r ++ [10]
theorem joined_snoc (rs : List (List UInt8)) (r : List UInt8) : joined (rs ++ [r]) = joined rs ++ (r ++ [10]) := by simp [joined]
def trims (rs : List (List UInt8)) : List (List UInt8) := rs.map fun r => Lib.trimSuffix r [13]
theorem trims_snoc (rs : List (List UInt8)) (r : List UInt8) : trims (rs ++ [r]) = trims rs ++ [Lib.trimSuffix r [13]] := by simp [trims]
theorem trims_length (rs : List (List UInt8)) : (trims rs).length = rs.length := by simp [trims]
theorem joined_len (rs : List (List UInt8)) : rs.length ≤ (joined rs).length := by
  induction rs with
  | nil => simp
  | cons r rs ih =>
    have : joined (r :: rs) = (r ++ [10]) ++ joined rs := by simp [joined]
    rw [this, List.length_append, List.length_append, List.length_cons, List.length_singleton]; omega
theorem lines_joined : ∀ (f : Nat) (rs : List (List UInt8)), (∀ r ∈ rs, ∀ b ∈ r, b ≠ 10) → (joined rs).length ≤ f → linesL f (joined rs) = trims rs
  | f, [], _, _ => by rw [show joined [] = [] from rfl, linesL_nil]; rfl
  | 0, r :: rs, _, h => by
    have : joined (r :: rs) = (r ++ [10]) ++ joined rs := by simp [joined]
    rw [this, List.length_append, List.length_append, List.length_singleton] at h; omega
  | f + 1, r :: rs, hn, h => by
    have e : joined (r :: rs) = r ++ (10 :: joined rs) := by simp [joined]
    rw [e] at h ⊢
    have hi : Lib.indexByte (r ++ (10 :: joined rs)) 10 = ((r.length : Nat) : Int) := by
      apply index_first
      · intro j hj
        rw [List.getElem?_append_left hj, List.getElem?_eq_getElem hj]
        intro q
        exact hn r (List.mem_cons_self) r[j] (List.getElem_mem hj) (Option.some.inj q)
      · rw [List.getElem?_append_right (Nat.le_refl _)]; simp
    rw [linesL_step (by simp) hi, List.take_left' rfl]
    have hd : (r ++ (10 :: joined rs)).drop (r.length + 1) = joined rs := by
      rw [← List.drop_drop, List.drop_left' rfl]; rfl
    rw [hd, lines_joined f rs (fun q hq => hn q (List.mem_cons_of_mem _ hq)) (by rw [List.length_append, List.length_cons] at h; omega)]
    rfl
theorem lines_of (rs : List (List UInt8)) (hn : ∀ r ∈ rs, ∀ b ∈ r, b ≠ 10) : lines (joined rs) = trims rs := lines_joined _ rs hn (Nat.le_refl _)
theorem lines_awake : lines [97, 10, 98] = [[97], [98]] := by decide

theorem reads_row {W : World} {B : Nat} {e : TypeId} {v : Value} {xs : List Value} {n : Nat} (h : W.ownsRow B e 1 v n xs) : ∃ ao cap, v = .slice ao n cap ∧ Reads W ao xs ∧ (∀ j, j < n → ∃ g cur, ao = some ⟨g, 0, none⟩ ∧ B ≤ g ∧ W.heap[g]? = some (.cells cur e (0, 0)) ∧ n ≤ cur.size) := by
  have hh := h
  have hx := h.1
  rcases h.2 with ⟨rfl, h0⟩ | ⟨g, cap, cur, rfl, hb, hg, hnc, _, hcs, _⟩
  · exact ⟨none, 0, by rw [h0], fun j hj => by omega, fun j hj => by omega⟩
  · refine ⟨_, cap, rfl, fun j hj => ⟨g, rfl, (hh.lt g rfl).2, ?_⟩, fun j hj => ⟨g, cur, rfl, hb, hg, by omega⟩⟩
    have := hh.cells (g := g) rfl j xs[j] (by simp [hj])
    rw [show (⟨g, 0, none⟩ : Addr).add j = ⟨g, j, none⟩ by unfold Addr.add; split <;> simp_all] at this
    exact this
theorem slice_one (w : World) (s : ByteArray) (a b : Nat) (z : Int) (hz : z = (b : Int)) (h1 : a ≤ b) (h2 : b ≤ s.size) :
    (Instr.slice 9 (.string s) (some (.int .i64 (a : Int))) (some (.int .i64 z)) none).run Tryd.prog w = .ok (.string (s.extract a b)) w := by
  subst hz
  have := run_slice_string (P := Tryd.prog) w 9 s .i64 .i64 (a : Int) (b : Int) Tryd.underlying9 (by omega) (by omega) (by omega)
  rw [Int.toNat_natCast, Int.toNat_natCast] at this
  exact this
theorem txt_append (a b : List UInt8) : txt a ++ txt b = txt (a ++ b) := by
  apply ByteArray.ext
  rw [ByteArray.data_append]
  simp [txt]
theorem one_byte (x : ByteArray) (i : Nat) (h : i < x.size) : x.extract i (i + 1) = txt [x[i]'h] := by
  rw [← txt_self (x.extract i (i + 1)), ← Lib.toList_data, Lib.extract_toList, Nat.add_sub_cancel_left]
  have hl : i < x.data.toList.length := by rw [← Lib.size_eq]; exact h
  rw [List.drop_eq_getElem_cons hl]
  rfl
theorem byte_of (x : ByteArray) (i : Nat) (h : i < x.size) : x.data.toList[i]? = some (x[i]'h) := by
  rw [List.getElem?_eq_getElem (by rw [← Lib.size_eq]; exact h)]; rfl
theorem u8ne {x : UInt8} {n : Nat} (hn : n < 256) (h : ¬ x.toNat = n) : x ≠ UInt8.ofNat n := by
  intro e
  apply h
  rw [e, UInt8.toNat_ofNat']; omega
theorem u8eq {x : UInt8} {n : Nat} (h : x.toNat = n) : x = UInt8.ofNat n := by
  rw [← h]; simp
theorem row_set {W : World} {g j n : Nat} {cur : Array Value} {e : TypeId} (hg : W.heap[g]? = some (.cells cur e (0, 0))) (hn : n ≤ cur.size) (v : Value) : ∃ cur', (W.setCell ⟨g, j, none⟩ v).heap[g]? = some (.cells cur' e (0, 0)) ∧ n ≤ cur'.size := by
  rw [setCell_eq_setRow W g j cur e (0, 0) v hg]
  exact ⟨_, setRow_heap W g cur _ e _ hg, by simpa using hn⟩

set_option maxRecDepth 100000 in
set_option maxHeartbeats 40000000 in
theorem lines_walk (ao : Option Addr) (len cap : Nat) (w : World) (hlen : len ≤ 9223372036854775807)
    (harg : ∀ j, j < len → ∃ b off x, ao = some ⟨b, off, none⟩ ∧ b < w.heap.size ∧ w.cell? ⟨b, off + j, none⟩ = some (.string x) ∧ x.size ≤ 9223372036854775807) (hT : Lib.Utf8Tabs 0 1 w) :
    Calls Tryd.prog 3 #[.slice ao len cap] w fun e w' => e = .returned (.bool true) ∧ Below w.heap.size w w' := by
  obtain ⟨i0, hi, hz0, hz1, hz2⟩ := info_parts infoStr
  have cA := awake_any w hT
  go_enter Tryd.func3, Tryd.ntmps3
  go_wp2_with fail
  refine cA.mono ?_
  rintro e w1 ⟨rfl, b1⟩
  clear cA
  go_wp2_with fail
  refine (lines_any ⟨#[97, 10, 98]⟩ _ (by decide)).mono ?_
  rintro e w2 ⟨v, rfl, o2, b2⟩
  have hla : lines (⟨#[97, 10, 98]⟩ : ByteArray).data.toList = [[97], [98]] := lines_awake
  rw [hla] at o2
  obtain ⟨ao2, cap2, rfl, _⟩ := reads_row o2
  have k2 := b1.trans (b2.mono b1.size)
  clear o2 b1 b2 hla
  have harg2 : ∀ j, j < len → ∃ b off x, ao = some ⟨b, off, none⟩ ∧ b < w2.heap.size ∧ w2.cell? ⟨b, off + j, none⟩ = some (.string x) ∧ x.size ≤ 9223372036854775807 := fun j hj => by
    obtain ⟨b, off, x, h1, h2, h3, h4⟩ := harg j hj
    exact ⟨b, off, x, h1, Nat.lt_of_lt_of_le h2 k2.size, (k2.cell (p := ⟨b, off + j, none⟩) h2).trans h3, h4⟩
  clear harg
  have HA : Hid (∀ j, j < len → ∃ b off x, ao = some ⟨b, off, none⟩ ∧ b < w2.heap.size ∧ w2.cell? ⟨b, off + j, none⟩ = some (.string x) ∧ x.size ≤ 9223372036854775807) := harg2
  clear harg2
  go_wp2
  go_loopw [3, 4, 20] (fun tv wv kv wr => ∃ (k : Nat) (rs : List (List UInt8)), kv = .int .i64 (k : Int) ∧ k ≤ len ∧ tv = .string (txt (joined rs)) ∧ wr.ownsRow w2.heap.size 9 1 wv rs.length ((txts (trims rs)).map Value.string) ∧ Below w2.heap.size w2 wr ∧ Hid (∀ r ∈ rs, ∀ b ∈ r, b ≠ 10) ∧ (joined rs).length ≤ 65536)
    (fun _ _ kv _ => len - (RowKit.intOf kv).toNat)
  case atStart => exact ⟨0, [], rfl, Nat.zero_le _, rfl, World.ownsRow_nil _ _ _ _, Below.refl _ _, fun r hr => (by cases hr), Nat.zero_le _⟩
  case round =>
    obtain ⟨k, rs, rfl, hk, rfl, hown, hB, HN, hjl⟩ := hrel
    by_cases hlt : k < len
    · obtain ⟨b, off, x, rfl, hb, hc, hxs⟩ := HA.out k hlt
      have hc' : wr.cell? ⟨b, off + k, none⟩ = some (.string x) := (hB.cell (p := ⟨b, off + k, none⟩) hb).trans hc
      clear hc
      go_wp2
      go_loop [7, 8] (fun lv iv => ∃ (i : Nat) (L : List UInt8), iv = .int .i64 (i : Int) ∧ i ≤ 200 ∧ i ≤ x.size ∧ lv = .string (txt L) ∧ L.length ≤ i ∧ Hid (∀ b ∈ L, b ≠ 10)) (fun _ iv => 200 - (RowKit.intOf iv).toNat)
      case atStart => exact ⟨0, [], rfl, Nat.zero_le _, Nat.zero_le _, rfl, Nat.zero_le _, fun b hb => (by cases hb)⟩
      case round =>
        obtain ⟨i, L, rfl, hi2, hix, rfl, hLl, HL⟩ := hrel
        have HLs : Hid ((txt L).size = L.length) := txt_size L
        have hTL : (txt L).size ≤ 200 := by rw [txt_size]; omega
        by_cases hc1 : i < x.size ∧ i < 200
        · obtain ⟨hc2, hc3⟩ := hc1
          have hone := one_byte x i hc2
          obtain ⟨y, hy⟩ : ∃ y, x[i]'hc2 = y := ⟨_, rfl⟩
          rw [hy] at hone
          have ly := y.toNat_lt
          by_cases hy10 : y.toNat = 10
          · have hq : ((y.toNat : Int) == 10) = true := by rw [beq_iff_eq]; omega
            clear hone
            go_wp2
            go_round
            case rel => exact ⟨i + 1, L, by go_num, by omega, by omega, rfl, by omega, HL⟩
            case measure => simp [RowKit.intOf]; omega
          · have hq : ((y.toNat : Int) == 10) = false := by rw [beq_eq_false_iff_ne]; omega
            have hsl : ∀ w, (Instr.slice 9 (.string x) (some (.int .i64 (i : Int))) (some (.int .i64 ((i : Int) + 1))) none).run Tryd.prog w = .ok (.string (txt [y])) w := fun w => by rw [← hone]; exact slice_one w x i (i + 1) _ rfl (by omega) (by omega)
            have h1s : (txt [y]).size ≤ 1 := by rw [txt_size]; simp
            have HL2 : Hid (∀ b ∈ L ++ [y], b ≠ 10) := fun b hb => by
              rcases List.mem_append.1 hb with h | h
              · exact HL.out b h
              · rw [List.mem_singleton.1 h]; exact u8ne (n := 10) (by omega) hy10
            have HAp : Hid (txt L ++ txt [y] = txt (L ++ [y])) := txt_append L [y]
            clear hone hy10
            generalize txt [y] = Y at *
            generalize hTX : txt L = X at *
            clear hTX
            go_wp2
            go_round
            case rel => exact ⟨i + 1, L ++ [y], by go_num, by omega, by omega, by rw [HAp.out], by simp; omega, HL2⟩
            case measure => simp [RowKit.intOf]; omega
        · have HN2 : Hid (∀ r ∈ rs ++ [L], ∀ b ∈ r, b ≠ 10) := fun r hr => by
            rcases List.mem_append.1 hr with h | h
            · exact HN.out r h
            · rw [List.mem_singleton.1 h]; exact HL.out
          have hrl9 : rs.length ≤ 65536 := by have := joined_len rs; omega
          have hTr : ∀ m, L.length = m + 1 → L[m]? = some 13 → Lib.trimSuffix L [13] = L.take m := fun m h1 h2 => trim_yes h1 h2
          have hTn := trim_no (l := L)
          obtain ⟨J, hJ⟩ : ∃ J, txt (joined rs) = J := ⟨_, rfl⟩
          obtain ⟨X, hX⟩ : ∃ X, txt L = X := ⟨_, rfl⟩
          have HJ : Hid (J ++ (X ++ ⟨#[10]⟩) = txt (joined (rs ++ [L]))) := by
            show _ = _
            rw [← hJ, ← hX, joined_snoc, ← txt_append, ← txt_append]; rfl
          have HJl : Hid ((joined (rs ++ [L])).length = J.size + (X.size + 1)) := by
            show _ = _
            rw [← hJ, ← hX, txt_size, txt_size, joined_snoc, List.length_append, List.length_append, List.length_singleton]
          have hJs : J.size ≤ 65536 := by rw [← hJ, txt_size]; exact hjl
          have hXL : X.data.toList = L := by rw [← hX, txt_list]
          rw [hJ]
          rw [hX] at hTL HLs ⊢
          have HXX : Hid (txt L = X) := hX
          clear hJ HL HN hX
          have hway : (L.length = 0) ∨ ∃ m, L.length = m + 1 := by
            cases h : L.length with
            | zero => exact .inl rfl
            | succ m => exact .inr ⟨m, rfl⟩
          have hcc : x.size ≤ i ∨ (i < x.size ∧ 200 ≤ i) := by omega
          clear hc1
          rcases hway with h0 | ⟨m, hm⟩
          · have hX0 : X.size = 0 := HLs.out.trans h0
            have HX : Hid (txt (Lib.trimSuffix L [13]) = X) := by
              show _ = _
              rw [hTn (fun m h => by omega)]; exact HXX.out
            clear hTn hTr hXL HXX HLs
            rcases hcc with hcc | ⟨hcc, hcd⟩
            all_goals
              go_wp2_with (at_builtin; refine wpList_append_own _ rfl _ _ 22 rfl w2.heap.size 9 i0 (.string ⟨#[]⟩) 1 16 Tryd.underlying22 hi hz0 hz1 hz2 rfl (by decide) _ _ _ rfl (hown.alloc _) ⟨wr.heap.size, 0, none⟩ 1 1 [.string (X)] rfl rfl (cell_one_new _ _ _) (by simp [Value.oneCell']) (by unfold maxLen; omega) (by omega) (by have := hB.size; simp; omega) ?_)
              intro v' w9 hown' hgrow _
              have hB3 : Below w2.heap.size w2 w9 := Below.grown (hB.alloc (by have := hB.size; omega) _) hgrow (by have := hB.size; simp; omega) (fun j hj => (hown.lt _ hj).1)
              have hown3 : w9.ownsRow w2.heap.size 9 1 v' (rs ++ [L]).length ((txts (trims (rs ++ [L]))).map Value.string) := by
                rw [trims_snoc, txts_map, List.length_append, HX.out]; exact hown'
              obtain ⟨g', cap', rfl⟩ := ownsRow_succ hown'
              clear hown' hgrow hown hB HX
              have hjl2 : (joined (rs ++ [L])).length ≤ 66000 := by rw [HJl.out]; omega
              have hTs : (txt (joined (rs ++ [L]))).size = (joined (rs ++ [L])).length := txt_size _
              rw [← HJ.out] at hTs
              generalize J ++ (X ++ ⟨#[10]⟩) = TT at hTs HJ ⊢
              have HTs : Hid (TT.size = (joined (rs ++ [L])).length) := hTs
              clear hjl hJs hrl9 hTs HJl
              by_cases hbig : (65536 : Int) < (TT.size : Int)
              · go_wp2_with fail
                clear hbig
                rw [HJ.out]
                have hml : lines (txt (joined (rs ++ [L]))).data.toList = trims (rs ++ [L]) := by rw [txt_list]; exact lines_of (rs ++ [L]) HN2.out
                have hts : (txt (joined (rs ++ [L]))).size ≤ 16777216 := by rw [txt_size]; omega
                have hrl : (rs ++ [L]).length ≤ 16777216 := by have := joined_len (rs ++ [L]); omega
                have cL := fun w => lines_any (txt (joined (rs ++ [L]))) w hts
                rw [hml, trims_length] at cL
                obtain ⟨aw, capw, hvw, rw0, _⟩ := reads_row hown3
                rw [hvw]
                clear hvw
                have htl : (rs ++ [L]).length = (txts (trims (rs ++ [L]))).length := by rw [txts_length, trims_length]
                rw [htl] at cL hrl ⊢
                clear hown3 hml HN2 hts htl HA
                generalize txts (trims (rs ++ [L])) = TL at *
                generalize txt (joined (rs ++ [L])) = T at *
                have hBw := hB3.size
                obtain ⟨W0, rfl⟩ : ∃ W0, W0 = w9 := ⟨_, rfl⟩
                go_wp2_with fail
                refine (cL _).mono ?_
                rintro e w3 ⟨v, rfl, o3, b3⟩
                obtain ⟨a3, cap3, rfl, r3, g3⟩ := reads_row o3
                have cS := sameTexts_eq TL a3 aw cap3 capw w3 hrl r3 (rw0.below b3)
                clear o3 r3
                go_wp2_with fail
                refine cS.mono ?_
                rintro e w4 ⟨rfl, b4⟩
                clear cS
                have b34 := b3.trans (b4.mono b3.size)
                have hg4 : ∀ j, j < TL.length → ∃ g cur, a3 = some ⟨g, 0, none⟩ ∧ W0.heap.size ≤ g ∧ w4.heap[g]? = some (.cells cur 9 (0, 0)) ∧ TL.length ≤ cur.size := fun j hj => by
                  obtain ⟨g, cur, h1, h2, h3, h4⟩ := g3 j hj
                  exact ⟨g, cur, h1, h2, (b4.block g (Array.getElem?_eq_some_iff.1 h3).1).trans h3, h4⟩
                have HG4 : Hid (∀ j, j < TL.length → ∃ g cur, a3 = some ⟨g, 0, none⟩ ∧ W0.heap.size ≤ g ∧ w4.heap[g]? = some (.cells cur 9 (0, 0)) ∧ TL.length ≤ cur.size) := hg4
                clear g3 b3 b4 hg4
                go_wp2
                go_loopw [81] (fun kv wq => ∃ k : Nat, kv = .int .i64 (k : Int) ∧ k ≤ TL.length ∧ Below W0.heap.size W0 wq ∧ Hid (∀ j, j < TL.length → ∃ g cur, a3 = some ⟨g, 0, none⟩ ∧ W0.heap.size ≤ g ∧ wq.heap[g]? = some (.cells cur 9 (0, 0)) ∧ TL.length ≤ cur.size)) (fun kv _ => TL.length - (RowKit.intOf kv).toNat)
                case atStart => exact ⟨0, rfl, Nat.zero_le _, b34, HG4⟩
                case round =>
                  obtain ⟨k, rfl, hk3, hBq, HG⟩ := hrel
                  by_cases hlt3 : k < TL.length
                  · obtain ⟨g, cur, rfl, hg1, hg2, hg3⟩ := HG.out k hlt3
                    have hcl : wr.cell? ⟨g, k, none⟩ = some (cur[k]'(by omega)) := by simp [World.cell?, hg2, show k < cur.size by omega]
                    have hfr : wr.frozen? ⟨g, k, none⟩ = false := by simp [World.frozen?, hg2]
                    have HG2 : Hid (∀ j, j < TL.length → ∃ g' cur, some (⟨g, 0, none⟩ : Addr) = some ⟨g', 0, none⟩ ∧ W0.heap.size ≤ g' ∧ (wr.setCell ⟨g, k, none⟩ (.string ⟨#[120]⟩)).heap[g']? = some (.cells cur 9 (0, 0)) ∧ TL.length ≤ cur.size) := fun j hj => by
                      obtain ⟨cur', h1, h2⟩ := row_set (j := k) hg2 hg3 (.string ⟨#[120]⟩)
                      exact ⟨g, cur', rfl, hg1, h1, h2⟩
                    have hBq2 := hBq.setCell (p := ⟨g, k, none⟩) hg1 (.string ⟨#[120]⟩)
                    clear HG hg2
                    go_wp2
                    go_roundw
                    case rel => exact ⟨k + 1, by go_num, by omega, hBq2, HG2⟩
                    case measure => simp [RowKit.intOf]; omega
                  · clear HG HG4
                    go_wp2_with fail
                    refine (cL _).mono ?_
                    rintro e w5 ⟨v, rfl, o5, b5⟩
                    obtain ⟨a5, cap5, rfl, r5, _⟩ := reads_row o5
                    have b55 := hBq.trans (b5.mono hBq.size)
                    have cS := sameTexts_eq TL a5 aw cap5 capw w5 hrl r5 (rw0.below b55)
                    clear o5 r5 b5
                    go_wp2_with fail
                    refine cS.mono ?_
                    rintro e w6 ⟨rfl, b6⟩
                    go_wp2
                    go_ret
                    exact ⟨rfl, k2.trans ((hB3.trans ((b55.trans (b6.mono b55.size)).mono hB3.size)).mono k2.size)⟩
              · go_wp2
                go_roundw
                case rel => exact ⟨k + 1, rs ++ [L], by go_num, by omega, by rw [HJ.out], hown3, hB3, HN2, by rw [← HTs.out]; omega⟩
                case measure => simp [RowKit.intOf]; omega
          · have hXm : X.size = m + 1 := HLs.out.trans hm
            have hmx : m < X.size := by omega
            have hby := byte_of X m hmx
            rw [hXL] at hby
            obtain ⟨y, hy⟩ : ∃ y, X[m]'hmx = y := ⟨_, rfl⟩
            rw [hy] at hby
            have ly := y.toNat_lt
            by_cases h13 : y.toNat = 13
            · have hq : ((y.toNat : Int) == 13) = true := by rw [beq_iff_eq]; omega
              have HX : Hid (txt (Lib.trimSuffix L [13]) = X.extract 0 m) := by
                show _ = _
                rw [hTr m hm (by rw [hby, u8eq h13]; rfl), ← hXL, ← head_list, txt_self]
              clear hTn hTr hXL HXX HLs hby h13
              rcases hcc with hcc | ⟨hcc, hcd⟩
              all_goals
                go_wp2_with (at_builtin; refine wpList_append_own _ rfl _ _ 22 rfl w2.heap.size 9 i0 (.string ⟨#[]⟩) 1 16 Tryd.underlying22 hi hz0 hz1 hz2 rfl (by decide) _ _ _ rfl (hown.alloc _) ⟨wr.heap.size, 0, none⟩ 1 1 [.string (X.extract 0 m)] rfl rfl (cell_one_new _ _ _) (by simp [Value.oneCell']) (by unfold maxLen; omega) (by omega) (by have := hB.size; simp; omega) ?_)
                intro v' w9 hown' hgrow _
                have hB3 : Below w2.heap.size w2 w9 := Below.grown (hB.alloc (by have := hB.size; omega) _) hgrow (by have := hB.size; simp; omega) (fun j hj => (hown.lt _ hj).1)
                have hown3 : w9.ownsRow w2.heap.size 9 1 v' (rs ++ [L]).length ((txts (trims (rs ++ [L]))).map Value.string) := by
                  rw [trims_snoc, txts_map, List.length_append, HX.out]; exact hown'
                obtain ⟨g', cap', rfl⟩ := ownsRow_succ hown'
                clear hown' hgrow hown hB HX
                have hjl2 : (joined (rs ++ [L])).length ≤ 66000 := by rw [HJl.out]; omega
                have hTs : (txt (joined (rs ++ [L]))).size = (joined (rs ++ [L])).length := txt_size _
                rw [← HJ.out] at hTs
                generalize J ++ (X ++ ⟨#[10]⟩) = TT at hTs HJ ⊢
                have HTs : Hid (TT.size = (joined (rs ++ [L])).length) := hTs
                clear hjl hJs hrl9 hTs HJl
                by_cases hbig : (65536 : Int) < (TT.size : Int)
                · go_wp2_with fail
                  clear hbig
                  rw [HJ.out]
                  have hml : lines (txt (joined (rs ++ [L]))).data.toList = trims (rs ++ [L]) := by rw [txt_list]; exact lines_of (rs ++ [L]) HN2.out
                  have hts : (txt (joined (rs ++ [L]))).size ≤ 16777216 := by rw [txt_size]; omega
                  have hrl : (rs ++ [L]).length ≤ 16777216 := by have := joined_len (rs ++ [L]); omega
                  have cL := fun w => lines_any (txt (joined (rs ++ [L]))) w hts
                  rw [hml, trims_length] at cL
                  obtain ⟨aw, capw, hvw, rw0, _⟩ := reads_row hown3
                  rw [hvw]
                  clear hvw
                  have htl : (rs ++ [L]).length = (txts (trims (rs ++ [L]))).length := by rw [txts_length, trims_length]
                  rw [htl] at cL hrl ⊢
                  clear hown3 hml HN2 hts htl HA
                  generalize txts (trims (rs ++ [L])) = TL at *
                  generalize txt (joined (rs ++ [L])) = T at *
                  have hBw := hB3.size
                  obtain ⟨W0, rfl⟩ : ∃ W0, W0 = w9 := ⟨_, rfl⟩
                  go_wp2_with fail
                  refine (cL _).mono ?_
                  rintro e w3 ⟨v, rfl, o3, b3⟩
                  obtain ⟨a3, cap3, rfl, r3, g3⟩ := reads_row o3
                  have cS := sameTexts_eq TL a3 aw cap3 capw w3 hrl r3 (rw0.below b3)
                  clear o3 r3
                  go_wp2_with fail
                  refine cS.mono ?_
                  rintro e w4 ⟨rfl, b4⟩
                  clear cS
                  have b34 := b3.trans (b4.mono b3.size)
                  have hg4 : ∀ j, j < TL.length → ∃ g cur, a3 = some ⟨g, 0, none⟩ ∧ W0.heap.size ≤ g ∧ w4.heap[g]? = some (.cells cur 9 (0, 0)) ∧ TL.length ≤ cur.size := fun j hj => by
                    obtain ⟨g, cur, h1, h2, h3, h4⟩ := g3 j hj
                    exact ⟨g, cur, h1, h2, (b4.block g (Array.getElem?_eq_some_iff.1 h3).1).trans h3, h4⟩
                  have HG4 : Hid (∀ j, j < TL.length → ∃ g cur, a3 = some ⟨g, 0, none⟩ ∧ W0.heap.size ≤ g ∧ w4.heap[g]? = some (.cells cur 9 (0, 0)) ∧ TL.length ≤ cur.size) := hg4
                  clear g3 b3 b4 hg4
                  go_wp2
                  go_loopw [81] (fun kv wq => ∃ k : Nat, kv = .int .i64 (k : Int) ∧ k ≤ TL.length ∧ Below W0.heap.size W0 wq ∧ Hid (∀ j, j < TL.length → ∃ g cur, a3 = some ⟨g, 0, none⟩ ∧ W0.heap.size ≤ g ∧ wq.heap[g]? = some (.cells cur 9 (0, 0)) ∧ TL.length ≤ cur.size)) (fun kv _ => TL.length - (RowKit.intOf kv).toNat)
                  case atStart => exact ⟨0, rfl, Nat.zero_le _, b34, HG4⟩
                  case round =>
                    obtain ⟨k, rfl, hk3, hBq, HG⟩ := hrel
                    by_cases hlt3 : k < TL.length
                    · obtain ⟨g, cur, rfl, hg1, hg2, hg3⟩ := HG.out k hlt3
                      have hcl : wr.cell? ⟨g, k, none⟩ = some (cur[k]'(by omega)) := by simp [World.cell?, hg2, show k < cur.size by omega]
                      have hfr : wr.frozen? ⟨g, k, none⟩ = false := by simp [World.frozen?, hg2]
                      have HG2 : Hid (∀ j, j < TL.length → ∃ g' cur, some (⟨g, 0, none⟩ : Addr) = some ⟨g', 0, none⟩ ∧ W0.heap.size ≤ g' ∧ (wr.setCell ⟨g, k, none⟩ (.string ⟨#[120]⟩)).heap[g']? = some (.cells cur 9 (0, 0)) ∧ TL.length ≤ cur.size) := fun j hj => by
                        obtain ⟨cur', h1, h2⟩ := row_set (j := k) hg2 hg3 (.string ⟨#[120]⟩)
                        exact ⟨g, cur', rfl, hg1, h1, h2⟩
                      have hBq2 := hBq.setCell (p := ⟨g, k, none⟩) hg1 (.string ⟨#[120]⟩)
                      clear HG hg2
                      go_wp2
                      go_roundw
                      case rel => exact ⟨k + 1, by go_num, by omega, hBq2, HG2⟩
                      case measure => simp [RowKit.intOf]; omega
                    · clear HG HG4
                      go_wp2_with fail
                      refine (cL _).mono ?_
                      rintro e w5 ⟨v, rfl, o5, b5⟩
                      obtain ⟨a5, cap5, rfl, r5, _⟩ := reads_row o5
                      have b55 := hBq.trans (b5.mono hBq.size)
                      have cS := sameTexts_eq TL a5 aw cap5 capw w5 hrl r5 (rw0.below b55)
                      clear o5 r5 b5
                      go_wp2_with fail
                      refine cS.mono ?_
                      rintro e w6 ⟨rfl, b6⟩
                      go_wp2
                      go_ret
                      exact ⟨rfl, k2.trans ((hB3.trans ((b55.trans (b6.mono b55.size)).mono hB3.size)).mono k2.size)⟩
                · go_wp2
                  go_roundw
                  case rel => exact ⟨k + 1, rs ++ [L], by go_num, by omega, by rw [HJ.out], hown3, hB3, HN2, by rw [← HTs.out]; omega⟩
                  case measure => simp [RowKit.intOf]; omega
            · have hq : ((y.toNat : Int) == 13) = false := by rw [beq_eq_false_iff_ne]; omega
              have HX : Hid (txt (Lib.trimSuffix L [13]) = X) := by
                show _ = _
                rw [hTn (fun m' h1 h2 => by
                  obtain rfl : m' = m := by omega
                  rw [hby] at h2
                  exact u8ne (n := 13) (by omega) h13 (Option.some.inj h2))]
                exact HXX.out
              clear hTn hTr hXL HXX HLs hby h13
              rcases hcc with hcc | ⟨hcc, hcd⟩
              all_goals
                go_wp2_with (at_builtin; refine wpList_append_own _ rfl _ _ 22 rfl w2.heap.size 9 i0 (.string ⟨#[]⟩) 1 16 Tryd.underlying22 hi hz0 hz1 hz2 rfl (by decide) _ _ _ rfl (hown.alloc _) ⟨wr.heap.size, 0, none⟩ 1 1 [.string (X)] rfl rfl (cell_one_new _ _ _) (by simp [Value.oneCell']) (by unfold maxLen; omega) (by omega) (by have := hB.size; simp; omega) ?_)
                intro v' w9 hown' hgrow _
                have hB3 : Below w2.heap.size w2 w9 := Below.grown (hB.alloc (by have := hB.size; omega) _) hgrow (by have := hB.size; simp; omega) (fun j hj => (hown.lt _ hj).1)
                have hown3 : w9.ownsRow w2.heap.size 9 1 v' (rs ++ [L]).length ((txts (trims (rs ++ [L]))).map Value.string) := by
                  rw [trims_snoc, txts_map, List.length_append, HX.out]; exact hown'
                obtain ⟨g', cap', rfl⟩ := ownsRow_succ hown'
                clear hown' hgrow hown hB HX
                have hjl2 : (joined (rs ++ [L])).length ≤ 66000 := by rw [HJl.out]; omega
                have hTs : (txt (joined (rs ++ [L]))).size = (joined (rs ++ [L])).length := txt_size _
                rw [← HJ.out] at hTs
                generalize J ++ (X ++ ⟨#[10]⟩) = TT at hTs HJ ⊢
                have HTs : Hid (TT.size = (joined (rs ++ [L])).length) := hTs
                clear hjl hJs hrl9 hTs HJl
                by_cases hbig : (65536 : Int) < (TT.size : Int)
                · go_wp2_with fail
                  clear hbig
                  rw [HJ.out]
                  have hml : lines (txt (joined (rs ++ [L]))).data.toList = trims (rs ++ [L]) := by rw [txt_list]; exact lines_of (rs ++ [L]) HN2.out
                  have hts : (txt (joined (rs ++ [L]))).size ≤ 16777216 := by rw [txt_size]; omega
                  have hrl : (rs ++ [L]).length ≤ 16777216 := by have := joined_len (rs ++ [L]); omega
                  have cL := fun w => lines_any (txt (joined (rs ++ [L]))) w hts
                  rw [hml, trims_length] at cL
                  obtain ⟨aw, capw, hvw, rw0, _⟩ := reads_row hown3
                  rw [hvw]
                  clear hvw
                  have htl : (rs ++ [L]).length = (txts (trims (rs ++ [L]))).length := by rw [txts_length, trims_length]
                  rw [htl] at cL hrl ⊢
                  clear hown3 hml HN2 hts htl HA
                  generalize txts (trims (rs ++ [L])) = TL at *
                  generalize txt (joined (rs ++ [L])) = T at *
                  have hBw := hB3.size
                  obtain ⟨W0, rfl⟩ : ∃ W0, W0 = w9 := ⟨_, rfl⟩
                  go_wp2_with fail
                  refine (cL _).mono ?_
                  rintro e w3 ⟨v, rfl, o3, b3⟩
                  obtain ⟨a3, cap3, rfl, r3, g3⟩ := reads_row o3
                  have cS := sameTexts_eq TL a3 aw cap3 capw w3 hrl r3 (rw0.below b3)
                  clear o3 r3
                  go_wp2_with fail
                  refine cS.mono ?_
                  rintro e w4 ⟨rfl, b4⟩
                  clear cS
                  have b34 := b3.trans (b4.mono b3.size)
                  have hg4 : ∀ j, j < TL.length → ∃ g cur, a3 = some ⟨g, 0, none⟩ ∧ W0.heap.size ≤ g ∧ w4.heap[g]? = some (.cells cur 9 (0, 0)) ∧ TL.length ≤ cur.size := fun j hj => by
                    obtain ⟨g, cur, h1, h2, h3, h4⟩ := g3 j hj
                    exact ⟨g, cur, h1, h2, (b4.block g (Array.getElem?_eq_some_iff.1 h3).1).trans h3, h4⟩
                  have HG4 : Hid (∀ j, j < TL.length → ∃ g cur, a3 = some ⟨g, 0, none⟩ ∧ W0.heap.size ≤ g ∧ w4.heap[g]? = some (.cells cur 9 (0, 0)) ∧ TL.length ≤ cur.size) := hg4
                  clear g3 b3 b4 hg4
                  go_wp2
                  go_loopw [81] (fun kv wq => ∃ k : Nat, kv = .int .i64 (k : Int) ∧ k ≤ TL.length ∧ Below W0.heap.size W0 wq ∧ Hid (∀ j, j < TL.length → ∃ g cur, a3 = some ⟨g, 0, none⟩ ∧ W0.heap.size ≤ g ∧ wq.heap[g]? = some (.cells cur 9 (0, 0)) ∧ TL.length ≤ cur.size)) (fun kv _ => TL.length - (RowKit.intOf kv).toNat)
                  case atStart => exact ⟨0, rfl, Nat.zero_le _, b34, HG4⟩
                  case round =>
                    obtain ⟨k, rfl, hk3, hBq, HG⟩ := hrel
                    by_cases hlt3 : k < TL.length
                    · obtain ⟨g, cur, rfl, hg1, hg2, hg3⟩ := HG.out k hlt3
                      have hcl : wr.cell? ⟨g, k, none⟩ = some (cur[k]'(by omega)) := by simp [World.cell?, hg2, show k < cur.size by omega]
                      have hfr : wr.frozen? ⟨g, k, none⟩ = false := by simp [World.frozen?, hg2]
                      have HG2 : Hid (∀ j, j < TL.length → ∃ g' cur, some (⟨g, 0, none⟩ : Addr) = some ⟨g', 0, none⟩ ∧ W0.heap.size ≤ g' ∧ (wr.setCell ⟨g, k, none⟩ (.string ⟨#[120]⟩)).heap[g']? = some (.cells cur 9 (0, 0)) ∧ TL.length ≤ cur.size) := fun j hj => by
                        obtain ⟨cur', h1, h2⟩ := row_set (j := k) hg2 hg3 (.string ⟨#[120]⟩)
                        exact ⟨g, cur', rfl, hg1, h1, h2⟩
                      have hBq2 := hBq.setCell (p := ⟨g, k, none⟩) hg1 (.string ⟨#[120]⟩)
                      clear HG hg2
                      go_wp2
                      go_roundw
                      case rel => exact ⟨k + 1, by go_num, by omega, hBq2, HG2⟩
                      case measure => simp [RowKit.intOf]; omega
                    · clear HG HG4
                      go_wp2_with fail
                      refine (cL _).mono ?_
                      rintro e w5 ⟨v, rfl, o5, b5⟩
                      obtain ⟨a5, cap5, rfl, r5, _⟩ := reads_row o5
                      have b55 := hBq.trans (b5.mono hBq.size)
                      have cS := sameTexts_eq TL a5 aw cap5 capw w5 hrl r5 (rw0.below b55)
                      clear o5 r5 b5
                      go_wp2_with fail
                      refine cS.mono ?_
                      rintro e w6 ⟨rfl, b6⟩
                      go_wp2
                      go_ret
                      exact ⟨rfl, k2.trans ((hB3.trans ((b55.trans (b6.mono b55.size)).mono hB3.size)).mono k2.size)⟩
                · go_wp2
                  go_roundw
                  case rel => exact ⟨k + 1, rs ++ [L], by go_num, by omega, by rw [HJ.out], hown3, hB3, HN2, by rw [← HTs.out]; omega⟩
                  case measure => simp [RowKit.intOf]; omega
    · have hml : lines (txt (joined rs)).data.toList = trims rs := by rw [txt_list]; exact lines_of rs HN.out
      have hts : (txt (joined rs)).size ≤ 16777216 := by rw [txt_size]; omega
      have hrl : rs.length ≤ 16777216 := by have := joined_len rs; omega
      have cL := fun w => lines_any (txt (joined rs)) w hts
      rw [hml, trims_length] at cL
      obtain ⟨aw, capw, rfl, rw0, _⟩ := reads_row hown
      have htl : rs.length = (txts (trims rs)).length := by rw [txts_length, trims_length]
      rw [htl] at cL hrl ⊢
      clear hown hml HN hts htl HA
      generalize txts (trims rs) = TL at *
      generalize txt (joined rs) = T at *
      have hBw := hB.size
      obtain ⟨W0, rfl⟩ : ∃ W0, W0 = wr := ⟨_, rfl⟩
      go_wp2_with fail
      refine (cL _).mono ?_
      rintro e w3 ⟨v, rfl, o3, b3⟩
      obtain ⟨a3, cap3, rfl, r3, g3⟩ := reads_row o3
      have cS := sameTexts_eq TL a3 aw cap3 capw w3 hrl r3 (rw0.below b3)
      clear o3 r3
      go_wp2_with fail
      refine cS.mono ?_
      rintro e w4 ⟨rfl, b4⟩
      clear cS
      have b34 := b3.trans (b4.mono b3.size)
      have hg4 : ∀ j, j < TL.length → ∃ g cur, a3 = some ⟨g, 0, none⟩ ∧ W0.heap.size ≤ g ∧ w4.heap[g]? = some (.cells cur 9 (0, 0)) ∧ TL.length ≤ cur.size := fun j hj => by
        obtain ⟨g, cur, h1, h2, h3, h4⟩ := g3 j hj
        exact ⟨g, cur, h1, h2, (b4.block g (Array.getElem?_eq_some_iff.1 h3).1).trans h3, h4⟩
      have HG4 : Hid (∀ j, j < TL.length → ∃ g cur, a3 = some ⟨g, 0, none⟩ ∧ W0.heap.size ≤ g ∧ w4.heap[g]? = some (.cells cur 9 (0, 0)) ∧ TL.length ≤ cur.size) := hg4
      clear g3 b3 b4 hg4
      go_wp2
      go_loopw [81] (fun kv wq => ∃ k : Nat, kv = .int .i64 (k : Int) ∧ k ≤ TL.length ∧ Below W0.heap.size W0 wq ∧ Hid (∀ j, j < TL.length → ∃ g cur, a3 = some ⟨g, 0, none⟩ ∧ W0.heap.size ≤ g ∧ wq.heap[g]? = some (.cells cur 9 (0, 0)) ∧ TL.length ≤ cur.size)) (fun kv _ => TL.length - (RowKit.intOf kv).toNat)
      case atStart => exact ⟨0, rfl, Nat.zero_le _, b34, HG4⟩
      case round =>
        obtain ⟨k, rfl, hk3, hBq, HG⟩ := hrel
        by_cases hlt3 : k < TL.length
        · obtain ⟨g, cur, rfl, hg1, hg2, hg3⟩ := HG.out k hlt3
          have hcl : wr.cell? ⟨g, k, none⟩ = some (cur[k]'(by omega)) := by simp [World.cell?, hg2, show k < cur.size by omega]
          have hfr : wr.frozen? ⟨g, k, none⟩ = false := by simp [World.frozen?, hg2]
          have HG2 : Hid (∀ j, j < TL.length → ∃ g' cur, some (⟨g, 0, none⟩ : Addr) = some ⟨g', 0, none⟩ ∧ W0.heap.size ≤ g' ∧ (wr.setCell ⟨g, k, none⟩ (.string ⟨#[120]⟩)).heap[g']? = some (.cells cur 9 (0, 0)) ∧ TL.length ≤ cur.size) := fun j hj => by
            obtain ⟨cur', h1, h2⟩ := row_set (j := k) hg2 hg3 (.string ⟨#[120]⟩)
            exact ⟨g, cur', rfl, hg1, h1, h2⟩
          have hBq2 := hBq.setCell (p := ⟨g, k, none⟩) hg1 (.string ⟨#[120]⟩)
          clear HG hg2
          go_wp2
          go_roundw
          case rel => exact ⟨k + 1, by go_num, by omega, hBq2, HG2⟩
          case measure => simp [RowKit.intOf]; omega
        · clear HG HG4
          go_wp2_with fail
          refine (cL _).mono ?_
          rintro e w5 ⟨v, rfl, o5, b5⟩
          obtain ⟨a5, cap5, rfl, r5, _⟩ := reads_row o5
          have b55 := hBq.trans (b5.mono hBq.size)
          have cS := sameTexts_eq TL a5 aw cap5 capw w5 hrl r5 (rw0.below b55)
          clear o5 r5 b5
          go_wp2_with fail
          refine cS.mono ?_
          rintro e w6 ⟨rfl, b6⟩
          go_wp2
          go_ret
          exact ⟨rfl, k2.trans ((hB.trans ((b55.trans (b6.mono b55.size)).mono hB.size)).mono k2.size)⟩
end Go.Proofs.YtkjhjkpnkcnbgabDoor.Utf
