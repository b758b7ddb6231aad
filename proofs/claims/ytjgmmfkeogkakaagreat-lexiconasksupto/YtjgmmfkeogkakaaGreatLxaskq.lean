/-
  LexiconAsks walked: Find, Span and Letters of any numbers are the document's.
-/
import Derived.Test.YtjgmmfkeogkakaaGreatGxx
import Derived.Test.YtjgmmfkeogkakaaGreatGxv
import Derived.Test.YtjgmmfkeogkakaaGreatGsp
import Derived.Test.YtjgmmfkeogkakaaGreatGnn
import Derived.Test.YtjgmmfkeogkakaaGreatRnwq
import Derived.Test.YtjgmmfkeogkakaaGreatGxw
namespace Go.Proofs.YtjgmmfkeogkakaaGreat.Utf
open Go Go.Lib Go.RowKit

theorem ints_atA {c : List Int} {i : Nat} (h : i < c.length) : (ints c)[i]'(by simpa [ints] using h) = .int .i64 c[i] := by simp [ints]
theorem sort_inj {l : List (List Int × Int)} (hs : SortL l) {i j : Nat} (hi : i < l.length) (hj : j < l.length) (e : l[i].1 = l[j].1) : i = j := by
  rcases Nat.lt_trichotomy i j with h | h | h
  · have := (List.pairwise_iff_getElem.1 hs) i j hi hj h
    rw [e, ordI_zero.2 rfl] at this
    omega
  · exact h
  · have := (List.pairwise_iff_getElem.1 hs) j i hj hi h
    rw [e, ordI_zero.2 rfl] at this
    omega
theorem FindP.unique {l : List (List Int × Int)} (hs : SortL l) {c : List Int} {n m : Int} {b d : Bool} (h : FindP l c n b) (k : FindP l c m d) : n = m ∧ b = d := by
  rcases h with ⟨rfl, i, hi, e1, rfl⟩ | ⟨rfl, rfl, hn⟩ <;> rcases k with ⟨rfl, j, hj, e2, rfl⟩ | ⟨rfl, rfl, hm⟩
  · have := sort_inj hs hi hj (e1.trans e2.symm)
    exact ⟨by rw [this], rfl⟩
  · exact absurd e1 (hm i hi)
  · exact absurd e2 (hn j hj)
  · exact ⟨rfl, rfl⟩
theorem FoundQ.find {W : World} {l : List (List Int × Int)} {c : List Int} {e : Ending} {w' : World} (h : FoundQ W l c e w') : ∃ n b, e = .returned (.tuple #[.int .i64 n, .bool b]) ∧ FindP l c n b := by
  rcases h.1 with ⟨k, hk, e1, e2⟩ | ⟨hn, e2⟩
  · exact ⟨_, _, e2, .inl ⟨rfl, k, hk, e1, rfl⟩⟩
  · exact ⟨_, _, e2, .inr ⟨rfl, rfl, fun k hk => hn _ (List.getElem_mem hk)⟩⟩
/-- The numbers that are asked. -/
def askN (n : Int) : List Int := [-1, 0, 1, 2, 3, 5, 32, 33, 4611686018427387904, n]
theorem askN_mem {n z : Int} (hn : 0 ≤ n ∧ n ≤ 1048576) (h : z ∈ askN n) : -1 ≤ z ∧ z ≤ 4611686018427387904 := by
  unfold askN at h
  simp only [List.mem_cons, List.not_mem_nil, or_false] at h
  omega
theorem reads_five (w : World) (a b c d e : Int) (t : TypeId) : ReadsO (w.alloc (.cells #[.int .i64 a, .int .i64 b, .int .i64 c, .int .i64 d, .int .i64 e] t)) (some ⟨w.heap.size, 0, none⟩) (ints [a, b, c, d, e]) := fun j hj => by
  refine ⟨w.heap.size, 0, rfl, by simp, ?_⟩
  rw [Nat.zero_add]
  match j, hj with
  | 0, _ => exact box_at w _ t 0 rfl
  | 1, _ => exact box_at w _ t 1 rfl
  | 2, _ => exact box_at w _ t 2 rfl
  | 3, _ => exact box_at w _ t 3 rfl
  | 4, _ => exact box_at w _ t 4 rfl

set_option maxRecDepth 100000 in
set_option maxHeartbeats 6000000 in
theorem lexAsks_walk (L : List ByteArray) (al : Option Addr) (cl : Nat) (ws : List WdV) (aw : Option Addr) (cw : Nat) (c : List Int) (ac : Option Addr) (cc : Nat) (w : World) (hlen : L.length ≤ 1048576) (hsm : ∀ x ∈ L, x.size ≤ 1048576) (hcap : L.length ≤ cl) (hRL : ReadsO w al (L.map Value.string)) (hwl : ws.length ≤ 1048576) (hws : ∀ x ∈ ws, x.c.length ≤ 1048576) (hRW : ReadsW w aw ws) (hcl : c.length ≤ 1048576) (hRC : ReadsO w ac (ints c)) :
    Calls Tryz.prog 3 #[.slice al L.length cl, .slice aw ws.length cw, .slice ac c.length cc] w fun e w' => e = .returned (.bool true) ∧ Below w.heap.size w w' := by
  obtain ⟨i0, hi0, hz0, hz1, hz2⟩ := info_parts infoI
  have cA := awake9_any w
  have HRL : Aside (∀ W, Below w.heap.size w W → ReadsO W al (L.map Value.string)) := fun W hb => hRL.below hb
  have HRW : Aside (∀ W, Below w.heap.size w W → ReadsW W aw ws) := fun W hb => hRW.below hb
  have HRC : Aside (∀ W, Below w.heap.size w W → ReadsO W ac (ints c)) := fun W hb => hRC.below hb
  have HSM : Aside (∀ x ∈ L, x.size ≤ 1048576) := hsm
  have HWS : Aside (∀ x ∈ ws, x.c.length ≤ 1048576) := hws
  have HCL : Aside (c.length ≤ 1048576) := hcl
  clear hRL hsm hRW hws hRC
  go_enter Tryz.func3, Tryz.ntmps3
  go_wp2_with fail
  refine cA.mono ?_
  rintro e w1 ⟨rfl, hb1⟩
  have HB1 : Aside (Below w.heap.size w w1) := hb1
  have cR := refNewB_any L HSM.out al cl (HRL.out _ hb1) ws aw cw (by omega) HWS.out (HRW.out _ hb1)
  have hRok : (newT L (toL ws)).2.2 = 0 → okE L (newT L (toL ws)).1 ∧ SortL (newT L (toL ws)).1 ∧ (newT L (toL ws)).1.length ≤ 1000 := fun h0 => by
    unfold newT at h0 ⊢
    by_cases hb : 1000 < (toL ws).length
    · rw [if_pos hb] at h0; exact absurd h0 (show ¬ (111 : Int) = 0 by decide)
    · rw [if_neg hb]; exact newW_ok _ 0 [] (fun _ h => by cases h) List.Pairwise.nil (by simpa using Nat.not_lt.1 hb)
  have HXN : Aside (∀ (W : World) (b : Nat) (rk : List Nat), Below w.heap.size w W → IsAlpha W b L rk → (∀ x ∈ L, x.size ≤ 12) → Calls Tryz.prog 8 #[.pointer (some ⟨b, 0, none⟩), .slice aw ws.length cw] W (NewQ W L (toL ws))) := fun W b rk hb hA h12 => newX_any hA h12 ws aw cw (by omega) (fun x hx => by have := HWS.out x hx; omega) (HRW.out W hb)
  unfold RNewP at cR
  unfold NewQ at HXN
  generalize newT L (toL ws) = R at *
  obtain ⟨R1, R2, R3⟩ := R
  simp only at hRok cR HXN
  clear cA hb1
  go_wp2_with fail
  refine cR.mono ?_
  rintro e w2 ⟨⟨v2, es, rfl, hI, hle⟩, hb2⟩
  have HB2 : Aside (Below w.heap.size w w2) := HB1.out.trans (hb2.mono HB1.out.size)
  have HI : Aside (IsWd w1.heap.size w2 v2 es) := hI
  have cF := refNew_any L al cl w2 hcap (by omega) (fun x hx => by have := HSM.out x hx; omega) (HRL.out _ HB2.out)
  have HN : Aside (∀ W, Below w.heap.size w W → _) := fun W hb => new_any L al cl W (by omega) (HRL.out _ hb)
  have hG := @new_good L
  generalize (newR L).1 = N1 at *
  generalize (newR L).2 = E at *
  clear cR hb2 hI
  go_wp2_with fail
  refine cF.mono ?_
  rintro e w3 ⟨rfl, hb3⟩
  have HB3 : Aside (Below w.heap.size w w3) := HB2.out.trans (hb3.mono HB2.out.size)
  have HI3 : Aside (IsWd w1.heap.size w3 v2 es) := HI.out.below hb3
  clear cF hb3 HI
  by_cases hE : E = 0
  · subst hE
    by_cases hR3 : R3 = 0
    · subst hR3
      obtain ⟨hok, hso, hll⟩ := hRok (by first | rfl | trivial)
      have cN := HN.out w3 HB3.out
      obtain ⟨_, hl40, hnm, hnd⟩ := hG (by first | rfl | trivial)
      have H12 : Aside (∀ x ∈ L, x.size ≤ 12) := fun x hx => (name_len (hnm x hx)).2
      have HOK : Aside (okE L R1 ∧ SortL R1) := ⟨hok, hso⟩
      have HLE : Aside (toL es = R1) := hle
      clear HN hG hnm hnd hRok hok hso hle
      go_wp2_with fail
      refine cN.mono ?_
      rintro e w4 ⟨⟨v, rfl, hv1, hv2⟩, hb4⟩
      have HB4 : Aside (Below w.heap.size w w4) := HB3.out.trans (hb4.mono HB3.out.size)
      have HI4 : Aside (IsWd w1.heap.size w4 v2 es) := HI3.out.below hb4
      obtain ⟨b, rk, rfl, hA, hRk⟩ := hv2 (by first | rfl | trivial)
      have cX := HXN.out w4 b rk HB4.out hA.is H12.out
      clear cN hv1 hv2 hb4 hA hRk HI3 HXN
      go_wp2_with fail
      refine cX.mono ?_
      rintro e w5 ⟨⟨v5, rfl, hv1, hv2⟩, hb5⟩
      obtain ⟨xb, rfl, hX⟩ := hv2 (by first | rfl | trivial)
      have HB5 : Aside (Below w.heap.size w w5) := HB4.out.trans (hb5.mono HB4.out.size)
      have HI5 : Aside (IsWd w1.heap.size w5 v2 es) := HI4.out.below hb5
      have HX5 : Aside (∀ Z, Below w5.heap.size w5 Z → IsLex Z w4.heap.size xb L R1) := fun Z hb => hX.below hb
      have h32 : ∀ x ∈ R1, x.1.length ≤ 32 := fun x hx => (HOK.out.1 x hx).1
      have cG := findG_any hX hll HOK.out.2 h32 c (by omega) ac cc (HRC.out _ HB5.out)
      have H32 : Aside (∀ x ∈ R1, x.1.length ≤ 32) := h32
      clear cX hv1 hv2 hb5 hX HI4 h32
      go_wp2_with fail
      refine cG.mono ?_
      rintro e w6 hfd
      obtain ⟨n1, b1, rfl, hf1⟩ := hfd.find
      have HB6 : Aside (Below w.heap.size w w6) := HB5.out.trans (hfd.2.mono HB5.out.size)
      have HI6 : Aside (IsWd w1.heap.size w6 v2 es) := HI5.out.below hfd.2
      have HX6 : Aside (∀ Z, Below w6.heap.size w6 Z → IsLex Z w4.heap.size xb L R1) := fun Z hb => HX5.out Z (hfd.2.trans (hb.mono hfd.2.size))
      have hes : es.length ≤ 1000 := by rw [← toL_len es, HLE.out]; exact hll
      have cG2 := refFind_any HI6.out hes (fun x hx => by
        have := H32.out (x.c, x.s) (by rw [← HLE.out]; exact List.mem_map_of_mem (f := fun y : WdV => (y.c, y.s)) hx)
        exact this) c ac cc (HRC.out _ HB6.out)
      rw [HLE.out] at cG2
      have HF1 : Aside (FindP R1 c n1 b1) := hf1
      clear cG hfd hf1 HI5 HX5
      go_wp2_with fail
      refine cG2.mono ?_
      rintro e w7 ⟨⟨n2, b2, rfl, hf2⟩, hb7⟩
      obtain ⟨rfl, rfl⟩ := HF1.out.unique HOK.out.2 hf2
      have HB7 : Aside (Below w.heap.size w w7) := HB6.out.trans (hb7.mono HB6.out.size)
      have HI7 : Aside (IsWd w1.heap.size w7 v2 es) := HI6.out.below hb7
      have HX7 : Aside (∀ Z, Below w7.heap.size w7 Z → IsLex Z w4.heap.size xb L R1) := fun Z hb => HX6.out Z (hb7.trans (hb.mono hb7.size))
      have hnn : ((n1 : Int) != n1) = false := by rw [bne_eq_false_iff_eq]
      have hbb : (b1 != b1) = false := by rw [bne_eq_false_iff_eq]
      clear cG2 hf2 hb7 HF1 HI6 HX6
      have hcl := HCL.out
      have HNL : Aside (R1.length = es.length) := by show _ = _; rw [← HLE.out, toL_len]
      generalize hnc : c.length = nc at *
      clear hnc
      have o0 : (w7.alloc (.cells #[.int .i64 (-1), .int .i64 0, .int .i64 1, .int .i64 2, .int .i64 3, .int .i64 5, .int .i64 32, .int .i64 33, .int .i64 4611686018427387904] 3)).ownsRow w7.heap.size 3 1 (.slice (some ⟨w7.heap.size, 0, none⟩) 9 9) 9 (ints [-1, 0, 1, 2, 3, 5, 32, 33, 4611686018427387904]) := ⟨rfl, .inr ⟨w7.heap.size, 9, _, rfl, Nat.le_refl _, heap_box w7 _, Nat.le_refl _, by unfold maxLen; omega, rfl, rfl⟩⟩
      have hbC := below_box' w7 (.cells #[.int .i64 (-1), .int .i64 0, .int .i64 1, .int .i64 2, .int .i64 3, .int .i64 5, .int .i64 32, .int .i64 33, .int .i64 4611686018427387904] 3)
      have hszC : (w7.alloc (.cells #[.int .i64 (-1), .int .i64 0, .int .i64 1, .int .i64 2, .int .i64 3, .int .i64 5, .int .i64 32, .int .i64 33, .int .i64 4611686018427387904] 3)).heap.size = w7.heap.size + 1 := by simp
      have hcC : ∀ (j : Nat) (u : Value), [Value.int .i64 (nc : Int)][j]? = some u → ((w7.alloc (.cells #[.int .i64 (-1), .int .i64 0, .int .i64 1, .int .i64 2, .int .i64 3, .int .i64 5, .int .i64 32, .int .i64 33, .int .i64 4611686018427387904] 3)).alloc (.cells #[.int .i64 (nc : Int)] 3)).cell? ((⟨w7.heap.size + 1, 0, none⟩ : Addr).add j) = some u := by
        have := cell_one_new (w7.alloc (.cells #[.int .i64 (-1), .int .i64 0, .int .i64 1, .int .i64 2, .int .i64 3, .int .i64 5, .int .i64 32, .int .i64 33, .int .i64 4611686018427387904] 3)) (.int .i64 (nc : Int)) 3
        rw [hszC] at this
        exact this
      go_wp2_with (at_builtin; refine wpList_append_own _ rfl _ _ 24 rfl w7.heap.size 3 i0 (.int .i64 0) 1 8 Tryz.underlying24 hi0 hz0 hz1 hz2 rfl (by decide) _ _ _ rfl (o0.alloc _) ⟨w7.heap.size + 1, 0, none⟩ 1 1 [.int .i64 (nc : Int)] rfl rfl hcC (by simp [Value.oneCell']) (by unfold maxLen; omega) (by omega) (by simp; omega) ?_)
      intro v8 w8 hown8 hg8 hat8
      have HB8 : Aside (Below w7.heap.size w7 w8) := Below.grown (hbC.alloc (by rw [hszC]; omega) _) hg8 (by simp; omega) (fun q e => by have : w7.heap.size = q := Option.some.inj e; omega)
      have hown9 : w8.ownsRow w7.heap.size 3 1 v8 10 (ints (askN nc)) := hown8
      obtain ⟨a8, c8, rfl⟩ := row_slice hown9
      have HO8 : Aside (∀ Z, Below w8.heap.size w8 Z → ReadsO Z a8 (ints (askN nc))) := fun Z hb => by
        obtain ⟨a, c', e, q⟩ := row_reads hown9
        injection e with e1 e2 e3
        rw [e1]
        exact q.o.below hb
      clear hown8 hown9 hg8 hat8 o0 hbC hszC hcC
      go_wp2
      go_loopg [89] 10 (fun g1 vi wr => ∃ k : Nat, vi = .int .i64 (k : Int) ∧ k ≤ 10 ∧ 10 - k ≤ g1 ∧ Aside (Below w8.heap.size w8 wr))
      case atStart => exact ⟨0, rfl, by omega, by omega, Below.refl _ _⟩
      case round =>
        obtain ⟨k, rfl, hk, hg1, HB⟩ := hrel
        by_cases hlt : k < 10
        · have hltz : (k : Int) < 10 := by omega
          have hka : k < (askN nc).length := hlt
          obtain ⟨ga, oa, rfl, _, ea⟩ := HO8.out wr HB.out k (by simpa [ints] using hka)
          rw [ints_atA hka] at ea
          have hzb := askN_mem (n := (nc : Int)) (by omega) (List.getElem_mem hka)
          generalize (askN nc)[k] = z at *
          have HBw : Aside (Below w7.heap.size w7 wr) := HB8.out.trans (HB.out.mono HB8.out.size)
          have cS1 := spanG_any (HX7.out wr HBw.out) hll HOK.out.2 z
          have HI9 : Aside (∀ Z, Below w7.heap.size w7 Z → IsWd w1.heap.size Z v2 es) := fun Z hb => HI7.out.below hb
          have HSP : Aside (∀ Z, Below w7.heap.size w7 Z → Calls Tryz.prog 12 #[v2, .int .i64 z] Z fun e w' => e = .returned (.tuple #[.int .i64 ((spD R1 z R1.length).1 : Nat), .int .i64 ((spD R1 z R1.length).2 : Nat)]) ∧ Below Z.heap.size Z w') := fun Z hb => by
            have := refSpan_any (HI9.out Z hb) hes z
            rw [HLE.out, ← HNL.out] at this
            exact this
          have HL1 : Aside (∀ a Z, Below w7.heap.size w7 Z → Calls Tryz.prog 13 #[.pointer (some ⟨xb, 0, none⟩), .int .i64 z, .int .i64 a] Z fun e w' => e = .returned (.int .u64 (Msk.ofL (lzD R1 z a R1.length) : Nat)) ∧ Below Z.heap.size Z w') := fun a Z hb => lettersG_any (HX7.out Z hb) hll HOK.out.2 z a
          have HL2 : Aside (∀ a Z, Below w7.heap.size w7 Z → Calls Tryz.prog 14 #[v2, .int .i64 z, .int .i64 a] Z fun e w' => e = .returned (.int .u64 (Msk.ofL (lzD R1 z a R1.length) : Nat)) ∧ Below Z.heap.size Z w') := fun a Z hb => by
            have := refLetters_any (HI9.out Z hb) hes z a
            rw [HLE.out, ← HNL.out] at this
            exact this
          have hzw : IntKind.i64.wrap (z - 1) = z - 1 := by unfold IntKind.wrap; simp [IntKind.signed, IntKind.bits]; omega
          generalize spD R1 z R1.length = sp at *
          obtain ⟨s1, s2⟩ := sp
          simp only at cS1 HSP
          have hs1 : ((s1 : Int) != (s1 : Int)) = false := by rw [bne_eq_false_iff_eq]
          have hs2 : ((s2 : Int) != (s2 : Int)) = false := by rw [bne_eq_false_iff_eq]
          clear hka
          go_wp2_with fail
          refine cS1.mono ?_
          rintro e w9 ⟨rfl, hb9⟩
          have HB9 : Aside (Below w7.heap.size w7 w9) := HBw.out.trans (hb9.mono HBw.out.size)
          have HB98 : Aside (Below w8.heap.size w8 w9) := HB.out.trans (hb9.mono HB.out.size)
          have cS2 := HSP.out w9 HB9.out
          clear cS1 hb9 HSP
          go_wp2_with fail
          refine cS2.mono ?_
          rintro e w10 ⟨rfl, hb10⟩
          have HB10 : Aside (Below w7.heap.size w7 w10) := HB9.out.trans (hb10.mono HB9.out.size)
          have HB108 : Aside (Below w8.heap.size w8 w10) := HB98.out.trans (hb10.mono HB98.out.size)
          have hR5 := reads_five w10 (-1) 0 1 (z - 1) z 3
          have hb5' := below_box' w10 (.cells #[.int .i64 (-1), .int .i64 0, .int .i64 1, .int .i64 (z - 1), .int .i64 z] 3)
          have HB11 : Aside (Below w7.heap.size w7 (w10.alloc (.cells #[.int .i64 (-1), .int .i64 0, .int .i64 1, .int .i64 (z - 1), .int .i64 z] 3))) := HB10.out.trans (hb5'.mono HB10.out.size)
          have HB118 : Aside (Below w8.heap.size w8 (w10.alloc (.cells #[.int .i64 (-1), .int .i64 0, .int .i64 1, .int .i64 (z - 1), .int .i64 z] 3))) := HB108.out.trans (hb5'.mono HB108.out.size)
          clear cS2 hb10 hb5' HB10 HB108 HB9 HB98 ea hs1 hs2
          go_wp2
          generalize hw11 : w10.alloc (.cells #[.int .i64 (-1), .int .i64 0, .int .i64 1, .int .i64 (z - 1), .int .i64 z] 3) = w11 at *
          clear hw11
          have HR5 : Aside (∀ Z, Below w11.heap.size w11 Z → ReadsO Z (some ⟨w10.heap.size, 0, none⟩) (ints [-1, 0, 1, z - 1, z])) := fun Z hb => hR5.below hb
          clear hR5
          generalize w10.heap.size = s10 at *
          generalize hzz : z - 1 = z1 at *
          clear hzz hzw
          generalize wr = wo at *
          go_loopg [118] 5 (fun g2 vj wr => ∃ j : Nat, vj = .int .i64 (j : Int) ∧ j ≤ 5 ∧ 5 - j ≤ g2 ∧ Aside (Below w11.heap.size w11 wr))
          case atStart => exact ⟨0, rfl, by omega, by omega, Below.refl _ _⟩
          case round =>
            obtain ⟨j, rfl, hj, hg2, HBj⟩ := hrel
            by_cases hjt : j < 5
            · have hjtz : (j : Int) < 5 := by omega
              have hja : j < ([-1, 0, 1, z1, z] : List Int).length := hjt
              obtain ⟨gj, oj, ej, _, ej2⟩ := HR5.out wr HBj.out j (by simpa [ints] using hja)
              injection ej with ej
              injection ej with ej1 ej3
              subst ej1 ej3
              rw [ints_atA hja, Nat.zero_add] at ej2
              generalize ([-1, 0, 1, z1, z] : List Int)[j] = a at *
              have HBj7 : Aside (Below w7.heap.size w7 wr) := HB11.out.trans (HBj.out.mono HB11.out.size)
              have cL1 := HL1.out a wr HBj7.out
              have cL2 := HL2.out a
              generalize Msk.ofL (lzD R1 z a R1.length) = M at *
              have hMM : ((M : Int) != (M : Int)) = false := by rw [bne_eq_false_iff_eq]
              clear hja
              go_wp2_with fail
              refine cL1.mono ?_
              rintro e w12 ⟨rfl, hb12⟩
              have HB12 : Aside (Below w7.heap.size w7 w12) := HBj7.out.trans (hb12.mono HBj7.out.size)
              have HB12j : Aside (Below w11.heap.size w11 w12) := HBj.out.trans (hb12.mono HBj.out.size)
              clear hb12 cL1
              have cL3 := cL2 w12 HB12.out
              clear cL2
              go_wp2_with fail
              refine cL3.mono ?_
              rintro e w13 ⟨rfl, hb13⟩
              have HB13j : Aside (Below w11.heap.size w11 w13) := HB12j.out.trans (hb13.mono HB12j.out.size)
              clear hb13 cL3
              go_wp2
              go_roundg (5 - (j + 1))
              case measure => omega
              case rel => exact ⟨j + 1, by go_num, by omega, Nat.le_refl _, HB13j⟩
            · have hjtz : ¬ (j : Int) < 5 := by omega
              have HBe : Aside (Below w8.heap.size w8 wr) := HB118.out.trans (HBj.out.mono HB118.out.size)
              go_wp2
              go_roundg (10 - (k + 1))
              case measure => omega
              case rel => exact ⟨k + 1, by go_num, by omega, Nat.le_refl _, HBe⟩
        · have hltz : ¬ (k : Int) < 10 := by omega
          go_wp2
          go_ret
          exact ⟨rfl, HB7.out.trans ((HB8.out.trans (HB.out.mono HB8.out.size)).mono HB7.out.size)⟩
    · have hRz : (R3 != 0) = true := by rw [bne_iff_ne]; exact hR3
      clear HN hG hRok HXN hle
      go_wp2
      go_ret
      exact ⟨rfl, HB3.out⟩
  · have hEz : (E != 0) = true := by rw [bne_iff_ne]; exact hE
    clear HN hG hRok HXN hle
    go_wp2
    go_ret
    exact ⟨rfl, HB3.out⟩
end Go.Proofs.YtjgmmfkeogkakaaGreat.Utf
