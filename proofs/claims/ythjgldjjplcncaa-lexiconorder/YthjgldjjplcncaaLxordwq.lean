/-
  LexiconOrder walked: words stand in their order, each once; spans lie side by side; letters are those of their words.
-/
import Derived.Test.YthjgldjjplcncaaGxn
namespace Go.Proofs.Ythjgldjjplcncaa.Utf
open Go Go.Lib Go.RowKit

theorem yields_not {P : Program} {ops : Array Oper} {S : World → Prop} {o oi : Oper} {a : Act} (ho : some o = some oi) (hw : Region.wanted o (yielded ops a.tmps) = false) : YieldsIf P ops S oi undef a := by
  obtain rfl := Option.some.inj ho
  exact Or.inr ⟨hw, rfl⟩
theorem lread_big {W : World} (a : Option Addr) (s : ByteArray) (hs : 65536 < s.size) (hs2 : s.size ≤ 4611686018427387904) :
    Calls Try.prog 6 #[.pointer a, .string s] W fun e w' => e = .returned (.tuple #[.pointer none, .slice none 0 0, .int .i64 1]) ∧ w' = W := by
  have hz : (65536 : Int) < (s.size : Int) := by omega
  go_enter Try.func6, Try.ntmps6
  go_wp2
  go_ret3
  exact ⟨rfl, rfl⟩

theorem lzs_mem {l : List (List Int × Int)} {a f t i : Nat} (h1 : f ≤ i) (h2 : i < t) (h3 : t ≤ l.length) (hi : i < l.length) : l[i].1.getD a 0 ∈ lzs l a f (t - f) := by
  unfold lzs
  refine List.mem_map.2 ⟨l[i], ?_, rfl⟩
  refine List.mem_iff_getElem.2 ⟨i - f, by rw [List.length_take, List.length_drop]; omega, ?_⟩
  rw [List.getElem_take, List.getElem_drop]
  congr 1
  omega
set_option maxRecDepth 100000 in
set_option maxHeartbeats 4000000 in
theorem lexOrd_walk (L : List ByteArray) (al : Option Addr) (cl : Nat) (s : ByteArray) (w : World) (hlen : L.length ≤ 4611686018427387904) (hs : s.size ≤ 4611686018427387904) (hRL : ReadsO w al (L.map Value.string)) :
    Calls Try.prog 3 #[.slice al L.length cl, .string s] w fun e w' => e = .returned (.bool true) ∧ Below w.heap.size w w' := by
  have cA := awake9_any w
  have HRL : Aside (∀ W, Below w.heap.size w W → ReadsO W al (L.map Value.string)) := fun W hb => hRL.below hb
  clear hRL
  go_enter Try.func3, Try.ntmps3
  go_wp2_with fail
  refine cA.mono ?_
  rintro e w1 ⟨rfl, hb1⟩
  have cN := new_any L al cl w1 hlen (HRL.out _ hb1)
  have hG := @new_good L
  generalize (newR L).1 = N1 at *
  generalize (newR L).2 = E at *
  clear cA HRL
  go_wp2_with fail
  refine cN.mono ?_
  rintro e w2 ⟨⟨v, rfl, hv1, hv2⟩, hb2⟩
  have HB2 : Aside (Below w.heap.size w w2) := hb1.trans (hb2.mono hb1.size)
  clear cN hb1 hb2
  by_cases hE : E = 0
  · subst hE
    obtain ⟨b, rk, rfl, hA, hRk⟩ := hv2 (by first | rfl | trivial)
    obtain ⟨_, hl40, hnm, hnd⟩ := hG (by first | rfl | trivial)
    have hLs : ∀ x ∈ L, 1 ≤ x.size ∧ x.size ≤ 12 := fun x hx => name_len (hnm x hx)
    by_cases hbig : 65536 < s.size
    · have cR := lread_big (W := w2) (some ⟨b, 0, none⟩) s hbig hs
      clear hv1 hv2 hG hA hnm
      go_wp2_with fail
      refine cR.mono ?_
      rintro e w3 ⟨rfl, hw⟩
      obtain rfl := hw.symm
      have cL := len_nil w2
      clear cR hw
      go_wp2_with fail
      refine cL.mono ?_
      rintro e w3 ⟨rfl, hw⟩
      obtain rfl := hw.symm
      clear cL
      go_wp2
      go_ret
      exact ⟨rfl, HB2.out⟩
    · have cR := lread_any hA.is hRk hnd hLs s (by omega)
      obtain ⟨hok, hsrt, hmax⟩ := readT_ok L s
      clear hv1 hv2 hG hA hnm hbig
      generalize (readT L s).1 = l at *
      generalize (readT L s).2 = bad at *
      go_wp2_with fail
      refine cR.mono ?_
      rintro e wx ⟨⟨xb, bv, rfl, hX, _⟩, hb3⟩
      have HBX : Aside (Below w.heap.size w wx) := HB2.out.trans (hb3.mono HB2.out.size)
      have HX : Aside (∀ W, Below wx.heap.size wx W → IsLex W w2.heap.size xb L l) := fun W hb => hX.below hb
      have HOK : Aside (okE L l ∧ SortL l) := ⟨hok, hsrt⟩
      have h00 : IsCnt l 0 0 := ⟨Nat.zero_le _, fun i hi => ⟨fun _ => Nat.zero_le _, fun _ => by omega⟩⟩
      clear cR hX hb3 hok hsrt HB2
      go_wp2
      go_loopg [46, 10] 33 (fun g1 vn vx wr => ∃ n nx : Nat, vn = .int .i64 (n : Int) ∧ vx = .int .i64 (nx : Int) ∧ n ≤ 33 ∧ 33 - n ≤ g1 ∧ Aside (IsCnt l (n : Int) nx) ∧ Aside (Below wx.heap.size wx wr))
      case atStart => exact ⟨0, 0, rfl, rfl, by omega, by omega, h00, Below.refl _ _⟩
      case round =>
        obtain ⟨n, nx, rfl, rfl, hn, hg1, HC, HB⟩ := hrel
        by_cases hlt : n < 33
        · have hltz : (n : Int) < 33 := by omega
          have cS := span_any (HX.out wr HB.out) hmax HOK.out.2 (n : Int)
          go_wp2_with fail
          refine cS.mono ?_
          rintro e w4 ⟨⟨r1, r2, i1, i2, rfl⟩, hb4⟩
          obtain rfl := HC.out.unique i1
          have HB4 : Aside (Below wx.heap.size wx w4) := HB.out.trans (hb4.mono HB.out.size)
          have hin := spn_in i1 i2
          have HI2 : Aside (IsCnt l ((n + 1 : Nat) : Int) r2) := i2
          clear cS hb4 i1 i2
          by_cases e12 : nx = r2
          · subst e12
            have hsp : spn nx nx = (0, 0) := by unfold spn; rw [if_pos rfl]
            rw [hsp]
            simp only
            clear hin hsp
            go_wp2
            go_roundg (33 - (n + 1))
            case measure => omega
            case rel => exact ⟨n + 1, nx, by go_num, rfl, by omega, Nat.le_refl _, HI2, HB4⟩
          · have hsp : spn nx r2 = (nx, r2) := by unfold spn; rw [if_neg e12]
            rw [hsp] at hin ⊢
            simp only at hin
            obtain ⟨hle, hr2, hin⟩ := hin
            have cL := len_any (HX.out w4 HB4.out)
            have q1 : ((nx : Int) == (r2 : Int)) = false := by rw [beq_eq_false_iff_ne]; omega
            have q2 : ¬ ((r2 : Int) < (nx : Int)) := by omega
            have q3 : ¬ ((l.length : Int) < (r2 : Int)) := by omega
            clear hsp
            go_wp2_with fail
            refine cL.mono ?_
            rintro e w5 ⟨rfl, hw⟩
            obtain rfl := hw.symm
            clear cL hw
            go_wp2
            have d1 : decide (r2 < nx) = false := decide_eq_false (by omega)
            have d2 : decide (l.length < r2) = false := decide_eq_false (by omega)
            simp only [d1, d2, Bool.or_self]
            clear d1 d2
            generalize wr = wo at *
            go_loopg [14] (r2 - nx) (fun g2 vi wr => ∃ i : Nat, vi = .int .i64 (i : Int) ∧ nx ≤ i ∧ i ≤ r2 ∧ r2 - i ≤ g2 ∧ Aside (Below wx.heap.size wx wr))
            case atStart => exact ⟨nx, rfl, Nat.le_refl _, hle, Nat.le_refl _, HB4⟩
            case round =>
              obtain ⟨i, rfl, hni, hir, hg2, HBi⟩ := hrel
              by_cases hi : i < r2
              · have hiz : (i : Int) < (r2 : Int) := by omega
                obtain ⟨hil, hlen2⟩ := hin i hni hi
                have hn2 : l[i].1.length = n := by omega
                have hoki := HOK.out.1 _ (List.getElem_mem hil)
                have cW := word_any (HX.out wr HBi.out) i hil hoki.2.2.2.2 hoki.1
                go_wp2_with fail
                refine cW.mono ?_
                rintro e w6 ⟨⟨v6, rfl, hrow⟩, hb6⟩
                obtain ⟨av, cv, rfl⟩ := row_slice hrow
                have HB6 : Aside (Below wx.heap.size wx w6) := HBi.out.trans (hb6.mono HBi.out.size)
                rw [hn2] at hrow ⊢
                have hscb : 0 ≤ l[i].2 ∧ l[i].2 ≤ 100 := ⟨hoki.2.2.1, hoki.2.2.2.1⟩
                have hnb : ((n : Int) != (n : Int)) = false := by simp
                obtain ⟨hsc0, hsc1⟩ := hscb
                have hs1 : ¬ (l[i].2 < 0) := by omega
                have hs2 : ¬ ((100 : Int) < l[i].2) := by omega
                generalize hsc : l[i].2 = sc at *
                clear cW hb6
                have hbx : Bx2 (w6.alloc (.cells #[.slice av n cv, .int .i64 sc] 37)) w6.heap.size 37 (.slice av n cv) (.int .i64 sc) := ⟨heap_box w6 _⟩
                have hb6Y : Below w6.heap.size w6 (w6.alloc (.cells #[.slice av n cv, .int .i64 sc] 37)) := below_box' w6 _
                go_wp2
                generalize hwY : (w6.alloc (.cells #[.slice av n cv, .int .i64 sc] 37)) = wY at *
                clear hwY
                have HBY : Aside (Below wx.heap.size wx wY) := HB6.out.trans (hb6Y.mono HB6.out.size)
                obtain ⟨aq, cq, eq, hrd⟩ := row_reads hrow
                injection eq with eq1 eq2 eq3
                subst eq1
                have hrY : ReadsO wY av (ints l[i].1) := hrd.o.below hb6Y
                have hSS : ∀ Z, Below wY.heap.size wY Z → Z.cell? ⟨w6.heap.size, 0, none⟩ = some (.slice av n cv) ∧ Z.cell? ⟨w6.heap.size, 1, none⟩ = some (.int .i64 sc) := fun Z hZ => ⟨(hbx.keep hZ).c0, (hbx.keep hZ).c1⟩
                have hbY0 : Below wY.heap.size wY wY.drew := Below.drew (Below.refl _ _)
                have hS0 := hSS _ hbY0
                have hln : l[i].1.length ≤ 32 := hoki.1
                have hcn : okNums L l[i].1 := hoki.2.1
                have HIC : Aside (IsCnt l (n : Int) nx) := HC.out
                clear hrd eq3 hb6Y hoki
                rcases Nat.lt_or_ge nx i with hgt | hge
                · have hgz : (nx : Int) < (i : Int) := by omega
                  have him : i - 1 < l.length := by omega
                  have hokm := HOK.out.1 _ (List.getElem_mem him)
                  have cW2 : ∀ Z, Below wY.heap.size wY Z → Calls Try.prog 9 #[.pointer (some ⟨xb, 0, none⟩), .int .i64 ((i : Int) - 1)] Z fun e w' => (∃ v, e = .returned (.agg #[v, .int .i64 l[i - 1].2]) ∧ w'.ownsRow Z.heap.size 3 1 v l[i - 1].1.length (ints l[i - 1].1)) ∧ Below Z.heap.size Z w' := fun Z hZ => by
                    have := word_any (HX.out Z (HBY.out.trans (hZ.mono HBY.out.size))) (i - 1) him hokm.2.2.2.2 hokm.1
                    rw [show ((i - 1 : Nat) : Int) = (i : Int) - 1 by omega] at this
                    exact this
                  have hord : ordI l[i - 1].1 l[i].1 < 0 := (List.pairwise_iff_getElem.1 HOK.out.2) (i - 1) i him hil (by omega)
                  have cO2 : ∀ a7 c7 Z, Below wY.heap.size wY Z → ∀ base, Z.ownsRow base 3 1 (.slice a7 l[i - 1].1.length c7) l[i - 1].1.length (ints l[i - 1].1) → Calls Try.prog 10 #[.slice a7 l[i - 1].1.length c7, .slice av n cv] Z fun e w' => e = .returned (.int .i64 (ordI l[i - 1].1 l[i].1)) ∧ Below Z.heap.size Z w' := fun a7 c7 Z hZ base hrow7 => by
                    obtain ⟨a8, c8, e8, hrd8⟩ := row_reads hrow7
                    injection e8 with e81 e82 e83
                    subst e81
                    have := refOrder_any l[i - 1].1 l[i].1 (by have := hokm.1; omega) a7 av c7 cv Z hrd8.o (hrY.below hZ)
                    rw [hn2] at this
                    exact this
                  have hor2 : ¬ (0 ≤ ordI l[i - 1].1 l[i].1) := by omega
                  have hfl : ∀ (q : Option Addr) (m c7 : Nat) (z : Int) (W : World), (Instr.field 37 (.agg #[.slice q m c7, .int .i64 z]) 0).run Try.prog W = .ok (.slice q m c7) W := fun q m c7 z W => by kernel_rfl
                  refine wp_region_held (S := fun Z => Z.cell? ⟨w6.heap.size, 0, none⟩ = some (.slice av n cv) ∧ Z.cell? ⟨w6.heap.size, 1, none⟩ = some (.int .i64 sc)) (by kernel_rfl) ?_
                  refine (show wpAnyH _ .any _ _ _ 31 (Array.replicate 31 false) _ wY.drew from ?_)
                  refine takeD (i := 0) (d := 84) (v := .pointer (some ⟨w6.heap.size, 0, none⟩)) rfl (by kernel_rfl) (by kernel_rfl) (by kernel_rfl) (fun _ _ _ h => h) (fun oi ho => yields_now ho rfl fun Z hSw => ?_) hS0 ?_
                  · obtain ⟨s1, s2⟩ := hSw
                    go_simp
                  simp only [Act.put, List.setIfInBounds_toArray, List.set_cons_zero, List.set_cons_succ]
                  refine takeD (i := 1) (d := 85) (v := .slice av n cv) rfl (by kernel_rfl) (by kernel_rfl) (by kernel_rfl) (fun _ _ _ h => h) (fun oi ho => yields_now ho rfl fun Z hSw => ?_) hS0 ?_
                  · obtain ⟨s1, s2⟩ := hSw
                    go_simp
                  simp only [Act.put, List.setIfInBounds_toArray, List.set_cons_zero, List.set_cons_succ]
                  refine takeD (i := 2) (d := 86) (v := .int .i64 (n : Int)) rfl (by kernel_rfl) (by kernel_rfl) (by kernel_rfl) (fun _ _ _ h => h) (fun oi ho => yields_now ho rfl fun Z hSw => ?_) hS0 ?_
                  · obtain ⟨s1, s2⟩ := hSw
                    go_simp
                  simp only [Act.put, List.setIfInBounds_toArray, List.set_cons_zero, List.set_cons_succ]
                  refine takeD (i := 3) (d := 87) (v := .int .i64 (n : Int)) rfl (by kernel_rfl) (by kernel_rfl) (by kernel_rfl) (fun _ _ _ h => h) (fun oi ho => yields_now ho rfl fun Z hSw => ?_) hS0 ?_
                  · obtain ⟨s1, s2⟩ := hSw
                    go_simp
                  simp only [Act.put, List.setIfInBounds_toArray, List.set_cons_zero, List.set_cons_succ]
                  refine takeD (i := 4) (d := 88) (v := .bool false) rfl (by kernel_rfl) (by kernel_rfl) (by kernel_rfl) (fun _ _ _ h => h) (fun oi ho => yields_now ho rfl fun Z hSw => ?_) hS0 ?_
                  · obtain ⟨s1, s2⟩ := hSw
                    go_simp
                  simp only [Act.put, List.setIfInBounds_toArray, List.set_cons_zero, List.set_cons_succ]
                  refine takeD (i := 5) (d := 89) (v := .bool false) rfl (by kernel_rfl) (by kernel_rfl) (by kernel_rfl) (fun _ _ _ h => h) (fun oi ho => yields_now ho rfl fun Z hSw => ?_) hS0 ?_
                  · obtain ⟨s1, s2⟩ := hSw
                    go_simp
                  simp only [Act.put, List.setIfInBounds_toArray, List.set_cons_zero, List.set_cons_succ]
                  refine takeD (i := 6) (d := 90) (v := .pointer (some ⟨w6.heap.size, 1, none⟩)) rfl (by kernel_rfl) (by kernel_rfl) (by kernel_rfl) (fun _ _ _ h => h) (fun oi ho => yields_now ho rfl fun Z hSw => ?_) hS0 ?_
                  · obtain ⟨s1, s2⟩ := hSw
                    go_simp
                  simp only [Act.put, List.setIfInBounds_toArray, List.set_cons_zero, List.set_cons_succ]
                  refine takeD (i := 7) (d := 91) (v := .int .i64 sc) rfl (by kernel_rfl) (by kernel_rfl) (by kernel_rfl) (fun _ _ _ h => h) (fun oi ho => yields_now ho rfl fun Z hSw => ?_) hS0 ?_
                  · obtain ⟨s1, s2⟩ := hSw
                    go_simp
                  simp only [Act.put, List.setIfInBounds_toArray, List.set_cons_zero, List.set_cons_succ]
                  refine takeD (i := 8) (d := 92) (v := .bool false) rfl (by kernel_rfl) (by kernel_rfl) (by kernel_rfl) (fun _ _ _ h => h) (fun oi ho => yields_now ho rfl fun Z hSw => ?_) hS0 ?_
                  · obtain ⟨s1, s2⟩ := hSw
                    go_simp
                  simp only [Act.put, List.setIfInBounds_toArray, List.set_cons_zero, List.set_cons_succ]
                  refine takeD (i := 9) (d := 93) (v := .bool false) rfl (by kernel_rfl) (by kernel_rfl) (by kernel_rfl) (fun _ _ _ h => h) (fun oi ho => yields_now ho rfl fun Z hSw => ?_) hS0 ?_
                  · obtain ⟨s1, s2⟩ := hSw
                    go_simp
                  simp only [Act.put, List.setIfInBounds_toArray, List.set_cons_zero, List.set_cons_succ]
                  refine takeD (i := 10) (d := 94) (v := .bool false) rfl (by kernel_rfl) (by kernel_rfl) (by kernel_rfl) (fun _ _ _ h => h) (fun oi ho => yields_now ho rfl fun Z hSw => ?_) hS0 ?_
                  · obtain ⟨s1, s2⟩ := hSw
                    go_simp
                  simp only [Act.put, List.setIfInBounds_toArray, List.set_cons_zero, List.set_cons_succ]
                  refine takeD (i := 11) (d := 95) (v := .pointer (some ⟨w6.heap.size, 1, none⟩)) rfl (by kernel_rfl) (by kernel_rfl) (by kernel_rfl) (fun _ _ _ h => h) (fun oi ho => yields_now ho rfl fun Z hSw => ?_) hS0 ?_
                  · obtain ⟨s1, s2⟩ := hSw
                    go_simp
                  simp only [Act.put, List.setIfInBounds_toArray, List.set_cons_zero, List.set_cons_succ]
                  refine takeD (i := 12) (d := 96) (v := .int .i64 sc) rfl (by kernel_rfl) (by kernel_rfl) (by kernel_rfl) (fun _ _ _ h => h) (fun oi ho => yields_now ho rfl fun Z hSw => ?_) hS0 ?_
                  · obtain ⟨s1, s2⟩ := hSw
                    go_simp
                  simp only [Act.put, List.setIfInBounds_toArray, List.set_cons_zero, List.set_cons_succ]
                  refine takeD (i := 13) (d := 97) (v := .bool false) rfl (by kernel_rfl) (by kernel_rfl) (by kernel_rfl) (fun _ _ _ h => h) (fun oi ho => yields_now ho rfl fun Z hSw => ?_) hS0 ?_
                  · obtain ⟨s1, s2⟩ := hSw
                    go_simp
                  simp only [Act.put, List.setIfInBounds_toArray, List.set_cons_zero, List.set_cons_succ]
                  refine takeD (i := 14) (d := 98) (v := .bool false) rfl (by kernel_rfl) (by kernel_rfl) (by kernel_rfl) (fun _ _ _ h => h) (fun oi ho => yields_now ho rfl fun Z hSw => ?_) hS0 ?_
                  · obtain ⟨s1, s2⟩ := hSw
                    go_simp
                  simp only [Act.put, List.setIfInBounds_toArray, List.set_cons_zero, List.set_cons_succ]
                  refine takeD (i := 15) (d := 99) (v := .bool false) rfl (by kernel_rfl) (by kernel_rfl) (by kernel_rfl) (fun _ _ _ h => h) (fun oi ho => yields_now ho rfl fun Z hSw => ?_) hS0 ?_
                  · obtain ⟨s1, s2⟩ := hSw
                    go_simp
                  simp only [Act.put, List.setIfInBounds_toArray, List.set_cons_zero, List.set_cons_succ]
                  refine takeD (i := 16) (d := 100) (v := .int .i64 (i : Int)) rfl (by kernel_rfl) (by kernel_rfl) (by kernel_rfl) (fun _ _ _ h => h) (fun oi ho => yields_now ho rfl fun Z hSw => ?_) hS0 ?_
                  · obtain ⟨s1, s2⟩ := hSw
                    go_simp
                  simp only [Act.put, List.setIfInBounds_toArray, List.set_cons_zero, List.set_cons_succ]
                  refine takeD (i := 17) (d := 101) (v := .int .i64 (nx : Int)) rfl (by kernel_rfl) (by kernel_rfl) (by kernel_rfl) (fun _ _ _ h => h) (fun oi ho => yields_now ho rfl fun Z hSw => ?_) hS0 ?_
                  · obtain ⟨s1, s2⟩ := hSw
                    go_simp
                  simp only [Act.put, List.setIfInBounds_toArray, List.set_cons_zero, List.set_cons_succ]
                  refine takeD (i := 18) (d := 102) (v := .bool true) rfl (by kernel_rfl) (by kernel_rfl) (by kernel_rfl) (fun _ _ _ h => h) (fun oi ho => yields_now ho rfl fun Z hSw => ?_) hS0 ?_
                  · obtain ⟨s1, s2⟩ := hSw
                    go_simp
                  simp only [Act.put, List.setIfInBounds_toArray, List.set_cons_zero, List.set_cons_succ]
                  refine takeD (i := 19) (d := 103) (v := .bool true) rfl (by kernel_rfl) (by kernel_rfl) (by kernel_rfl) (fun _ _ _ h => h) (fun oi ho => yields_now ho rfl fun Z hSw => ?_) hS0 ?_
                  · obtain ⟨s1, s2⟩ := hSw
                    go_simp
                  simp only [Act.put, List.setIfInBounds_toArray, List.set_cons_zero, List.set_cons_succ]
                  refine takeD (i := 20) (d := 104) (v := .pointer (some ⟨xb, 0, none⟩)) rfl (by kernel_rfl) (by kernel_rfl) (by kernel_rfl) (fun _ _ _ h => h) (fun oi ho => yields_now ho rfl fun Z hSw => ?_) hS0 ?_
                  · obtain ⟨s1, s2⟩ := hSw
                    go_simp
                  simp only [Act.put, List.setIfInBounds_toArray, List.set_cons_zero, List.set_cons_succ]
                  refine takeD (i := 21) (d := 105) (v := .int .i64 (i : Int)) rfl (by kernel_rfl) (by kernel_rfl) (by kernel_rfl) (fun _ _ _ h => h) (fun oi ho => yields_now ho rfl fun Z hSw => ?_) hS0 ?_
                  · obtain ⟨s1, s2⟩ := hSw
                    go_simp
                  simp only [Act.put, List.setIfInBounds_toArray, List.set_cons_zero, List.set_cons_succ]
                  refine takeD (i := 22) (d := 106) (v := .int .i64 ((i : Int) - 1)) rfl (by kernel_rfl) (by kernel_rfl) (by kernel_rfl) (fun _ _ _ h => h) (fun oi ho => yields_now ho rfl fun Z hSw => ?_) hS0 ?_
                  · obtain ⟨s1, s2⟩ := hSw
                    go_simp
                    (try simp [IntKind.wrap, IntKind.signed, IntKind.bits])
                    (try omega)
                  simp only [Act.put, List.setIfInBounds_toArray, List.set_cons_zero, List.set_cons_succ]
                  refine takeD (i := 25) (d := 109) (v := .pointer (some ⟨w6.heap.size, 0, none⟩)) rfl (by kernel_rfl) (by kernel_rfl) (by kernel_rfl) (fun _ _ _ h => h) (fun oi ho => yields_now ho rfl fun Z hSw => ?_) hS0 ?_
                  · obtain ⟨s1, s2⟩ := hSw
                    go_simp
                  simp only [Act.put, List.setIfInBounds_toArray, List.set_cons_zero, List.set_cons_succ]
                  refine takeD (i := 26) (d := 110) (v := .slice av n cv) rfl (by kernel_rfl) (by kernel_rfl) (by kernel_rfl) (fun _ _ _ h => h) (fun oi ho => yields_now ho rfl fun Z hSw => ?_) hS0 ?_
                  · obtain ⟨s1, s2⟩ := hSw
                    go_simp
                  simp only [Act.put, List.setIfInBounds_toArray, List.set_cons_zero, List.set_cons_succ]
                  refine wpAnyH_all (rs := [23]) (by kernel_rfl) (by simp) (fun i' hi' => ?_)
                  obtain rfl := List.mem_singleton.1 hi'
                  refine wpOp_call rfl rfl rfl (by go_simp) (cW2 wY.drew hbY0) ?_
                  rintro e w7 ⟨⟨v7, rfl, hrow7⟩, hb7⟩
                  obtain ⟨av7, cv7, rfl⟩ := row_slice hrow7
                  have hbY1 : Below wY.heap.size wY w7 := hbY0.trans (hb7.mono hbY0.size)
                  refine ⟨_, rfl, hSS _ hbY1, ?_⟩
                  have hS1 := hSS _ hbY1
                  simp only [Act.put, List.setIfInBounds_toArray, List.set_cons_zero, List.set_cons_succ]
                  refine takeD (i := 24) (d := 108) (v := .slice av7 l[i - 1].1.length cv7) rfl (by kernel_rfl) (by kernel_rfl) (by kernel_rfl) (fun _ _ _ h => h) (fun oi ho => yields_now ho rfl fun Z hSw => ?_) hS1 ?_
                  · obtain ⟨s1, s2⟩ := hSw
                    have h5 := hfl av7 l[i - 1].1.length cv7 l[i - 1].2 Z
                    go_simp
                    trace_state
                    (try rw [h5])
                    (try go_simp)
                  simp only [Act.put, List.setIfInBounds_toArray, List.set_cons_zero, List.set_cons_succ]
                  refine wpAnyH_all (rs := [27]) (by kernel_rfl) (by simp) (fun i' hi' => ?_)
                  obtain rfl := List.mem_singleton.1 hi'
                  refine wpOp_call rfl rfl rfl (by go_simp) (cO2 av7 cv7 w7 hbY1 _ hrow7) ?_
                  rintro e w8 ⟨rfl, hb8⟩
                  have hbY2 : Below wY.heap.size wY w8 := hbY1.trans (hb8.mono hbY1.size)
                  refine ⟨_, rfl, hSS _ hbY2, ?_⟩
                  have hS2 := hSS _ hbY2
                  simp only [Act.put, List.setIfInBounds_toArray, List.set_cons_zero, List.set_cons_succ]
                  refine takeD (i := 28) (d := 112) (v := .bool false) rfl (by kernel_rfl) (by kernel_rfl) (by kernel_rfl) (fun _ _ _ h => h) (fun oi ho => yields_now ho rfl fun Z hSw => ?_) hS2 ?_
                  · obtain ⟨s1, s2⟩ := hSw
                    go_simp
                  simp only [Act.put, List.setIfInBounds_toArray, List.set_cons_zero, List.set_cons_succ]
                  refine takeD (i := 29) (d := 113) (v := .bool false) rfl (by kernel_rfl) (by kernel_rfl) (by kernel_rfl) (fun _ _ _ h => h) (fun oi ho => yields_now ho rfl fun Z hSw => ?_) hS2 ?_
                  · obtain ⟨s1, s2⟩ := hSw
                    go_simp
                  simp only [Act.put, List.setIfInBounds_toArray, List.set_cons_zero, List.set_cons_succ]
                  refine takeD (i := 30) (d := 114) (v := .bool false) rfl (by kernel_rfl) (by kernel_rfl) (by kernel_rfl) (fun _ _ _ h => h) (fun oi ho => yields_now ho rfl fun Z hSw => ?_) hS2 ?_
                  · obtain ⟨s1, s2⟩ := hSw
                    go_simp
                  simp only [Act.put, List.setIfInBounds_toArray, List.set_cons_zero, List.set_cons_succ]
                  refine wpAnyH_done (by kernel_rfl) ?_ _
                  have hbZ : Below wY.heap.size wY w8 := hbY2
                  generalize w8 = wZ at *
                  clear hbY2 hbY1 hS1 hS2 hb7 hb8 hrow7 cW2 cO2 hord hor2 hfl hokm
                  have HBZ : Aside (Below wx.heap.size wx wZ) := HBY.out.trans (hbZ.mono HBY.out.size)
                  have bxZ := hbx.keep hbZ
                  have cz0 := bxZ.c0
                  have HRZ : Aside (∀ W', Below wZ.heap.size wZ W' → ReadsO W' av (ints l[i].1)) := fun W' h => (hrY.below hbZ).below h
                  have HCN : Aside (okNums L l[i].1 ∧ l[i].1.length = n) := ⟨hcn, hn2⟩
                  clear hbx bxZ hrY hbZ hSS hS0 hbY0 hrow HB6 hs1 hs2 hsc0 hsc1 hsc hcn hln
                  go_wp2
                  go_loopg [118] n (fun g3 va wr => ∃ a : Nat, va = .int .i64 (a : Int) ∧ a ≤ n ∧ n - a ≤ g3 ∧ Aside (Below wZ.heap.size wZ wr))
                  case atStart => exact ⟨0, rfl, Nat.zero_le _, Nat.le_refl _, Below.refl _ _⟩
                  case round =>
                    obtain ⟨a, rfl, ha, hg3, HBa⟩ := hrel
                    have HBa2 : Aside (Below wx.heap.size wx wr) := HBZ.out.trans (HBa.out.mono HBZ.out.size)
                    by_cases hal : a < n
                    · have halz : (a : Int) < (n : Int) := by omega
                      obtain ⟨ga, oa, rfl, _, ea⟩ := HRZ.out wr HBa.out a (by rw [ints_len, HCN.out.2]; exact hal)
                      have hac : a < l[i].1.length := by rw [HCN.out.2]; exact hal
                      rw [ints_at _ hac] at ea
                      have hcm := HCN.out.1 l[i].1[a] (List.getElem_mem hac)
                      have hgd : l[i].1.getD a 0 = l[i].1[a] := by rw [List.getD_eq_getElem?_getD, List.getElem?_eq_getElem hac]; rfl
                      have HMEM : Aside (l[i].1[a] ∈ lzs l a nx (r2 - nx)) := by
                        have := lzs_mem (a := a) hni hi hr2 hil
                        rw [hgd] at this
                        exact this
                      have cLt := letters_any (HX.out wr HBa2.out) hmax HOK.out.2 n a hal
                      clear hgd
                      generalize l[i].1[a] = c at *
                      go_wp2_with fail
                      refine cLt.mono ?_
                      rintro e w9 ⟨⟨q1, q2, j1, j2, rfl⟩, hb9⟩
                      obtain rfl := HIC.out.unique j1
                      have hq2 : r2 = q2 := HI2.out.unique (by rw [show ((n + 1 : Nat) : Int) = (n : Int) + 1 by omega]; exact j2)
                      subst hq2
                      have hsp : spn nx r2 = (nx, r2) := by unfold spn; rw [if_neg e12]
                      rw [hsp]
                      simp only
                      have hmlt := Msk.ofL_lt (lzs l a nx (r2 - nx))
                      have hbit : (Msk.ofL (lzs l a nx (r2 - nx))).testBit c.toNat = true := by
                        rw [Msk.ofL_bit _ _ (by omega), decide_eq_true_iff, show ((c.toNat : Nat) : Int) = c by omega]
                        exact HMEM.out
                      have cHs := Msk.has_any (Msk.ofL (lzs l a nx (r2 - nx))) c w9 hmlt
                      rw [hbit, decide_eq_true (show 0 ≤ c ∧ c < 64 by omega), Bool.and_true] at cHs
                      have HB9 : Aside (Below wZ.heap.size wZ w9) := HBa.out.trans (hb9.mono HBa.out.size)
                      clear cLt hsp hbit hmlt j1 j2 hb9
                      generalize Msk.ofL (lzs l a nx (r2 - nx)) = mk at *
                      go_wp2_with fail
                      refine cHs.mono ?_
                      rintro e w10 ⟨rfl, hw⟩
                      obtain rfl := hw.symm
                      clear cHs hw
                      go_wp2
                      go_roundg (n - (a + 1))
                      case measure => omega
                      case rel => exact ⟨a + 1, by go_num, by omega, Nat.le_refl _, HB9⟩
                    · have halz : ¬ (a : Int) < (n : Int) := by omega
                      go_wp2
                      go_roundg (r2 - (i + 1))
                      case measure => omega
                      case rel => exact ⟨i + 1, by go_num, by omega, by omega, Nat.le_refl _, HBa2⟩
                · have hgz : ¬ (nx : Int) < (i : Int) := by omega
                  refine wp_region_held (S := fun Z => Z.cell? ⟨w6.heap.size, 0, none⟩ = some (.slice av n cv) ∧ Z.cell? ⟨w6.heap.size, 1, none⟩ = some (.int .i64 sc)) (by kernel_rfl) ?_
                  refine (show wpAnyH _ .any _ _ _ 31 (Array.replicate 31 false) _ wY.drew from ?_)
                  refine takeD (i := 0) (d := 84) (v := .pointer (some ⟨w6.heap.size, 0, none⟩)) rfl (by kernel_rfl) (by kernel_rfl) (by kernel_rfl) (fun _ _ _ h => h) (fun oi ho => yields_now ho rfl fun Z hSw => ?_) hS0 ?_
                  · obtain ⟨s1, s2⟩ := hSw
                    go_simp
                  simp only [Act.put, List.setIfInBounds_toArray, List.set_cons_zero, List.set_cons_succ]
                  refine takeD (i := 1) (d := 85) (v := .slice av n cv) rfl (by kernel_rfl) (by kernel_rfl) (by kernel_rfl) (fun _ _ _ h => h) (fun oi ho => yields_now ho rfl fun Z hSw => ?_) hS0 ?_
                  · obtain ⟨s1, s2⟩ := hSw
                    go_simp
                  simp only [Act.put, List.setIfInBounds_toArray, List.set_cons_zero, List.set_cons_succ]
                  refine takeD (i := 2) (d := 86) (v := .int .i64 (n : Int)) rfl (by kernel_rfl) (by kernel_rfl) (by kernel_rfl) (fun _ _ _ h => h) (fun oi ho => yields_now ho rfl fun Z hSw => ?_) hS0 ?_
                  · obtain ⟨s1, s2⟩ := hSw
                    go_simp
                  simp only [Act.put, List.setIfInBounds_toArray, List.set_cons_zero, List.set_cons_succ]
                  refine takeD (i := 3) (d := 87) (v := .int .i64 (n : Int)) rfl (by kernel_rfl) (by kernel_rfl) (by kernel_rfl) (fun _ _ _ h => h) (fun oi ho => yields_now ho rfl fun Z hSw => ?_) hS0 ?_
                  · obtain ⟨s1, s2⟩ := hSw
                    go_simp
                  simp only [Act.put, List.setIfInBounds_toArray, List.set_cons_zero, List.set_cons_succ]
                  refine takeD (i := 4) (d := 88) (v := .bool false) rfl (by kernel_rfl) (by kernel_rfl) (by kernel_rfl) (fun _ _ _ h => h) (fun oi ho => yields_now ho rfl fun Z hSw => ?_) hS0 ?_
                  · obtain ⟨s1, s2⟩ := hSw
                    go_simp
                  simp only [Act.put, List.setIfInBounds_toArray, List.set_cons_zero, List.set_cons_succ]
                  refine takeD (i := 5) (d := 89) (v := .bool false) rfl (by kernel_rfl) (by kernel_rfl) (by kernel_rfl) (fun _ _ _ h => h) (fun oi ho => yields_now ho rfl fun Z hSw => ?_) hS0 ?_
                  · obtain ⟨s1, s2⟩ := hSw
                    go_simp
                  simp only [Act.put, List.setIfInBounds_toArray, List.set_cons_zero, List.set_cons_succ]
                  refine takeD (i := 6) (d := 90) (v := .pointer (some ⟨w6.heap.size, 1, none⟩)) rfl (by kernel_rfl) (by kernel_rfl) (by kernel_rfl) (fun _ _ _ h => h) (fun oi ho => yields_now ho rfl fun Z hSw => ?_) hS0 ?_
                  · obtain ⟨s1, s2⟩ := hSw
                    go_simp
                  simp only [Act.put, List.setIfInBounds_toArray, List.set_cons_zero, List.set_cons_succ]
                  refine takeD (i := 7) (d := 91) (v := .int .i64 sc) rfl (by kernel_rfl) (by kernel_rfl) (by kernel_rfl) (fun _ _ _ h => h) (fun oi ho => yields_now ho rfl fun Z hSw => ?_) hS0 ?_
                  · obtain ⟨s1, s2⟩ := hSw
                    go_simp
                  simp only [Act.put, List.setIfInBounds_toArray, List.set_cons_zero, List.set_cons_succ]
                  refine takeD (i := 8) (d := 92) (v := .bool false) rfl (by kernel_rfl) (by kernel_rfl) (by kernel_rfl) (fun _ _ _ h => h) (fun oi ho => yields_now ho rfl fun Z hSw => ?_) hS0 ?_
                  · obtain ⟨s1, s2⟩ := hSw
                    go_simp
                  simp only [Act.put, List.setIfInBounds_toArray, List.set_cons_zero, List.set_cons_succ]
                  refine takeD (i := 9) (d := 93) (v := .bool false) rfl (by kernel_rfl) (by kernel_rfl) (by kernel_rfl) (fun _ _ _ h => h) (fun oi ho => yields_now ho rfl fun Z hSw => ?_) hS0 ?_
                  · obtain ⟨s1, s2⟩ := hSw
                    go_simp
                  simp only [Act.put, List.setIfInBounds_toArray, List.set_cons_zero, List.set_cons_succ]
                  refine takeD (i := 10) (d := 94) (v := .bool false) rfl (by kernel_rfl) (by kernel_rfl) (by kernel_rfl) (fun _ _ _ h => h) (fun oi ho => yields_now ho rfl fun Z hSw => ?_) hS0 ?_
                  · obtain ⟨s1, s2⟩ := hSw
                    go_simp
                  simp only [Act.put, List.setIfInBounds_toArray, List.set_cons_zero, List.set_cons_succ]
                  refine takeD (i := 11) (d := 95) (v := .pointer (some ⟨w6.heap.size, 1, none⟩)) rfl (by kernel_rfl) (by kernel_rfl) (by kernel_rfl) (fun _ _ _ h => h) (fun oi ho => yields_now ho rfl fun Z hSw => ?_) hS0 ?_
                  · obtain ⟨s1, s2⟩ := hSw
                    go_simp
                  simp only [Act.put, List.setIfInBounds_toArray, List.set_cons_zero, List.set_cons_succ]
                  refine takeD (i := 12) (d := 96) (v := .int .i64 sc) rfl (by kernel_rfl) (by kernel_rfl) (by kernel_rfl) (fun _ _ _ h => h) (fun oi ho => yields_now ho rfl fun Z hSw => ?_) hS0 ?_
                  · obtain ⟨s1, s2⟩ := hSw
                    go_simp
                  simp only [Act.put, List.setIfInBounds_toArray, List.set_cons_zero, List.set_cons_succ]
                  refine takeD (i := 13) (d := 97) (v := .bool false) rfl (by kernel_rfl) (by kernel_rfl) (by kernel_rfl) (fun _ _ _ h => h) (fun oi ho => yields_now ho rfl fun Z hSw => ?_) hS0 ?_
                  · obtain ⟨s1, s2⟩ := hSw
                    go_simp
                  simp only [Act.put, List.setIfInBounds_toArray, List.set_cons_zero, List.set_cons_succ]
                  refine takeD (i := 14) (d := 98) (v := .bool false) rfl (by kernel_rfl) (by kernel_rfl) (by kernel_rfl) (fun _ _ _ h => h) (fun oi ho => yields_now ho rfl fun Z hSw => ?_) hS0 ?_
                  · obtain ⟨s1, s2⟩ := hSw
                    go_simp
                  simp only [Act.put, List.setIfInBounds_toArray, List.set_cons_zero, List.set_cons_succ]
                  refine takeD (i := 15) (d := 99) (v := .bool false) rfl (by kernel_rfl) (by kernel_rfl) (by kernel_rfl) (fun _ _ _ h => h) (fun oi ho => yields_now ho rfl fun Z hSw => ?_) hS0 ?_
                  · obtain ⟨s1, s2⟩ := hSw
                    go_simp
                  simp only [Act.put, List.setIfInBounds_toArray, List.set_cons_zero, List.set_cons_succ]
                  refine takeD (i := 16) (d := 100) (v := .int .i64 (i : Int)) rfl (by kernel_rfl) (by kernel_rfl) (by kernel_rfl) (fun _ _ _ h => h) (fun oi ho => yields_now ho rfl fun Z hSw => ?_) hS0 ?_
                  · obtain ⟨s1, s2⟩ := hSw
                    go_simp
                  simp only [Act.put, List.setIfInBounds_toArray, List.set_cons_zero, List.set_cons_succ]
                  refine takeD (i := 17) (d := 101) (v := .int .i64 (nx : Int)) rfl (by kernel_rfl) (by kernel_rfl) (by kernel_rfl) (fun _ _ _ h => h) (fun oi ho => yields_now ho rfl fun Z hSw => ?_) hS0 ?_
                  · obtain ⟨s1, s2⟩ := hSw
                    go_simp
                  simp only [Act.put, List.setIfInBounds_toArray, List.set_cons_zero, List.set_cons_succ]
                  refine takeD (i := 18) (d := 102) (v := .bool false) rfl (by kernel_rfl) (by kernel_rfl) (by kernel_rfl) (fun _ _ _ h => h) (fun oi ho => yields_now ho rfl fun Z hSw => ?_) hS0 ?_
                  · obtain ⟨s1, s2⟩ := hSw
                    go_simp
                  simp only [Act.put, List.setIfInBounds_toArray, List.set_cons_zero, List.set_cons_succ]
                  refine takeD (i := 19) (d := 103) (v := .bool false) rfl (by kernel_rfl) (by kernel_rfl) (by kernel_rfl) (fun _ _ _ h => h) (fun oi ho => yields_now ho rfl fun Z hSw => ?_) hS0 ?_
                  · obtain ⟨s1, s2⟩ := hSw
                    go_simp
                  simp only [Act.put, List.setIfInBounds_toArray, List.set_cons_zero, List.set_cons_succ]
                  refine takeD (i := 20) (d := 104) (v := undef) rfl (by kernel_rfl) (by kernel_rfl) (by kernel_rfl) (fun _ _ _ h => h) (fun oi ho => yields_not ho rfl) hS0 ?_
                  simp only [Act.put, List.setIfInBounds_toArray, List.set_cons_zero, List.set_cons_succ]
                  refine takeD (i := 21) (d := 105) (v := undef) rfl (by kernel_rfl) (by kernel_rfl) (by kernel_rfl) (fun _ _ _ h => h) (fun oi ho => yields_not ho rfl) hS0 ?_
                  simp only [Act.put, List.setIfInBounds_toArray, List.set_cons_zero, List.set_cons_succ]
                  refine takeD (i := 22) (d := 106) (v := undef) rfl (by kernel_rfl) (by kernel_rfl) (by kernel_rfl) (fun _ _ _ h => h) (fun oi ho => yields_not ho rfl) hS0 ?_
                  simp only [Act.put, List.setIfInBounds_toArray, List.set_cons_zero, List.set_cons_succ]
                  refine takeD (i := 23) (d := 107) (v := undef) rfl (by kernel_rfl) (by kernel_rfl) (by kernel_rfl) (fun _ _ _ h => h) (fun oi ho => yields_not ho rfl) hS0 ?_
                  simp only [Act.put, List.setIfInBounds_toArray, List.set_cons_zero, List.set_cons_succ]
                  refine takeD (i := 24) (d := 108) (v := undef) rfl (by kernel_rfl) (by kernel_rfl) (by kernel_rfl) (fun _ _ _ h => h) (fun oi ho => yields_not ho rfl) hS0 ?_
                  simp only [Act.put, List.setIfInBounds_toArray, List.set_cons_zero, List.set_cons_succ]
                  refine takeD (i := 25) (d := 109) (v := undef) rfl (by kernel_rfl) (by kernel_rfl) (by kernel_rfl) (fun _ _ _ h => h) (fun oi ho => yields_not ho rfl) hS0 ?_
                  simp only [Act.put, List.setIfInBounds_toArray, List.set_cons_zero, List.set_cons_succ]
                  refine takeD (i := 26) (d := 110) (v := undef) rfl (by kernel_rfl) (by kernel_rfl) (by kernel_rfl) (fun _ _ _ h => h) (fun oi ho => yields_not ho rfl) hS0 ?_
                  simp only [Act.put, List.setIfInBounds_toArray, List.set_cons_zero, List.set_cons_succ]
                  refine takeD (i := 27) (d := 111) (v := undef) rfl (by kernel_rfl) (by kernel_rfl) (by kernel_rfl) (fun _ _ _ h => h) (fun oi ho => yields_not ho rfl) hS0 ?_
                  simp only [Act.put, List.setIfInBounds_toArray, List.set_cons_zero, List.set_cons_succ]
                  refine takeD (i := 28) (d := 112) (v := undef) rfl (by kernel_rfl) (by kernel_rfl) (by kernel_rfl) (fun _ _ _ h => h) (fun oi ho => yields_not ho rfl) hS0 ?_
                  simp only [Act.put, List.setIfInBounds_toArray, List.set_cons_zero, List.set_cons_succ]
                  refine takeD (i := 29) (d := 113) (v := .bool false) rfl (by kernel_rfl) (by kernel_rfl) (by kernel_rfl) (fun _ _ _ h => h) (fun oi ho => yields_now ho rfl fun Z hSw => ?_) hS0 ?_
                  · obtain ⟨s1, s2⟩ := hSw
                    go_simp
                  simp only [Act.put, List.setIfInBounds_toArray, List.set_cons_zero, List.set_cons_succ]
                  refine takeD (i := 30) (d := 114) (v := .bool false) rfl (by kernel_rfl) (by kernel_rfl) (by kernel_rfl) (fun _ _ _ h => h) (fun oi ho => yields_now ho rfl fun Z hSw => ?_) hS0 ?_
                  · obtain ⟨s1, s2⟩ := hSw
                    go_simp
                  simp only [Act.put, List.setIfInBounds_toArray, List.set_cons_zero, List.set_cons_succ]
                  refine wpAnyH_done (by kernel_rfl) ?_ _
                  have hbZ : Below wY.heap.size wY wY.drew := hbY0
                  generalize wY.drew = wZ at *
                  have HBZ : Aside (Below wx.heap.size wx wZ) := HBY.out.trans (hbZ.mono HBY.out.size)
                  have bxZ := hbx.keep hbZ
                  have cz0 := bxZ.c0
                  have HRZ : Aside (∀ W', Below wZ.heap.size wZ W' → ReadsO W' av (ints l[i].1)) := fun W' h => (hrY.below hbZ).below h
                  have HCN : Aside (okNums L l[i].1 ∧ l[i].1.length = n) := ⟨hcn, hn2⟩
                  clear hbx bxZ hrY hbZ hSS hS0 hbY0 hrow HB6 hs1 hs2 hsc0 hsc1 hsc hcn hln
                  go_wp2
                  go_loopg [118] n (fun g3 va wr => ∃ a : Nat, va = .int .i64 (a : Int) ∧ a ≤ n ∧ n - a ≤ g3 ∧ Aside (Below wZ.heap.size wZ wr))
                  case atStart => exact ⟨0, rfl, Nat.zero_le _, Nat.le_refl _, Below.refl _ _⟩
                  case round =>
                    obtain ⟨a, rfl, ha, hg3, HBa⟩ := hrel
                    have HBa2 : Aside (Below wx.heap.size wx wr) := HBZ.out.trans (HBa.out.mono HBZ.out.size)
                    by_cases hal : a < n
                    · have halz : (a : Int) < (n : Int) := by omega
                      obtain ⟨ga, oa, rfl, _, ea⟩ := HRZ.out wr HBa.out a (by rw [ints_len, HCN.out.2]; exact hal)
                      have hac : a < l[i].1.length := by rw [HCN.out.2]; exact hal
                      rw [ints_at _ hac] at ea
                      have hcm := HCN.out.1 l[i].1[a] (List.getElem_mem hac)
                      have hgd : l[i].1.getD a 0 = l[i].1[a] := by rw [List.getD_eq_getElem?_getD, List.getElem?_eq_getElem hac]; rfl
                      have HMEM : Aside (l[i].1[a] ∈ lzs l a nx (r2 - nx)) := by
                        have := lzs_mem (a := a) hni hi hr2 hil
                        rw [hgd] at this
                        exact this
                      have cLt := letters_any (HX.out wr HBa2.out) hmax HOK.out.2 n a hal
                      clear hgd
                      generalize l[i].1[a] = c at *
                      go_wp2_with fail
                      refine cLt.mono ?_
                      rintro e w9 ⟨⟨q1, q2, j1, j2, rfl⟩, hb9⟩
                      obtain rfl := HIC.out.unique j1
                      have hq2 : r2 = q2 := HI2.out.unique (by rw [show ((n + 1 : Nat) : Int) = (n : Int) + 1 by omega]; exact j2)
                      subst hq2
                      have hsp : spn nx r2 = (nx, r2) := by unfold spn; rw [if_neg e12]
                      rw [hsp]
                      simp only
                      have hmlt := Msk.ofL_lt (lzs l a nx (r2 - nx))
                      have hbit : (Msk.ofL (lzs l a nx (r2 - nx))).testBit c.toNat = true := by
                        rw [Msk.ofL_bit _ _ (by omega), decide_eq_true_iff, show ((c.toNat : Nat) : Int) = c by omega]
                        exact HMEM.out
                      have cHs := Msk.has_any (Msk.ofL (lzs l a nx (r2 - nx))) c w9 hmlt
                      rw [hbit, decide_eq_true (show 0 ≤ c ∧ c < 64 by omega), Bool.and_true] at cHs
                      have HB9 : Aside (Below wZ.heap.size wZ w9) := HBa.out.trans (hb9.mono HBa.out.size)
                      clear cLt hsp hbit hmlt j1 j2 hb9
                      generalize Msk.ofL (lzs l a nx (r2 - nx)) = mk at *
                      go_wp2_with fail
                      refine cHs.mono ?_
                      rintro e w10 ⟨rfl, hw⟩
                      obtain rfl := hw.symm
                      clear cHs hw
                      go_wp2
                      go_roundg (n - (a + 1))
                      case measure => omega
                      case rel => exact ⟨a + 1, by go_num, by omega, Nat.le_refl _, HB9⟩
                    · have halz : ¬ (a : Int) < (n : Int) := by omega
                      go_wp2
                      go_roundg (r2 - (i + 1))
                      case measure => omega
                      case rel => exact ⟨i + 1, by go_num, by omega, by omega, Nat.le_refl _, HBa2⟩
              · have hiz : ¬ (i : Int) < (r2 : Int) := by omega
                go_wp2
                go_roundg (33 - (n + 1))
                case measure => omega
                case rel => exact ⟨n + 1, r2, by go_num, rfl, by omega, Nat.le_refl _, HI2, HBi⟩
        · have hltz : ¬ (n : Int) < 33 := by omega
          have hfull : nx = l.length := by
            refine HC.out.unique ⟨Nat.le_refl _, fun i hi => ?_⟩
            have := (HOK.out.1 _ (List.getElem_mem hi)).1
            constructor
            · intro h; omega
            · intro h; omega
          have cL := len_any (HX.out wr HB.out)
          subst hfull
          go_wp2_with fail
          refine cL.mono ?_
          rintro e w5 ⟨rfl, hw⟩
          obtain rfl := hw.symm
          have HF : Aside (Below w.heap.size w wr) := HBX.out.trans (HB.out.mono HBX.out.size)
          clear cL hw
          go_wp2
          go_ret
          exact ⟨by simp, HF.out⟩
  · have hne : (E != 0) = true := by rw [bne_iff_ne]; exact hE
    obtain rfl := hv1 hE
    go_wp2
    go_ret
    exact ⟨rfl, HB2.out⟩
end Go.Proofs.Ythjgldjjplcncaa.Utf
