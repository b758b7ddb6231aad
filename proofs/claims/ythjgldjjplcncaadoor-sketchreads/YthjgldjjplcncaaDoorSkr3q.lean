/-
  The document's Parse: a list of rows in memory of the call's own.
-/
import Derived.Test.YthjgldjjplcncaaDoorGsr
import Derived.Test.YthjgldjjplcncaaDoorGrf
namespace Go.Proofs.YthjgldjjplcncaaDoor.Skt
open Go Go.Lib Go.RowKit Utf Grd

theorem infoRow : (Tryd.prog.info? 41).map (fun i => (i.zero, i.size, i.bytes)) = some (some (.slice none 0 0), 1, 24) := by kernel_rfl
/-- A list of rows, in memory from B on. -/
structure RL (W : World) (B : Nat) (v : Value) (rows : List (List C3)) (us : List Value) : Prop where
  row : W.ownsRow B 41 1 v rows.length us
  len : us.length = rows.length
  each : ∀ (i : Nat) (r : List C3) (u : Value), rows[i]? = some r → us[i]? = some u → W.ownsRow B 47 3 u r.length (cs3 r)
theorem RL.keep {W W' : World} {B : Nat} {v : Value} {rows : List (List C3)} {us : List Value} (h : RL W B v rows us) (hb : Below W.heap.size W W') : RL W' B v rows us :=
  ⟨row_keeps3 h.row hb, h.len, fun i r u h1 h2 => row_keeps3 (h.each i r u h1 h2) hb⟩
theorem RL.nil (W : World) (B : Nat) : RL W B (.slice none 0 0) [] [] := ⟨World.ownsRow_nil _ _ _ _, rfl, fun i r u h => by simp at h⟩
theorem rl_apart {W : World} {B B' n m j : Nat} {v u : Value} {xs ys : List Value} (h1 : W.ownsRow B 41 1 v n xs) (h2 : W.ownsRow B' 47 3 u m ys) (e1 : u.ownBlock = some j) : v.ownBlock ≠ some j := by
  intro e2
  rcases h1.2 with ⟨rfl, _⟩ | ⟨g, cap, cur, rfl, _, k1, _⟩
  · cases e2
  · rcases h2.2 with ⟨rfl, _⟩ | ⟨g', cap', cur', rfl, _, k2, _⟩
    · cases e1
    · cases e1
      cases e2
      rw [k1] at k2
      cases k2
/-- One row more. -/
theorem RL.snoc {W w1 : World} {B : Nat} {v v' u : Value} {rows : List (List C3)} {us : List Value} {r : List C3} (h : RL W B v rows us) (hx : W.ownsRow B 47 3 u r.length (cs3 r))
    (hg : W.grownBy w1 v.ownBlock) (hr : w1.ownsRow B 41 1 v' (rows.length + 1) (us ++ [u])) : RL w1 B v' (rows ++ [r]) (us ++ [u]) := by
  refine ⟨by rw [List.length_append]; exact hr, by rw [List.length_append, List.length_append, h.len]; rfl, fun i t y h1 h2 => ?_⟩
  by_cases e : i < rows.length
  · rw [List.getElem?_append_left e] at h1
    rw [List.getElem?_append_left (by rw [h.len]; exact e)] at h2
    have hy := h.each i t y h1 h2
    exact row_grown hy hg fun j hj => rl_apart h.row hy hj
  · have hi : i = rows.length := by have := (List.getElem?_eq_some_iff.1 h1).1; simp at this; omega
    subst hi
    rw [List.getElem?_append_right (Nat.le_refl _), Nat.sub_self] at h1
    rw [List.getElem?_append_right (by rw [h.len]; exact Nat.le_refl _), h.len, Nat.sub_self] at h2
    simp at h1 h2
    subst h1 h2
    exact row_grown hx hg fun j hj => rl_apart h.row hx hj

theorem scan_past {s : ByteArray} {p ls : Nat} {rows : List (List C3)} (h : ¬ p < s.size) : scan s p ls rows [] = .inr rows := by
  rw [scan_end h, endRow, if_pos rfl]
theorem scan_eol {s : ByteArray} {q ls : Nat} {rows : List (List C3)} {cur : List C3} (hq : q < s.size) (h10 : (s.get! q).toNat = 10) : scan s q ls rows cur = (match endRow rows cur ls with | .inl e => .inl e | .inr rows' => scan s (q + 1) (q + 1) rows' []) := by
  have hd : Utf8.decode s q = (10, 1) := by rw [Lib.decode_at, h10]; exact dN1 (by omega)
  have := scan_line (ls := ls) (rows := rows) (cur := cur) hq (by rw [hd])
  rw [hd] at this
  exact this
theorem line_end {s : ByteArray} {q ls : Nat} {rows : List (List C3)} {cur : List C3} (hq : q ≤ s.size) (h10 : q < s.size → (s.get! q).toNat = 10) : scan s q ls rows cur = (match endRow rows cur ls with | .inl e => .inl e | .inr rows' => scan s (q + 1) (q + 1) rows' []) := by
  by_cases h : q < s.size
  · exact scan_eol h (h10 h)
  · rw [scan_end h]
    cases endRow rows cur ls with
    | inl e => rfl
    | inr r => exact (scan_past (by omega)).symm

theorem RL.slice {W : World} {B : Nat} {v : Value} {rows : List (List C3)} {us : List Value} (h : RL W B v rows us) : ∃ ao cp, v = .slice ao rows.length cp := by
  rcases h.row.2 with ⟨e, h0⟩ | ⟨g, cap, cur, e, _⟩
  · exact ⟨none, 0, by rw [e, h0]⟩
  · exact ⟨_, _, e⟩

/-- What is copied so far. -/
def ffc (f : C3 → Bool) (L : List C3) (i : Nat) : List Bool := (L.take i).map f ++ List.replicate (L.length - i) false
theorem ffc_zero (f : C3 → Bool) (L : List C3) : ffc f L 0 = List.replicate L.length false := by simp [ffc]
theorem ffc_end (f : C3 → Bool) (L : List C3) : ffc f L L.length = L.map f := by simp [ffc]
theorem ffc_step (f : C3 → Bool) (L : List C3) (i : Nat) (c : C3) (h : L[i]? = some c) : (ffc f L i).set i (f c) = ffc f L (i + 1) := by
  obtain ⟨hi, rfl⟩ := List.getElem?_eq_some_iff.1 h
  unfold ffc
  have hl : ((L.take i).map f).length = i := by rw [List.length_map, List.length_take]; omega
  rw [List.set_append_right _ _ (by omega), hl, Nat.sub_self, show L.length - i = (L.length - (i + 1)) + 1 by omega, List.replicate_succ, List.set_cons_zero]
  have ht : L.take (i + 1) = L.take i ++ [L[i]] := by
    rw [List.take_add_one, h]; rfl
  rw [ht, List.map_append, List.append_assoc]
  rfl
theorem flat_at (v : Nat) (hv : 1 ≤ v) : ∀ (rows : List (List C3)) (i : Nat), (∀ r ∈ rows, r.length = v) → i < rows.length * v → ∃ r c, rows[i / v]? = some r ∧ r[i % v]? = some c ∧ rows.flatten[i]? = some c
  | [], i, _, hi => by simp at hi
  | a :: l, i, hs, hi => by
    have ha : a.length = v := hs a (by simp)
    by_cases h : i < v
    · refine ⟨a, a[i]'(by omega), ?_, ?_, ?_⟩
      · rw [Nat.div_eq_of_lt h]; rfl
      · rw [Nat.mod_eq_of_lt h]; exact List.getElem?_eq_getElem _
      · rw [List.flatten_cons, List.getElem?_append_left (by omega)]; exact List.getElem?_eq_getElem _
    · obtain ⟨j, rfl⟩ : ∃ j, i = j + v := ⟨i - v, by omega⟩
      rw [List.length_cons, Nat.add_mul, Nat.one_mul] at hi
      obtain ⟨r, c, h1, h2, h3⟩ := flat_at v hv l j (fun r hr => hs r (by simp [hr])) (by omega)
      refine ⟨r, c, ?_, ?_, ?_⟩
      · rw [Nat.add_div_right _ (by omega), List.getElem?_cons_succ]; exact h1
      · rw [Nat.add_mod_right]; exact h2
      · rw [List.flatten_cons, List.getElem?_append_right (by omega), ha, Nat.add_sub_cancel]; exact h3
theorem flat_len (v : Nat) : ∀ (rows : List (List C3)), (∀ r ∈ rows, r.length = v) → rows.flatten.length = rows.length * v
  | [], _ => by simp
  | a :: l, hs => by rw [List.flatten_cons, List.length_append, flat_len v l (fun r hr => hs r (by simp [hr])), hs a (by simp), List.length_cons, Nat.add_mul, Nat.one_mul, Nat.add_comm]
theorem cs3_at : ∀ (r : List C3) (k : Nat) (c : C3), r[k]? = some c → (cs3 r)[k * 3]? = some (.bool c.b) ∧ (cs3 r)[k * 3 + 1]? = some (.bool c.r) ∧ (cs3 r)[k * 3 + 2]? = some (.bool c.d)
  | [], k, c, h => by simp at h
  | a :: l, 0, c, h => by simp at h; subst h; exact ⟨rfl, rfl, rfl⟩
  | a :: l, k + 1, c, h => by
    rw [List.getElem?_cons_succ] at h
    have := cs3_at l k c h
    rw [show (k + 1) * 3 = k * 3 + 3 by omega]
    exact this
/-- A box of the document's cell. -/
structure Tri (W : World) (b : Nat) (x0 x1 x2 : Value) : Prop where
  blk : W.heap[b]? = some (.cells #[x0, x1, x2] 47)
theorem Tri.c0 {W : World} {b : Nat} {x0 x1 x2 : Value} (h : Tri W b x0 x1 x2) : W.cell? ⟨b, 0, none⟩ = some x0 := by simp [World.cell?, h.blk]
theorem Tri.c1 {W : World} {b : Nat} {x0 x1 x2 : Value} (h : Tri W b x0 x1 x2) : W.cell? ⟨b, 1, none⟩ = some x1 := by simp [World.cell?, h.blk]
theorem Tri.c2 {W : World} {b : Nat} {x0 x1 x2 : Value} (h : Tri W b x0 x1 x2) : W.cell? ⟨b, 2, none⟩ = some x2 := by simp [World.cell?, h.blk]
theorem Tri.fr {W : World} {b : Nat} {x0 x1 x2 : Value} (h : Tri W b x0 x1 x2) (j : Nat) : W.frozen? ⟨b, j, none⟩ = false := frozen_of_row W b j _ _ h.blk
theorem Tri.lt {W : World} {b : Nat} {x0 x1 x2 : Value} (h : Tri W b x0 x1 x2) : b < W.heap.size := (Array.getElem?_eq_some_iff.1 h.blk).1
theorem Tri.keep {W W' : World} {b : Nat} {x0 x1 x2 : Value} (h : Tri W b x0 x1 x2) (hb : Below W.heap.size W W') : Tri W' b x0 x1 x2 := ⟨(hb.block b h.lt).trans h.blk⟩
theorem Tri.other {W : World} {b c j : Nat} {x0 x1 x2 u : Value} (h : Tri W b x0 x1 x2) (hc : b ≠ c) : Tri (W.setCell ⟨c, j, none⟩ u) b x0 x1 x2 := ⟨((set_grown W c j u).block b h.lt (fun e => hc (Option.some.inj e))).trans h.blk⟩
theorem Tri.set {W : World} {b : Nat} {x0 x1 x2 : Value} (h : Tri W b x0 x1 x2) (u0 u1 u2 : Value) : Tri (((W.setCell ⟨b, 0, none⟩ u0).setCell ⟨b, 1, none⟩ u1).setCell ⟨b, 2, none⟩ u2) b u0 u1 u2 :=
  ⟨heap_setCell_same _ b 2 _ _ u2 (heap_setCell_same _ b 1 _ _ u1 (heap_setCell_same W b 0 _ _ u0 h.blk))⟩
-- Tri.set0
theorem row_readsB3 {W : World} {B b n : Nat} {zs : List Bool} (h : W.ownsRow B 4 1 (.slice (some ⟨b, 0, none⟩) n n) n (cellsB zs)) : ReadsB W (some ⟨b, 0, none⟩) zs := fun j hj => by
  have hn : zs.length = n := by have := h.1; rw [cellsB_length] at this; omega
  refine ⟨b, 0, rfl, (h.lt b rfl).2, ?_⟩
  rw [Nat.zero_add, h.cellAt j (by omega)]
  simp [cellsB, bt, List.getElem?_eq_getElem hj]
/-- What lies where while the cells are copied. -/
structure CSt (wr w3 : World) (ob g1 g2 g3 h v n : Nat) (bs rs ds : List Bool) : Prop where
  f : Five w3 ob (.int .i64 h) (.int .i64 v) (.slice (some ⟨g1, 0, none⟩) n n) (.slice (some ⟨g2, 0, none⟩) n n) (.slice (some ⟨g3, 0, none⟩) n n)
  m : MadeG wr.heap.size w3 n g1 g2 g3 bs rs ds
  bw : Below wr.heap.size wr w3
  ne : ob ≠ g1 ∧ ob ≠ g2 ∧ ob ≠ g3
theorem CSt.keep {wr w3 w4 : World} {ob g1 g2 g3 h v n : Nat} {bs rs ds : List Bool} (s : CSt wr w3 ob g1 g2 g3 h v n bs rs ds) (hb : Below w3.heap.size w3 w4) : CSt wr w4 ob g1 g2 g3 h v n bs rs ds :=
  ⟨s.f.keep hb, s.m.dif hb, s.bw.trans (hb.mono s.bw.size), s.ne⟩
theorem CSt.put {wr w3 : World} {ob g1 g2 g3 h v n i : Nat} {bs rs ds : List Bool} (s : CSt wr w3 ob g1 g2 g3 h v n bs rs ds) (x y z : Bool) :
    CSt wr (((w3.setCell ⟨g1, i, none⟩ (.bool x)).setCell ⟨g2, i, none⟩ (.bool y)).setCell ⟨g3, i, none⟩ (.bool z)) ob g1 g2 g3 h v n (bs.set i x) (rs.set i y) (ds.set i z) := by
  obtain ⟨l1, l2, l3⟩ := s.m.lo
  refine ⟨((s.f.other s.ne.1).other s.ne.2.1).other s.ne.2.2, ((s.m.put1 x).put2 y).put3 z, ?_, s.ne⟩
  refine Below.setIn (Below.setIn (Below.setIn s.bw l1.1 s.bw.size) l2.1 ?_) l3.1 ?_
  · simpa using s.bw.size
  · simpa using s.bw.size

set_option maxRecDepth 100000 in
set_option maxHeartbeats 2000000 in
theorem refParse_any (s : ByteArray) (W : World) (hs0 : s.size ≤ 140737488355328) :
    Calls Tryd.prog 6 #[.string s] W fun e W' => ∃ p : Ad, e = .returned (.tuple #[gv (prs s).1 p, .int .i64 ((prs s).2.1 : Nat), .int .i64 ((prs s).2.2 : Nat)]) ∧ RG W' (prs s).1 p ∧ Below W.heap.size W W' := by
  by_cases hs : 65536 < s.size
  · have e : prs s = (zeroG, 65536, 1) := by unfold prs; rw [if_pos hs]
    rw [e]
    go_enter Tryd.func6, Tryd.ntmps6
    go_wp2
    refine bodyPost_ret (results_g3 rfl _ _ W.heap.size _ _ _ _ _ rfl ⟨heap_alloc_new W _⟩) rfl ⟨⟨none, 0, none, 0, none, 0⟩, rfl, rg_zero _, below_box W _⟩
  · have hsz : s.size ≤ 65536 := by omega
    obtain ⟨i0, hi0, hz0, hz1, hz2⟩ := info_parts infoRow
    obtain ⟨wB, hwB⟩ : ∃ wB, wB = W.alloc (.cells #[.int .i64 0, .int .i64 0, .slice none 0 0, .slice none 0 0, .slice none 0 0] 25) := ⟨_, rfl⟩
    have HWB : Aside (Below W.heap.size W wB ∧ wB.heap.size = W.heap.size + 1 ∧ Five wB W.heap.size (.int .i64 0) (.int .i64 0) (.slice none 0 0) (.slice none 0 0) (.slice none 0 0)) := by
      rw [hwB]
      exact ⟨below_box W _, by simp, ⟨heap_alloc_new W _⟩⟩
    clear hs
    go_enter Tryd.func6, Tryd.ntmps6
    go_wp2
    rw [← hwB]
    clear hwB
    go_loopg [5, 6] (s.size + 1) (fun g1 rv fv wr => ∃ (fr : Nat) (rows : List (List C3)) (us : List Value), fv = .int .i64 (fr : Int) ∧ fr ≤ s.size + 1 ∧ s.size + 1 - fr ≤ g1 ∧ Aside (scan s 0 0 [] [] = scan s fr fr rows []) ∧ Aside (RowsOk rows []) ∧ RL wr (W.heap.size + 1) rv rows us ∧ Aside (Below (W.heap.size + 1) wB wr))
    case atStart => exact ⟨0, [], [], rfl, Nat.zero_le _, Nat.le_refl _, rfl, RowsOk.nil, RL.nil _ _, Below.refl _ _⟩
    case round =>
      obtain ⟨fr, rows, us, rfl, hfs, hg, HSC, HOK, hRL, HB⟩ := hrel
      by_cases hlt : fr < s.size
      · have hltz : (fr : Int) < (s.size : Int) := by omega
        go_wp2
        go_loopg [7] s.size (fun g2 ev w3 => ∃ en : Nat, ev = .int .i64 (en : Int) ∧ fr ≤ en ∧ en ≤ s.size ∧ s.size - en ≤ g2 ∧ Aside (∀ j, fr ≤ j → j < en → (s.get! j).toNat ≠ 10) ∧ w3 = wr)
        case atStart => exact ⟨fr, rfl, Nat.le_refl _, by omega, Nat.sub_le _ _, fun j h1 h2 => by omega, rfl⟩
        case round =>
          obtain ⟨en, rfl, hfe, hes, hg2, HN, rfl⟩ := hrel
          by_cases hel : en < s.size
          · have helz : (en : Int) < (s.size : Int) := by omega
            have hget := Utf8W.get!_of_lt s en hel
            obtain ⟨x, hx⟩ : ∃ x, s[en]'hel = x := ⟨_, rfl⟩
            rw [hx] at hget
            have lx := x.toNat_lt
            by_cases hx10 : x.toNat = 10
            · have hq : ((x.toNat : Int) != 10) = false := by rw [bne_eq_false_iff_eq]; omega
              have HEND : Aside (en < s.size → (s.get! en).toNat = 10) := fun _ => by rw [hget]; exact hx10
              clear hget hx10
              obtain ⟨ao, cp, rfl⟩ := hRL.slice
              have cL := refLine_any s fr en fr rows wr hsz (by omega) (by omega) HN.out HEND.out HOK.out
              have HEQ : ∀ cur, endRow rows cur fr = .inr (rows ++ [cur]) → scan s fr fr rows [] = scan s en fr rows cur → scan s 0 0 [] [] = scan s (en + 1) (en + 1) (rows ++ [cur]) [] := fun cur h1 h2 => by
                rw [HSC.out, h2, line_end hes HEND.out, h1]
              have HEQ0 : scan s fr fr rows [] = scan s en fr rows [] → scan s 0 0 [] [] = scan s (en + 1) (en + 1) rows [] := fun h2 => by
                rw [HSC.out, h2, line_end hes HEND.out, endRow, if_pos rfl]
              have HEQ1 : ∀ cur, endRow rows cur fr = .inl (fr, 81) → scan s fr fr rows [] = scan s en fr rows cur → scan s 0 0 [] [] = .inl (fr, 81) := fun cur h1 h2 => by
                rw [HSC.out, h2, line_end hes HEND.out, h1]
              have HEQS : Aside (_ ∧ _ ∧ _) := ⟨HEQ, HEQ0, HEQ1⟩
              clear HEQ HEQ0 HEQ1
              go_wp2_with fail
              refine cL.mono ?_
              clear cL
              rintro e w1 ⟨hb1, ⟨a, er, hE, rfl⟩ | ⟨cur, v, hE, hRC, rfl, hrow⟩⟩
              · have hE0 := HSC.out.trans hE
                have hq := scan_err s 0 0 [] [] a er (Nat.zero_le _) (Nat.zero_le _) hE0
                have HP : Aside (prs s = (zeroG, a, er)) := prs_err (by omega) hE0
                have HBl : Aside (Below (W.heap.size + 1) wB w1) := HB.out.trans (hb1.mono (by have := HB.out.size; have := HWB.out.2.1; omega))
                have her : ((er : Int) != 0) = true := by rw [bne_iff_ne]; omega
                clear hE hE0 hb1 hRL HEQS
                have HB2 : Aside (Below (W.heap.size + 1) wB w1) := HBl.out
                have hF1 : Five w1 W.heap.size (.int .i64 0) (.int .i64 0) (.slice none 0 0) (.slice none 0 0) (.slice none 0 0) := HWB.out.2.2.keep (HB2.out.mono (by have := HWB.out.2.1; omega))
                have HF1 : Aside (Five w1 W.heap.size (.int .i64 0) (.int .i64 0) (.slice none 0 0) (.slice none 0 0) (.slice none 0 0) ∧ Below W.heap.size W w1) := ⟨hF1, HWB.out.1.trans (HB2.out.mono (by omega))⟩
                have z0 := hF1.c0
                have z1 := hF1.c1
                have z2 := hF1.c2
                have z3 := hF1.c3
                have z4 := hF1.c4
                have f0 := hF1.fr 0
                have f1 := hF1.fr 1
                have f2 := hF1.fr 2
                have f3 := hF1.fr 3
                have f4 := hF1.fr 4
                clear hF1
                go_wp2
                have hF5 := HF1.out.1.all (.int .i64 0) (.int .i64 0) (.slice none 0 0) (.slice none 0 0) (.slice none 0 0)
                rw [HP.out]
                refine bodyPost_ret (results_g3 rfl _ _ W.heap.size _ _ _ _ _ rfl hF5) rfl ⟨⟨none, 0, none, 0, none, 0⟩, rfl, rg_zero _, Below.all HF1.out.2 (Nat.le_refl _) HF1.out.2.size _ _ _ _ _⟩
              · have HBl : Aside (Below (W.heap.size + 1) wB w1) := HB.out.trans (hb1.mono (by have := HB.out.size; have := HWB.out.2.1; omega))
                obtain ⟨ao2, mm, cp2, rfl⟩ := row_slice hrow
                obtain rfl := row_len3 hrow
                have hR2 := hRL.keep hb1
                by_cases hcur : cur = []
                · subst hcur
                  have HSC2 : Aside (scan s 0 0 [] [] = scan s (en + 1) (en + 1) rows []) := HEQS.out.2.1 hE
                  clear hE hb1 hRL HEQS hrow hRC
                  go_wp2
                  go_roundg (s.size + 1 - (en + 1))
                  case measure => omega
                  case rel => exact ⟨en + 1, rows, us, by go_num, by omega, Nat.le_refl _, HSC2, HOK, hR2, HBl⟩
                · have hc1 : 1 ≤ cur.length := List.length_pos_iff.2 hcur
                  have hc16 := hRC.short
                  have hr16 := hRC.few
                  have hcz : (0 : Int) < (cur.length : Int) := by omega
                  by_cases hr0 : rows = []
                  · have hER : endRow rows cur fr = .inr (rows ++ [cur]) := endRow_yes hcur (.inl (by rw [hr0]; rfl))
                    have hrz : ¬ (0 : Int) < (rows.length : Int) := by rw [hr0]; simp
                    clear hr0 hcur
                    have HSC2 : Aside (scan s 0 0 [] [] = scan s (en + 1) (en + 1) (rows ++ [cur]) []) := HEQS.out.1 cur hER hE
                    have HOK2 : Aside (RowsOk (rows ++ [cur]) []) := endRow_ok hRC hER
                    have hs1 := HBl.out.size
                    have hsB := HWB.out.2.1
                    have HX : Aside (w1.ownsRow (W.heap.size + 1) 47 3 (.slice ao2 cur.length cp2) cur.length (cs3 cur)) := row_base3 hrow (by have := HB.out.size; omega)
                    clear hE hb1 hRL HEQS hrow hRC hER
                    go_wp2_with (at_builtin; refine wpList_append_own _ rfl _ _ 40 rfl (W.heap.size + 1) 41 i0 (.slice none 0 0) 1 24 Tryd.underlying40 hi0 hz0 hz1 hz2 rfl (by decide) _ _ _ rfl (hR2.row.alloc _) ⟨w1.heap.size, 0, none⟩ 1 1 [.slice ao2 cur.length cp2] rfl rfl (cell_one_new _ _ _) (by simp [Value.oneCell']) (by unfold maxLen; omega) (by omega) (by simp; omega) ?_)
                    intro v' w3 hown' hgrow _
                    have hR3 := RL.snoc (hR2.keep ((Below.refl w1.heap.size w1).alloc (Nat.le_refl _) _)) (row_keeps3 HX.out ((Below.refl w1.heap.size w1).alloc (Nat.le_refl _) _)) hgrow hown'
                    have HB3 : Aside (Below (W.heap.size + 1) wB w3) := Below.grown (HBl.out.alloc (by omega) _) hgrow (by simp; omega) (fun j hj => (hR2.row.lt _ hj).1)
                    clear hown' hgrow hR2
                    go_wp2
                    go_roundg (s.size + 1 - (en + 1))
                    case measure => omega
                    case rel => exact ⟨en + 1, _, _, by go_num, by omega, Nat.le_refl _, HSC2, HOK2, hR3, HB3⟩
                  · have hr1 : 1 ≤ rows.length := List.length_pos_iff.2 hr0
                    have hrz : (0 : Int) < (rows.length : Int) := by omega
                    have hh0 : rows[0]? = some (rows.headD []) := by cases rows with | nil => exact absurd rfl hr0 | cons a l => rfl
                    obtain ⟨u0, hu0⟩ : ∃ u0, us[0]? = some u0 := ⟨_, List.getElem?_eq_getElem (by rw [hR2.len]; omega)⟩
                    have hx0 := hR2.each 0 _ u0 hh0 hu0
                    obtain ⟨a0, m0, c0, rfl⟩ := row_slice hx0
                    obtain rfl := row_len3 hx0
                    obtain ⟨gb, rfl⟩ : ∃ gb, ao = some ⟨gb, 0, none⟩ := by
                      rcases hR2.row.2 with ⟨_, h0⟩ | ⟨gb, cap, cur, e, _⟩
                      · omega
                      · cases e; exact ⟨gb, rfl⟩
                    have k0 := (hR2.row.cellAt 0 (by omega)).trans hu0
                    clear hu0 hh0 hx0
                    by_cases hsame : cur.length = (rows.headD []).length
                    · have hER : endRow rows cur fr = .inr (rows ++ [cur]) := endRow_yes hcur (.inr hsame)
                      rw [← hsame] at k0
                      clear hsame
                      have HSC2 : Aside (scan s 0 0 [] [] = scan s (en + 1) (en + 1) (rows ++ [cur]) []) := HEQS.out.1 cur hER hE
                      have HOK2 : Aside (RowsOk (rows ++ [cur]) []) := endRow_ok hRC hER
                      have hs1 := HBl.out.size
                      have hsB := HWB.out.2.1
                      have HX : Aside (w1.ownsRow (W.heap.size + 1) 47 3 (.slice ao2 cur.length cp2) cur.length (cs3 cur)) := row_base3 hrow (by have := HB.out.size; omega)
                      clear hE hb1 hRL HEQS hrow hRC hER
                      go_wp2_with (at_builtin; refine wpList_append_own _ rfl _ _ 40 rfl (W.heap.size + 1) 41 i0 (.slice none 0 0) 1 24 Tryd.underlying40 hi0 hz0 hz1 hz2 rfl (by decide) _ _ _ rfl (hR2.row.alloc _) ⟨w1.heap.size, 0, none⟩ 1 1 [.slice ao2 cur.length cp2] rfl rfl (cell_one_new _ _ _) (by simp [Value.oneCell']) (by unfold maxLen; omega) (by omega) (by simp; omega) ?_)
                      intro v' w3 hown' hgrow _
                      have hR3 := RL.snoc (hR2.keep ((Below.refl w1.heap.size w1).alloc (Nat.le_refl _) _)) (row_keeps3 HX.out ((Below.refl w1.heap.size w1).alloc (Nat.le_refl _) _)) hgrow hown'
                      have HB3 : Aside (Below (W.heap.size + 1) wB w3) := Below.grown (HBl.out.alloc (by omega) _) hgrow (by simp; omega) (fun j hj => (hR2.row.lt _ hj).1)
                      clear hown' hgrow hR2
                      go_wp2
                      go_roundg (s.size + 1 - (en + 1))
                      case measure => omega
                      case rel => exact ⟨en + 1, _, _, by go_num, by omega, Nat.le_refl _, HSC2, HOK2, hR3, HB3⟩
                    · have hER : endRow rows cur fr = .inl (fr, 81) := endRow_no hcur (by omega)
                      have HP : Aside (prs s = (zeroG, fr, 81)) := prs_err (by omega) (HEQS.out.2.2 cur hER hE)
                      generalize (rows.headD []).length = rl at *
                      have hne : ((rl : Int) != (cur.length : Int)) = true := by rw [bne_iff_ne]; omega
                      clear hE hb1 hRL HEQS hrow hRC hER
                      have HB2 : Aside (Below (W.heap.size + 1) wB w1) := HBl.out
                      have hF1 : Five w1 W.heap.size (.int .i64 0) (.int .i64 0) (.slice none 0 0) (.slice none 0 0) (.slice none 0 0) := HWB.out.2.2.keep (HB2.out.mono (by have := HWB.out.2.1; omega))
                      have HF1 : Aside (Five w1 W.heap.size (.int .i64 0) (.int .i64 0) (.slice none 0 0) (.slice none 0 0) (.slice none 0 0) ∧ Below W.heap.size W w1) := ⟨hF1, HWB.out.1.trans (HB2.out.mono (by omega))⟩
                      have z0 := hF1.c0
                      have z1 := hF1.c1
                      have z2 := hF1.c2
                      have z3 := hF1.c3
                      have z4 := hF1.c4
                      have f0 := hF1.fr 0
                      have f1 := hF1.fr 1
                      have f2 := hF1.fr 2
                      have f3 := hF1.fr 3
                      have f4 := hF1.fr 4
                      clear hF1
                      go_wp2
                      have hF5 := HF1.out.1.all (.int .i64 0) (.int .i64 0) (.slice none 0 0) (.slice none 0 0) (.slice none 0 0)
                      rw [HP.out]
                      refine bodyPost_ret (results_g3 rfl _ _ W.heap.size _ _ _ _ _ rfl hF5) rfl ⟨⟨none, 0, none, 0, none, 0⟩, rfl, rg_zero _, Below.all HF1.out.2 (Nat.le_refl _) HF1.out.2.size _ _ _ _ _⟩
            · have hq : ((x.toNat : Int) != 10) = true := by rw [bne_iff_ne]; omega
              have HN2 : Aside (∀ j, fr ≤ j → j < en + 1 → (s.get! j).toNat ≠ 10) := fun j h1 h2 => by
                by_cases e : j = en
                · rw [e, hget]; exact hx10
                · exact HN.out j h1 (by omega)
              clear hget hx10 HN
              go_wp2
              go_roundg (s.size - (en + 1))
              case measure => omega
              case rel => exact ⟨en + 1, by go_num, by omega, by omega, Nat.le_refl _, HN2, rfl⟩
          · have helz : ¬ (en : Int) < (s.size : Int) := by omega
            have HEND : Aside (en < s.size → (s.get! en).toNat = 10) := fun h => absurd h hel
            obtain ⟨ao, cp, rfl⟩ := hRL.slice
            have cL := refLine_any s fr en fr rows wr hsz (by omega) (by omega) HN.out HEND.out HOK.out
            have HEQ : ∀ cur, endRow rows cur fr = .inr (rows ++ [cur]) → scan s fr fr rows [] = scan s en fr rows cur → scan s 0 0 [] [] = scan s (en + 1) (en + 1) (rows ++ [cur]) [] := fun cur h1 h2 => by
              rw [HSC.out, h2, line_end hes HEND.out, h1]
            have HEQ0 : scan s fr fr rows [] = scan s en fr rows [] → scan s 0 0 [] [] = scan s (en + 1) (en + 1) rows [] := fun h2 => by
              rw [HSC.out, h2, line_end hes HEND.out, endRow, if_pos rfl]
            have HEQ1 : ∀ cur, endRow rows cur fr = .inl (fr, 81) → scan s fr fr rows [] = scan s en fr rows cur → scan s 0 0 [] [] = .inl (fr, 81) := fun cur h1 h2 => by
              rw [HSC.out, h2, line_end hes HEND.out, h1]
            have HEQS : Aside (_ ∧ _ ∧ _) := ⟨HEQ, HEQ0, HEQ1⟩
            clear HEQ HEQ0 HEQ1
            go_wp2_with fail
            refine cL.mono ?_
            clear cL
            rintro e w1 ⟨hb1, ⟨a, er, hE, rfl⟩ | ⟨cur, v, hE, hRC, rfl, hrow⟩⟩
            · have hE0 := HSC.out.trans hE
              have hq := scan_err s 0 0 [] [] a er (Nat.zero_le _) (Nat.zero_le _) hE0
              have HP : Aside (prs s = (zeroG, a, er)) := prs_err (by omega) hE0
              have HBl : Aside (Below (W.heap.size + 1) wB w1) := HB.out.trans (hb1.mono (by have := HB.out.size; have := HWB.out.2.1; omega))
              have her : ((er : Int) != 0) = true := by rw [bne_iff_ne]; omega
              clear hE hE0 hb1 hRL HEQS
              have HB2 : Aside (Below (W.heap.size + 1) wB w1) := HBl.out
              have hF1 : Five w1 W.heap.size (.int .i64 0) (.int .i64 0) (.slice none 0 0) (.slice none 0 0) (.slice none 0 0) := HWB.out.2.2.keep (HB2.out.mono (by have := HWB.out.2.1; omega))
              have HF1 : Aside (Five w1 W.heap.size (.int .i64 0) (.int .i64 0) (.slice none 0 0) (.slice none 0 0) (.slice none 0 0) ∧ Below W.heap.size W w1) := ⟨hF1, HWB.out.1.trans (HB2.out.mono (by omega))⟩
              have z0 := hF1.c0
              have z1 := hF1.c1
              have z2 := hF1.c2
              have z3 := hF1.c3
              have z4 := hF1.c4
              have f0 := hF1.fr 0
              have f1 := hF1.fr 1
              have f2 := hF1.fr 2
              have f3 := hF1.fr 3
              have f4 := hF1.fr 4
              clear hF1
              go_wp2
              have hF5 := HF1.out.1.all (.int .i64 0) (.int .i64 0) (.slice none 0 0) (.slice none 0 0) (.slice none 0 0)
              rw [HP.out]
              refine bodyPost_ret (results_g3 rfl _ _ W.heap.size _ _ _ _ _ rfl hF5) rfl ⟨⟨none, 0, none, 0, none, 0⟩, rfl, rg_zero _, Below.all HF1.out.2 (Nat.le_refl _) HF1.out.2.size _ _ _ _ _⟩
            · have HBl : Aside (Below (W.heap.size + 1) wB w1) := HB.out.trans (hb1.mono (by have := HB.out.size; have := HWB.out.2.1; omega))
              obtain ⟨ao2, mm, cp2, rfl⟩ := row_slice hrow
              obtain rfl := row_len3 hrow
              have hR2 := hRL.keep hb1
              by_cases hcur : cur = []
              · subst hcur
                have HSC2 : Aside (scan s 0 0 [] [] = scan s (en + 1) (en + 1) rows []) := HEQS.out.2.1 hE
                clear hE hb1 hRL HEQS hrow hRC
                go_wp2
                go_roundg (s.size + 1 - (en + 1))
                case measure => omega
                case rel => exact ⟨en + 1, rows, us, by go_num, by omega, Nat.le_refl _, HSC2, HOK, hR2, HBl⟩
              · have hc1 : 1 ≤ cur.length := List.length_pos_iff.2 hcur
                have hc16 := hRC.short
                have hr16 := hRC.few
                have hcz : (0 : Int) < (cur.length : Int) := by omega
                by_cases hr0 : rows = []
                · have hER : endRow rows cur fr = .inr (rows ++ [cur]) := endRow_yes hcur (.inl (by rw [hr0]; rfl))
                  have hrz : ¬ (0 : Int) < (rows.length : Int) := by rw [hr0]; simp
                  clear hr0 hcur
                  have HSC2 : Aside (scan s 0 0 [] [] = scan s (en + 1) (en + 1) (rows ++ [cur]) []) := HEQS.out.1 cur hER hE
                  have HOK2 : Aside (RowsOk (rows ++ [cur]) []) := endRow_ok hRC hER
                  have hs1 := HBl.out.size
                  have hsB := HWB.out.2.1
                  have HX : Aside (w1.ownsRow (W.heap.size + 1) 47 3 (.slice ao2 cur.length cp2) cur.length (cs3 cur)) := row_base3 hrow (by have := HB.out.size; omega)
                  clear hE hb1 hRL HEQS hrow hRC hER
                  go_wp2_with (at_builtin; refine wpList_append_own _ rfl _ _ 40 rfl (W.heap.size + 1) 41 i0 (.slice none 0 0) 1 24 Tryd.underlying40 hi0 hz0 hz1 hz2 rfl (by decide) _ _ _ rfl (hR2.row.alloc _) ⟨w1.heap.size, 0, none⟩ 1 1 [.slice ao2 cur.length cp2] rfl rfl (cell_one_new _ _ _) (by simp [Value.oneCell']) (by unfold maxLen; omega) (by omega) (by simp; omega) ?_)
                  intro v' w3 hown' hgrow _
                  have hR3 := RL.snoc (hR2.keep ((Below.refl w1.heap.size w1).alloc (Nat.le_refl _) _)) (row_keeps3 HX.out ((Below.refl w1.heap.size w1).alloc (Nat.le_refl _) _)) hgrow hown'
                  have HB3 : Aside (Below (W.heap.size + 1) wB w3) := Below.grown (HBl.out.alloc (by omega) _) hgrow (by simp; omega) (fun j hj => (hR2.row.lt _ hj).1)
                  clear hown' hgrow hR2
                  go_wp2
                  go_roundg (s.size + 1 - (en + 1))
                  case measure => omega
                  case rel => exact ⟨en + 1, _, _, by go_num, by omega, Nat.le_refl _, HSC2, HOK2, hR3, HB3⟩
                · have hr1 : 1 ≤ rows.length := List.length_pos_iff.2 hr0
                  have hrz : (0 : Int) < (rows.length : Int) := by omega
                  have hh0 : rows[0]? = some (rows.headD []) := by cases rows with | nil => exact absurd rfl hr0 | cons a l => rfl
                  obtain ⟨u0, hu0⟩ : ∃ u0, us[0]? = some u0 := ⟨_, List.getElem?_eq_getElem (by rw [hR2.len]; omega)⟩
                  have hx0 := hR2.each 0 _ u0 hh0 hu0
                  obtain ⟨a0, m0, c0, rfl⟩ := row_slice hx0
                  obtain rfl := row_len3 hx0
                  obtain ⟨gb, rfl⟩ : ∃ gb, ao = some ⟨gb, 0, none⟩ := by
                    rcases hR2.row.2 with ⟨_, h0⟩ | ⟨gb, cap, cur, e, _⟩
                    · omega
                    · cases e; exact ⟨gb, rfl⟩
                  have k0 := (hR2.row.cellAt 0 (by omega)).trans hu0
                  clear hu0 hh0 hx0
                  by_cases hsame : cur.length = (rows.headD []).length
                  · have hER : endRow rows cur fr = .inr (rows ++ [cur]) := endRow_yes hcur (.inr hsame)
                    rw [← hsame] at k0
                    clear hsame
                    have HSC2 : Aside (scan s 0 0 [] [] = scan s (en + 1) (en + 1) (rows ++ [cur]) []) := HEQS.out.1 cur hER hE
                    have HOK2 : Aside (RowsOk (rows ++ [cur]) []) := endRow_ok hRC hER
                    have hs1 := HBl.out.size
                    have hsB := HWB.out.2.1
                    have HX : Aside (w1.ownsRow (W.heap.size + 1) 47 3 (.slice ao2 cur.length cp2) cur.length (cs3 cur)) := row_base3 hrow (by have := HB.out.size; omega)
                    clear hE hb1 hRL HEQS hrow hRC hER
                    go_wp2_with (at_builtin; refine wpList_append_own _ rfl _ _ 40 rfl (W.heap.size + 1) 41 i0 (.slice none 0 0) 1 24 Tryd.underlying40 hi0 hz0 hz1 hz2 rfl (by decide) _ _ _ rfl (hR2.row.alloc _) ⟨w1.heap.size, 0, none⟩ 1 1 [.slice ao2 cur.length cp2] rfl rfl (cell_one_new _ _ _) (by simp [Value.oneCell']) (by unfold maxLen; omega) (by omega) (by simp; omega) ?_)
                    intro v' w3 hown' hgrow _
                    have hR3 := RL.snoc (hR2.keep ((Below.refl w1.heap.size w1).alloc (Nat.le_refl _) _)) (row_keeps3 HX.out ((Below.refl w1.heap.size w1).alloc (Nat.le_refl _) _)) hgrow hown'
                    have HB3 : Aside (Below (W.heap.size + 1) wB w3) := Below.grown (HBl.out.alloc (by omega) _) hgrow (by simp; omega) (fun j hj => (hR2.row.lt _ hj).1)
                    clear hown' hgrow hR2
                    go_wp2
                    go_roundg (s.size + 1 - (en + 1))
                    case measure => omega
                    case rel => exact ⟨en + 1, _, _, by go_num, by omega, Nat.le_refl _, HSC2, HOK2, hR3, HB3⟩
                  · have hER : endRow rows cur fr = .inl (fr, 81) := endRow_no hcur (by omega)
                    have HP : Aside (prs s = (zeroG, fr, 81)) := prs_err (by omega) (HEQS.out.2.2 cur hER hE)
                    generalize (rows.headD []).length = rl at *
                    have hne : ((rl : Int) != (cur.length : Int)) = true := by rw [bne_iff_ne]; omega
                    clear hE hb1 hRL HEQS hrow hRC hER
                    have HB2 : Aside (Below (W.heap.size + 1) wB w1) := HBl.out
                    have hF1 : Five w1 W.heap.size (.int .i64 0) (.int .i64 0) (.slice none 0 0) (.slice none 0 0) (.slice none 0 0) := HWB.out.2.2.keep (HB2.out.mono (by have := HWB.out.2.1; omega))
                    have HF1 : Aside (Five w1 W.heap.size (.int .i64 0) (.int .i64 0) (.slice none 0 0) (.slice none 0 0) (.slice none 0 0) ∧ Below W.heap.size W w1) := ⟨hF1, HWB.out.1.trans (HB2.out.mono (by omega))⟩
                    have z0 := hF1.c0
                    have z1 := hF1.c1
                    have z2 := hF1.c2
                    have z3 := hF1.c3
                    have z4 := hF1.c4
                    have f0 := hF1.fr 0
                    have f1 := hF1.fr 1
                    have f2 := hF1.fr 2
                    have f3 := hF1.fr 3
                    have f4 := hF1.fr 4
                    clear hF1
                    go_wp2
                    have hF5 := HF1.out.1.all (.int .i64 0) (.int .i64 0) (.slice none 0 0) (.slice none 0 0) (.slice none 0 0)
                    rw [HP.out]
                    refine bodyPost_ret (results_g3 rfl _ _ W.heap.size _ _ _ _ _ rfl hF5) rfl ⟨⟨none, 0, none, 0, none, 0⟩, rfl, rg_zero _, Below.all HF1.out.2 (Nat.le_refl _) HF1.out.2.size _ _ _ _ _⟩
      · have hltz : ¬ (fr : Int) < (s.size : Int) := by omega
        have hE : scan s 0 0 [] [] = .inr rows := HSC.out.trans (scan_past hlt)
        obtain ⟨ao, cp, rfl⟩ := hRL.slice
        by_cases hr : rows = []
        · have HP : Aside (prs s = (zeroG, s.size, 82)) := prs_none (by omega) (by rw [hE, hr])
          have hrb : ((rows.length : Int) == 0) = true := by rw [hr]; rfl
          obtain ⟨w1, rfl⟩ : ∃ w1, w1 = wr := ⟨_, rfl⟩
          have HBl := HB
          clear hE hr hRL
          have HB2 : Aside (Below (W.heap.size + 1) wB w1) := HBl.out
          have hF1 : Five w1 W.heap.size (.int .i64 0) (.int .i64 0) (.slice none 0 0) (.slice none 0 0) (.slice none 0 0) := HWB.out.2.2.keep (HB2.out.mono (by have := HWB.out.2.1; omega))
          have HF1 : Aside (Five w1 W.heap.size (.int .i64 0) (.int .i64 0) (.slice none 0 0) (.slice none 0 0) (.slice none 0 0) ∧ Below W.heap.size W w1) := ⟨hF1, HWB.out.1.trans (HB2.out.mono (by omega))⟩
          have z0 := hF1.c0
          have z1 := hF1.c1
          have z2 := hF1.c2
          have z3 := hF1.c3
          have z4 := hF1.c4
          have f0 := hF1.fr 0
          have f1 := hF1.fr 1
          have f2 := hF1.fr 2
          have f3 := hF1.fr 3
          have f4 := hF1.fr 4
          clear hF1
          go_wp2
          have hF5 := HF1.out.1.all (.int .i64 0) (.int .i64 0) (.slice none 0 0) (.slice none 0 0) (.slice none 0 0)
          rw [HP.out]
          refine bodyPost_ret (results_g3 rfl _ _ W.heap.size _ _ _ _ _ rfl hF5) rfl ⟨⟨none, 0, none, 0, none, 0⟩, rfl, rg_zero _, Below.all HF1.out.2 (Nat.le_refl _) HF1.out.2.size _ _ _ _ _⟩
        · have hr1 : 1 ≤ rows.length := List.length_pos_iff.2 hr
          have hr16 := HOK.out.few
          have hrb : ((rows.length : Int) == 0) = false := beq_no (by omega)
          have HPR : Aside (prs s = if (mkG rows).chk = 0 then (mkG rows, 0, 0) else (zeroG, 0, (mkG rows).chk)) := prs_rows (by omega) hE hr
          have hh0 : rows[0]? = some (rows.headD []) := by cases rows with | nil => exact absurd rfl hr | cons a l => rfl
          have hv := HOK.out.some _ (List.mem_of_getElem? hh0)
          have HSM : Aside (∀ r ∈ rows, r.length = (rows.headD []).length) := HOK.out.same
          obtain ⟨u0, hu0⟩ : ∃ u0, us[0]? = some u0 := ⟨_, List.getElem?_eq_getElem (by rw [hRL.len]; omega)⟩
          have hx0 := hRL.each 0 _ u0 hh0 hu0
          obtain ⟨a0, m0, c0, rfl⟩ := row_slice hx0
          obtain rfl := row_len3 hx0
          obtain ⟨gb, rfl⟩ : ∃ gb, ao = some ⟨gb, 0, none⟩ := by
            rcases hRL.row.2 with ⟨_, h0⟩ | ⟨gb, cap, cur, e, _⟩
            · omega
            · cases e; exact ⟨gb, rfl⟩
          have k0 := (hRL.row.cellAt 0 (by omega)).trans hu0
          have HRL : Aside (RL wr (W.heap.size + 1) (.slice (some ⟨gb, 0, none⟩) rows.length cp) rows us) := hRL
          clear hu0 hh0 hx0 hE hr hRL HSC HOK
          have cB := refBlank_ok rows.length (rows.headD []).length wr ⟨hr1, hr16⟩ hv
          have hvh : Aside ((rows.headD []).length = (rows.headD []).length) := rfl
          generalize hvv : (rows.headD []).length = v at *
          have HVV : Aside ((rows.headD []).length = v) := hvv
          clear hvv hvh
          go_wp2_with fail
          refine cB.mono ?_
          rintro e w2 ⟨g1, g2, g3, rfl, hM, hb2⟩
          clear cB k0
          have hmul : (rows.length : Int) * (v : Int) = ((rows.length * v : Nat) : Int) := (Int.natCast_mul _ _).symm
          have hn256 : rows.length * v ≤ 256 := Nat.mul_le_mul hr16 hv.2
          have HFL : Aside (rows.flatten.length = rows.length * v) := flat_len v rows HSM.out
          have HNN : Aside (∀ i, i < rows.length * v → ∃ r c, rows[i / v]? = some r ∧ r[i % v]? = some c ∧ rows.flatten[i]? = some c) := fun i hi => flat_at v hv.1 rows i HSM.out hi
          generalize rows.length * v = n at *
          have HC0 : Aside (CSt wr (w2.alloc (.cells #[.int .i64 (rows.length : Nat), .int .i64 (v : Nat), .slice (some ⟨g1, 0, none⟩) n n, .slice (some ⟨g2, 0, none⟩) n n, .slice (some ⟨g3, 0, none⟩) n n] 25)) w2.heap.size g1 g2 g3 rows.length v n (ffc C3.b rows.flatten 0) (ffc C3.r rows.flatten 0) (ffc C3.d rows.flatten 0)) := by
            show CSt _ _ _ _ _ _ _ _ _ _ _ _
            obtain ⟨l1, l2, l3⟩ := hM.lo
            rw [ffc_zero, ffc_zero, ffc_zero, HFL.out]
            have hb3 : Below w2.heap.size w2 _ := below_box w2 (.cells #[.int .i64 (rows.length : Nat), .int .i64 (v : Nat), .slice (some ⟨g1, 0, none⟩) n n, .slice (some ⟨g2, 0, none⟩) n n, .slice (some ⟨g3, 0, none⟩) n n] 25)
            exact ⟨⟨heap_alloc_new w2 _⟩, hM.dif hb3, hb2.trans (hb3.mono hb2.size), by omega⟩
          clear hM hb2
          go_wp2
          generalize w2.heap.size = ob at *
          obtain ⟨wR, hwR⟩ : ∃ wR, wR = wr := ⟨_, rfl⟩
          subst hwR
          go_loopg [13, 14] n (fun g1' iv cv w3 => ∃ i : Nat, iv = .int .i64 (i : Int) ∧ i ≤ n ∧ n - i ≤ g1' ∧ Aside (CSt wR w3 ob g1 g2 g3 rows.length v n (ffc C3.b rows.flatten i) (ffc C3.r rows.flatten i) (ffc C3.d rows.flatten i)))
          case atStart => exact ⟨0, rfl, Nat.zero_le _, Nat.le_refl _, HC0⟩
          case round =>
            clear HC0
            obtain ⟨i, rfl, hi, hg1, HC⟩ := hrel
            have q0 := HC.out.f.c0
            have q1 := HC.out.f.c1
            by_cases hin : i < n
            · have hinz : (i : Int) < (n : Int) := by omega
              go_wp2
              have hdr : Below wr.heap.size wr wr.drew := Below.drew (Below.refl _ _)
              have hbZ := below_box wr.drew (.cells #[.bool false, .bool false, .bool false] 47)
              have HZ : Aside (CSt wR (wr.drew.alloc (.cells #[.bool false, .bool false, .bool false] 47)) ob g1 g2 g3 rows.length v n (ffc C3.b rows.flatten i) (ffc C3.r rows.flatten i) (ffc C3.d rows.flatten i) ∧ Tri (wr.drew.alloc (.cells #[.bool false, .bool false, .bool false] 47)) wr.drew.heap.size (.bool false) (.bool false) (.bool false)) := ⟨(HC.out.keep hdr).keep hbZ, ⟨heap_alloc_new wr.drew _⟩⟩
              have HDC : Aside (wr.drew.heap.size ≠ g1 ∧ wr.drew.heap.size ≠ g2 ∧ wr.drew.heap.size ≠ g3) := by
                have a1 : g1 < wr.drew.heap.size := (HC.out.m.r1.lt g1 rfl).2
                have a2 : g2 < wr.drew.heap.size := (HC.out.m.r2.lt g2 rfl).2
                have a3 : g3 < wr.drew.heap.size := (HC.out.m.r3.lt g3 rfl).2
                show _ ∧ _ ∧ _
                omega
              have HOB : Aside (ob < wr.heap.size) := HC.out.f.lt
              have HBZ : Aside (Below wr.heap.size wr (wr.drew.alloc (.cells #[.bool false, .bool false, .bool false] 47))) := hdr.trans hbZ
              obtain ⟨r, c, hr9, hc9, hf9⟩ := HNN.out i hin
              have HR3 := HRL.out.keep HC.out.bw
              have hqd : i / v < rows.length := (List.getElem?_eq_some_iff.1 hr9).1
              have hmd : i % v < r.length := (List.getElem?_eq_some_iff.1 hc9).1
              obtain ⟨u, hu⟩ : ∃ u, us[i / v]? = some u := ⟨_, List.getElem?_eq_getElem (by rw [HR3.len]; exact hqd)⟩
              have hx := HR3.each _ _ u hr9 hu
              obtain ⟨ar, mr, cr, rfl⟩ := row_slice hx
              obtain rfl := row_len3 hx
              obtain ⟨gr, rfl⟩ : ∃ gr, ar = some ⟨gr, 0, none⟩ := by
                rcases hx.2 with ⟨_, h0⟩ | ⟨gr, cap, cur, e, _⟩
                · omega
                · cases e; exact ⟨gr, rfl⟩
              have ku := (HR3.row.cellAt (i / v) (by omega)).trans hu
              obtain ⟨y0, y1, y2⟩ := cs3_at r (i % v) c hc9
              have kc0 := (hx.cellAt (i % v * 3) (by omega)).trans y0
              have kc1 := (hx.cellAt (i % v * 3 + 1) (by omega)).trans y1
              have kc2 := (hx.cellAt (i % v * 3 + 2) (by omega)).trans y2
              have HF9 : Aside (rows.flatten[i]? = some c) := hf9
              have lgb := (HR3.row.lt gb rfl).2
              have lgr := (hx.lt gr rfl).2
              have hSW : wr.drew.cell? ⟨ob, 1, none⟩ = some (.int .i64 (v : Int)) ∧ wr.drew.cell? ⟨gb, i / v, none⟩ = some (.slice (some ⟨gr, 0, none⟩) r.length cr) ∧ wr.drew.cell? ⟨gr, i % v * 3, none⟩ = some (.bool c.b) ∧ wr.drew.cell? ⟨gr, i % v * 3 + 1, none⟩ = some (.bool c.r) ∧ wr.drew.cell? ⟨gr, i % v * 3 + 2, none⟩ = some (.bool c.d) := ⟨q1, ku, kc0, kc1, kc2⟩
              have HSZ : Aside ((wr.drew.alloc (.cells #[.bool false, .bool false, .bool false] 47)).cell? ⟨ob, 1, none⟩ = some (.int .i64 (v : Int)) ∧ (wr.drew.alloc (.cells #[.bool false, .bool false, .bool false] 47)).cell? ⟨gb, i / v, none⟩ = some (.slice (some ⟨gr, 0, none⟩) r.length cr) ∧ (wr.drew.alloc (.cells #[.bool false, .bool false, .bool false] 47)).cell? ⟨gr, i % v * 3, none⟩ = some (.bool c.b) ∧ (wr.drew.alloc (.cells #[.bool false, .bool false, .bool false] 47)).cell? ⟨gr, i % v * 3 + 1, none⟩ = some (.bool c.r) ∧ (wr.drew.alloc (.cells #[.bool false, .bool false, .bool false] 47)).cell? ⟨gr, i % v * 3 + 2, none⟩ = some (.bool c.d)) := ⟨(hbZ.cell HOB.out).trans q1, (hbZ.cell lgb).trans ku, (hbZ.cell lgr).trans kc0, (hbZ.cell lgr).trans kc1, (hbZ.cell lgr).trans kc2⟩
              have HLB : Aside (ob < wr.heap.size ∧ gb < wr.heap.size ∧ gr < wr.heap.size) := ⟨HOB.out, lgb, lgr⟩
              have hvz : ¬ v = 0 := by have := hv.1; omega
              have hdv := int_div i v
              have hdm := int_mod i v
              clear hr9 hc9 hf9 HR3 hu hx y0 y1 y2 q0 q1 ku kc0 kc1 kc2 lgb lgr hbZ hdr HOB
              generalize i / v = qd at *
              generalize i % v = md at *
              refine wp_region_held (S := fun Z => Z.cell? ⟨ob, 1, none⟩ = some (.int .i64 (v : Int)) ∧ Z.cell? ⟨gb, qd, none⟩ = some (.slice (some ⟨gr, 0, none⟩) r.length cr) ∧ Z.cell? ⟨gr, md * 3, none⟩ = some (.bool c.b) ∧ Z.cell? ⟨gr, md * 3 + 1, none⟩ = some (.bool c.r) ∧ Z.cell? ⟨gr, md * 3 + 2, none⟩ = some (.bool c.d)) (by kernel_rfl) ?_
              refine (show wpAnyH _ .any _ _ _ 15 (Array.replicate 15 false) _ wr.drew from ?_)
              refine takeD (i := 0) (d := 100) (v := .slice (some ⟨gb, 0, none⟩) rows.length cp) rfl (by kernel_rfl) (by kernel_rfl) (by kernel_rfl) (fun _ _ _ h => h) (fun oi ho => yields_now ho rfl fun Z hSw => ?_) hSW ?_
              · obtain ⟨s1, s2, s3, s4, s5⟩ := hSw
                go_simp
              simp only [Act.put, List.setIfInBounds_toArray, List.set_cons_zero, List.set_cons_succ]
              refine takeD (i := 1) (d := 101) (v := .int .i64 (i : Int)) rfl (by kernel_rfl) (by kernel_rfl) (by kernel_rfl) (fun _ _ _ h => h) (fun oi ho => yields_now ho rfl fun Z hSw => ?_) hSW ?_
              · obtain ⟨s1, s2, s3, s4, s5⟩ := hSw
                go_simp
              simp only [Act.put, List.setIfInBounds_toArray, List.set_cons_zero, List.set_cons_succ]
              refine takeD (i := 2) (d := 102) (v := .pointer (some ⟨ob, 1, none⟩)) rfl (by kernel_rfl) (by kernel_rfl) (by kernel_rfl) (fun _ _ _ h => h) (fun oi ho => yields_now ho rfl fun Z hSw => ?_) hSW ?_
              · obtain ⟨s1, s2, s3, s4, s5⟩ := hSw
                go_simp
              simp only [Act.put, List.setIfInBounds_toArray, List.set_cons_zero, List.set_cons_succ]
              refine takeD (i := 3) (d := 103) (v := .int .i64 (v : Int)) rfl (by kernel_rfl) (by kernel_rfl) (by kernel_rfl) (fun _ _ _ h => h) (fun oi ho => yields_now ho rfl fun Z hSw => ?_) hSW ?_
              · obtain ⟨s1, s2, s3, s4, s5⟩ := hSw
                go_simp
              simp only [Act.put, List.setIfInBounds_toArray, List.set_cons_zero, List.set_cons_succ]
              refine takeD (i := 4) (d := 104) (v := .int .i64 (qd : Int)) rfl (by kernel_rfl) (by kernel_rfl) (by kernel_rfl) (fun _ _ _ h => h) (fun oi ho => yields_now ho rfl fun Z hSw => ?_) hSW ?_
              · obtain ⟨s1, s2, s3, s4, s5⟩ := hSw
                go_simp
                simp [IntKind.wrap, IntKind.signed, IntKind.bits]
                omega
              simp only [Act.put, List.setIfInBounds_toArray, List.set_cons_zero, List.set_cons_succ]
              refine takeD (i := 5) (d := 105) (v := .pointer (some ⟨gb, qd, none⟩)) rfl (by kernel_rfl) (by kernel_rfl) (by kernel_rfl) (fun _ _ _ h => h) (fun oi ho => yields_now ho rfl fun Z hSw => ?_) hSW ?_
              · obtain ⟨s1, s2, s3, s4, s5⟩ := hSw
                go_simp
              simp only [Act.put, List.setIfInBounds_toArray, List.set_cons_zero, List.set_cons_succ]
              refine takeD (i := 6) (d := 106) (v := .slice (some ⟨gr, 0, none⟩) r.length cr) rfl (by kernel_rfl) (by kernel_rfl) (by kernel_rfl) (fun _ _ _ h => h) (fun oi ho => yields_now ho rfl fun Z hSw => ?_) hSW ?_
              · obtain ⟨s1, s2, s3, s4, s5⟩ := hSw
                go_simp
              simp only [Act.put, List.setIfInBounds_toArray, List.set_cons_zero, List.set_cons_succ]
              refine takeD (i := 7) (d := 107) (v := .int .i64 (i : Int)) rfl (by kernel_rfl) (by kernel_rfl) (by kernel_rfl) (fun _ _ _ h => h) (fun oi ho => yields_now ho rfl fun Z hSw => ?_) hSW ?_
              · obtain ⟨s1, s2, s3, s4, s5⟩ := hSw
                go_simp
              simp only [Act.put, List.setIfInBounds_toArray, List.set_cons_zero, List.set_cons_succ]
              refine takeD (i := 8) (d := 108) (v := .pointer (some ⟨ob, 1, none⟩)) rfl (by kernel_rfl) (by kernel_rfl) (by kernel_rfl) (fun _ _ _ h => h) (fun oi ho => yields_now ho rfl fun Z hSw => ?_) hSW ?_
              · obtain ⟨s1, s2, s3, s4, s5⟩ := hSw
                go_simp
              simp only [Act.put, List.setIfInBounds_toArray, List.set_cons_zero, List.set_cons_succ]
              refine takeD (i := 9) (d := 109) (v := .int .i64 (v : Int)) rfl (by kernel_rfl) (by kernel_rfl) (by kernel_rfl) (fun _ _ _ h => h) (fun oi ho => yields_now ho rfl fun Z hSw => ?_) hSW ?_
              · obtain ⟨s1, s2, s3, s4, s5⟩ := hSw
                go_simp
              simp only [Act.put, List.setIfInBounds_toArray, List.set_cons_zero, List.set_cons_succ]
              refine takeD (i := 10) (d := 110) (v := .int .i64 (md : Int)) rfl (by kernel_rfl) (by kernel_rfl) (by kernel_rfl) (fun _ _ _ h => h) (fun oi ho => yields_now ho rfl fun Z hSw => ?_) hSW ?_
              · obtain ⟨s1, s2, s3, s4, s5⟩ := hSw
                go_simp
                exact (Int.tmod_eq_emod_of_nonneg (Int.natCast_nonneg _)).trans hdm
              simp only [Act.put, List.setIfInBounds_toArray, List.set_cons_zero, List.set_cons_succ]
              refine takeD (i := 11) (d := 111) (v := .pointer (some ⟨gr, md * 3, none⟩)) rfl (by kernel_rfl) (by kernel_rfl) (by kernel_rfl) (fun _ _ _ h => h) (fun oi ho => yields_now ho rfl fun Z hSw => ?_) hSW ?_
              · obtain ⟨s1, s2, s3, s4, s5⟩ := hSw
                go_simp
              simp only [Act.put, List.setIfInBounds_toArray, List.set_cons_zero, List.set_cons_succ]
              refine takeD (i := 12) (d := 112) (v := .agg #[.bool c.b, .bool c.r, .bool c.d]) rfl (by kernel_rfl) (by kernel_rfl) (by kernel_rfl) (fun _ _ _ h => h) (fun oi ho => yields_now ho rfl fun Z hSw => ?_) hSW ?_
              · obtain ⟨s1, s2, s3, s4, s5⟩ := hSw
                go_simp
              simp only [Act.put, List.setIfInBounds_toArray, List.set_cons_zero, List.set_cons_succ]
              refine wpAnyH_all (rs := [13]) (by kernel_rfl) (by simp) (fun i hi => ?_)
              obtain rfl := List.mem_singleton.1 hi
              refine wpOp_val (v := .pointer (some ⟨wr.drew.heap.size, 0, none⟩)) (w' := wr.drew.alloc (.cells #[.bool false, .bool false, .bool false] 47)) rfl rfl ?_ ⟨HSZ.out, ?_⟩
              · go_simp
              refine (show wpAnyH _ .any _ _ _ 1 _ (Act.put _ (some 14) (.pointer (some ⟨wr.drew.heap.size, 0, none⟩))) _ from ?_)
              simp only [Act.put, List.setIfInBounds_toArray, List.set_cons_zero, List.set_cons_succ]
              generalize hwZ : wr.drew.alloc (.cells #[.bool false, .bool false, .bool false] 47) = wZ at *
              have HCB : Aside (wr.heap.size ≤ wr.drew.heap.size) := Nat.le_refl _
              generalize wr.drew.heap.size = cb at *
              have z0 := HZ.out.2.c0
              have z1 := HZ.out.2.c1
              have z2 := HZ.out.2.c2
              have v0 := HZ.out.2.fr 0
              have v1 := HZ.out.2.fr 1
              have v2 := HZ.out.2.fr 2
              have hD : Dif (fun k => k = cb) wZ (((wZ.setCell ⟨cb, 0, none⟩ (.bool c.b)).setCell ⟨cb, 1, none⟩ (.bool c.r)).setCell ⟨cb, 2, none⟩ (.bool c.d)) := (((Dif.refl (fun k => k = cb) wZ).set cb 0 _ rfl).set cb 1 _ rfl).set cb 2 _ rfl
              have hbd : ∀ k, k < wr.heap.size → k < wZ.heap.size ∧ ¬ k = cb := fun k hk => by have h1 := HZ.out.2.lt; have h2 := HCB.out; omega
              have hSY : (fun Z : World => Z.cell? ⟨ob, 1, none⟩ = some (.int .i64 (v : Int)) ∧ Z.cell? ⟨gb, qd, none⟩ = some (.slice (some ⟨gr, 0, none⟩) r.length cr) ∧ Z.cell? ⟨gr, md * 3, none⟩ = some (.bool c.b) ∧ Z.cell? ⟨gr, md * 3 + 1, none⟩ = some (.bool c.r) ∧ Z.cell? ⟨gr, md * 3 + 2, none⟩ = some (.bool c.d)) (((wZ.setCell ⟨cb, 0, none⟩ (.bool c.b)).setCell ⟨cb, 1, none⟩ (.bool c.r)).setCell ⟨cb, 2, none⟩ (.bool c.d)) := by
                obtain ⟨s1, s2, s3, s4, s5⟩ := HSZ.out
                obtain ⟨b1, n1⟩ := hbd ob HLB.out.1
                obtain ⟨b2, n2⟩ := hbd gb HLB.out.2.1
                obtain ⟨b3, n3⟩ := hbd gr HLB.out.2.2
                exact ⟨(hD.cell (p := ⟨ob, 1, none⟩) b1 n1).trans s1, (hD.cell (p := ⟨gb, qd, none⟩) b2 n2).trans s2, (hD.cell (p := ⟨gr, md * 3, none⟩) b3 n3).trans s3, (hD.cell (p := ⟨gr, md * 3 + 1, none⟩) b3 n3).trans s4, (hD.cell (p := ⟨gr, md * 3 + 2, none⟩) b3 n3).trans s5⟩
              have hBY : Below wr.heap.size wr (((wZ.setCell ⟨cb, 0, none⟩ (.bool c.b)).setCell ⟨cb, 1, none⟩ (.bool c.r)).setCell ⟨cb, 2, none⟩ (.bool c.d)) := by
                have h1 := HBZ.out.size
                have h2 := HCB.out
                refine Below.setIn (Below.setIn (Below.setIn HBZ.out h2 h1) h2 ?_) h2 ?_
                · simpa using h1
                · simpa using h1
              have HTY := HZ.out.2.set (.bool c.b) (.bool c.r) (.bool c.d)
              refine wpAnyH_all (rs := [14]) (by kernel_rfl) (by simp) (fun i hi => ?_)
              obtain rfl := List.mem_singleton.1 hi
              refine wpOp_skip (w' := ((wZ.setCell ⟨cb, 0, none⟩ (.bool c.b)).setCell ⟨cb, 1, none⟩ (.bool c.r)).setCell ⟨cb, 2, none⟩ (.bool c.d)) rfl rfl rfl ?_ ⟨hSY, wpAnyH_done (by kernel_rfl) ?_ _⟩
              · clear hSY hBY hD HTY
                go_simp
              clear z0 z1 z2 v0 v1 v2 hSY hSW hD hwZ hbd HSZ hdv hdm
              generalize ((wZ.setCell ⟨cb, 0, none⟩ (.bool c.b)).setCell ⟨cb, 1, none⟩ (.bool c.r)).setCell ⟨cb, 2, none⟩ (.bool c.d) = wY at *
              have HCY : Aside (CSt wR wY.drew ob g1 g2 g3 rows.length v n (ffc C3.b rows.flatten i) (ffc C3.r rows.flatten i) (ffc C3.d rows.flatten i)) := (HC.out.keep hBY).keep (Below.drew (Below.refl _ _))
              have HTZ : Aside (Tri wY.drew cb (.bool c.b) (.bool c.r) (.bool c.d)) := HTY.keep (Below.drew (Below.refl _ _))
              clear HTY hBY HBZ HC HZ HCB HLB
              go_wp2
              have hSS : ∀ Z, Dif (fun k => k = g1 ∨ k = g2 ∨ k = g3) wY.drew Z → (fun Z => Z.cell? ⟨ob, 2, none⟩ = some (.slice (some ⟨g1, 0, none⟩) n n) ∧ Z.cell? ⟨ob, 3, none⟩ = some (.slice (some ⟨g2, 0, none⟩) n n) ∧ Z.cell? ⟨ob, 4, none⟩ = some (.slice (some ⟨g3, 0, none⟩) n n) ∧ Z.cell? ⟨cb, 0, none⟩ = some (.bool c.b) ∧ Z.cell? ⟨cb, 1, none⟩ = some (.bool c.r) ∧ Z.cell? ⟨cb, 2, none⟩ = some (.bool c.d)) Z := by
                intro Z hZ
                obtain ⟨e1, e2, e3⟩ := HCY.out.ne
                obtain ⟨l1, l2, l3⟩ := HCY.out.m.lo
                have lo := HCY.out.f.lt
                have lc := HTZ.out.lt
                have p1 : ¬ (ob = g1 ∨ ob = g2 ∨ ob = g3) := by omega
                obtain ⟨d1, d2, d3⟩ := HDC.out
                have p2 : ¬ (cb = g1 ∨ cb = g2 ∨ cb = g3) := by omega
                exact ⟨(hZ.cell (p := ⟨ob, 2, none⟩) lo p1).trans HCY.out.f.c2, (hZ.cell (p := ⟨ob, 3, none⟩) lo p1).trans HCY.out.f.c3, (hZ.cell (p := ⟨ob, 4, none⟩) lo p1).trans HCY.out.f.c4, (hZ.cell (p := ⟨cb, 0, none⟩) lc p2).trans HTZ.out.c0, (hZ.cell (p := ⟨cb, 1, none⟩) lc p2).trans HTZ.out.c1, (hZ.cell (p := ⟨cb, 2, none⟩) lc p2).trans HTZ.out.c2⟩
              obtain ⟨x1, hx1⟩ : ∃ x1, wY.drew.cell? ⟨g1, i, none⟩ = some (.bool x1) := ⟨_, by rw [HCY.out.m.r1.cellAt i (by omega), cellsB_at (by have := HCY.out.m.len; omega)]⟩
              obtain ⟨x2, hx2⟩ : ∃ x2, wY.drew.cell? ⟨g2, i, none⟩ = some (.bool x2) := ⟨_, by rw [HCY.out.m.r2.cellAt i (by omega), cellsB_at (by have := HCY.out.m.len; omega)]⟩
              obtain ⟨x3, hx3⟩ : ∃ x3, wY.drew.cell? ⟨g3, i, none⟩ = some (.bool x3) := ⟨_, by rw [HCY.out.m.r3.cellAt i (by omega), cellsB_at (by have := HCY.out.m.len; omega)]⟩
              have fz1 := HCY.out.m.r1.frozenAt i
              have fz2 := HCY.out.m.r2.frozenAt i
              have fz3 := HCY.out.m.r3.frozenAt i
              have hy2 : wY.cell? ⟨g2, i, none⟩ = some (.bool x2) := hx2
              have hy3 : wY.cell? ⟨g3, i, none⟩ = some (.bool x3) := hx3
              have fy2 : wY.frozen? ⟨g2, i, none⟩ = false := fz2
              have fy3 : wY.frozen? ⟨g3, i, none⟩ = false := fz3
              have n12 := HCY.out.m.n12
              have n13 := HCY.out.m.n13
              have n23 := HCY.out.m.n23
              have hD1 : Dif (fun k => k = g1 ∨ k = g2 ∨ k = g3) wY.drew (wY.drew.setCell ⟨g1, i, none⟩ (.bool c.b)) := (Dif.refl _ _).set g1 i _ (.inl rfl)
              have hD2 := hD1.set g2 i (.bool c.r) (.inr (.inl rfl))
              have hD3 := hD2.set g3 i (.bool c.d) (.inr (.inr rfl))
              have hS0 := hSS _ (Dif.refl _ _)
              have hS1 := hSS _ hD1
              have hS2 := hSS _ hD2
              have hS3 := hSS _ hD3
              clear hSS hD1 hD2 hD3
              refine wp_region_held (S := fun Z => Z.cell? ⟨ob, 2, none⟩ = some (.slice (some ⟨g1, 0, none⟩) n n) ∧ Z.cell? ⟨ob, 3, none⟩ = some (.slice (some ⟨g2, 0, none⟩) n n) ∧ Z.cell? ⟨ob, 4, none⟩ = some (.slice (some ⟨g3, 0, none⟩) n n) ∧ Z.cell? ⟨cb, 0, none⟩ = some (.bool c.b) ∧ Z.cell? ⟨cb, 1, none⟩ = some (.bool c.r) ∧ Z.cell? ⟨cb, 2, none⟩ = some (.bool c.d)) (by kernel_rfl) ?_
              refine (show wpAnyH _ .any _ _ _ 21 (Array.replicate 21 false) _ wY.drew from ?_)
              refine takeD (i := 0) (d := 113) (v := .pointer (some ⟨ob, 2, none⟩)) rfl (by kernel_rfl) (by kernel_rfl) (by kernel_rfl) (fun _ _ _ h => h) (fun oi ho => yields_now ho rfl fun Z hSw => ?_) hS0 ?_
              · obtain ⟨s1, s2, s3, s4, s5, s6⟩ := hSw
                go_simp
              simp only [Act.put, List.setIfInBounds_toArray, List.set_cons_zero, List.set_cons_succ]
              refine takeD (i := 1) (d := 114) (v := .slice (some ⟨g1, 0, none⟩) n n) rfl (by kernel_rfl) (by kernel_rfl) (by kernel_rfl) (fun _ _ _ h => h) (fun oi ho => yields_now ho rfl fun Z hSw => ?_) hS0 ?_
              · obtain ⟨s1, s2, s3, s4, s5, s6⟩ := hSw
                go_simp
              simp only [Act.put, List.setIfInBounds_toArray, List.set_cons_zero, List.set_cons_succ]
              refine takeD (i := 2) (d := 115) (v := .int .i64 (i : Int)) rfl (by kernel_rfl) (by kernel_rfl) (by kernel_rfl) (fun _ _ _ h => h) (fun oi ho => yields_now ho rfl fun Z hSw => ?_) hS0 ?_
              · obtain ⟨s1, s2, s3, s4, s5, s6⟩ := hSw
                go_simp
              simp only [Act.put, List.setIfInBounds_toArray, List.set_cons_zero, List.set_cons_succ]
              refine takeD (i := 3) (d := 116) (v := .pointer (some ⟨ob, 3, none⟩)) rfl (by kernel_rfl) (by kernel_rfl) (by kernel_rfl) (fun _ _ _ h => h) (fun oi ho => yields_now ho rfl fun Z hSw => ?_) hS0 ?_
              · obtain ⟨s1, s2, s3, s4, s5, s6⟩ := hSw
                go_simp
              simp only [Act.put, List.setIfInBounds_toArray, List.set_cons_zero, List.set_cons_succ]
              refine takeD (i := 4) (d := 117) (v := .slice (some ⟨g2, 0, none⟩) n n) rfl (by kernel_rfl) (by kernel_rfl) (by kernel_rfl) (fun _ _ _ h => h) (fun oi ho => yields_now ho rfl fun Z hSw => ?_) hS0 ?_
              · obtain ⟨s1, s2, s3, s4, s5, s6⟩ := hSw
                go_simp
              simp only [Act.put, List.setIfInBounds_toArray, List.set_cons_zero, List.set_cons_succ]
              refine takeD (i := 5) (d := 118) (v := .int .i64 (i : Int)) rfl (by kernel_rfl) (by kernel_rfl) (by kernel_rfl) (fun _ _ _ h => h) (fun oi ho => yields_now ho rfl fun Z hSw => ?_) hS0 ?_
              · obtain ⟨s1, s2, s3, s4, s5, s6⟩ := hSw
                go_simp
              simp only [Act.put, List.setIfInBounds_toArray, List.set_cons_zero, List.set_cons_succ]
              refine takeD (i := 6) (d := 119) (v := .pointer (some ⟨ob, 4, none⟩)) rfl (by kernel_rfl) (by kernel_rfl) (by kernel_rfl) (fun _ _ _ h => h) (fun oi ho => yields_now ho rfl fun Z hSw => ?_) hS0 ?_
              · obtain ⟨s1, s2, s3, s4, s5, s6⟩ := hSw
                go_simp
              simp only [Act.put, List.setIfInBounds_toArray, List.set_cons_zero, List.set_cons_succ]
              refine takeD (i := 7) (d := 120) (v := .slice (some ⟨g3, 0, none⟩) n n) rfl (by kernel_rfl) (by kernel_rfl) (by kernel_rfl) (fun _ _ _ h => h) (fun oi ho => yields_now ho rfl fun Z hSw => ?_) hS0 ?_
              · obtain ⟨s1, s2, s3, s4, s5, s6⟩ := hSw
                go_simp
              simp only [Act.put, List.setIfInBounds_toArray, List.set_cons_zero, List.set_cons_succ]
              refine takeD (i := 8) (d := 121) (v := .int .i64 (i : Int)) rfl (by kernel_rfl) (by kernel_rfl) (by kernel_rfl) (fun _ _ _ h => h) (fun oi ho => yields_now ho rfl fun Z hSw => ?_) hS0 ?_
              · obtain ⟨s1, s2, s3, s4, s5, s6⟩ := hSw
                go_simp
              simp only [Act.put, List.setIfInBounds_toArray, List.set_cons_zero, List.set_cons_succ]
              refine takeD (i := 9) (d := 122) (v := .pointer (some ⟨cb, 0, none⟩)) rfl (by kernel_rfl) (by kernel_rfl) (by kernel_rfl) (fun _ _ _ h => h) (fun oi ho => yields_now ho rfl fun Z hSw => ?_) hS0 ?_
              · obtain ⟨s1, s2, s3, s4, s5, s6⟩ := hSw
                go_simp
              simp only [Act.put, List.setIfInBounds_toArray, List.set_cons_zero, List.set_cons_succ]
              refine takeD (i := 10) (d := 123) (v := .bool c.b) rfl (by kernel_rfl) (by kernel_rfl) (by kernel_rfl) (fun _ _ _ h => h) (fun oi ho => yields_now ho rfl fun Z hSw => ?_) hS0 ?_
              · obtain ⟨s1, s2, s3, s4, s5, s6⟩ := hSw
                go_simp
              simp only [Act.put, List.setIfInBounds_toArray, List.set_cons_zero, List.set_cons_succ]
              refine takeD (i := 11) (d := 124) (v := .pointer (some ⟨cb, 1, none⟩)) rfl (by kernel_rfl) (by kernel_rfl) (by kernel_rfl) (fun _ _ _ h => h) (fun oi ho => yields_now ho rfl fun Z hSw => ?_) hS0 ?_
              · obtain ⟨s1, s2, s3, s4, s5, s6⟩ := hSw
                go_simp
              simp only [Act.put, List.setIfInBounds_toArray, List.set_cons_zero, List.set_cons_succ]
              refine takeD (i := 12) (d := 125) (v := .bool c.r) rfl (by kernel_rfl) (by kernel_rfl) (by kernel_rfl) (fun _ _ _ h => h) (fun oi ho => yields_now ho rfl fun Z hSw => ?_) hS0 ?_
              · obtain ⟨s1, s2, s3, s4, s5, s6⟩ := hSw
                go_simp
              simp only [Act.put, List.setIfInBounds_toArray, List.set_cons_zero, List.set_cons_succ]
              refine takeD (i := 13) (d := 126) (v := .pointer (some ⟨cb, 2, none⟩)) rfl (by kernel_rfl) (by kernel_rfl) (by kernel_rfl) (fun _ _ _ h => h) (fun oi ho => yields_now ho rfl fun Z hSw => ?_) hS0 ?_
              · obtain ⟨s1, s2, s3, s4, s5, s6⟩ := hSw
                go_simp
              simp only [Act.put, List.setIfInBounds_toArray, List.set_cons_zero, List.set_cons_succ]
              refine takeD (i := 14) (d := 127) (v := .bool c.d) rfl (by kernel_rfl) (by kernel_rfl) (by kernel_rfl) (fun _ _ _ h => h) (fun oi ho => yields_now ho rfl fun Z hSw => ?_) hS0 ?_
              · obtain ⟨s1, s2, s3, s4, s5, s6⟩ := hSw
                go_simp
              simp only [Act.put, List.setIfInBounds_toArray, List.set_cons_zero, List.set_cons_succ]
              refine takeD (i := 15) (d := 128) (v := .pointer (some ⟨g1, i, none⟩)) rfl (by kernel_rfl) (by kernel_rfl) (by kernel_rfl) (fun _ _ _ h => h) (fun oi ho => yields_now ho rfl fun Z hSw => ?_) hS0 ?_
              · obtain ⟨s1, s2, s3, s4, s5, s6⟩ := hSw
                go_simp
              simp only [Act.put, List.setIfInBounds_toArray, List.set_cons_zero, List.set_cons_succ]
              refine wpAnyH_all (rs := [16]) (by kernel_rfl) (by simp) (fun i hi => ?_)
              obtain rfl := List.mem_singleton.1 hi
              refine wpOp_skip (w' := wY.drew.setCell ⟨g1, i, none⟩ (.bool c.b)) rfl rfl rfl ?_ ⟨hS1, ?_⟩
              · go_simp
              refine takeD (i := 17) (d := 129) (v := .pointer (some ⟨g2, i, none⟩)) rfl (by kernel_rfl) (by kernel_rfl) (by kernel_rfl) (fun _ _ _ h => h) (fun oi ho => yields_now ho rfl fun Z hSw => ?_) hS1 ?_
              · obtain ⟨s1, s2, s3, s4, s5, s6⟩ := hSw
                go_simp
              simp only [Act.put, List.setIfInBounds_toArray, List.set_cons_zero, List.set_cons_succ]
              refine wpAnyH_all (rs := [18]) (by kernel_rfl) (by simp) (fun i hi => ?_)
              obtain rfl := List.mem_singleton.1 hi
              refine wpOp_skip (w' := (wY.drew.setCell ⟨g1, i, none⟩ (.bool c.b)).setCell ⟨g2, i, none⟩ (.bool c.r)) rfl rfl rfl ?_ ⟨hS2, ?_⟩
              · go_simp
              refine takeD (i := 19) (d := 130) (v := .pointer (some ⟨g3, i, none⟩)) rfl (by kernel_rfl) (by kernel_rfl) (by kernel_rfl) (fun _ _ _ h => h) (fun oi ho => yields_now ho rfl fun Z hSw => ?_) hS2 ?_
              · obtain ⟨s1, s2, s3, s4, s5, s6⟩ := hSw
                go_simp
              simp only [Act.put, List.setIfInBounds_toArray, List.set_cons_zero, List.set_cons_succ]
              refine wpAnyH_all (rs := [20]) (by kernel_rfl) (by simp) (fun i hi => ?_)
              obtain rfl := List.mem_singleton.1 hi
              refine wpOp_skip (w' := ((wY.drew.setCell ⟨g1, i, none⟩ (.bool c.b)).setCell ⟨g2, i, none⟩ (.bool c.r)).setCell ⟨g3, i, none⟩ (.bool c.d)) rfl rfl rfl ?_ ⟨hS3, wpAnyH_done (by kernel_rfl) ?_ _⟩
              · go_simp
              have HC3 : Aside (CSt wR (((wY.drew.setCell ⟨g1, i, none⟩ (.bool c.b)).setCell ⟨g2, i, none⟩ (.bool c.r)).setCell ⟨g3, i, none⟩ (.bool c.d)) ob g1 g2 g3 rows.length v n (ffc C3.b rows.flatten (i + 1)) (ffc C3.r rows.flatten (i + 1)) (ffc C3.d rows.flatten (i + 1))) := by
                have h := HCY.out.put (i := i) c.b c.r c.d
                rw [ffc_step _ _ _ _ HF9.out, ffc_step _ _ _ _ HF9.out, ffc_step _ _ _ _ HF9.out] at h
                exact h
              clear hx1 hx2 hx3 hy2 hy3 fy2 fy3 fz1 fz2 fz3 n12 n13 n23 hS0 hS1 hS2 hS3 HCY HTZ
              generalize ((wY.drew.setCell ⟨g1, i, none⟩ (.bool c.b)).setCell ⟨g2, i, none⟩ (.bool c.r)).setCell ⟨g3, i, none⟩ (.bool c.d) = wN at *
              go_wp2
              go_roundg (n - (i + 1))
              case measure => omega
              case rel => exact ⟨i + 1, by go_num, by omega, Nat.le_refl _, HC3⟩
            · have hinz : ¬ (i : Int) < (n : Int) := by omega
              obtain rfl : i = n := by omega
              have q0 := HC.out.f.c0
              have q1 := HC.out.f.c1
              have q2 := HC.out.f.c2
              have q3 := HC.out.f.c3
              have q4 := HC.out.f.c4
              have hg5 : mkG rows = ⟨(rows.length : Int), (v : Int), rows.flatten.map C3.b, rows.flatten.map C3.r, rows.flatten.map C3.d⟩ := by unfold mkG; rw [HVV.out]
              have hend : ∀ f : C3 → Bool, ffc f rows.flatten i = rows.flatten.map f := fun f => by
                have := ffc_end f rows.flatten
                rw [HFL.out] at this
                exact this
              have hCE := HC.out
              rw [hend, hend, hend] at hCE
              have hgv : gv (mkG rows) ⟨some ⟨g1, 0, none⟩, i, some ⟨g2, 0, none⟩, i, some ⟨g3, 0, none⟩, i⟩ = .agg #[.int .i64 (rows.length : Nat), .int .i64 (v : Nat), .slice (some ⟨g1, 0, none⟩) i i, .slice (some ⟨g2, 0, none⟩) i i, .slice (some ⟨g3, 0, none⟩) i i] := by
                rw [hg5]
                show Value.agg #[.int .i64 _, .int .i64 _, .slice _ (List.map C3.b rows.flatten).length _, .slice _ (List.map C3.r rows.flatten).length _, .slice _ (List.map C3.d rows.flatten).length _] = _
                rw [List.length_map, List.length_map, List.length_map, HFL.out]
              have HGV : Aside (_ = _) := hgv
              have HG5 : Aside (_ = _) := hg5
              have HCE : Aside (CSt wR wr ob g1 g2 g3 rows.length v i (rows.flatten.map C3.b) (rows.flatten.map C3.r) (rows.flatten.map C3.d)) := hCE
              have hRG : RG wr (mkG rows) ⟨some ⟨g1, 0, none⟩, i, some ⟨g2, 0, none⟩, i, some ⟨g3, 0, none⟩, i⟩ := by
                rw [hg5]
                exact ⟨row_readsB3 hCE.m.r1, row_readsB3 hCE.m.r2, row_readsB3 hCE.m.r3⟩
              have HBr : Aside (Below (W.heap.size + 1) wB wr) := HB.out.trans (hCE.bw.mono (by have := HB.out.size; have := HWB.out.2.1; omega))
              have cC := refCheck_any (mkG rows) _ wr hRG
              rw [hgv] at cC
              clear hend hg5 hgv hCE hRG HC HNN HFL HRL
              go_wp2_with fail
              refine cC.mono ?_
              rintro e w2 ⟨rfl, hb2⟩
              clear cC q0 q1 q2 q3 q4
              have hF1 : Five w2 W.heap.size (.int .i64 0) (.int .i64 0) (.slice none 0 0) (.slice none 0 0) (.slice none 0 0) := by
                have h1 := HBr.out.trans (hb2.mono (by have := HBr.out.size; have := HWB.out.2.1; omega))
                exact HWB.out.2.2.keep (h1.mono (by have := HWB.out.2.1; omega))
              have HF1 : Aside (Five w2 W.heap.size (.int .i64 0) (.int .i64 0) (.slice none 0 0) (.slice none 0 0) (.slice none 0 0) ∧ Below W.heap.size W w2) := ⟨hF1, HWB.out.1.trans ((HBr.out.trans (hb2.mono (by have := HBr.out.size; have := HWB.out.2.1; omega))).mono (by omega))⟩
              have HC2 : Aside (CSt wR w2 ob g1 g2 g3 rows.length v i (rows.flatten.map C3.b) (rows.flatten.map C3.r) (rows.flatten.map C3.d)) := HCE.out.keep hb2
              have q0 := HC2.out.f.c0
              have q1 := HC2.out.f.c1
              have q2 := HC2.out.f.c2
              have q3 := HC2.out.f.c3
              have q4 := HC2.out.f.c4
              have z0 := hF1.c0
              have z1 := hF1.c1
              have z2 := hF1.c2
              have z3 := hF1.c3
              have z4 := hF1.c4
              have f0 := hF1.fr 0
              have f1 := hF1.fr 1
              have f2 := hF1.fr 2
              have f3 := hF1.fr 3
              have f4 := hF1.fr 4
              have HLW : Aside (W.heap.size ≠ g1 ∧ W.heap.size ≠ g2 ∧ W.heap.size ≠ g3 ∧ W.heap.size ≠ ob) := by
                obtain ⟨⟨l1, _⟩, ⟨l2, _⟩, ⟨l3, _⟩⟩ := HC2.out.m.lo
                have s1 := HB.out.size
                have s2 := HWB.out.2.1
                refine ⟨by omega, by omega, by omega, fun e => ?_⟩
                have h1 := HC2.out.f.c0
                rw [← e, hF1.c0] at h1
                simp at h1
                omega
              clear hF1 hb2
              by_cases hc : (mkG rows).chk = 0
              · have HP : Aside (prs s = (mkG rows, 0, 0)) := HPR.out.trans (if_pos hc)
                rw [hc]
                clear hc
                have hob := HLW.out.2.2.2
                go_wp2
                have hF5 := HF1.out.1.all (.int .i64 rows.length) (.int .i64 v) (.slice (some ⟨g1, 0, none⟩) i i) (.slice (some ⟨g2, 0, none⟩) i i) (.slice (some ⟨g3, 0, none⟩) i i)
                rw [HP.out]
                refine bodyPost_ret (results_g3 rfl _ _ W.heap.size _ _ _ _ _ rfl hF5) rfl ⟨⟨some ⟨g1, 0, none⟩, i, some ⟨g2, 0, none⟩, i, some ⟨g3, 0, none⟩, i⟩, ?_, ?_, Below.all HF1.out.2 (Nat.le_refl _) HF1.out.2.size _ _ _ _ _⟩
                · exact congrArg (fun x => Ending.returned (.tuple #[x, .int .i64 ((0 : Nat) : Int), .int .i64 ((0 : Nat) : Int)])) HGV.out.symm
                have hM := HC2.out.m.st5 (b := W.heap.size) ⟨HLW.out.1, HLW.out.2.1, HLW.out.2.2.1⟩ (.int .i64 rows.length) (.int .i64 v) (.slice (some ⟨g1, 0, none⟩) i i) (.slice (some ⟨g2, 0, none⟩) i i) (.slice (some ⟨g3, 0, none⟩) i i)
                show RG _ (mkG rows) _
                rw [HG5.out]
                exact ⟨row_readsB3 hM.r1, row_readsB3 hM.r2, row_readsB3 hM.r3⟩
              · have HP : Aside (prs s = (zeroG, 0, (mkG rows).chk)) := HPR.out.trans (if_neg hc)
                have hcb : (((mkG rows).chk : Int) != 0) = true := by rw [bne_iff_ne]; omega
                have hcb2 : (mkG rows).chk ≤ 52 := by
                  unfold Gr.chk
                  repeat' split
                  all_goals omega
                generalize (mkG rows).chk = ck at *
                clear hc q0 q1 q2 q3 q4
                go_wp2
                have hF5 := HF1.out.1.all (.int .i64 0) (.int .i64 0) (.slice none 0 0) (.slice none 0 0) (.slice none 0 0)
                rw [HP.out]
                refine bodyPost_ret (results_g3 rfl _ _ W.heap.size _ _ _ _ _ rfl hF5) rfl ⟨⟨none, 0, none, 0, none, 0⟩, rfl, rg_zero _, Below.all HF1.out.2 (Nat.le_refl _) HF1.out.2.size _ _ _ _ _⟩
end Go.Proofs.YthjgldjjplcncaaDoor.Skt
