/-
  The program's spread: one part is numbered, its cells waiting in a list.
-/
import Derived.Test.YthjgldjjplcncabDoorGrdgq
import Derived.Test.YthjgldjjplcncabDoorGrdwq
namespace Go.Proofs.YthjgldjjplcncabDoor.Grd
open Go Go.Lib Go.RowKit

theorem cellsI_set (zs : List Int) (j : Nat) (x : Int) : cellsI (zs.set j x) = (cellsI zs).set j (.int .i64 x) := by simp [cellsI]
theorem cellsI_at {zs : List Int} {j : Nat} {q : Int} (h : zs[j]? = some q) : (cellsI zs)[j]? = some (.int .i64 q) := by simp [cellsI, h]
/-- A list of a call's own, cut by its last. -/
theorem row_pop {W : World} {B : Nat} {e : TypeId} {b n cap : Nat} {xs : List Value} {x : Value} (h : W.ownsRow B e 1 (.slice (some ⟨b, 0, none⟩) (n + 1) cap) (n + 1) (xs ++ [x])) : W.ownsRow B e 1 (.slice (some ⟨b, 0, none⟩) n cap) n xs := by
  have hl : xs.length = n := by have := h.1; simp at this; omega
  rcases h.2 with ⟨h', _⟩ | ⟨g', cap', cur, h', hb, hg, hnc, hcm, hcs, htake⟩
  · simp at h'
  · simp only [Value.slice.injEq, Option.some.injEq, Addr.mk.injEq, and_true, true_and] at h'
    obtain ⟨rfl, rfl⟩ := h'
    refine ⟨by omega, .inr ⟨b, cap, cur, rfl, hb, hg, by omega, hcm, hcs, ?_⟩⟩
    have e := congrArg (List.take n) htake
    rw [List.take_take, Nat.mul_one, Nat.min_eq_left (by omega), List.take_left' hl] at e
    rw [Nat.mul_one]
    exact e

/-- The worlds while a part is numbered: the numbers, the waiting cells, the grid's own block. -/
structure SpSt (w : World) (gp capP : Nat) (g : Gr) (p : Ad) (b0 : Nat) (wv : Value) (P' : List Int) (T : List Nat) (wr : World) : Prop where
  bel : Below gp w wr
  bx : Bx wr b0 g p
  parts : wr.ownsRow gp 3 1 (.slice (some ⟨gp, 0, none⟩) g.n capP) g.n (cellsI P')
  wait : wr.ownsRow (b0 + 1) 3 1 wv T.length (cellsI (ints T))
theorem SpSt.call {w : World} {gp capP : Nat} {g : Gr} {p : Ad} {b0 : Nat} {wv : Value} {P' : List Int} {T : List Nat} {wr wr' : World} (h : SpSt w gp capP g p b0 wv P' T wr) (hb : Below wr.heap.size wr wr') : SpSt w gp capP g p b0 wv P' T wr' :=
  ⟨h.bel.trans (hb.mono (Nat.le_of_lt (h.parts.lt gp rfl).2)), h.bx.keep hb, row_keeps h.parts hb, row_keeps h.wait hb⟩
theorem SpSt.mark {w : World} {gp capP : Nat} {g : Gr} {p : Ad} {b0 : Nat} {wv : Value} {P' : List Int} {T : List Nat} {wr : World} (h : SpSt w gp capP g p b0 wv P' T wr) (hgb : gp < b0) (j : Nat) (x : Int) : SpSt w gp capP g p b0 wv (P'.set j x) T (wr.setCell ⟨gp, j, none⟩ (.int .i64 x)) := by
  obtain ⟨h1, h2⟩ := h.parts.stored j (.int .i64 x)
  have hgl := (h.parts.lt gp rfl).2
  have hblk : (wr.setCell ⟨gp, j, none⟩ (.int .i64 x)).heap[b0]? = wr.heap[b0]? := h2.block b0 h.bx.lt (fun e => by injection e with e; omega)
  refine ⟨h.bel.grown h2 (by omega) (fun j hj => by injection hj with hj; omega), ⟨Nat.lt_of_lt_of_le h.bx.lt h2.size, (cell_of_block hblk).trans h.bx.k0, (cell_of_block hblk).trans h.bx.k1, (cell_of_block hblk).trans h.bx.k2, (cell_of_block hblk).trans h.bx.k3, (cell_of_block hblk).trans h.bx.k4⟩, by rw [cellsI_set]; exact h1, ?_⟩
  refine h.wait.kept h2 ?_
  by_cases hv : wv.ownBlock = none
  · exact .inl hv
  · right
    intro e
    have := (h.wait.lt gp e).1
    omega
theorem SpSt.push {w : World} {gp capP : Nat} {g : Gr} {p : Ad} {b0 : Nat} {wv wv' : Value} {P' : List Int} {T : List Nat} {wr wa : World} {o : Obj} (h : SpSt w gp capP g p b0 wv P' T wr) (hgb : gp < b0) (j : Nat)
    (h1 : wa.ownsRow (b0 + 1) 3 1 wv' (T.length + 1) (cellsI (ints T) ++ [.int .i64 (j : Int)])) (h2 : (wr.alloc o).grownBy wa wv.ownBlock) : SpSt w gp capP g p b0 wv' P' (T ++ [j]) wa := by
  have ha := h.call (below_box wr o)
  have hgl := (ha.parts.lt gp rfl).2
  have hb1 : ∀ k, wv.ownBlock = some k → b0 + 1 ≤ k := fun k hk => (h.wait.lt k hk).1
  have hblk : wa.heap[b0]? = (wr.alloc o).heap[b0]? := h2.block b0 ha.bx.lt (fun e => by have := hb1 b0 e.symm; omega)
  refine ⟨ha.bel.grown h2 (by omega) (fun k hk => by have := hb1 k hk; omega), ⟨Nat.lt_of_lt_of_le ha.bx.lt h2.size, (cell_of_block hblk).trans ha.bx.k0, (cell_of_block hblk).trans ha.bx.k1, (cell_of_block hblk).trans ha.bx.k2, (cell_of_block hblk).trans ha.bx.k3, (cell_of_block hblk).trans ha.bx.k4⟩, ?_, ?_⟩
  · refine ha.parts.kept h2 (.inr fun e => ?_)
    have := hb1 gp e.symm
    omega
  · rw [List.length_append, ints_snoc, cellsI_snoc]
    exact h1
theorem list_last {α : Type} (T : List α) : T = [] ∨ ∃ T' a, T = T' ++ [a] := by
  cases h : T.reverse with
  | nil => left; simpa using h
  | cons a r => right; exact ⟨r.reverse, a, by have := congrArg List.reverse h; simpa using this⟩

set_option maxRecDepth 100000 in
set_option maxHeartbeats 2000000 in
theorem spread_any (g : Gr) (p : Ad) (hok : g.ok) (k : Nat) (hf : g.first k = true) (P : List Int) (hP : g.Upto k P) (w : World) (gp capP : Nat) (hgp : 0 < gp) (hR : ∀ W, Below gp w W → RG W g p) (hw : Wy w)
    (hown : w.ownsRow gp 3 1 (.slice (some ⟨gp, 0, none⟩) g.n capP) g.n (cellsI P)) :
    Calls Tryd.prog 27 #[gv g p, .slice (some ⟨gp, 0, none⟩) g.n capP, .int .i64 k, .int .i64 (g.ahead k : Nat)] w fun e w' => e = .returned (.tuple #[]) ∧ Below gp w w' ∧ ∃ P', w'.ownsRow gp 3 1 (.slice (some ⟨gp, 0, none⟩) g.n capP) g.n (cellsI P') ∧ g.Upto (k + 1) P' := by
  obtain ⟨i0, hi0, hz0, hz1, hz2⟩ := info_parts infoInt
  have hz := (Gr.right_of hok).sz
  have hW := hz.sw.1
  have hn := hz.n_le
  have hk := (Gr.first_iff.1 hf).1
  have hkn := (Gr.opn_iff.1 hk).1
  have hah := g.ahead_le k
  have HS : Aside (∀ W i m, i < g.n → m < 4 → Below gp w W → Calls Tryd.prog 44 #[gv g p, .int .i64 (i : Nat), .int .i64 (m : Nat)] W fun e w' => e = .returned (opt (g.stp i m)) ∧ Below W.heap.size W w') := fun W i m hi hm h => step_any g p hz i m hi hm W (hw.below hgp h) (hR W h)
  have hgl := (hown.lt gp rfl).2
  have ck : w.cell? ⟨gp, k, none⟩ = some (.int .i64 (P[k]?.getD 0)) := by
    rw [hown.cellAt k (by omega)]
    have : k < P.length := by rw [hP.1]; exact hkn
    simp [cellsI, List.getElem?_eq_getElem this]
  generalize P[k]?.getD 0 = x0 at ck
  have fk := hown.frozenAt k
  unfold gv opt at HS
  unfold gv
  go_enter Tryd.func27, Tryd.ntmps27
  go_wp2
  have hSt0 : SpSt w gp capP g p w.heap.size (.slice (some ⟨w.heap.size + 1, 0, none⟩) 1 1) (P.set k (g.ahead k : Int)) [k] (((w.setCell ⟨gp, k, none⟩ (.int .i64 (g.ahead k : Nat))).alloc (.cells #[.int .i64 g.h, .int .i64 g.w, .slice p.a1 g.B.length p.c1, .slice p.a2 g.R.length p.c2, .slice p.a3 g.D.length p.c3] 27)).alloc (.cells #[.int .i64 k] 3)) := by
    obtain ⟨h1, h2⟩ := hown.stored k (.int .i64 (g.ahead k : Nat))
    have hsz : (w.setCell ⟨gp, k, none⟩ (.int .i64 (g.ahead k : Nat))).heap.size = w.heap.size := by simp
    have hbx := Bx.new (w.setCell ⟨gp, k, none⟩ (.int .i64 (g.ahead k : Nat))) g p 27
    rw [hsz] at hbx
    have hlit := World.ownsRow_lit (base := w.heap.size + 1) (e := 3) (size := 1) ((w.setCell ⟨gp, k, none⟩ (.int .i64 (g.ahead k : Nat))).alloc (.cells #[.int .i64 g.h, .int .i64 g.w, .slice p.a1 g.B.length p.c1, .slice p.a2 g.R.length p.c2, .slice p.a3 g.D.length p.c3] 27)) #[.int .i64 k] 1 (by rw [World.size_alloc, hsz]; exact Nat.le_refl _) (by unfold maxLen; omega) rfl
    rw [World.size_alloc, hsz] at hlit
    refine ⟨?_, hbx.keep (below_box _ _), ?_, hlit⟩
    · exact (((Below.refl gp w).grown h2 (by omega) (fun j hj => by injection hj with hj; omega)).alloc (by rw [hsz]; omega) _).alloc (by rw [World.size_alloc, hsz]; omega) _
    · rw [cellsI_set]
      exact (h1.alloc _).alloc _
  obtain ⟨W0, hW0⟩ : ∃ W0, W0 = (((w.setCell ⟨gp, k, none⟩ (.int .i64 (g.ahead k : Nat))).alloc (.cells #[.int .i64 g.h, .int .i64 g.w, .slice p.a1 g.B.length p.c1, .slice p.a2 g.R.length p.c2, .slice p.a3 g.D.length p.c3] 27)).alloc (.cells #[.int .i64 k] 3)) := ⟨_, rfl⟩
  rw [← hW0] at hSt0 ⊢
  clear hW0 ck fk
  have HP : Aside (g.Upto k P) := hP
  have HF : Aside (g.first k = true) := hf
  have HK : Aside (g.opn k = true) := hk
  have HS0 : Aside (SpSt w gp capP g p w.heap.size (.slice (some ⟨w.heap.size + 1, 0, none⟩) 1 1) (P.set k (g.ahead k : Int)) [k] W0) := hSt0
  have HSp0 : Aside (g.Spr k P (P.set k (g.ahead k : Int)) [k] (fun _ => False)) := Gr.spr_start hW hP hkn
  have HNl : Aside (∀ P' : List Int, P'.length = g.n → negs P' ≤ 256) := fun P' h => Nat.le_trans (negs_le _) (by omega)
  have HST : Aside (∀ a m j, g.opn a = true → g.stp a m = some j → j ∈ g.near a) := fun a m j ha h => Gr.mem_near.2 ⟨m, by rw [Gr.st_stp ha]; exact h⟩
  have HTS : Aside (∀ a j, g.opn a = true → j ∈ g.near a → ∃ m, m < 4 ∧ g.stp a m = some j) := fun a j ha h => by
    obtain ⟨m, hm⟩ := Gr.mem_near.1 h
    exact ⟨m, Gr.st_way hm, by rw [← Gr.st_stp ha]; exact hm⟩
  have HWp : Aside (0 < g.W) := hW
  have HAH : Aside (g.ahead k ≤ 256) := by show g.ahead k ≤ 256; omega
  have hgb : gp < w.heap.size := hgl
  clear hSt0 hown hw hR hP hf hk hz hok hgl hah hW hgp
  generalize hah' : g.ahead k = ah at *
  have hahl := HAH.out
  go_loopg [8] 600 (fun g1 wv wr => ∃ P' T, Aside (SpSt w gp capP g p w.heap.size wv P' T wr) ∧ Aside (g.Spr k P P' T (fun _ => False)) ∧ 2 * negs P' + T.length ≤ g1 ∧ g1 ≤ 600)
  case atStart =>
    refine ⟨_, _, HS0, HSp0, ?_, Nat.le_refl _⟩
    have := HNl.out _ HSp0.out.mid.len
    simp only [List.length_cons, List.length_nil]
    omega
  case round =>
    obtain ⟨P1, T1, HSt, HSp, hg1, hg6⟩ := hrel
    rcases list_last T1 with rfl | ⟨T, a, rfl⟩
    · have hup := Gr.spr_end HWp.out HF.out HP.out HSp.out
      have HUp : Aside (g.Upto (k + 1) P1) := hup
      obtain ⟨ao, cap, rfl, _, _⟩ := row_reads HSt.out.wait
      clear hup
      go_wp2
      go_end0
      exact ⟨rfl, HSt.out.bel, P1, HSt.out.parts, HUp.out⟩
    · have hwt := HSt.out.wait
      have hTl : (T ++ [a]).length = T.length + 1 := by simp
      have hcl : cellsI (ints (T ++ [a])) = cellsI (ints T) ++ [.int .i64 (a : Int)] := by rw [ints_snoc, cellsI_snoc]
      rw [hTl, hcl] at hwt
      rw [hTl] at hg1
      obtain ⟨b, cap, hbv⟩ := ownsRow_succ hwt
      subst hbv
      have hcap : T.length + 1 ≤ cap := by
        rcases hwt.2 with ⟨h1, h2⟩ | ⟨g', cap', cur, h1, _, _, h2, _⟩
        · omega
        · cases h1; exact h2
      have ea : wr.cell? ⟨b, T.length, none⟩ = some (.int .i64 (a : Int)) := by
        rw [hwt.cellAt T.length (by omega), List.getElem?_append_right (by rw [cellsI_length, ints_length]; exact Nat.le_refl _), cellsI_length, ints_length, Nat.sub_self]
        rfl
      have HSa : Aside (SpSt w gp capP g p w.heap.size (.slice (some ⟨b, 0, none⟩) T.length cap) P1 T wr) := ⟨HSt.out.bel, HSt.out.bx, HSt.out.parts, row_pop hwt⟩
      have HSpa : Aside (g.Spr k P P1 T (fun j => j = a)) := Gr.spr_pop HSp.out
      have HOa : Aside (g.opn a = true) := HSpa.out.opn HWp.out HK.out (HSpa.out.cur a rfl)
      have haL : a < g.n := (Gr.opn_iff.1 HOa.out).1
      have hTb : T.length ≤ 600 := by omega
      obtain ⟨M0, hM0⟩ : ∃ M0, M0 = 2 * negs P1 + T.length := ⟨_, rfl⟩
      have hMg : M0 < gk := by omega
      have hM6 : M0 ≤ 600 := by omega
      have HAL : Aside (∀ P' : List Int, ∀ j, g.Lab k P' j ↔ P'[j]? = some (ah : Int)) := fun P' j => by unfold Gr.Lab; rw [hah']
      have HPU : Aside (∀ P' T' b, g.Spr k P P' T' (fun j => j = a) → b ∈ g.near a → g.Spr k P (P'.set b (ah : Int)) (T' ++ [b]) (fun j => j = a) ∧ ∀ c, g.Lab k P' c → g.Lab k (P'.set b (ah : Int)) c) := fun P' T' b h1 h2 => by rw [← hah']; exact Gr.spr_push HWp.out HF.out HP.out h1 h2
      have HMl : Aside (2 * negs P1 + T.length ≤ M0) := Nat.le_of_eq hM0.symm
      clear hwt hTl hcl HSt HSp
      go_wp2
      clear ea hM0 hcap hg1 hah'
      go_loopg [8, 33] 4 (fun g2 wv iv wr => ∃ (m : Nat) (P' : List Int) (T' : List Nat), iv = .int .i64 (m : Int) ∧ m ≤ 4 ∧ 4 - m ≤ g2 ∧ Aside (SpSt w gp capP g p w.heap.size wv P' T' wr) ∧ Aside (g.Spr k P P' T' (fun j => j = a)) ∧ Aside (∀ m', m' < m → ∀ j, g.stp a m' = some j → g.Lab k P' j) ∧ Aside (2 * negs P' + T'.length ≤ M0))
      case atStart => exact ⟨0, P1, T, rfl, Nat.zero_le _, Nat.le_refl _, HSa, HSpa, fun m hm => absurd hm (Nat.not_lt_zero m), HMl⟩
      case round =>
        obtain ⟨m, P2, T2, rfl, hm, hg2, HS2, HSp2, HD2, HM2⟩ := hrel
        by_cases hlt : m < 4
        · have hltz : (m : Int) < 4 := by omega
          have cS := HS.out wr a m haL hlt HS2.out.bel
          obtain ⟨_, k0, k1, k2, k3, k4⟩ := HS2.out.bx
          have HJ : Aside (∀ j, g.stp a m = some j → j ∈ g.near a) := fun j hj => HST.out a m j HOa.out hj
          generalize hst : g.stp a m = o at *
          cases o with
          | none =>
            have HD3 : Aside (∀ m', m' < m + 1 → ∀ j, g.stp a m' = some j → g.Lab k P2 j) := fun m' hm' j hj => by
              by_cases e : m' = m
              · subst e; rw [hst] at hj; cases hj
              · exact HD2.out m' (by omega) j hj
            clear hst HD2 HJ
            go_wp2_with fail
            refine cS.mono ?_
            rintro e w4 ⟨rfl, hb4⟩
            have HS4 : Aside (SpSt w gp capP g p w.heap.size u8 P2 T2 w4) := HS2.out.call hb4
            clear cS hb4 HS2
            go_wp2
            go_roundg (4 - (m + 1))
            case measure => omega
            case rel => exact ⟨m + 1, P2, T2, by go_num, by omega, Nat.le_refl _, HS4, HSp2, HD3, HM2⟩
          | some j =>
            have hjn : j ∈ g.near a := HJ.out j rfl
            have hjl : j < g.n := (Gr.opn_iff.1 (Gr.near_opn HWp.out hjn).2).1
            have HNJ : Aside (j ∈ g.near a) := hjn
            have HDx : Aside (∀ P' : List Int, (∀ c, g.Lab k P2 c → g.Lab k P' c) → g.Lab k P' j → ∀ m', m' < m + 1 → ∀ j, g.stp a m' = some j → g.Lab k P' j) := fun P' h1 h2 m' hm' j' hj' => by
              by_cases e : m' = m
              · subst e; rw [hst] at hj'; cases hj'; exact h2
              · exact h1 _ (HD2.out m' (by omega) j' hj')
            have hval := Gr.spr_val HWp.out HF.out HP.out HSp2.out hjn
            have HLx : Aside (g.Lab k P2 j ∨ P2[j]? = some (-1)) := hval
            clear hst HD2 HJ hjn hval
            go_wp2_with fail
            refine cS.mono ?_
            rintro e w4 ⟨rfl, hb4⟩
            have HS4 : Aside (SpSt w gp capP g p w.heap.size u8 P2 T2 w4) := HS2.out.call hb4
            clear cS hb4 HS2 k0 k1 k2 k3 k4
            rcases HLx.out with hl | hl
            · have ej : w4.cell? ⟨gp, j, none⟩ = some (.int .i64 (ah : Int)) := by
                rw [HS4.out.parts.cellAt j (by omega)]
                exact cellsI_at ((HAL.out _ _).1 hl)
              have HD3 : Aside (∀ m', m' < m + 1 → ∀ j, g.stp a m' = some j → g.Lab k P2 j) := HDx.out P2 (fun _ h => h) hl
              have hnn : ¬ (ah : Int) < 0 := by omega
              clear hl
              go_wp2
              go_roundg (4 - (m + 1))
              case measure => omega
              case rel => exact ⟨m + 1, P2, T2, by go_num, by omega, Nat.le_refl _, HS4, HSp2, HD3, HM2⟩
            · have ej : w4.cell? ⟨gp, j, none⟩ = some (.int .i64 (-1)) := by
                rw [HS4.out.parts.cellAt j (by omega)]
                exact cellsI_at hl
              have fj := HS4.out.parts.frozenAt j
              obtain ⟨hsp3, hkp⟩ := HPU.out P2 T2 j HSp2.out HNJ.out
              have HSp3 : Aside (g.Spr k P (P2.set j (ah : Int)) (T2 ++ [j]) (fun j => j = a)) := hsp3
              have HD3 : Aside (∀ m', m' < m + 1 → ∀ j', g.stp a m' = some j' → g.Lab k (P2.set j (ah : Int)) j') := HDx.out _ hkp (hsp3.wait j (by simp))
              have hng : negs (P2.set j (ah : Int)) + 1 = negs P2 := negs_set hl (by omega) (by omega)
              have HM3 : Aside (2 * negs (P2.set j (ah : Int)) + (T2 ++ [j]).length ≤ M0) := by
                show 2 * negs (P2.set j (ah : Int)) + (T2 ++ [j]).length ≤ M0
                have := HM2.out
                rw [List.length_append, List.length_singleton]
                omega
              have hT2 : T2.length ≤ 600 := by have := HM2.out; omega
              have HS5 : Aside (SpSt w gp capP g p w.heap.size u8 (P2.set j (ah : Int)) T2 (w4.setCell ⟨gp, j, none⟩ (.int .i64 (ah : Int)))) := HS4.out.mark hgb j (ah : Int)
              have hs5 : w.heap.size < (w4.setCell ⟨gp, j, none⟩ (.int .i64 (ah : Int))).heap.size := HS5.out.bx.lt
              have hs4 : w.heap.size < w4.heap.size := HS4.out.bx.lt
              have HW5 : Aside ((w4.setCell ⟨gp, j, none⟩ (.int .i64 (ah : Int))).ownsRow (w.heap.size + 1) 3 1 u8 T2.length (cellsI (ints T2))) := HS5.out.wait
              clear hl hsp3 hkp hng HS4
              go_wp2_with (at_builtin; refine wpList_append_own _ rfl _ _ 37 rfl (w.heap.size + 1) 3 i0 (.int .i64 0) 1 8 Tryd.underlying37 hi0 hz0 hz1 hz2 rfl (by decide) _ _ _ rfl (HW5.out.alloc _) ⟨w4.heap.size, 0, none⟩ 1 1 [.int .i64 (j : Int)] rfl rfl (by have h := cell_one_new (w4.setCell ⟨gp, j, none⟩ (.int .i64 (ah : Int))) (.int .i64 (j : Int)) 3; simpa using h) (by simp [Value.oneCell']) (by unfold maxLen; omega) (by omega) (by simp; omega) ?_)
              intro v' wa hown' hgrow _
              have HS6 : Aside (SpSt w gp capP g p w.heap.size v' (P2.set j (ah : Int)) (T2 ++ [j]) wa) := HS5.out.push hgb j hown' hgrow
              clear hown' hgrow
              go_wp2
              go_roundg (4 - (m + 1))
              case measure => omega
              case rel => exact ⟨m + 1, _, _, by go_num, by omega, Nat.le_refl _, HS6, HSp3, HD3, HM3⟩
        · have hltz : ¬ (m : Int) < 4 := by omega
          have HSh : Aside (g.Spr k P P2 T2 (fun _ => False)) := Gr.spr_shut HSp2.out fun b hb => by
            obtain ⟨m', h1, h2⟩ := HTS.out a b HOa.out hb
            exact HD2.out m' (by omega) b h2
          have hM2 := HM2.out
          clear HSp2 HD2
          go_wp2
          go_roundg (2 * negs P2 + T2.length)
          case measure => omega
          case rel => exact ⟨P2, T2, HS2, HSh, Nat.le_refl _, by omega⟩
end Go.Proofs.YthjgldjjplcncabDoor.Grd
