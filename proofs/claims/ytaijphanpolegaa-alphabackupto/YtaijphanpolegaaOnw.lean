/-
  The program's way back to the last letter that can give way, and down from there (the second inner function of Each).
-/
import Derived.Test.YtaijphanpolegaaDwg
namespace Go.Proofs.Ytaijphanpolegaa.Utf
open Go Go.Lib Go.RowKit

set_option maxRecDepth 100000 in
set_option maxHeartbeats 1000000 in
theorem on_any {w0 : World} {b : Nat} {L : List ByteArray} {rk : List Nat} (hL40 : L.length ≤ 40) (hLs : ∀ x ∈ L, 1 ≤ x.size ∧ x.size ≤ 12) (s : ByteArray) (hs : s.size ≤ 16777216) (B0 A Sb Ab Eb Pb Db g : Nat) (ws : List Nat) (v : Value) (path0 : List Nat)
    (hEA : ∀ W', Els (fun k => k = A ∨ k = Pb ∨ v.ownBlock = some k) w0 W' → EnvA b Sb Ab L rk s W') (hEE : EnvE B0 Eb g s ws w0) (hne : (Eb ≠ A ∧ Eb ≠ Pb) ∧ g ≠ A ∧ g ≠ Pb)
    (hDb : Boxed w0 Db 70 (.func (.func 43) #[] #[.pointer (some ⟨A, 0, none⟩), .pointer (some ⟨Sb, 0, none⟩), .pointer (some ⟨Ab, 0, none⟩), .pointer (some ⟨Eb, 0, none⟩), .pointer (some ⟨Pb, 0, none⟩)])) (hDn : Db ≠ A ∧ Db ≠ Pb ∧ Db < B0)
    (hw : WaysTo L rk s 0 ws) (hp0 : posP L rk path0 ≤ s.size) (hpl0 : ∀ r ∈ path0, r < L.length) (hD : DnSt B0 w0 w0 A Pb v.ownBlock path0 (posP L rk path0) v) :
    Calls Try.prog 44 #[.pointer (some ⟨Pb, 0, none⟩), .pointer (some ⟨A, 0, none⟩), .pointer (some ⟨Ab, 0, none⟩), .pointer (some ⟨Db, 0, none⟩)] w0 fun e w' =>
      (e = .returned (.bool true) ∧ ∃ path, (∃ v', DnSt B0 w0 w' A Pb v.ownBlock path s.size v') ∧ posP L rk path = s.size ∧ (∀ r ∈ path, r < L.length) ∧ restP L rk s ws path0 = path :: restP L rk s ws path) ∨
      (e = .returned (.bool false) ∧ (∃ v', DnSt B0 w0 w' A Pb v.ownBlock [] 0 v') ∧ restP L rk s ws path0 = []) := by
  have HBA : Aside (∀ W', Els (fun k => k = A ∨ k = Pb ∨ v.ownBlock = some k) w0 W' → EnvA b Sb Ab L rk s W') := hEA
  have HEE : Aside (∀ W', Els (fun k => k = A ∨ k = Pb ∨ v.ownBlock = some k) w0 W' → EnvE B0 Eb g s ws W') := fun W' he => hEE.els he
    (by rintro (h | h | h); exact hne.1.1 h; exact hne.1.2 h; have := (hD.row.lt _ h).1; have := hEE.lt; omega) (by rintro (h | h | h); exact hne.2.1 h; exact hne.2.2 h; have := (hD.row.lt _ h).1; have := hEE.lt; omega)
  have HDB : Aside (∀ W', Els (fun k => k = A ∨ k = Pb ∨ v.ownBlock = some k) w0 W' → Boxed W' Db 70 (.func (.func 43) #[] #[.pointer (some ⟨A, 0, none⟩), .pointer (some ⟨Sb, 0, none⟩), .pointer (some ⟨Ab, 0, none⟩), .pointer (some ⟨Eb, 0, none⟩), .pointer (some ⟨Pb, 0, none⟩)])) := fun W' he => he.boxed hDb
    (by rintro (h | h | h); exact hDn.1 h; exact hDn.2.1 h; have := (hD.row.lt _ h).1; omega)
  have HW : Aside (WaysTo L rk s 0 ws) := hw
  have HN : Aside (∀ r, r < L.length → 1 ≤ (nmR L rk r).size ∧ (nmR L rk r).size ≤ 12) := fun r hr => nm_pos (hEA w0 (Els.refl _ _)).al hLs r hr
  have HN1 : Aside (∀ r, r < L.length → 1 ≤ wid L rk r) := fun r hr => (HN.out r hr).1
  have HDN : Aside (∀ (wq : World) (path : List Nat) (r : Nat) (vq : Value), DnSt B0 w0 wq A Pb v.ownBlock path (posP L rk path) vq → r ≤ L.length → posP L rk path ≤ s.size → (∀ r ∈ path, r < L.length) → Calls Try.prog 43 #[.int .i64 (r : Int), .pointer (some ⟨A, 0, none⟩), .pointer (some ⟨Sb, 0, none⟩), .pointer (some ⟨Ab, 0, none⟩), .pointer (some ⟨Eb, 0, none⟩), .pointer (some ⟨Pb, 0, none⟩)] wq fun e w' =>
      (e = .returned (.bool true) ∧ ∃ path', (∃ v', DnSt B0 w0 w' A Pb v.ownBlock path' s.size v') ∧ posP L rk path' = s.size ∧ (∀ r ∈ path', r < L.length) ∧ todo L rk s ws path r = path' :: restP L rk s ws path') ∨
      (e = .returned (.bool false) ∧ (∃ v', DnSt B0 w0 w' A Pb v.ownBlock path (posP L rk path) v') ∧ todo L rk s ws path r = restP L rk s ws path)) := by
    intro wq path r vq hq hr hp hpl
    refine (down_any hL40 hLs s hs B0 A Sb Ab Eb Pb g ws vq path r (fun W' he => HBA.out W' (hq.els.trans_new he ?_)) (HEE.out wq hq.els) hne HW.out hr hp hpl hq.start).mono ?_
    · rintro i hi (h | h | h)
      · exact .inl h
      · exact .inr (.inl h)
      · rcases hq.own i h with h1 | h1
        · exact .inr (.inr h1)
        · omega
    · rintro e w' (⟨h1, p', ⟨v', h2⟩, h3⟩ | ⟨h1, ⟨v', h2⟩, h3⟩)
      · exact .inl ⟨h1, p', ⟨v', hq.since h2⟩, h3⟩
      · exact .inr ⟨h1, ⟨v', hq.since h2⟩, h3⟩
  clear hEA hEE hw hne hDb
  go_enter Try.func44, Try.ntmps44
  go_wp2
  go_loopg [] (path0.length) (fun g1 wr => ∃ (path : List Nat) (vq : Value), path.length ≤ g1 ∧ posP L rk path ≤ s.size ∧ DnSt B0 w0 wr A Pb v.ownBlock path (posP L rk path) vq ∧ Aside (restP L rk s ws path = restP L rk s ws path0 ∧ ∀ x ∈ path, x < L.length))
  case atStart => exact ⟨path0, v, Nat.le_refl _, hp0, hD, ⟨rfl, hpl0⟩⟩
  case round =>
    clear hD
    obtain ⟨path, vq, hg1, hps, hD, HP⟩ := hrel
    have ca := hD.at'.cell
    have fa := hD.at'.frozen
    have cp := hD.pb.cell
    have fp := hD.pb.frozen
    have hpl : path.length ≤ 16777216 := Nat.le_trans (posP_len HN1.out path HP.out.2) (by omega)
    rcases List.eq_nil_or_concat path with rfl | ⟨q, k, rfl⟩
    · obtain ⟨ao, cap, rfl, _⟩ := row_reads hD.row
      go_wp2
      go_ret
      exact .inr ⟨rfl, ⟨_, hD⟩, HP.out.1.symm⟩
    · rw [List.concat_eq_append] at *
      have hrow := hD.row
      rw [List.length_append, List.length_singleton] at hrow hg1 hpl
      obtain ⟨gq, cq, rfl⟩ := ownsRow_succ hrow
      have hkl : k < L.length := HP.out.2 k (by simp)
      have cl : wr.cell? ⟨gq, q.length, none⟩ = some (.int .i64 (k : Int)) := by
        rw [hrow.cellAt _ (by omega), nums_snoc]
        rw [List.getElem?_append_right (by rw [nums_len]; exact Nat.le_refl _), nums_len, Nat.sub_self]
        rfl
      have hcap : q.length + 1 ≤ cq := by
        rcases hrow.2 with ⟨h, _⟩ | ⟨g', c', cur, e1, e2, e3, e4, _⟩
        · cases h
        · cases e1; exact e4
      have hsz := HN.out k hkl
      have hD1 := hD.pop
      have HPOS : Aside (posP L rk (q ++ [k]) = posP L rk q + (nmR L rk k).size) := posP_snoc L rk k q
      have HT : Aside (todo L rk s ws q (k + 1) = restP L rk s ws path0) := (restP_pop L rk s ws q k).symm.trans HP.out.1
      have HR : Aside (∀ x ∈ q, x < L.length) := fun x hx => HP.out.2 x (List.mem_append_left _ hx)
      rw [HPOS.out] at hps hD1 ca
      have hD1b : DnSt B0 w0 (wr.setCell ⟨Pb, 0, none⟩ (.slice (some ⟨gq, 0, none⟩) q.length cq)).drew A Pb v.ownBlock q (posP L rk q + (nmR L rk k).size) (.slice (some ⟨gq, 0, none⟩) q.length cq) := hD1.keeps (Below.drew (Below.refl _ _))
      have hEn := HBA.out _ hD1b.els
      have cA := (HBA.out _ hD1.els).bA.cell
      have cA1 := hEn.bA.cell
      have ca1 := hD1.at'.cell
      have ca2 := hD1b.at'.cell
      have fa1 := hD1.at'.frozen
      have cF := nameOf_any hEn.al k hkl
      obtain ⟨p, hp⟩ : ∃ p, p = posP L rk q := ⟨_, rfl⟩
      rw [← hp] at hps hD1 hD1b ca ca1 ca2
      have HPQ : Aside (p = posP L rk q) := hp
      clear hp hEn HPOS hD
      generalize nmR L rk k = X at *
      have hsub : (p : Int) + (X.size : Int) - (X.size : Int) = (p : Int) := by omega
      have hwr : IntKind.i64.wrap (p : Int) = (p : Int) := by rw [IntKind.wrap_i64]; omega
      go_upto_region 4 with fail
      go_cut [] from 20 to 29 (fun wd => DnSt B0 w0 wd A Pb v.ownBlock q p (.slice (some ⟨gq, 0, none⟩) q.length cq))
      case first =>
        (first | go_region_with (go_at_call 37; refine cF.mono ?_; rintro e w1 ⟨rfl, hb1⟩; have hD2 := hD1b.keeps hb1; have c2 := hD2.at'.cell; have f2 := hD2.at'.frozen; have hD3 := hD2.back p; clear hb1) | fail)
        all_goals (try go_simp)
        all_goals (go_wp2_with fail)
        all_goals go_meet
        all_goals (first | exact hD3 | (rw [hwr]; exact hD3))
      case rest =>
        clear cF hD1 hD1b ca ca1 ca2 fa1 cA cA1
        rename World => wd
        have cD := HDN.out wd q (k + 1) _ (by rw [← HPQ.out]; exact hcut) (by omega) (by rw [← HPQ.out]; omega) HR.out
        have cB := (HDB.out wd hcut.els).cell
        go_wp2_with fail
        refine cD.mono ?_
        rintro e w2 (⟨rfl, p', ⟨v', h2⟩, h3, h4, h5⟩ | ⟨rfl, ⟨v', h2⟩, h3⟩)
        · have H5 : Aside (restP L rk s ws path0 = p' :: restP L rk s ws p') := HT.out.symm.trans h5
          have H3 : Aside (posP L rk p' = s.size) := h3
          clear cD cB h5 h3
          go_wp2
          go_ret
          exact .inl ⟨rfl, p', ⟨v', h2⟩, H3.out, h4, H5.out⟩
        · have H3 : Aside (restP L rk s ws q = restP L rk s ws path0) := h3.symm.trans HT.out
          clear cD cB h3
          go_wp2
          go_roundg (q.length)
          case measure => omega
          case rel => exact ⟨q, v', Nat.le_refl _, by rw [← HPQ.out]; omega, h2, H3.out, HR.out⟩
end Go.Proofs.Ytaijphanpolegaa.Utf
