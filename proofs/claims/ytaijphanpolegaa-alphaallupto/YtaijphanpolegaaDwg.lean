/-
  The program's way down through a text and on from there (the inner functions of Each), over any path.
-/
import Derived.Test.YtaijphanpolegaaWys
import Derived.Test.YtaijphanpolegaaNum
import Derived.Test.YtaijphanpolegaaSpl
import Derived.Test.YtaijphanpolegaaEvm
import Derived.Deep.RegionWith
namespace Go.Proofs.Ytaijphanpolegaa.Utf
open Go Go.Lib Go.RowKit

/-- Two worlds that differ in some blocks and in new ones alone. -/
structure Els (O : Nat → Prop) (w w' : World) : Prop where
  os : w'.os = w.os
  tape : w'.tape = w.tape
  output : w'.output = w.output
  size : w.heap.size ≤ w'.heap.size
  block : ∀ k, k < w.heap.size → ¬ O k → w'.heap[k]? = w.heap[k]?
theorem Els.refl (O : Nat → Prop) (w : World) : Els O w w := ⟨rfl, rfl, rfl, Nat.le_refl _, fun _ _ _ => rfl⟩
theorem Els.trans {O : Nat → Prop} {a b c : World} (h : Els O a b) (k : Els O b c) : Els O a c := ⟨k.os.trans h.os, k.tape.trans h.tape, k.output.trans h.output, Nat.le_trans h.size k.size, fun i hi ho => (k.block i (by have := h.size; omega) ho).trans (h.block i hi ho)⟩
theorem Els.mono {O O' : Nat → Prop} {a b : World} (h : Els O a b) (hm : ∀ k, k < a.heap.size → O k → O' k) : Els O' a b := ⟨h.os, h.tape, h.output, h.size, fun k hk ho => h.block k hk fun h1 => ho (hm k hk h1)⟩
theorem Els.of_below {O : Nat → Prop} {a b : World} (h : Below a.heap.size a b) : Els O a b := ⟨h.os, h.tape, h.output, h.size, fun k hk _ => h.block k hk⟩
/-- New blocks may be changed again. -/
theorem Els.trans_new {O O' : Nat → Prop} {a b c : World} (h : Els O a b) (k : Els O' b c) (hm : ∀ i, i < a.heap.size → O' i → O i) : Els O a c := ⟨k.os.trans h.os, k.tape.trans h.tape, k.output.trans h.output, Nat.le_trans h.size k.size, fun i hi ho => (k.block i (by have := h.size; omega) fun h1 => ho (hm i hi h1)).trans (h.block i hi ho)⟩
theorem Els.grown {O : Nat → Prop} {a b : World} {row : Option Nat} (h : a.grownBy b row) (hr : ∀ j, row = some j → O j) : Els O a b := ⟨h.os, h.tape, h.output, h.size, fun k hk ho => h.block k hk fun e => ho (hr k e.symm)⟩
theorem Els.alloc {O : Nat → Prop} {a b : World} (h : Els O a b) (o : Obj) : Els O a (b.alloc o) := h.trans (Els.of_below ((Below.refl _ _).alloc (Nat.le_refl _) o))
theorem Els.cell {O : Nat → Prop} {a b : World} (h : Els O a b) {p : Addr} (hp : p.block < a.heap.size) (ho : ¬ O p.block) : b.cell? p = a.cell? p := by simp only [World.cell?, h.block p.block hp ho]
theorem Els.boxed {O : Nat → Prop} {a b : World} (h : Els O a b) {B : Nat} {t : TypeId} {v : Value} (hB : Boxed a B t v) (ho : ¬ O B) : Boxed b B t v := (h.block B hB.lt ho).trans hB
theorem Els.row {O : Nat → Prop} {a b : World} (h : Els O a b) {B : Nat} {e : TypeId} {v : Value} {n : Nat} {xs : List Value} (hr : a.ownsRow B e 1 v n xs) (ho : ∀ j, v.ownBlock = some j → ¬ O j) : b.ownsRow B e 1 v n xs := by
  rcases hr with ⟨h1, h2 | ⟨g, cap, cur, rfl, e2, e3, e4⟩⟩
  · exact ⟨h1, .inl h2⟩
  · exact ⟨h1, .inr ⟨g, cap, cur, rfl, e2, (h.block g (Array.getElem?_eq_some_iff.1 e3).1 (ho g rfl)).trans e3, e4⟩⟩
theorem Els.below {O : Nat → Prop} {a b : World} (h : Els O a b) {B : Nat} (hO : ∀ k, k < B → k < a.heap.size → ¬ O k) (hB : B ≤ a.heap.size) : Below B a b := ⟨h.os, h.tape, h.output, h.size, fun k hk => h.block k (by omega) (hO k hk (by omega))⟩

/-- What lies where while letters are taken or let go: the path and the place in their boxes, the path's list in the call's own memory. -/
structure DnSt (B0 : Nat) (w0 wr : World) (A Pb : Nat) (R : Option Nat) (path : List Nat) (pos : Nat) (v : Value) : Prop where
  at' : Boxed wr A 3 (.int .i64 (pos : Int))
  pb : Boxed wr Pb 37 v
  row : wr.ownsRow B0 3 1 v path.length (nums path)
  els : Els (fun k => k = A ∨ k = Pb ∨ R = some k) w0 wr
  own : ∀ j, v.ownBlock = some j → R = some j ∨ w0.heap.size ≤ j
  lo : A < B0 ∧ Pb < B0 ∧ B0 ≤ w0.heap.size ∧ A ≠ Pb
theorem DnSt.keeps {B0 : Nat} {w0 wr w' : World} {A Pb : Nat} {R : Option Nat} {path : List Nat} {pos : Nat} {v : Value} (h : DnSt B0 w0 wr A Pb R path pos v) (hb : Below wr.heap.size wr w') : DnSt B0 w0 w' A Pb R path pos v :=
  ⟨(hb.block _ h.at'.lt).trans h.at', (hb.block _ h.pb.lt).trans h.pb, row_keeps h.row hb, h.els.trans (Els.of_below hb), h.own, h.lo⟩
theorem DnSt.take {B0 : Nat} {w0 wr w1 : World} {A Pb : Nat} {R : Option Nat} {path : List Nat} {pos k z : Nat} {v v' : Value} (h : DnSt B0 w0 wr A Pb R path pos v)
    (hg : (wr.alloc (.cells #[.int .i64 (k : Int)] 3)).grownBy w1 v.ownBlock) (hr : w1.ownsRow B0 3 1 v' (path.length + 1) (nums path ++ [.int .i64 (k : Int)])) (ho : v'.ownBlock = v.ownBlock ∨ v'.ownBlock = some (wr.alloc (.cells #[.int .i64 (k : Int)] 3)).heap.size) :
    (w1.cell? ⟨Pb, 0, none⟩ = some v ∧ w1.frozen? ⟨Pb, 0, none⟩ = false) ∧
    ((w1.setCell ⟨Pb, 0, none⟩ v').cell? ⟨A, 0, none⟩ = some (.int .i64 (pos : Int)) ∧ (w1.setCell ⟨Pb, 0, none⟩ v').frozen? ⟨A, 0, none⟩ = false) ∧
    DnSt B0 w0 ((w1.setCell ⟨Pb, 0, none⟩ v').setCell ⟨A, 0, none⟩ (.int .i64 ((pos + z : Nat) : Int))) A Pb R (path ++ [k]) (pos + z) v' := by
  have hs := h.els.size
  obtain ⟨l1, l2, l3, hne⟩ := h.lo
  have hro : ∀ j, v.ownBlock = some j → B0 ≤ j := fun j hj => (h.row.lt j hj).1
  have b1 : Boxed w1 Pb 37 v := (h.pb.alloc _).kept hg (fun e => by have := hro _ e.symm; omega)
  have b2 : Boxed w1 A 3 (.int .i64 (pos : Int)) := (h.at'.alloc _).kept hg (fun e => by have := hro _ e.symm; omega)
  have b3 := b1.set v'
  have b4 := b2.other (B' := Pb) hne v'
  have b5 := b4.set (.int .i64 ((pos + z : Nat) : Int))
  have b6 := b3.other (B' := A) hne.symm (.int .i64 ((pos + z : Nat) : Int))
  have e1 : Els (fun k => k = A ∨ k = Pb ∨ R = some k) w0 w1 := by
    refine (h.els.alloc (.cells #[.int .i64 (k : Int)] 3)).trans_new (O' := fun j => v.ownBlock = some j) (Els.grown hg fun j hj => hj) ?_
    intro i hi hv
    rcases h.own i hv with h1 | h1
    · exact .inr (.inr h1)
    · omega
  have e2 : Els (fun k => k = A ∨ k = Pb ∨ R = some k) w0 (w1.setCell ⟨Pb, 0, none⟩ v') := e1.trans (Els.grown (grownBy_setCell' w1 Pb v') fun j hj => .inr (.inl (Option.some.inj hj).symm))
  have e3 : Els (fun k => k = A ∨ k = Pb ∨ R = some k) w0 ((w1.setCell ⟨Pb, 0, none⟩ v').setCell ⟨A, 0, none⟩ (.int .i64 ((pos + z : Nat) : Int))) := e2.trans (Els.grown (grownBy_setCell' _ A _) fun j hj => .inl (Option.some.inj hj).symm)
  refine ⟨⟨b1.cell, b1.frozen⟩, ⟨b4.cell, b4.frozen⟩, b5, b6, ?_, e3, ?_, l1, l2, l3, hne⟩
  · rw [nums_snoc, List.length_append]
    exact ownsRow_setCell_below (ownsRow_setCell_below hr (a := ⟨Pb, 0, none⟩) l2 _) (a := ⟨A, 0, none⟩) l1 _
  · intro j hj
    rcases ho with h1 | h1
    · exact h.own j (h1 ▸ hj)
    · rw [h1] at hj
      have := Option.some.inj hj
      rw [World.size_alloc] at this
      exact .inr (by omega)
theorem ownsRow_pop {w : World} {B : Nat} {e : TypeId} {g cap n : Nat} {xs : List Value} {x : Value} (h : w.ownsRow B e 1 (.slice (some ⟨g, 0, none⟩) (n + 1) cap) (n + 1) (xs ++ [x])) : w.ownsRow B e 1 (.slice (some ⟨g, 0, none⟩) n cap) n xs := by
  rcases h with ⟨h1, ⟨h2, _⟩ | ⟨g', cap', cur, e1, e2, e3, e4, e5, e6, e7⟩⟩
  · cases h2
  · cases e1
    rw [List.length_append, List.length_singleton] at h1
    refine ⟨by omega, .inr ⟨g, cap, cur, rfl, e2, e3, by omega, e5, e6, ?_⟩⟩
    have := congrArg (List.take (n * 1)) e7
    rw [List.take_take, List.take_append_of_le_length (by omega), List.take_of_length_le (l := xs) (by omega)] at this
    rw [← this]
    congr 1
    omega
theorem DnSt.pop {B0 : Nat} {w0 wr : World} {A Pb : Nat} {R : Option Nat} {path : List Nat} {pos k g cap : Nat} (h : DnSt B0 w0 wr A Pb R (path ++ [k]) pos (.slice (some ⟨g, 0, none⟩) (path.length + 1) cap)) :
    DnSt B0 w0 (wr.setCell ⟨Pb, 0, none⟩ (.slice (some ⟨g, 0, none⟩) path.length cap)) A Pb R path pos (.slice (some ⟨g, 0, none⟩) path.length cap) := by
  obtain ⟨l1, l2, l3, hne⟩ := h.lo
  have hr := h.row
  rw [List.length_append, List.length_singleton, nums_snoc] at hr
  exact ⟨h.at'.other hne _, h.pb.set _, ownsRow_setCell_below (ownsRow_pop hr) (a := ⟨Pb, 0, none⟩) l2 _, h.els.trans (Els.grown (grownBy_setCell' wr Pb _) fun j hj => .inr (.inl (Option.some.inj hj).symm)), fun _ hj => h.own _ hj, h.lo⟩
theorem DnSt.back {B0 : Nat} {w0 wr : World} {A Pb : Nat} {R : Option Nat} {path : List Nat} {pos : Nat} {v : Value} (h : DnSt B0 w0 wr A Pb R path pos v) (pos' : Nat) :
    DnSt B0 w0 (wr.setCell ⟨A, 0, none⟩ (.int .i64 (pos' : Int))) A Pb R path pos' v := by
  obtain ⟨l1, l2, l3, hne⟩ := h.lo
  exact ⟨h.at'.set _, h.pb.other hne.symm _, ownsRow_setCell_below h.row (a := ⟨A, 0, none⟩) l1 _, h.els.trans (Els.grown (grownBy_setCell' wr A _) fun j hj => .inl (Option.some.inj hj).symm), h.own, h.lo⟩
theorem DnSt.start {B0 : Nat} {w0 wr : World} {A Pb : Nat} {R : Option Nat} {path : List Nat} {pos : Nat} {v : Value} (h : DnSt B0 w0 wr A Pb R path pos v) : DnSt B0 wr wr A Pb v.ownBlock path pos v :=
  ⟨h.at', h.pb, h.row, Els.refl _ _, fun _ hj => .inl hj, h.lo.1, h.lo.2.1, Nat.le_trans h.lo.2.2.1 h.els.size, h.lo.2.2.2⟩
/-- A state of a later call, seen from an earlier one. -/
theorem DnSt.since {B0 : Nat} {w0 wr wq : World} {A Pb : Nat} {R : Option Nat} {path path' : List Nat} {pos pos' : Nat} {v v' : Value} (h : DnSt B0 w0 wr A Pb R path pos v) (k : DnSt B0 wr wq A Pb v.ownBlock path' pos' v') : DnSt B0 w0 wq A Pb R path' pos' v' := by
  refine ⟨k.at', k.pb, k.row, h.els.trans_new k.els ?_, ?_, h.lo⟩
  · rintro i hi (h1 | h1 | h1)
    · exact .inl h1
    · exact .inr (.inl h1)
    · rcases h.own i h1 with h2 | h2
      · exact .inr (.inr h2)
      · omega
  · intro j hj
    rcases k.own j hj with h1 | h1
    · exact h.own j h1
    · have := h.els.size
      exact .inr (by omega)

/-- What the inner functions read: the alphabet, the text and the counts. -/
structure EnvA (b Sb Ab : Nat) (L : List ByteArray) (rk : List Nat) (s : ByteArray) (W : World) : Prop where
  al : IsAlpha W b L rk
  bS : Boxed W Sb 9 (.string s)
  bA : Boxed W Ab 25 (.pointer (some ⟨b, 0, none⟩))
structure EnvE (B0 Eb g : Nat) (s : ByteArray) (ws : List Nat) (W : World) : Prop where
  bE : Boxed W Eb 66 (.slice (some ⟨g, 0, none⟩) (s.size + 1) (s.size + 1))
  row : W.ownsRow 0 21 1 (.slice (some ⟨g, 0, none⟩) (s.size + 1) (s.size + 1)) (s.size + 1) (w32 ws)
  lt : Eb < B0 ∧ g < B0
theorem EnvE.els {B0 Eb g : Nat} {s : ByteArray} {ws : List Nat} {O : Nat → Prop} {W W' : World} (h : EnvE B0 Eb g s ws W) (he : Els O W W') (h1 : ¬ O Eb) (h2 : ¬ O g) : EnvE B0 Eb g s ws W' :=
  ⟨he.boxed h.bE h1, he.row h.row (fun j hj => by cases hj; exact h2), h.lt⟩

set_option maxRecDepth 100000 in
set_option maxHeartbeats 4000000 in
theorem down_any {w0 : World} {b : Nat} {L : List ByteArray} {rk : List Nat} (hL40 : L.length ≤ 40) (hLs : ∀ x ∈ L, 1 ≤ x.size ∧ x.size ≤ 12) (s : ByteArray) (hs : s.size ≤ 16777216) (B0 A Sb Ab Eb Pb g : Nat) (ws : List Nat) (v : Value) (path0 : List Nat) (r0 : Nat)
    (hEA : ∀ W', Els (fun k => k = A ∨ k = Pb ∨ v.ownBlock = some k) w0 W' → EnvA b Sb Ab L rk s W') (hEE : EnvE B0 Eb g s ws w0) (hne : (Eb ≠ A ∧ Eb ≠ Pb) ∧ g ≠ A ∧ g ≠ Pb)
    (hw : WaysTo L rk s 0 ws) (hr0 : r0 ≤ L.length) (hp0 : posP L rk path0 ≤ s.size) (hpl0 : ∀ r ∈ path0, r < L.length) (hD : DnSt B0 w0 w0 A Pb v.ownBlock path0 (posP L rk path0) v) :
    Calls Try.prog 43 #[.int .i64 (r0 : Int), .pointer (some ⟨A, 0, none⟩), .pointer (some ⟨Sb, 0, none⟩), .pointer (some ⟨Ab, 0, none⟩), .pointer (some ⟨Eb, 0, none⟩), .pointer (some ⟨Pb, 0, none⟩)] w0 fun e w' =>
      (e = .returned (.bool true) ∧ ∃ path, (∃ v', DnSt B0 w0 w' A Pb v.ownBlock path s.size v') ∧ posP L rk path = s.size ∧ (∀ r ∈ path, r < L.length) ∧ todo L rk s ws path0 r0 = path :: restP L rk s ws path) ∨
      (e = .returned (.bool false) ∧ (∃ v', DnSt B0 w0 w' A Pb v.ownBlock path0 (posP L rk path0) v') ∧ todo L rk s ws path0 r0 = restP L rk s ws path0) := by
  obtain ⟨i0, hi, hz0, hz1, hz2⟩ := info_parts infoInt'
  have HBA : Aside (∀ W', Els (fun k => k = A ∨ k = Pb ∨ v.ownBlock = some k) w0 W' → EnvA b Sb Ab L rk s W') := hEA
  have HEE : Aside (∀ W', Els (fun k => k = A ∨ k = Pb ∨ v.ownBlock = some k) w0 W' → EnvE B0 Eb g s ws W') := fun W' he => hEE.els he
    (by rintro (h | h | h); exact hne.1.1 h; exact hne.1.2 h; have := (hD.row.lt _ h).1; have := hEE.lt; omega) (by rintro (h | h | h); exact hne.2.1 h; exact hne.2.2 h; have := (hD.row.lt _ h).1; have := hEE.lt; omega)
  have HW : Aside (WaysTo L rk s 0 ws) := hw
  have HN : Aside (∀ r, r < L.length → 1 ≤ (nmR L rk r).size ∧ (nmR L rk r).size ≤ 12) := fun r hr => nm_pos (hEA w0 (Els.refl _ _)).al hLs r hr
  have HN1 : Aside (∀ r, r < L.length → 1 ≤ wid L rk r) := fun r hr => (HN.out r hr).1
  have hlo := hD.lo
  clear hEA hEE hw hne
  go_enter Try.func43, Try.ntmps43
  go_wp2
  go_loopg [0] (s.size * 41 + 41) (fun g1 vr wr => ∃ (path : List Nat) (r : Nat) (vq : Value), vr = .int .i64 (r : Int) ∧ r ≤ L.length ∧ (s.size - posP L rk path) * 41 + (L.length - r) ≤ g1 ∧ posP L rk path ≤ s.size ∧ DnSt B0 w0 wr A Pb v.ownBlock path (posP L rk path) vq ∧ Aside ((path = path0 ∨ geR L rk s ws (posP L rk path) r ≠ []) ∧ todo L rk s ws path r = todo L rk s ws path0 r0 ∧ ∀ x ∈ path, x < L.length))
  case atStart => exact ⟨path0, r0, v, rfl, hr0, by omega, hp0, hD, ⟨.inl rfl, rfl, hpl0⟩⟩
  case round =>
    clear hD
    obtain ⟨path, r, vq, rfl, hrl, hg1, hps, hD, HP⟩ := hrel
    have hpl : path.length ≤ 16777216 := Nat.le_trans (posP_len HN1.out path HP.out.2.2) (by omega)
    have hEn := HBA.out _ hD.els
    have ca := hD.at'.cell
    have cs := hEn.bS.cell
    have cA := hEn.bA.cell
    obtain ⟨pos, hpos⟩ : ∃ pos, pos = posP L rk path := ⟨_, rfl⟩
    rw [← hpos] at hg1 hps hD HP ca
    have HPOS : Aside (pos = posP L rk path) := hpos
    clear hpos
    by_cases he : pos < s.size
    · have hez : (pos : Int) < (s.size : Int) := by omega
      have hD1 : DnSt B0 w0 wr.drew A Pb v.ownBlock path pos vq := hD.keeps (Below.drew (Below.refl _ _))
      have cT := standing_any (HBA.out _ hD1.els).al (s.extract pos s.size) r hrl
      clear hEn
      go_upto_region 2 with fail
      go_cut [0] from 13 to 18 (fun s0 wd => ∃ k : Nat, s0 = .int .i64 (k : Int) ∧ r ≤ k ∧ k ≤ L.length ∧ DnSt B0 w0 wd A Pb v.ownBlock path pos vq ∧ Aside ((k < L.length → begins (s.extract pos s.size) (nmR L rk k) = true) ∧ ∀ j, r ≤ j → j < k → begins (s.extract pos s.size) (nmR L rk j) = false))
      case first =>
        (first | go_region_with (go_at_call 36; refine cT.mono ?_; rintro e w1 ⟨⟨k, rfl, hrk, hkn, hk1, hk2⟩, hb1⟩; have hD2 : DnSt B0 w0 w1 A Pb v.ownBlock path pos vq := hD1.keeps hb1; have HK : Aside ((k < L.length → begins (s.extract pos s.size) (nmR L rk k) = true) ∧ ∀ j, r ≤ j → j < k → begins (s.extract pos s.size) (nmR L rk j) = false) := ⟨hk1, hk2⟩; clear hb1 hk1 hk2) | fail)
        all_goals (try go_simp)
        all_goals (go_wp2_with fail)
        all_goals go_meet
        all_goals exact ⟨k, rfl, hrk, hkn, hD2, HK⟩
      case rest =>
        obtain ⟨k, rfl, hrk, hkn, hD2, HK⟩ := hcut
        clear cT hD1 hD ca cs cA
        rename World => wd
        have hge := geR_skips (L := L) (rk := rk) (s := s) (ws := ws) he k hrk HK.out.2
        have hEn := HBA.out _ hD2.els
        have hal := hEn.al
        have cA := hEn.bA.cell
        have cZ := size_any hal
        have HT : Aside (todo L rk s ws path k = todo L rk s ws path0 r0) := by
          show _ = _
          rw [← HP.out.2.1, todo, todo, ← HPOS.out, hge]
        by_cases hkl : k < L.length
        · have HBg := HK.out.1 hkl
          have hkb : ((k : Int) == (L.length : Int)) = false := by rw [beq_eq_false_iff_ne]; omega
          have cF := nameOf_any hal k hkl
          have hbs := begins_size HBg
          rw [rest_size] at hbs
          have hsz := HN.out k hkl
          have ca := hD2.at'.cell
          have hEe := HEE.out _ hD2.els
          have cb := hEe.bE.cell
          obtain ⟨n, hn⟩ : ∃ n, ws[pos + (nmR L rk k).size]? = some n := ⟨_, List.getElem?_eq_getElem (by have := HW.out.len; omega)⟩
          have hns := HW.out.small n (List.mem_of_getElem? hn)
          have ce : wd.cell? ⟨g, pos + (nmR L rk k).size, none⟩ = some (.int .i32 ((n : Nat) : Int)) := by
            rw [hEe.row.cellAt _ (by omega)]
            unfold w32
            rw [List.getElem?_map, hn]
            rfl
          have HOk : Aside (okR L rk s ws pos k = (n != 0)) := by
            show _ = _
            unfold okR wid
            rw [HBg, List.getD_eq_getElem?_getD, hn, Bool.true_and]
            rfl
          have HWID : Aside (wid L rk k = (nmR L rk k).size) := rfl
          have hgl := hEe.row.lt g rfl
          have hel := hEe.bE.lt
          have HK0 : Aside (geR L rk s ws pos r = geR L rk s ws pos k) := hge
          clear hge hal HBg hn hEe hEn HK
          generalize hX : nmR L rk k = X at *
          clear hX
          go_wp2_with (first
            | (go_at_call 14; refine cZ.mono ?_; rintro e w' ⟨rfl, hw⟩; obtain rfl := hw.symm))
          refine cF.mono ?_
          rintro e w2 ⟨rfl, hb2⟩
          have hD3 := hD2.keeps hb2
          have ce2 := (hb2.cell (p := ⟨g, pos + X.size, none⟩) (by show g < wd.heap.size; omega)).trans ce
          have cb2 := (hb2.cell (p := ⟨Eb, 0, none⟩) (by show Eb < wd.heap.size; omega)).trans cb
          have ca2 := hD3.at'.cell
          have cp2 := hD3.pb.cell
          have hidx : (pos : Int) + (X.size : Int) < (s.size : Int) + 1 := by omega
          clear hb2 ce cb ca cA cZ cF hD2
          by_cases hn0 : n = 0
          · have hnb : ((n : Int) == 0) = true := by rw [beq_iff_eq]; omega
            have HS : Aside (geR L rk s ws pos k = geR L rk s ws pos (k + 1)) := geR_skip he (by rw [HOk.out, hn0]; rfl)
            clear hn0
            go_wp2
            go_roundg ((s.size - pos) * 41 + (L.length - (k + 1)))
            case measure => omega
            case rel =>
              refine ⟨path, k + 1, vq, by go_num, by omega, by rw [← HPOS.out]; exact Nat.le_refl _, by rw [← HPOS.out]; omega, by rw [← HPOS.out]; exact hD3, ?_, ?_, HP.out.2.2⟩
              · rw [← HPOS.out, ← HS.out, ← HK0.out]; exact HP.out.1
              · rw [← HT.out, todo, todo, ← HPOS.out, ← HS.out]
          · have hnb : ((n : Int) == 0) = false := by rw [beq_eq_false_iff_ne]; omega
            have hok : okR L rk s ws pos k = true := by rw [HOk.out, bne_iff_ne]; exact hn0
            have HT2 : Aside (todo L rk s ws (path ++ [k]) 0 = todo L rk s ws path0 r0) := by
              show _ = _
              rw [← HT.out]
              exact (todo_take HN1.out (by rw [← HPOS.out]; omega) hkl (by rw [← HPOS.out]; exact hok)).symm
            have HPS2 : Aside (posP L rk (path ++ [k]) = pos + X.size) := by
              show _ = _
              rw [posP_snoc, ← HPOS.out, HWID.out]
            have HG2 : Aside (geR L rk s ws (pos + X.size) 0 ≠ []) := by
              show _ ≠ _
              rw [← waysAt_ge HN1.out]
              refine ways_ne HN1.out HW.out _ _ (Nat.le_refl _) ?_
              have hok2 := hok
              unfold okR at hok2
              rw [Bool.and_eq_true, bne_iff_ne, HWID.out] at hok2
              exact hok2.2
            have HR2 : Aside (∀ x ∈ path ++ [k], x < L.length) := fun x hx => by
              rcases List.mem_append.1 hx with h | h
              · exact HP.out.2.2 x h
              · rw [List.mem_singleton.1 h]; exact hkl
            clear hok hn0
            go_wp2_with (first
              | (at_builtin; refine wpList_append_own_at _ rfl _ _ 37 rfl B0 3 i0 (.int .i64 0) 1 8 Try.underlying37 hi hz0 hz1 hz2 rfl (by decide) _ _ _ rfl (hD3.row.alloc _) ⟨w2.heap.size, 0, none⟩ 1 1 [.int .i64 (k : Int)] rfl rfl (cell_one_new _ _ _) (by simp [Value.oneCell']) (by unfold maxLen; omega) (by omega) (by have := hD3.els.size; simp; omega) ?_))
            intro v' w4 hown' hgrow _ hob
            obtain ⟨⟨t1, t2⟩, ⟨t3, t4⟩, t5⟩ := hD3.take (z := X.size) hgrow hown' (by rw [World.size_alloc]; exact hob)
            obtain ⟨gq, cq, rfl⟩ := ownsRow_succ hown'
            have HD5 : Aside (DnSt B0 w0 ((w4.setCell ⟨Pb, 0, none⟩ (.slice (some ⟨gq, 0, none⟩) (path.length + 1) cq)).setCell ⟨A, 0, none⟩ (.int .i64 ((pos + X.size : Nat) : Int))) A Pb v.ownBlock (path ++ [k]) (pos + X.size) (.slice (some ⟨gq, 0, none⟩) (path.length + 1) cq)) := t5
            clear hown' hgrow hD3 t5 ca2 cp2 cb2 ce2 hob
            go_wp2
            go_roundg ((s.size - (pos + X.size)) * 41 + L.length)
            case measure => omega
            case rel => exact ⟨path ++ [k], 0, _, rfl, Nat.zero_le _, by rw [HPS2.out]; omega, by rw [HPS2.out]; omega, by rw [HPS2.out]; exact HD5.out, ⟨.inr (by rw [HPS2.out]; exact HG2.out), HT2.out, HR2.out⟩⟩
        · obtain rfl : k = L.length := by omega
          have hkb : ((L.length : Int) == (L.length : Int)) = true := by rw [beq_iff_eq]
          have HF : Aside (path = path0 ∧ todo L rk s ws path0 r0 = restP L rk s ws path0) := by
            have hg0 : geR L rk s ws pos r = [] := by rw [hge, geR_none he (Nat.le_refl _)]
            rcases HP.out.1 with h | h
            · refine ⟨h, ?_⟩
              rw [← HT.out, h]
              exact todo_none (by rw [← h, ← HPOS.out]; exact he) (Nat.le_refl _)
            · exact absurd hg0 h
          clear hge hal hEn HK
          go_wp2_with (first
            | (go_at_call 14; refine cZ.mono ?_; rintro e w' ⟨rfl, hw⟩; obtain rfl := hw.symm))
          go_ret
          obtain ⟨h1, h2⟩ := HF.out
          refine .inr ⟨rfl, ⟨vq, ?_⟩, h2⟩
          rw [← h1, ← HPOS.out]
          exact hD2
    · have hez : ¬ (pos : Int) < (s.size : Int) := by omega
      obtain rfl : pos = s.size := by omega
      clear hEn
      go_wp2
      go_ret
      exact .inl ⟨rfl, path, ⟨vq, hD⟩, HPOS.out.symm, HP.out.2.2, by rw [← HP.out.2.1]; exact todo_end HPOS.out.symm⟩
end Go.Proofs.Ytaijphanpolegaa.Utf
