/-
  The law on all ways walked: for every list of up to 1048576 texts and every text of up to 1048576 bytes it answers true.
-/
import Derived.Test.YtaijphanpolegaaAllm
import Derived.Test.YtaijphanpolegaaSen
import Derived.Test.YtaijphanpolegaaRge
import Derived.Test.YtaijphanpolegaaAwk3
import Derived.Test.YtaijphanpolegaaNam
import Derived.Maps.OwnIn
namespace Go.Proofs.Ytaijphanpolegaa.Utf
open Go Go.Lib Go.RowKit Go.Shelf
attribute [local go_sem] Oper.semAt_some

theorem infoSl : (Try.prog.info? 37).map (fun i => (i.zero, i.size, i.bytes)) = some (some (.slice none 0 0), 1, 24) := by kernel_rfl
/-- What the loop over all ways keeps: the ways that came, in a list of lists of its own. -/
structure AllSt (W9 : World) (Q : Nat) (O : Nat → Prop) (pre : List (List Nat)) (W : World) : Prop where
  els : Els (fun k => k = Q) W9 W
  lo : ∀ k, O k → W9.heap.size ≤ k ∧ k < W.heap.size
  ll : ∃ v, Boxed W Q 45 v ∧ LL W9.heap.size (fun j => W9.heap.size + 2 ≤ j ∧ ¬ O j) v pre W
theorem AllSt.next {W9 : World} {Q : Nat} (hQ : Q < W9.heap.size) {O O' : Nat → Prop} {pre : List (List Nat)} {W1 W2 : World} (h : AllSt W9 Q O pre W1) (he : Els (fun k => O k ∨ k = W9.heap.size ∨ k = W9.heap.size + 1) W1 W2) (ho : ∀ k, O' k → O k ∨ (W1.heap.size ≤ k ∧ k < W2.heap.size)) : AllSt W9 Q O' pre W2 := by
  obtain ⟨h1, h2, v, h3, h4⟩ := h
  have hs1 := h1.size
  have hs2 := he.size
  have h5 : LL W9.heap.size (fun j => W9.heap.size + 2 ≤ j ∧ ¬ O j ∧ ¬ O' j) v pre W1 := h4.mono fun j hj hn => ⟨hn.1, hn.2, fun h => by
    rcases ho j h with e | e
    · exact hn.2 e
    · omega⟩
  refine ⟨h1.trans_new he ?_, fun k hk => ?_, v, he.boxed h3 ?_, (h5.els he ?_).mono ?_⟩
  · rintro i hi (h | h | h)
    · have := h2 i h; omega
    · omega
    · omega
  · rcases ho k hk with h | h
    · have := h2 k h; omega
    · omega
  · rintro (h | h | h)
    · have := h2 Q h; omega
    · omega
    · omega
  · rintro j ⟨hj, hn, _⟩ (h | h | h)
    · exact hn h
    · omega
    · omega
  · rintro j hj ⟨hj1, _, hn⟩
    exact ⟨hj1, hn⟩
theorem AllSt.snoc {W9 : World} {Q : Nat} (hQ : Q < W9.heap.size) {O : Nat → Prop} {pre : List (List Nat)} {x : List Nat} {W wr w4 : World} {v v' u : Value} {us : List Value} {o : Obj} (h1 : Els (fun k => k = Q) W9 W) (hlo : ∀ k, O k → W9.heap.size ≤ k ∧ k < W.heap.size) (hbQ : Boxed W Q 45 v)
    (hrow : W.ownsRow W9.heap.size 37 1 v pre.length us) (hus : RowsN W W9.heap.size (fun j => W9.heap.size + 2 ≤ j ∧ ¬ O j) us pre) (hown : ∀ j, v.ownBlock = some j → W9.heap.size + 2 ≤ j ∧ ¬ O j)
    (hx : W.ownsRow (W9.heap.size + 2) 3 1 u x.length (nums x)) (hxO : ∀ j, u.ownBlock = some j → ¬ O j) (hb : Below W.heap.size W wr) (hg : (wr.alloc o).grownBy w4 v.ownBlock) (hr : w4.ownsRow W9.heap.size 37 1 v' (pre.length + 1) (us ++ [u])) (ho : v'.ownBlock = v.ownBlock ∨ v'.ownBlock = some (wr.alloc o).heap.size) (hW : W9.heap.size + 2 ≤ W.heap.size) :
    (w4.cell? ⟨Q, 0, none⟩ = some v ∧ w4.frozen? ⟨Q, 0, none⟩ = false) ∧ (W.heap.size ≤ (w4.setCell ⟨Q, 0, none⟩ v').heap.size ∧ (∀ k, O k ∨ k = W9.heap.size ∨ k = W9.heap.size + 1 → (w4.setCell ⟨Q, 0, none⟩ v').heap[k]? = W.heap[k]?) ∧ AllSt W9 Q O (pre ++ [x]) (w4.setCell ⟨Q, 0, none⟩ v')) := by
  have hbs := hb.size
  have hgs := hg.size
  rw [World.size_alloc] at hgs
  have e0 : Els (fun j => v.ownBlock = some j) W wr := Els.of_below hb
  have e1 : Els (fun j => v.ownBlock = some j) W w4 := (e0.alloc o).trans (Els.grown hg fun j hj => hj)
  have hx' : W.ownsRow W9.heap.size 3 1 u x.length (nums x) := ⟨hx.1, hx.2.imp id fun ⟨g, cap, cur, k1, k2, k3⟩ => ⟨g, cap, cur, k1, by omega, k3⟩⟩
  have l1 : LL W9.heap.size (fun j => W9.heap.size + 2 ≤ j ∧ ¬ O j) v' (pre ++ [x]) w4 := by
    refine LL.snoc (W := wr) (o := o) ((Els.of_below (O := fun _ => False) hb).row hrow fun _ _ => id) (hus.els (Els.of_below (O := fun _ => False) hb) fun _ _ => id) ((Els.of_below (O := fun _ => False) hb).row hx' fun _ _ => id) (fun j hj => ⟨(hx.lt j hj).1, hxO j hj⟩) hown hg hr ho ⟨by omega, fun h => ?_⟩
    have := hlo _ h
    omega
  have b1 : Boxed w4 Q 45 v := e1.boxed hbQ fun h => by have := hown Q h; omega
  have eQ : Els (fun k => k = Q) w4 (w4.setCell ⟨Q, 0, none⟩ v') := Els.grown (grownBy_setCell' w4 Q v') fun j hj => (Option.some.inj hj).symm
  have hqs := eQ.size
  refine ⟨⟨b1.cell, b1.frozen⟩, by omega, fun k hk => ?_, ⟨(h1.trans_new e1 fun i hi h => ?_).trans eQ, fun k hk => ?_, v', b1.set v', l1.els eQ fun j hj h => ?_⟩⟩
  · have hkW : k < W.heap.size ∧ k ≠ Q ∧ v.ownBlock ≠ some k := by
      rcases hk with h | h | h
      · have := hlo k h
        exact ⟨by omega, by omega, fun h2 => (hown k h2).2 h⟩
      · exact ⟨by omega, by omega, fun h2 => by have := (hown k h2).1; omega⟩
      · exact ⟨by omega, by omega, fun h2 => by have := (hown k h2).1; omega⟩
    rw [eQ.block k (by omega) hkW.2.1, e1.block k hkW.1 hkW.2.2]
  · have := (hown i h).1
    omega
  · have := hlo k hk
    omega
  · have := hj.1
    omega
set_option maxRecDepth 100000 in
set_option maxHeartbeats 4000000 in
theorem alphaAll_walk (L : List ByteArray) (al : Option Addr) (cl : Nat) (s : ByteArray) (w : World) (hlen : L.length ≤ 1048576) (hs : s.size ≤ 1048576) (hRL : ReadsO w al (L.map Value.string)) :
    Calls Try.prog 7 #[.slice al L.length cl, .string s] w fun e w' => e = .returned (.bool true) ∧ Below w.heap.size w w' := by
  refine (callsIn_wide (n := 3)).1 ?_
  have hro : Fence.wide.round = none := rfl
  have HRL : Aside (∀ W, Below w.heap.size w W → ReadsO W al (L.map Value.string)) := fun W hb => hRL.below hb
  clear hRL
  have cA := awake3_any ((w.alloc (.cells #[.string s] 9)).alloc (.cells #[.bool false] 4))
  refine callsIn_of_wp_marks Try.func7 rfl trivial ?_ hro
  simp only [Try.ntmps7, List.size_toArray, List.length_cons, List.length_nil, Nat.reduceAdd, Nat.reduceSub, Array.replicate_succ, Array.replicate_zero, List.push_toArray, List.append_toArray, List.nil_append, List.cons_append]
  gi_wp2_with (refine ⟨trivial, ?_⟩; gi_at_call 9; refine (callsIn_wide.2 cA).mono ?_)
  rintro e w1 ⟨rfl, hb1⟩
  have bS : Boxed w1 w.heap.size 9 (.string s) := (hb1.block _ (by simp; omega)).trans ((Boxed.new w 9 (.string s)).alloc _)
  have bR : Boxed w1 (w.heap.size + 1) 4 (.bool false) := by
    have := Boxed.new (w.alloc (.cells #[.string s] 9)) 4 (.bool false)
    rw [World.size_alloc] at this
    exact (hb1.block _ (by simp)).trans this
  have HB1 : Aside (Below w.heap.size w w1) := (((Below.refl w.heap.size w).alloc (Nat.le_refl _) _).alloc (by simp) _).trans (hb1.mono (by simp; omega))
  have hw1 : w.heap.size + 2 ≤ w1.heap.size := by have := hb1.size; simpa using this
  have cN := new_any L al cl w1 (by omega) (HRL.out _ HB1.out)
  clear cA hb1
  have hG := @new_good L
  generalize (newR L).1 = N1 at *
  generalize (newR L).2 = E at *
  gi_wp2_with fail
  refine ⟨trivial, (callsIn_wide.2 cN).mono ?_⟩
  rintro e w3 ⟨⟨v, rfl, hv1, hv2⟩, hb3⟩
  have HB3 : Aside (Below w.heap.size w w3) := HB1.out.trans (hb3.mono HB1.out.size)
  have bS3 : Boxed w3 w.heap.size 9 (.string s) := (hb3.block _ (by omega)).trans bS
  have bR3 : Boxed w3 (w.heap.size + 1) 4 (.bool false) := (hb3.block _ (by omega)).trans bR
  have hw3 : w.heap.size + 2 ≤ w3.heap.size := by have := hb3.size; omega
  clear cN hb3 bR bS
  by_cases hE : E = 0
  · subst hE
    obtain ⟨b, rk, rfl, hA, hRk⟩ := hv2 (by first | rfl | trivial)
    obtain ⟨_, hl40, hnm, hnd⟩ := hG (by first | rfl | trivial)
    have hLs : ∀ x ∈ L, 1 ≤ x.size ∧ x.size ≤ 12 := fun x hx => name_len (hnm x hx)
    have HA : Aside (∀ W, Below w3.heap.size w3 W → IsAlpha W b L rk) := fun W h => (hA.below h).is
    have HW1 : Aside (∀ r, r < L.length → 1 ≤ wid L rk r) := fun r hr => (nm_pos (HA.out w3 (Below.refl _ _)) hLs r hr).1
    clear hv1 hv2 hG hA
    have bA4 := Boxed.new w3 25 (.pointer (some ⟨b, 0, none⟩))
    have bS4 := bS3.alloc (.cells #[.pointer (some ⟨b, 0, none⟩)] 25)
    have bR4 := bR3.alloc (.cells #[.pointer (some ⟨b, 0, none⟩)] 25)
    have hb4 : Below w3.heap.size w3 (w3.alloc (.cells #[.pointer (some ⟨b, 0, none⟩)] 25)) := (Below.refl _ _).alloc (Nat.le_refl _) _
    have cW := ways_any (HA.out _ hb4) hLs s (by omega)
    have ca4 := bA4.cell
    have cs4 := bS4.cell
    gi_wp2_with fail
    refine ⟨trivial, (callsIn_wide.2 cW).mono ?_⟩
    rintro e w5 ⟨⟨n, ws, rfl, h0, hW⟩, hb5⟩
    have HB5 : Aside (Below w.heap.size w w5) := (HB3.out.trans (hb4.mono HB3.out.size)).trans (hb5.mono (by have := HB3.out.size; simp; omega))
    have hw5 : w3.heap.size + 1 ≤ w5.heap.size := by have := hb5.size; simpa using this
    have bA5 : Boxed w5 w3.heap.size 25 (.pointer (some ⟨b, 0, none⟩)) := (hb5.block _ bA4.lt).trans bA4
    have bS5 : Boxed w5 w.heap.size 9 (.string s) := (hb5.block _ bS4.lt).trans bS4
    have bR5 : Boxed w5 (w.heap.size + 1) 4 (.bool false) := (hb5.block _ bR4.lt).trans bR4
    have HA5 : Aside (∀ W, Below w5.heap.size w5 W → IsAlpha W b L rk) := fun W h => HA.out W (hb4.trans ((hb5.mono (by simp)).trans (h.mono (by omega))))
    have HN : Aside (∀ ws', WaysTo L rk s 0 ws' → n = min (waysN L rk s ws').length 100000) := fun ws' hw' => waysN_count HW1.out hw' (by rw [hw'.one HW1.out hW]; exact h0)
    clear HA cW hb5 hb4 ca4 cs4 bA4 bS4 bR4 bS3 bR3 h0 hW
    by_cases h300 : n > 300
    · have h300z : (n : Int) > 300 := by omega
      have bR6 := bR5.alloc (.cells #[.int .i64 (n : Int)] 3)
      have hB6 : Below w.heap.size w (w5.alloc (.cells #[.int .i64 (n : Int)] 3)) := HB5.out.alloc (by omega) _
      have cr := bR6.cell
      have fr := bR6.frozen
      have cn := (Boxed.new w5 3 (.int .i64 (n : Int))).cell
      clear bR5
      gi_wp2
      exact ⟨_, results_box4 rfl _ _ (w.heap.size + 1) (.bool true) (by rfl) (bR6.set _).cell, rfl, hB6.setCell (p := ⟨w.heap.size + 1, 0, none⟩) (by show w.heap.size ≤ w.heap.size + 1; omega) _⟩
    · have h300z : ¬ (n : Int) > 300 := by omega
      have bN6 := (Boxed.new w5 3 (.int .i64 (n : Int))).alloc (.cells #[.slice none 0 0] 45)
      have bQ6 := Boxed.new (w5.alloc (.cells #[.int .i64 (n : Int)] 3)) 45 (.slice none 0 0)
      have bR6 := (bR5.alloc (.cells #[.int .i64 (n : Int)] 3)).alloc (.cells #[.slice none 0 0] 45)
      have bS6 := (bS5.alloc (.cells #[.int .i64 (n : Int)] 3)).alloc (.cells #[.slice none 0 0] 45)
      have bA6 := (bA5.alloc (.cells #[.int .i64 (n : Int)] 3)).alloc (.cells #[.slice none 0 0] 45)
      have cn := (Boxed.new w5 3 (.int .i64 (n : Int))).cell
      have ca := bA6.cell
      have cs := bS6.cell
      rw [World.size_alloc] at bQ6
      have hB6 : Below w5.heap.size w5 ((w5.alloc (.cells #[.int .i64 (n : Int)] 3)).alloc (.cells #[.slice none 0 0] 45)) := ((Below.refl _ _).alloc (Nat.le_refl _) _).alloc (by simp) _
      gi_wp2_with (refine ⟨trivial, ?_⟩; gi_at_call 23; refine (each_in Fence.wide _ trivial hro _ _ _).mono ?_; rintro e w' ⟨rfl, rfl⟩)
      have bA9 := (Boxed.new ((w5.alloc (.cells #[.int .i64 (n : Int)] 3)).alloc (.cells #[.slice none 0 0] 45)) 25 (.pointer (some ⟨b, 0, none⟩))).alloc (.cells #[.string s] 9)
      have bT9 := Boxed.new (((w5.alloc (.cells #[.int .i64 (n : Int)] 3)).alloc (.cells #[.slice none 0 0] 45)).alloc (.cells #[.pointer (some ⟨b, 0, none⟩)] 25)) 9 (.string s)
      have bR9 := (bR6.alloc (.cells #[.pointer (some ⟨b, 0, none⟩)] 25)).alloc (.cells #[.string s] 9)
      have bS9 := (bS6.alloc (.cells #[.pointer (some ⟨b, 0, none⟩)] 25)).alloc (.cells #[.string s] 9)
      have bP9 := (bA6.alloc (.cells #[.pointer (some ⟨b, 0, none⟩)] 25)).alloc (.cells #[.string s] 9)
      have bN9 := (bN6.alloc (.cells #[.pointer (some ⟨b, 0, none⟩)] 25)).alloc (.cells #[.string s] 9)
      have bQ9 := (bQ6.alloc (.cells #[.pointer (some ⟨b, 0, none⟩)] 25)).alloc (.cells #[.string s] 9)
      have hB9 : Below w5.heap.size w5 ((((w5.alloc (.cells #[.int .i64 (n : Int)] 3)).alloc (.cells #[.slice none 0 0] 45)).alloc (.cells #[.pointer (some ⟨b, 0, none⟩)] 25)).alloc (.cells #[.string s] 9)) := (hB6.alloc (by simp; omega) _).alloc (by simp; omega) _
      simp only [World.size_alloc] at bA9 bT9
      obtain ⟨W9, hW9⟩ : ∃ W9, ((((w5.alloc (.cells #[.int .i64 (n : Int)] 3)).alloc (.cells #[.slice none 0 0] 45)).alloc (.cells #[.pointer (some ⟨b, 0, none⟩)] 25)).alloc (.cells #[.string s] 9)) = W9 := ⟨_, rfl⟩
      have hW9s : W9.heap.size ≤ w5.heap.size + 4 ∧ w5.heap.size + 4 ≤ W9.heap.size := by rw [← hW9]; simp
      rw [hW9] at bA9 bT9 bR9 bS9 bP9 bN9 bQ9 hB9 ⊢
      clear hW9 bN6 bQ6 bR6 bS6 bA6 cn ca cs hB6 bA5 bS5 bR5
      have HBW : Aside (Below w.heap.size w W9) := HB5.out.trans (hB9.mono HB5.out.size)
      have HE9 : Aside (∀ W, Els (fun k => k = w5.heap.size + 1) W9 W → IsAlpha W b L rk) := fun W h => HA5.out W (hB9.trans (h.below (fun k hk _ => by omega) (by omega)))
      obtain ⟨i0, hi, hz0, hz1, hz2⟩ := info_parts infoSl
      refine wpIn_rangeEach (by omega) (w5.heap.size + 1 + 1) (w5.heap.size + 1 + 1 + 1) b (by first | rfl | simp) hl40 hLs s (by omega) rfl
        (AllSt W9 (w5.heap.size + 1)) (fun _ _ _ => False)
        (rk := rk) ?hIE ?hI ?hIx ⟨Els.refl _ _, fun _ h => h.elim, _, bQ9, LL.nil _ _ _⟩ ?round ?done ?stop
      case hIE =>
        rintro O pre W ⟨he, _, _⟩
        exact ⟨HE9.out W he, he.boxed bT9 (by omega), he.boxed bA9 (by omega)⟩
      case hI =>
        rintro O O' pre W1 W2 h he ho
        exact h.next (by omega) he ho
      case hIx =>
        rintro c pre W1 W2 h _
        exact h.elim
      case round =>
        rintro l O pre x post X ws W0 W ⟨he, hlo, v, hbQ, ⟨us, hrowv, hus⟩, hown⟩ hW hpre hrow hX hn hWs
        have hmem : x ∈ waysN L rk s ws := by rw [hpre]; simp
        obtain ⟨hj, hok⟩ := waysN_joins hRk hmem
        have hxl := waysN_size HW1.out hmem
        have hlenN : (waysN L rk s ws).length = pre.length + (post.length + 1) := by rw [hpre]; simp
        have hplt : pre.length < n := by have := HN.out ws hW; omega
        have HNE : Aside (∀ k (h : k < pre.length), zs x ≠ zs pre[k] ∧ pre[k].length ≤ 1048576) := fun k h => by
          have hnd2 := waysN_nodup hRk (s := s) (ws := ws)
          rw [hpre] at hnd2
          refine ⟨fun hz => ?_, ?_⟩
          · have hz' : x = pre[k] := by
              have inj : ∀ a c : List Nat, zs a = zs c → a = c := fun a c h => by
                unfold zs at h
                exact (List.map_inj_right (f := fun r : Nat => (r : Int)) (fun p q hpq => by exact Int.ofNat.inj hpq)).1 h
              exact inj _ _ hz
            exact (List.nodup_append.1 hnd2).2.2 pre[k] (List.getElem_mem h) x List.mem_cons_self hz'.symm
          · have := waysN_size HW1.out (s := s) (ws := ws) (x := pre[k]) (by rw [hpre]; exact List.mem_append_left _ (List.getElem_mem h))
            omega
        have hal := HE9.out W he
        have HOK : Aside (okNums L (zs x)) := hok
        obtain ⟨ax, cx, hvx, hrx⟩ := row_reads hrow
        have hrx' : ReadsO W ax (ints (zs x)) := by rw [nums_ints] at hrx; exact hrx.any
        have HRX : Aside (∀ W', Below W.heap.size W W' → ReadsO W' ax (ints (zs x))) := fun W' h => hrx'.below h
        have cJ := join_any hal (fun x hx => (hLs x hx).2) (zs x) ax cx (by rw [zs_len]; omega) hrx'
        rw [hj, zs_len] at cJ
        obtain ⟨av, cv, rfl, hrv⟩ := row_reads hrowv
        have HRV : Aside (∀ W', Below W.heap.size W W' → Reads W' av us) := fun W' h => hrv.below h
        rw [hvx] at hrow ⊢
        have HROW : Aside (W.ownsRow (W9.heap.size + 2) 3 1 (.slice ax x.length cx) x.length (nums x) ∧ ∀ j, (Value.slice ax x.length cx).ownBlock = some j → ¬ O j) := ⟨hrow, fun j hj => by rw [← hvx] at hj; rw [← Option.some.inj hj]; exact hX⟩
        have HV : Aside (W.ownsRow W9.heap.size 37 1 (.slice av pre.length cv) pre.length us ∧ RowsN W W9.heap.size (fun j => W9.heap.size + 2 ≤ j ∧ ¬ O j) us pre ∧ ∀ j, (Value.slice av pre.length cv).ownBlock = some j → W9.heap.size + 2 ≤ j ∧ ¬ O j) := ⟨hrowv, hus, hown⟩
        have HELS : Aside (Els (fun k => k = w5.heap.size + 1) W9 W ∧ ∀ k, O k → W9.heap.size ≤ k ∧ k < W.heap.size) := ⟨he, hlo⟩
        have bP := he.boxed bP9 (by omega)
        have bSx := he.boxed bS9 (by omega)
        have bNx := he.boxed bN9 (by omega)
        have cp := bP.cell
        clear hmem hj hok hlenN hpre hW hrx hrx' hrv hvx hrow hrowv hus hown hal
        gi_wp2
        refine ⟨trivial, ?_⟩
        gi_wp2_with fail
        refine ⟨trivial, (CallsIn.inRound l (callsIn_wide.2 cJ)).mono ?_⟩
        rintro e w10 ⟨hor, hb10⟩
        obtain rfl : e = .returned (.tuple #[.string s, .int .i64 0]) := by
          rcases hor with ⟨_, h⟩ | ⟨h, _⟩
          · exact h
          · exact absurd HOK.out h
        have cs10 := (Boxed.cell (W := w10) ((hb10.block _ bSx.lt).trans bSx))
        have cn10 := (Boxed.cell (W := w10) ((hb10.block _ bNx.lt).trans bNx))
        have cq10 := (Boxed.cell (W := w10) ((hb10.block _ hbQ.lt).trans hbQ))
        have HB10 : Aside (Below W.heap.size W w10) := hb10
        have hpz : ¬ (pre.length : Int) ≥ (n : Int) := by omega
        clear hor cJ cp hb10
        gi_wp2
        have hpd : decide (n ≤ pre.length) = false := decide_eq_false (by omega)
        rw [hpd]
        clear hpd
        gi_loopg [65] pre.length (fun g1 vi wr => ∃ k : Nat, vi = .int .i64 (k : Int) ∧ k ≤ pre.length ∧ pre.length - k ≤ g1 ∧ Aside (Below W.heap.size W wr))
        case atStart => exact ⟨0, rfl, Nat.zero_le _, Nat.le_refl _, HB10⟩
        case round =>
          clear cs10 cn10 cq10 HB10
          obtain ⟨k, rfl, hk, hg1, HBr⟩ := hrel
          have hcl : pre.length ≤ cv := by
            rcases HV.out.1.2 with ⟨h1, h2⟩ | ⟨g, cap, cur, h1, _, _, h2, _⟩
            · omega
            · cases h1; exact h2
          by_cases hlt : k < pre.length
          · have hltz : (k : Int) < (pre.length : Int) := by omega
            obtain ⟨u, hu1, hu2, _⟩ := HV.out.2.1.2 k hlt
            obtain ⟨au, cu, rfl, hru⟩ := row_reads hu2
            rw [nums_ints] at hru
            have hul : k < us.length := (List.getElem?_eq_some_iff.1 hu1).1
            obtain ⟨gv, rfl, _, ev⟩ := (HRV.out _ HBr.out) k hul
            rw [(List.getElem?_eq_some_iff.1 hu1).2] at ev
            have cM := sameInts_any (zs x) (zs pre[k]) ax au cx cu wr (by rw [zs_len]; omega) (by rw [zs_len]; have := (HNE.out k hlt).2; omega) (HRX.out _ HBr.out) (hru.any.below HBr.out)
            rw [zs_len, zs_len] at cM
            have HNK : Aside (zs x ≠ zs pre[k]) := (HNE.out k hlt).1
            generalize hpk : pre[k] = y at *
            clear hpk hu1 hu2 hru hul
            gi_wp2_with fail
            refine ⟨trivial, (CallsIn.inRound l (callsIn_wide.2 cM)).mono ?_⟩
            rintro e w11 ⟨hor, hb11⟩
            obtain rfl : e = .returned (.bool false) := by
              rcases hor with ⟨h, _⟩ | ⟨_, h⟩
              · exact absurd h HNK.out
              · exact h
            have HB11 : Aside (Below W.heap.size W w11) := HBr.out.trans (hb11.mono HBr.out.size)
            clear hor cM hb11 ev
            gi_wp2
            gi_roundg (pre.length - (k + 1))
            case measure => omega
            case rel => exact ⟨k + 1, by go_num, by omega, Nat.le_refl _, HB11⟩
          · have hltz : ¬ (k : Int) < (pre.length : Int) := by omega
            obtain rfl : k = pre.length := by omega
            have cq := (Boxed.cell (W := wr) ((HBr.out.block _ hbQ.lt).trans hbQ))
            have hrowr := (Els.of_below (O := fun _ => False) HBr.out).row HV.out.1 fun _ _ => id
            have hWr := HBr.out.size
            gi_wp2_with (first
              | (gi_at_builtin; refine wpListIn_append_own_at _ rfl _ _ 45 rfl W9.heap.size 37 i0 (.slice none 0 0) 1 24 Try.underlying45 hi hz0 hz1 hz2 rfl (by decide) _ _ _ rfl (hrowr.alloc _) ⟨wr.heap.size, 0, none⟩ 1 1 [.slice ax x.length cx] rfl rfl (cell_one_new _ _ _) (by simp [Value.oneCell']) (by unfold maxLen; omega) (by omega) (by simp; omega) ?_))
            intro v' w4 hown' hgrow _ hob
            have hob : v'.ownBlock = (Value.slice av pre.length cv).ownBlock ∨ v'.ownBlock = some (wr.alloc (.cells #[Value.slice ax x.length cx] 37)).heap.size := by rw [World.size_alloc]; exact hob
            obtain ⟨t1, t2⟩ := AllSt.snoc (by omega) HELS.out.1 HELS.out.2 hbQ HV.out.1 HV.out.2.1 HV.out.2.2 HROW.out.1 HROW.out.2 HBr.out hgrow hown' hob hWs
            obtain ⟨gq, cq', rfl⟩ := ownsRow_succ hown'
            have t3 := t1.1
            have t4 := t1.2
            have HT2 : Aside _ := t2
            clear hown' hgrow hob t1 t2 hrowr cq
            gi_wp2
            exact HT2.out
      case done =>
        rintro O ws W hW ⟨he, _, v, hbQ, ⟨us, hrowv, _⟩, _⟩ hK hWs
        have hnn := HN.out ws hW
        obtain rfl : n = (waysN L rk s ws).length := by omega
        obtain ⟨av, cv, rfl, _⟩ := row_reads hrowv
        have cq := hbQ.cell
        have bNx := he.boxed bN9 (by omega)
        have cn := bNx.cell
        have bRx := he.boxed bR9 (by omega)
        have cr := bRx.cell
        have fr := bRx.frozen
        have HB : Aside (Below w.heap.size w W) := HBW.out.trans (he.below (fun k hk _ => by omega) (by omega))
        generalize (waysN L rk s ws).length = N at *
        clear hrowv hnn
        have hKz : (W.setCell ⟨w.heap.size + 1, 0, none⟩ (.bool true)).heap[W9.heap.size]? = some (.deferred (some [])) := by
          rw [(grownBy_setCell' W (w.heap.size + 1) (.bool true)).block W9.heap.size (by omega) (fun h => by injection h; omega)]
          exact hK
        have HRz : Aside ((((W.setCell ⟨w.heap.size + 1, 0, none⟩ (.bool true)).putObj W9.heap.size (.deferred none)).cell? ⟨w.heap.size + 1, 0, none⟩ = some (.bool true))) := by
          have : Boxed ((W.setCell ⟨w.heap.size + 1, 0, none⟩ (.bool true)).putObj W9.heap.size (.deferred none)) (w.heap.size + 1) 4 (.bool true) := (World.putObj_heap_other (by omega)).trans (bRx.set _)
          exact this.cell
        have HBz : Aside (Below w.heap.size w (W.setCell ⟨w.heap.size + 1, 0, none⟩ (.bool true))) := HB.out.setCell (p := ⟨w.heap.size + 1, 0, none⟩) (by show w.heap.size ≤ w.heap.size + 1; omega) _
        gi_wp2
        refine ⟨by simp, .inl ⟨_, _, rfl, run_takeDeferred hKz, ?_⟩⟩
        exact ⟨_, results_box4 rfl _ _ (w.heap.size + 1) _ (by rfl) HRz.out, rfl, HBz.out.trans (belowK_b (w := w) (Nat.le_refl _) _ W9.heap.size _ _ (by omega) hKz rfl rfl)⟩
      case stop =>
        rintro c pre ws W _ _ h
        exact h.elim
  · obtain rfl := hv1 hE
    have hEb : (E == 0) = false := by rw [beq_eq_false_iff_ne]; exact hE
    have hEn : (E != 0) = true := by rw [bne, hEb]; rfl
    have bR4 := bR3.alloc (.cells #[.pointer none] 25)
    have hB4 : Below w.heap.size w (w3.alloc (.cells #[.pointer none] 25)) := HB3.out.alloc (by omega) _
    have cr := bR4.cell
    have fr := bR4.frozen
    have ca := (Boxed.new w3 25 (.pointer none)).cell
    clear hv1 hv2 hG bR3
    gi_wp2
    exact ⟨_, results_box4 rfl _ _ (w.heap.size + 1) (.bool true) (by rfl) (bR4.set _).cell, rfl, hB4.setCell (p := ⟨w.heap.size + 1, 0, none⟩) (by show w.heap.size ≤ w.heap.size + 1; omega) _⟩
end Go.Proofs.Ytaijphanpolegaa.Utf
