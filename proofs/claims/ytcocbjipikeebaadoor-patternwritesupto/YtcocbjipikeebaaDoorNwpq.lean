/-
  The numbers of the letters in the order of their texts' lengths: the sort that the program's New asks for, with its comparison of lengths.
-/
import Derived.Test.YtcocbjipikeebaaDoorNwmq
import Derived.Test.YtcocbjipikeebaaDoorGsrt
namespace Go.Proofs.YtcocbjipikeebaaDoor.Utf
open Go Go.Lib Go.RowKit Go.Sort Go.Proofs

/-- A number as a cell. -/
def encF (n : Nat) (x : Fin n) : Value := .int .i64 ((x : Nat) : Int)
/-- The difference of two letters' lengths. -/
def lenCf (L : List ByteArray) (x y : Fin L.length) : Int := ((L[y.1]).size : Int) - ((L[x.1]).size : Int)
theorem encF_one (n : Nat) : OneCell (encF n) := fun _ => rfl
theorem lenCf_swo (L : List ByteArray) : SWO (ltOf (lenCf L)) where
  irrefl x := by unfold ltOf lenCf; exact decide_eq_false (by omega)
  trans x y z h1 h2 := by
    unfold ltOf lenCf at *
    have := of_decide_eq_true h1
    have := of_decide_eq_true h2
    exact decide_eq_true (by omega)
  ntrans x y z h1 h2 := by
    unfold ltOf lenCf at *
    have := of_decide_eq_false h1
    have := of_decide_eq_false h2
    exact decide_eq_false (by omega)

theorem sw_grown {α : Type} [Inhabited α] {enc : α → Value} {w W : World} {g : Nat} {d : Array α} (h : SW enc w g 0 d W) : w.grownBy W (some g) := by
  obtain ⟨n, os, rfl⟩ := h
  unfold sortWorld
  refine ⟨rfl, rfl, rfl, by simp [grow, putRow, mapBlock, Sort.ahead], fun k hk hne => ?_⟩
  rw [heap_grow_old _ _ (by simpa [putRow, mapBlock, Sort.ahead] using hk)]
  have : g ≠ k := fun e => hne (by rw [e])
  simp [putRow, mapBlock, Sort.ahead, Array.getElem?_modify, this]

set_option maxHeartbeats 1000000 in
/-- The comparison that New hands to the sort. -/
theorem cmp_reads (L : List ByteArray) (sz : Nat) (hsm : ∀ s ∈ L, s.size ≤ 16777216) (B b : Nat) (a1 : Option Addr) (c1 : Nat) (g : Nat) [Inhabited (Fin L.length)] (w : World)
    (hbox : w.cell? ⟨B, 0, none⟩ = some (.pointer (some ⟨b, 0, none⟩))) (hc : w.cell? ⟨b, 0, none⟩ = some (.slice a1 L.length c1)) (hr : Reads w a1 (L.map Value.string)) (hB : B ≠ g) (hb : b ≠ g) (hBl : B < w.heap.size) (hbl : b < w.heap.size) (ha : ∀ x, a1 = some ⟨x, 0, none⟩ → x ≠ g) :
    CmpReads Tryd.prog 25 #[.pointer (some ⟨B, 0, none⟩)] (encF L.length) (lenCf L) g 0 sz w := by
  intro m os dk hs x y
  have hS : SW (encF L.length) w g 0 dk (sortWorld (encF L.length) w g 0 m dk os) := ⟨m, os, rfl⟩
  have hG := sw_grown hS
  generalize sortWorld (encF L.length) w g 0 m dk os = V at *
  have keep : ∀ p : Addr, p.block < w.heap.size → p.block ≠ g → V.cell? p = w.cell? p := fun p h1 h2 => by
    simp only [World.cell?, hG.block p.block h1 (fun e => h2 (Option.some.inj e))]
  have e1 := (keep ⟨B, 0, none⟩ hBl hB).trans hbox
  have e2 := (keep ⟨b, 0, none⟩ hbl hb).trans hc
  obtain ⟨gx, rfl, hgx, ex⟩ := hr x.1 (by simp)
  obtain ⟨gy, hgy', hgy, ey⟩ := hr y.1 (by simp)
  obtain rfl : gx = gy := by injection hgy' with h; injection h
  have e3 := (keep ⟨gx, x.1, none⟩ hgx (ha gx rfl)).trans ex
  have e4 := (keep ⟨gx, y.1, none⟩ hgx (ha gx rfl)).trans ey
  rw [List.getElem_map] at e3 e4
  have hx := hsm _ (List.getElem_mem x.2)
  have hy := hsm _ (List.getElem_mem y.2)
  unfold lenCf encF
  have hxz : (x.1 : Int) < (L.length : Int) := by omega
  have hyz : (y.1 : Int) < (L.length : Int) := by omega
  show Calls _ _ #[.int .i64 ((x.1 : Nat) : Int), .int .i64 ((y.1 : Nat) : Int), .pointer (some ⟨B, 0, none⟩)] V _
  clear hS hG keep hr hbox hc hsm ex ey
  generalize L[x.1] = X at *
  generalize L[y.1] = Y at *
  generalize x.1 = i at *
  generalize y.1 = j at *
  go_enter Tryd.func25, Tryd.ntmps25
  go_wp2_with fail
  go_quiet (fail)
  go_wp2
  go_ret
  exact ⟨rfl, _, rfl⟩
/-- The ranks of letters: each number once, the longer text ahead. -/
structure Ranked (L : List ByteArray) (rk : List Nat) : Prop where
  perm : rk.Perm (List.range L.length)
  sorted : ∀ i j, i < j → j < L.length → (nmR L rk j).size ≤ (nmR L rk i).size

/-- An alphabet whose memory is new from a place on. -/
structure AlphaFrom (W : World) (B b : Nat) (L : List ByteArray) (rk : List Nat) : Prop where
  obj : ∃ a1 c1 a2 c2, W.heap[b]? = some (.cells #[.slice a1 L.length c1, .slice a2 L.length c2] 60) ∧ Reads W a1 (L.map Value.string) ∧ Reads W a2 (rk.map fun r : Nat => Value.int .i64 (r : Int)) ∧ (∀ x, a1 = some ⟨x, 0, none⟩ → B ≤ x) ∧ (∀ x, a2 = some ⟨x, 0, none⟩ → B ≤ x)
  from' : B ≤ b
  len : rk.length = L.length
  small : L.length ≤ 40
  ranks : ∀ r ∈ rk, r < L.length
theorem AlphaFrom.is {W : World} {B b : Nat} {L : List ByteArray} {rk : List Nat} (h : AlphaFrom W B b L rk) : IsAlpha W b L rk := by
  obtain ⟨⟨a1, c1, a2, c2, h1, h2, h3, _, _⟩, _, h5, h6, h7⟩ := h
  exact ⟨⟨a1, c1, a2, c2, h1, h2, h3⟩, h5, h6, h7⟩
theorem AlphaFrom.above {W W' : World} {B b : Nat} {L : List ByteArray} {rk : List Nat} (h : AlphaFrom W B b L rk) (hs : W.heap.size ≤ W'.heap.size) (hk : ∀ k, B ≤ k → k < W.heap.size → W'.heap[k]? = W.heap[k]?) : AlphaFrom W' B b L rk := by
  obtain ⟨⟨a1, c1, a2, c2, h1, h2, h3, h8, h9⟩, h4, h5, h6, h7⟩ := h
  refine ⟨⟨a1, c1, a2, c2, (hk b h4 (Array.getElem?_eq_some_iff.1 h1).1).trans h1, fun j hj => ?_, fun j hj => ?_, h8, h9⟩, h4, h5, h6, h7⟩
  · obtain ⟨g, e1, e2, e3⟩ := h2 j hj
    refine ⟨g, e1, by omega, ?_⟩
    rw [← e3]
    simp only [World.cell?, hk g (h8 g e1) e2]
  · obtain ⟨g, e1, e2, e3⟩ := h3 j hj
    refine ⟨g, e1, by omega, ?_⟩
    rw [← e3]
    simp only [World.cell?, hk g (h9 g e1) e2]
theorem AlphaFrom.below {W W' : World} {B b : Nat} {L : List ByteArray} {rk : List Nat} (h : AlphaFrom W B b L rk) (hb : Below W.heap.size W W') : AlphaFrom W' B b L rk := h.above hb.size fun k _ hk => hb.block k hk

theorem extract_all_list {α : Type} (d : Array α) (n : Nat) (h : d.size = n) : (d.extract 0 n).toList = d.toList := by subst h; simp

/-- New's sort, from the world in which its two lists are full. -/
theorem sorted_any (L : List ByteArray) (h1 : 1 ≤ L.length) (h40 : L.length ≤ 40) (hsm : ∀ s ∈ L, s.size ≤ 16777216) (w W : World) (v1 v2 : Value)
    (h : NewSt w W (L.map Value.string) ((List.range L.length).map fun r : Nat => Value.int .i64 (r : Int)) v1 v2) :
    Calls Tryd.prog 24 #[v2, .func (.func 25) #[] #[.pointer (some ⟨w.heap.size + 1, 0, none⟩)]] W fun e w' => e = .returned (.tuple #[]) ∧ Boxed w' (w.heap.size + 1) 30 (.pointer (some ⟨w.heap.size, 0, none⟩)) ∧ Below w.heap.size w w' ∧ ∃ rk, AlphaFrom w' w.heap.size w.heap.size L rk ∧ Ranked L rk := by
  have hr1 := h.r1
  have hr2 := h.r2
  rw [List.length_map] at hr1
  rw [List.length_map, List.length_range] at hr2
  obtain ⟨a1, c1, rfl, q1⟩ := row_reads hr1
  have hap := rows_lie_apart hr2 hr1 (by decide)
  have htwo := h.two
  obtain ⟨m, hm⟩ : ∃ m, L.length = m + 1 := ⟨L.length - 1, by omega⟩
  haveI : Inhabited (Fin L.length) := ⟨⟨0, by omega⟩⟩
  rcases hr2.2 with ⟨_, h0⟩ | ⟨g, cap, cur, rfl, hg, _⟩
  · omega
  have hgl := (hr2.lt g rfl).2
  obtain ⟨d0, hd0⟩ : ∃ d0 : Array (Fin L.length), d0 = Array.ofFn (fun i : Fin L.length => i) := ⟨_, rfl⟩
  have hsz : d0.size = L.length := by rw [hd0]; simp
  have hget : ∀ j (hj : j < L.length), d0[j]! = ⟨j, hj⟩ := fun j hj => by
    rw [getElem!_pos d0 j (by omega)]
    simp [hd0]
  have hH : Holds (encF L.length) W g 0 d0 := fun j hj => by
    rw [hsz] at hj
    rw [hget j hj, Nat.zero_add]
    refine ⟨?_, hr2.frozenAt j⟩
    have := hr2.cellAt j (by omega)
    rw [this, List.getElem?_map, List.getElem?_range hj]
    rfl
  have hbg : w.heap.size + 1 ≠ g := by omega
  have hC := cmp_reads L d0.size hsm (w.heap.size + 1) w.heap.size a1 c1 g W h.box.cell h.c0 q1 hbg (by omega) h.box.lt (Array.getElem?_eq_some_iff.1 htwo).1 (fun x e => by
    rcases hap with hap | hap
    · rw [e] at hap; simp [Value.ownBlock] at hap
    · rw [e] at hap; simp [Value.ownBlock] at hap; exact hap)
  have hS := Srt.sortStable_any (encF L.length) (lenCf L) (lenCf_swo L) 25 #[.pointer (some ⟨w.heap.size + 1, 0, none⟩)] g 0 cap L.length d0 W ⟨encF_one _, hH, hgl⟩ hsz h40 (enters_of Tryd.func25 (by kernel_rfl) rfl) hC.lays
  refine hS.mono ?_
  rintro e w' ⟨rfl, d', S', P', D'⟩
  have hG := sw_grown S'
  have hz' : d'.size = L.length := P'.1.trans hsz
  have hcell := S'.holds hgl hH (by omega)
  have htw' : w'.heap[w.heap.size]? = _ := (hG.block _ (Array.getElem?_eq_some_iff.1 htwo).1 (fun e => by injection e; omega)).trans htwo
  have hBl : Below w.heap.size w w' := Below.grown h.below hG (by have := h.size; omega) (fun j hj => by injection hj; omega)
  have hget' : ∀ j (hj : j < L.length), (d'.toList.map fun x : Fin L.length => x.1)[j]? = some (d'[j]!).1 := fun j hj => by
    rw [List.getElem?_map, getElem!_pos d' j (by omega)]
    simp [show j < d'.size by omega]
  refine ⟨rfl, h.box.kept hG (fun e => by injection e; omega), hBl, d'.toList.map fun x : Fin L.length => x.1, ⟨⟨a1, c1, some ⟨g, 0, none⟩, cap, htw', ?_, ?_, fun x e => ?_, fun x e => ?_⟩, Nat.le_refl _, by simp [hz'], h40, ?_⟩, ?_, ?_⟩
  · intro j hj
    obtain ⟨g1, hg1, hg2, hg3⟩ := q1 j hj
    refine ⟨g1, hg1, Nat.lt_of_lt_of_le hg2 hG.size, ?_⟩
    rw [← hg3]
    simp only [World.cell?]
    rw [hG.block g1 hg2 (fun e => by
      injection e with e
      rcases hap with hap | hap
      · rw [hg1] at hap; simp [Value.ownBlock] at hap
      · rw [hg1] at hap; simp [Value.ownBlock] at hap; exact hap e)]
  · intro j hj
    simp only [List.length_map, Array.length_toList] at hj
    refine ⟨g, rfl, Nat.lt_of_lt_of_le hgl hG.size, ?_⟩
    have := (hcell j hj).1
    rw [Nat.zero_add] at this
    rw [this, getElem!_pos d' j hj]
    simp [encF]
  · have := (hr1.lt x (by rw [e]; rfl)).1
    omega
  · injection e with e
    injection e with e
    omega
  · intro r hr
    obtain ⟨x, _, rfl⟩ := List.mem_map.1 hr
    exact x.2
  · have p := P'.2.2
    have e1 : (d'.extract 0 L.length).toList = d'.toList := extract_all_list d' _ hz'
    have e2 : (d0.extract 0 L.length).toList = d0.toList := extract_all_list d0 _ hsz
    rw [e1, e2] at p
    have p2 := p.map fun x : Fin L.length => x.1
    have e3 : (d0.toList.map fun x : Fin L.length => x.1) = List.range L.length := by
      apply List.ext_getElem
      · simp [hsz]
      · intro i h1 h2
        simp [hd0]
    rw [e3] at p2
    exact p2
  · intro i j hij hj
    have := D' i j (Nat.zero_le _) hij hj
    unfold ltOf lenCf at this
    have := of_decide_eq_false this
    have ni : ∀ k (hk : k < L.length), nmR L (d'.toList.map fun x : Fin L.length => x.1) k = L[(d'[k]!).1] := fun k hk => by
      unfold nmR
      rw [hget' k hk, Option.getD_some, List.getElem?_eq_getElem (d'[k]!).2]
      rfl
    rw [ni i (by omega), ni j hj]
    omega
end Go.Proofs.YtcocbjipikeebaaDoor.Utf
