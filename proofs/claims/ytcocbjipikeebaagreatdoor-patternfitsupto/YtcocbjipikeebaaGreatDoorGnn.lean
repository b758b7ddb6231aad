/-
  The program's check and New: a list of words taken in.
-/
import Derived.Test.YtcocbjipikeebaaGreatDoorGxu
import Derived.Test.YtcocbjipikeebaaGreatDoorGxw
import Derived.Test.YtcocbjipikeebaaGreatDoorRjnq
namespace Go.Proofs.YtcocbjipikeebaaGreatDoor.Utf
open Go Go.Lib Go.RowKit

/-- Words that came in, in memory. -/
def ReadsW (W : World) (aw : Option Addr) (ws : List WdV) : Prop := ∀ i (hi : i < ws.length), ∃ g o, aw = some ⟨g, o, none⟩ ∧ g < W.heap.size ∧ W.cell? ⟨g, o + i * 2, none⟩ = some (.slice ws[i].ao ws[i].c.length ws[i].cap) ∧ W.cell? ⟨g, o + i * 2 + 1, none⟩ = some (.int .i64 ws[i].s) ∧ ReadsO W ws[i].ao (ints ws[i].c) ∧ (ws[i].ao = none → ws[i].cap = 0)
theorem ReadsW.below {W W' : World} {aw : Option Addr} {ws : List WdV} (h : ReadsW W aw ws) (hb : Below W.heap.size W W') : ReadsW W' aw ws := fun i hi => by
  obtain ⟨g, o, e1, e2, e3, e4, e5, e6⟩ := h i hi
  exact ⟨g, o, e1, Nat.lt_of_lt_of_le e2 hb.size, (hb.cell (p := ⟨g, _, none⟩) e2).trans e3, (hb.cell (p := ⟨g, _, none⟩) e2).trans e4, e5.below hb, e6⟩
instance okDec (L : List ByteArray) (c : List Int) : Decidable (okNums L c) := inferInstanceAs (Decidable (∀ z ∈ c, 0 ≤ z ∧ z < L.length))
/-- What is wrong with a word. -/
def chkW (L : List ByteArray) (c : List Int) (s : Int) : Int := if c.length = 0 ∨ 32 < c.length then 35 else if ¬ okNums L c then 35 else if s < 0 ∨ 100 < s then 91 else 0
/-- Words from number i on. -/
def newW (L : List ByteArray) : List (List Int × Int) → Nat → List (List Int × Int) → List (List Int × Int) × Nat × Int
  | [], _, l => (l, 0, 0)
  | x :: xs, i, l => if chkW L x.1 x.2 = 0 then newW L xs (i + 1) (putL l x.1 x.2) else ([], i, chkW L x.1 x.2)
/-- What a list of words makes. -/
def newT (L : List ByteArray) (ws : List (List Int × Int)) : List (List Int × Int) × Nat × Int := if 1000 < ws.length then ([], 0, 111) else newW L ws 0 []
theorem chk_ok {L : List ByteArray} {c : List Int} {s : Int} (h : chkW L c s = 0) : 1 ≤ c.length ∧ c.length ≤ 32 ∧ okNums L c ∧ 0 ≤ s ∧ s ≤ 100 := by
  unfold chkW at h
  by_cases h1 : c.length = 0 ∨ 32 < c.length
  · rw [if_pos h1] at h; cases h
  · rw [if_neg h1] at h
    by_cases h2 : ¬ okNums L c
    · rw [if_pos h2] at h; cases h
    · rw [if_neg h2] at h
      by_cases h3 : s < 0 ∨ 100 < s
      · rw [if_pos h3] at h; cases h
      · exact ⟨by omega, by omega, Classical.not_not.1 h2, by omega, by omega⟩

set_option maxRecDepth 100000 in
set_option maxHeartbeats 4000000 in
theorem check_any {W : World} {b : Nat} {L : List ByteArray} {rk : List Nat} (hA : IsAlpha W b L rk) (c : List Int) (s : Int) (ao : Option Addr) (cap : Nat) (hl : c.length ≤ 4611686018427387904) (hR : ReadsO W ao (ints c)) :
    Calls Tryz.prog 35 #[.pointer (some ⟨b, 0, none⟩), .agg #[.slice ao c.length cap, .int .i64 s]] W fun e w' => e = .returned (.int .i64 (chkW L c s)) ∧ Below W.heap.size W w' := by
  have h40 := hA.small
  have hbx : Bx2 (W.alloc (.cells #[.slice ao c.length cap, .int .i64 s] 32)) W.heap.size 32 (.slice ao c.length cap) (.int .i64 s) := ⟨heap_box W _⟩
  have hB0 := below_box' W (.cells #[.slice ao c.length cap, .int .i64 s] 32)
  have HA : Aside (∀ w, Below W.heap.size W w → IsAlpha w b L rk) := fun w hb => hA.below hb
  have HR : Aside (∀ w, Below W.heap.size W w → ReadsO w ao (ints c)) := fun w hb => hR.below hb
  have k0 := hbx.c0
  have k1 := hbx.c1
  have HC : Aside (chkW L c s = if c.length = 0 ∨ 32 < c.length then 35 else if ¬ okNums L c then 35 else if s < 0 ∨ 100 < s then 91 else 0) := rfl
  obtain ⟨K, hK⟩ : ∃ K, chkW L c s = K := ⟨_, rfl⟩
  rw [hK] at HC ⊢
  clear hA hR hK
  obtain ⟨N, hN⟩ : ∃ N, c.length = N := ⟨_, rfl⟩
  have HNN : Aside (c.length = N) := hN
  rw [hN] at HC hl k0 hbx hB0 ⊢
  clear hN
  go_enter Tryz.func35, Tryz.ntmps35
  by_cases h0 : N = 0
  · have h0z : ((N : Int) == 0) = true := by rw [beq_iff_eq]; omega
    rw [if_pos (.inl h0)] at HC
    clear hl
    subst h0
    go_wp2
    go_ret
    rw [HC.out]
    exact ⟨rfl, hB0⟩
  · have h0z : ((N : Int) == 0) = false := by rw [beq_eq_false_iff_ne]; omega
    by_cases h32 : 32 < N
    · have h32z : (32 : Int) < (N : Int) := by omega
      rw [if_pos (.inr h32)] at HC
      go_wp2
      go_ret
      rw [HC.out]
      exact ⟨rfl, hB0⟩
    · have h32z : ¬ (32 : Int) < (N : Int) := by omega
      rw [if_neg (by omega)] at HC
      have HB0 : Aside (Below W.heap.size W (W.alloc (.cells #[.slice ao N cap, .int .i64 s] 32))) := hB0
      have HBX : Aside (∀ Z, Below (W.alloc (.cells #[.slice ao N cap, .int .i64 s] 32)).heap.size (W.alloc (.cells #[.slice ao N cap, .int .i64 s] 32)) Z → Z.cell? ⟨W.heap.size, 1, none⟩ = some (.int .i64 s)) := fun Z hb => (hbx.keep hb).c1
      go_wp2
      clear k0 k1 hbx hB0
      generalize (W.alloc (.cells #[.slice ao N cap, .int .i64 s] 32)) = w0 at *
      go_loopg [20] N (fun g1 vi wr => ∃ k : Nat, vi = .int .i64 (k : Int) ∧ k ≤ N ∧ N - k ≤ g1 ∧ Aside (∀ i (h : i < c.length), i < k → 0 ≤ c[i] ∧ c[i] < L.length) ∧ Aside (wr = w0))
      case atStart => exact ⟨0, rfl, Nat.zero_le _, Nat.le_refl _, fun i _ h => by omega, rfl⟩
      case round =>
        obtain ⟨k, rfl, hk, hg1, HK, HW⟩ := hrel
        have hw := HW.out
        subst hw
        by_cases hlt : k < N
        · have hltz : (k : Int) < (N : Int) := by omega
          have hkc : k < c.length := by rw [HNN.out]; exact hlt
          obtain ⟨ga, oa, rfl, _, ea⟩ := HR.out wr HB0.out k (by simpa [ints] using hkc)
          have ea' : wr.cell? ⟨ga, oa + k, none⟩ = some (.int .i64 c[k]) := by rw [ea]; simp [ints]
          have cS := size_any (HA.out wr HB0.out)
          have HBAD : Aside (¬ (0 ≤ c[k] ∧ c[k] < L.length) → ¬ okNums L c) := fun h ho => h (ho _ (List.getElem_mem hkc))
          have HGOOD : Aside ((0 ≤ c[k] ∧ c[k] < L.length) → ∀ i (h : i < c.length), i < k + 1 → 0 ≤ c[i] ∧ c[i] < L.length) := fun h i hi h2 => by
            by_cases hik : i = k
            · subst hik; exact h
            · exact HK.out i hi (by omega)
          clear ea HK
          generalize c[k] = z at *
          by_cases hz : z < 0
          · rw [if_pos (HBAD.out (by omega))] at HC
            clear HGOOD HBAD
            go_wp2
            go_ret
            rw [HC.out]
            exact ⟨rfl, HB0.out⟩
          · by_cases hz2 : (L.length : Int) ≤ z
            · rw [if_pos (HBAD.out (by omega))] at HC
              clear HGOOD HBAD
              go_wp2_with fail
              refine cS.mono ?_
              rintro e w' ⟨rfl, hw⟩
              obtain rfl := hw.symm
              go_wp2
              go_ret
              rw [HC.out]
              exact ⟨rfl, HB0.out⟩
            · have HK2 := HGOOD.out ⟨by omega, by omega⟩
              have HK3 : Aside (∀ i (h : i < c.length), i < k + 1 → 0 ≤ c[i] ∧ c[i] < L.length) := HK2
              clear HGOOD HBAD HK2
              go_wp2_with fail
              refine cS.mono ?_
              rintro e w' ⟨rfl, hw⟩
              obtain rfl := hw.symm
              clear hw cS
              go_wp2
              go_roundg (N - (k + 1))
              case measure => omega
              case rel => exact ⟨k + 1, by go_num, by omega, Nat.le_refl _, HK3, rfl⟩
        · have hltz : ¬ (k : Int) < (N : Int) := by omega
          have hok : okNums L c := fun z hz => by
            obtain ⟨i, hi, rfl⟩ := List.mem_iff_getElem.1 hz
            exact HK.out i hi (by have := HNN.out; omega)
          rw [if_neg (fun h => h hok)] at HC
          have k1 := HBX.out wr (Below.refl _ _)
          clear HK
          by_cases hs0 : s < 0
          · rw [if_pos (.inl hs0)] at HC
            go_wp2
            go_ret
            rw [HC.out]
            exact ⟨rfl, HB0.out⟩
          · by_cases hs1 : 100 < s
            · rw [if_pos (.inr hs1)] at HC
              go_wp2
              go_ret
              rw [HC.out]
              exact ⟨rfl, HB0.out⟩
            · rw [if_neg (by omega)] at HC
              go_wp2
              go_ret
              rw [HC.out]
              exact ⟨rfl, HB0.out⟩
/-- What the program's New answers. -/
def NewQ (W : World) (L : List ByteArray) (ws : List (List Int × Int)) (e : Ending) (w' : World) : Prop := (∃ v, e = .returned (.tuple #[v, .int .i64 ((newT L ws).2.1 : Nat), .int .i64 (newT L ws).2.2]) ∧ ((newT L ws).2.2 ≠ 0 → v = .pointer none) ∧ ((newT L ws).2.2 = 0 → ∃ xb, v = .pointer (some ⟨xb, 0, none⟩) ∧ IsLex w' W.heap.size xb L (newT L ws).1)) ∧ Below W.heap.size W w'
theorem newW_ok {L : List ByteArray} : ∀ (xs : List (List Int × Int)) (i : Nat) (l : List (List Int × Int)), okE L l → SortL l → l.length + xs.length ≤ 1000 → okE L (newW L xs i l).1 ∧ SortL (newW L xs i l).1 ∧ (newW L xs i l).1.length ≤ 1000
  | [], _, _, h1, h2, h3 => ⟨h1, h2, by rw [newW]; simpa using h3⟩
  | x :: xs, i, l, h1, h2, h3 => by
    rw [newW]
    rw [List.length_cons] at h3
    by_cases h : chkW L x.1 x.2 = 0
    · rw [if_pos h]
      have hk := chk_ok h
      refine newW_ok xs _ _ (fun y hy => ?_) (putL_sort h2 _ _) ?_
      · have hv := (lookL_mem (putL_sort h2 _ _) (c := y.1) (s := y.2)).2 hy
        rw [lookL_put h2] at hv
        by_cases e : y.1 = x.1
        · rw [if_pos e] at hv
          injection hv with hv
          have hb : 0 ≤ y.2 ∧ y.2 ≤ 100 := by
            cases ek : lookL l x.1 with
            | none => rw [ek] at hv; simp only at hv; omega
            | some t =>
              rw [ek] at hv
              simp only at hv
              have := (h1 _ ((lookL_mem h2).1 ek)).2.2
              simp only at this
              omega
          rw [e]
          exact ⟨hk.2.1, hk.2.2.1, hb.1, hb.2, hk.1⟩
        · rw [if_neg e] at hv
          exact h1 _ ((lookL_mem h2).1 hv)
      · rw [putL_len h2]
        split <;> omega
    · rw [if_neg h]
      exact ⟨fun _ h => (by cases h), List.Pairwise.nil, Nat.zero_le _⟩
end Go.Proofs.YtcocbjipikeebaaGreatDoor.Utf
/-
  The program's New walked.
-/
namespace Go.Proofs.YtcocbjipikeebaaGreatDoor.Utf
open Go Go.Lib Go.RowKit

theorem toL_drop (ws : List WdV) {k : Nat} (h : k < ws.length) : (toL ws).drop k = (ws[k].c, ws[k].s) :: (toL ws).drop (k + 1) := by
  rw [List.drop_eq_getElem_cons (by rw [toL_len]; exact h), toL_at h]

set_option maxRecDepth 100000 in
set_option maxHeartbeats 4000000 in
theorem newX_any {W : World} {b : Nat} {L : List ByteArray} {rk : List Nat} (hA : IsAlpha W b L rk) (hLs : ∀ x ∈ L, x.size ≤ 12) (ws : List WdV) (aw : Option Addr) (cw : Nat) (hlen : ws.length ≤ 4611686018427387904) (hsm : ∀ x ∈ ws, x.c.length ≤ 4611686018427387904) (hR : ReadsW W aw ws) :
    Calls Tryz.prog 14 #[.pointer (some ⟨b, 0, none⟩), .slice aw ws.length cw] W (NewQ W L (toL ws)) := by
  have h40 := hA.small
  obtain ⟨R, hRR⟩ : ∃ R, newT L (toL ws) = R := ⟨_, rfl⟩
  have HT : Aside (newT L (toL ws) = if 1000 < ws.length then ([], 0, 111) else newW L (toL ws) 0 []) := by show _ = _; unfold newT; rw [toL_len]
  unfold NewQ
  rw [hRR] at HT ⊢
  have hown := World.ownsMap_made W Tryz.prog 9 (plainElem (H := Unit) Tryz.prog 3)
  have HA : Aside (∀ w, (W.alloc (.map #[] 0)).grownBy w (some W.heap.size) → IsAlpha w b L rk ∧ ReadsW w aw ws ∧ Below W.heap.size W w) := fun w hg => by
    have hb : Below W.heap.size W w := (below_box' W (.map #[] 0)).grown hg (by simp) (fun k e => by injection e with e; omega)
    exact ⟨hA.below hb, hR.below hb, hb⟩
  have HS0 : Aside (ScW (W.alloc (.map #[] 0)) W.heap.size 0 []) := ⟨_, ScD.empty, hown⟩
  have HSM : Aside (∀ x ∈ ws, x.c.length ≤ 4611686018427387904) := hsm
  have HLS : Aside (∀ x ∈ L, x.size ≤ 12) := hLs
  clear hown hA hR hRR hsm hLs
  by_cases hbig : 1000 < ws.length
  · have hbz : (1000 : Int) < (ws.length : Int) := by omega
    rw [if_pos hbig] at HT
    go_enter Tryz.func14, Tryz.ntmps14
    go_wp2
    go_ret3
    rw [HT.out]
    exact ⟨⟨_, rfl, fun _ => rfl, fun h => absurd h (show ¬ (111 : Int) = 0 by decide)⟩, Below.refl _ _⟩
  · have hbz : ¬ (1000 : Int) < (ws.length : Int) := by omega
    rw [if_neg hbig] at HT
    have hmm := @run_makeMap Tryz.prog
    go_enter Tryz.func14, Tryz.ntmps14
    go_wp2
    have HG0 : Aside ((W.alloc (.map #[] 0)).grownBy (W.alloc (.map #[] 0)) (some W.heap.size)) := World.grownBy.refl _ _
    have hwB : W.heap.size < (W.alloc (.map #[] 0)).heap.size := by simp
    generalize (W.alloc (.map #[] 0)) = w0 at *
    clear hmm
    go_loopg [17] ws.length (fun g1 vi wr => ∃ (k : Nat) (l : List (List Int × Int)), vi = .int .i64 (k : Int) ∧ k ≤ ws.length ∧ ws.length - k ≤ g1 ∧ Aside (ScW wr W.heap.size k l) ∧ Aside (okE L l ∧ SortL l ∧ l.length ≤ k) ∧ Aside (w0.grownBy wr (some W.heap.size)) ∧ Aside (R = newW L ((toL ws).drop k) k l))
    case atStart => exact ⟨0, [], rfl, Nat.zero_le _, Nat.le_refl _, HS0, ⟨fun _ h => (by cases h), List.Pairwise.nil, Nat.le_refl _⟩, HG0, HT⟩
    case round =>
      clear HS0 HG0 HT
      obtain ⟨k, l, rfl, hk, hg1, HS, HK, HG, HR⟩ := hrel
      have HAr := HA.out wr HG.out
      have hszr := HG.out.size
      by_cases hlt : k < ws.length
      · have hltz : (k : Int) < (ws.length : Int) := by omega
        obtain ⟨g, o, rfl, e2, e3, e4, e5, e6⟩ := HAr.2.1 k hlt
        have hmk := HSM.out _ (List.getElem_mem hlt)
        have HRk := HR.out
        rw [toL_drop ws hlt, newW] at HRk
        simp only at HRk
        have HR2 : Aside (R = if chkW L ws[k].c ws[k].s = 0 then newW L ((toL ws).drop (k + 1)) (k + 1) (putL l ws[k].c ws[k].s) else ([], k, chkW L ws[k].c ws[k].s)) := HRk
        clear HR HRk e6
        generalize ws[k].c = c at *
        generalize ws[k].s = sc at *
        generalize ws[k].ao = ao at *
        generalize ws[k].cap = cap at *
        have hbY : Below wr.heap.size wr (wr.alloc (.cells #[.slice ao c.length cap, .int .i64 sc] 32)) := below_box' wr _
        have cC := check_any (HAr.1.below hbY) c sc ao cap hmk (e5.below hbY)
        have hbx : Bx2 (wr.alloc (.cells #[.slice ao c.length cap, .int .i64 sc] 32)) wr.heap.size 32 (.slice ao c.length cap) (.int .i64 sc) := ⟨heap_box wr _⟩
        have HE5 : Aside (ReadsO wr ao (ints c)) := e5
        have hck := @chk_ok L c sc
        generalize chkW L c sc = E at *
        have k0 := hbx.c0
        have k1 := hbx.c1
        obtain ⟨N, hN⟩ : ∃ N, c.length = N := ⟨_, rfl⟩
        rw [hN] at e3 cC hbx hbY k0 k1
        have HN : Aside (c.length = N) := hN
        clear e5 HAr hN
        go_wp2_with fail
        refine cC.mono ?_
        rintro e w2 ⟨rfl, hb2⟩
        have hB2 : Below wr.heap.size wr w2 := hbY.trans (hb2.mono hbY.size)
        have hbx2 := hbx.keep hb2
        clear cC k0 k1 e3 e4
        by_cases hE : E = 0
        · subst hE
          rw [if_pos rfl] at HR2
          obtain ⟨q1, q2, q3, q4, q5⟩ := hck rfl
          have hHG2 : w0.grownBy w2.drew (some W.heap.size) := HG.out.trans (below_but (Below.drew hB2) _)
          have hM2 : ScW w2.drew W.heap.size k l := HS.out.grown (Below.drew hB2)
          have hbt : ∀ x ∈ c, isBt x := fun x hx => by have := q3 x hx; unfold isBt; omega
          have cK := keyOf_any c hbt (by omega) ao cap w2.drew (HE5.out.below (Below.drew hB2))
          have hs6 : wr.heap.size < w2.drew.heap.size := hbx2.lt
          have hS0 : w2.drew.cell? ⟨wr.heap.size, 0, none⟩ = some (.slice ao N cap) ∧ w2.drew.cell? ⟨wr.heap.size, 1, none⟩ = some (.int .i64 sc) := ⟨hbx2.c0, hbx2.c1⟩
          have hSS : ∀ Z, Below w2.drew.heap.size w2.drew Z → Z.cell? ⟨wr.heap.size, 0, none⟩ = some (.slice ao N cap) ∧ Z.cell? ⟨wr.heap.size, 1, none⟩ = some (.int .i64 sc) := fun Z hb => ⟨(hb.cell (p := ⟨wr.heap.size, 0, none⟩) hs6).trans hS0.1, (hb.cell (p := ⟨wr.heap.size, 1, none⟩) hs6).trans hS0.2⟩
          have HM : Aside (ScW w2.drew W.heap.size k l) := hM2
          have HAD : Aside (∀ Z, ScW Z W.heap.size k l → Calls Tryz.prog 36 #[.map (some W.heap.size), .string ⟨(mkB c).toArray⟩, .int .i64 sc] Z fun e w' => e = .returned (.tuple #[]) ∧ ScW w' W.heap.size (k + 1) (putL l c sc) ∧ Z.grownBy w' (some W.heap.size)) := fun Z hz => add_any W.heap.size k l c sc hbt (by omega) q4 (by omega) (by omega) Z hz
          have HK2 : Aside (okE L (putL l c sc) ∧ SortL (putL l c sc) ∧ (putL l c sc).length ≤ k + 1) := by
            have hw := @newW_ok L [(c, sc)] 0 l HK.out.1 HK.out.2.1 (by have := HK.out.2.2; simp; omega)
            have hck2 : chkW L c sc = 0 := by
              unfold chkW
              rw [if_neg (by omega), if_neg (fun h => h q3), if_neg (by omega)]
            rw [newW, if_pos hck2, newW] at hw
            refine ⟨hw.1, hw.2.1, ?_⟩
            rw [putL_len HK.out.2.1]
            have := HK.out.2.2
            split <;> omega
          have hEz : ((0 : Int) != 0) = false := by decide
          have hwrW : W.heap.size < wr.heap.size := by omega
          rw [HN.out] at cK
          clear hbx hbx2 hM2 hck q1 q2 q3 hb2 hbY HE5 HN hbt
          obtain ⟨s6, hs6e⟩ : ∃ s6, wr.heap.size = s6 := ⟨_, rfl⟩
          rw [hs6e] at hS0 hSS hs6 hwrW ⊢
          clear hs6e
          go_wp2
          refine wp_region_held (S := fun Z => Z.cell? ⟨s6, 0, none⟩ = some (.slice ao N cap) ∧ Z.cell? ⟨s6, 1, none⟩ = some (.int .i64 sc)) (by kernel_rfl) ?_
          refine (show wpAnyH _ .any _ _ _ 7 (Array.replicate 7 false) _ w2.drew from ?_)
          refine takeD (i := 0) (d := 29) (v := .map (some W.heap.size)) rfl (by kernel_rfl) (by kernel_rfl) (by kernel_rfl) (fun _ _ _ h => h) (fun oi ho => yields_now ho rfl fun Z hSw => ?_) hS0 ?_
          · obtain ⟨s1, s2⟩ := hSw
            go_simp
          simp only [Act.put, List.setIfInBounds_toArray, List.set_cons_zero, List.set_cons_succ]
          refine takeD (i := 1) (d := 30) (v := .pointer (some ⟨s6, 0, none⟩)) rfl (by kernel_rfl) (by kernel_rfl) (by kernel_rfl) (fun _ _ _ h => h) (fun oi ho => yields_now ho rfl fun Z hSw => ?_) hS0 ?_
          · obtain ⟨s1, s2⟩ := hSw
            go_simp
          simp only [Act.put, List.setIfInBounds_toArray, List.set_cons_zero, List.set_cons_succ]
          refine takeD (i := 2) (d := 31) (v := .slice ao N cap) rfl (by kernel_rfl) (by kernel_rfl) (by kernel_rfl) (fun _ _ _ h => h) (fun oi ho => yields_now ho rfl fun Z hSw => ?_) hS0 ?_
          · obtain ⟨s1, s2⟩ := hSw
            go_simp
          simp only [Act.put, List.setIfInBounds_toArray, List.set_cons_zero, List.set_cons_succ]
          refine takeD (i := 4) (d := 33) (v := .pointer (some ⟨s6, 1, none⟩)) rfl (by kernel_rfl) (by kernel_rfl) (by kernel_rfl) (fun _ _ _ h => h) (fun oi ho => yields_now ho rfl fun Z hSw => ?_) hS0 ?_
          · obtain ⟨s1, s2⟩ := hSw
            go_simp
          simp only [Act.put, List.setIfInBounds_toArray, List.set_cons_zero, List.set_cons_succ]
          refine takeD (i := 5) (d := 34) (v := .int .i64 sc) rfl (by kernel_rfl) (by kernel_rfl) (by kernel_rfl) (fun _ _ _ h => h) (fun oi ho => yields_now ho rfl fun Z hSw => ?_) hS0 ?_
          · obtain ⟨s1, s2⟩ := hSw
            go_simp
          simp only [Act.put, List.setIfInBounds_toArray, List.set_cons_zero, List.set_cons_succ]
          refine wpAnyH_all (rs := [3]) (by kernel_rfl) (by simp) (fun i hi => ?_)
          obtain rfl := List.mem_singleton.1 hi
          refine wpOp_call rfl rfl rfl (by go_simp) (cK) ?_
          rintro e w7 ⟨rfl, hb7⟩
          have hS7 := hSS w7 hb7
          have hM7 := HM.out.grown hb7
          have cAd := HAD.out w7 hM7
          refine ⟨_, rfl, hS7, ?_⟩
          simp only [Act.put, List.setIfInBounds_toArray, List.set_cons_zero, List.set_cons_succ]
          refine wpAnyH_all (rs := [6]) (by kernel_rfl) (by simp) (fun i hi => ?_)
          obtain rfl := List.mem_singleton.1 hi
          refine wpOp_call rfl rfl rfl (by go_simp) (cAd) ?_
          rintro e w8 ⟨rfl, hM8, hg8⟩
          have hS8 : w8.cell? ⟨s6, 0, none⟩ = some (.slice ao N cap) ∧ w8.cell? ⟨s6, 1, none⟩ = some (.int .i64 sc) := ⟨(World.cell?_of_block (a := ⟨s6, 0, none⟩) (hg8.block s6 (Nat.lt_of_lt_of_le hs6 hb7.size) (fun e => by injection e with e; omega))).trans hS7.1, (World.cell?_of_block (a := ⟨s6, 1, none⟩) (hg8.block s6 (Nat.lt_of_lt_of_le hs6 hb7.size) (fun e => by injection e with e; omega))).trans hS7.2⟩
          refine ⟨_, rfl, hS8, ?_⟩
          simp only [Act.put, List.setIfInBounds_toArray, List.set_cons_zero, List.set_cons_succ]
          refine wpAnyH_done (by kernel_rfl) ?_ _
          have HG8 : Aside (w0.grownBy w8 (some W.heap.size)) := (hHG2.trans (below_but hb7 _)).trans hg8
          have HS8 : Aside (ScW w8 W.heap.size (k + 1) (putL l c sc)) := hM8
          clear hS8 hS7 hM7 hS0 hSS hM8 hg8 hb7 cK cAd HM HAD hHG2 hB2 hs6
          go_wp2
          go_roundg (ws.length - (k + 1))
          case measure => omega
          case rel => exact ⟨k + 1, _, by go_num, by omega, Nat.le_refl _, HS8, HK2, HG8, HR2⟩
        · have hEz : (E != 0) = true := by rw [bne_iff_ne]; exact hE
          rw [if_neg hE] at HR2
          have HF : Aside (Below W.heap.size W w2) := (HA.out wr HG.out).2.2.trans (hB2.mono (by omega))
          clear hbx hbx2
          go_wp2
          go_ret3
          rw [HR2.out]
          exact ⟨⟨_, rfl, fun _ => rfl, fun h => absurd h hE⟩, HF.out⟩
      · have hltz : ¬ (k : Int) < (ws.length : Int) := by omega
        have HR2 : Aside (R = (l, 0, 0)) := by
          show _ = _
          rw [HR.out, List.drop_eq_nil_of_le (by rw [toL_len]; omega), newW]
        have cX := lexi_any HAr.1 HLS.out W.heap.size k l HS.out HK.out.1 (by have := HK.out.2.2; omega)
        have HAW : Aside (Below W.heap.size W wr) := HAr.2.2
        clear HR HAr
        go_wp2_with fail
        refine cX.mono ?_
        rintro e w2 ⟨rfl, hX, hb2⟩
        have hX2 := hX.base HAW.out.size
        have HX : Aside (IsLex w2 W.heap.size wr.heap.size L l) := hX2
        have HF : Aside (Below W.heap.size W w2) := HAW.out.trans (hb2.mono HAW.out.size)
        clear cX hX hX2
        go_wp2
        go_ret3
        rw [HR2.out]
        exact ⟨⟨_, rfl, fun h => absurd rfl h, fun _ => ⟨_, rfl, HX.out⟩⟩, HF.out⟩
end Go.Proofs.YtcocbjipikeebaaGreatDoor.Utf
/-
  The document's New walked.
-/
namespace Go.Proofs.YtcocbjipikeebaaGreatDoor.Utf
open Go Go.Lib Go.RowKit

/-- What the document's New answers. -/
def RNewP (W : World) (R : List (List Int × Int) × Nat × Int) (e : Ending) (w' : World) : Prop := (∃ v es, e = .returned (.tuple #[v, .int .i64 (R.2.1 : Nat), .int .i64 R.2.2]) ∧ IsWd W.heap.size w' v es ∧ toL es = R.1) ∧ Below W.heap.size W w'

set_option maxRecDepth 100000 in
set_option maxHeartbeats 4000000 in
theorem refNewX_any {W : World} (L : List ByteArray) (hLs : ∀ x ∈ L, x.size ≤ 12) (h40 : L.length ≤ 40) (al : Option Addr) (cl : Nat) (hRL : ReadsO W al (L.map Value.string)) (ws : List WdV) (aw : Option Addr) (cw : Nat) (hlen : ws.length ≤ 4611686018427387904) (hsm : ∀ x ∈ ws, x.c.length ≤ 1048576) (hR : ReadsW W aw ws) :
    Calls Tryz.prog 11 #[.slice al L.length cl, .slice aw ws.length cw] W (RNewP W (newT L (toL ws))) := by
  obtain ⟨R, hRR⟩ : ∃ R, newT L (toL ws) = R := ⟨_, rfl⟩
  have HT : Aside (newT L (toL ws) = if 1000 < ws.length then ([], 0, 111) else newW L (toL ws) 0 []) := by show _ = _; unfold newT; rw [toL_len]
  rw [hRR] at HT ⊢
  have HA : Aside (∀ w, Below W.heap.size W w → ReadsO w al (L.map Value.string) ∧ ReadsW w aw ws) := fun w hb => ⟨hRL.below hb, hR.below hb⟩
  have HSM : Aside (∀ x ∈ ws, x.c.length ≤ 1048576) := hsm
  have HLS : Aside (∀ x ∈ L, x.size ≤ 12) := hLs
  clear hRL hR hRR hsm hLs
  by_cases hbig : 1000 < ws.length
  · have hbz : (1000 : Int) < (ws.length : Int) := by omega
    rw [if_pos hbig] at HT
    go_enter Tryz.func11, Tryz.ntmps11
    go_wp2
    go_ret3
    rw [HT.out]
    exact ⟨⟨_, [], rfl, IsWd.nil _ _, rfl⟩, Below.refl _ _⟩
  · have hbz : ¬ (1000 : Int) < (ws.length : Int) := by omega
    rw [if_neg hbig] at HT
    go_enter Tryz.func11, Tryz.ntmps11
    go_wp2
    go_loopg [7, 8] ws.length (fun g1 vl vi wr => ∃ (k : Nat) (l : List (List Int × Int)) (es : List WdV) (v1 : Value), vi = .int .i64 (k : Int) ∧ vl = v1 ∧ k ≤ ws.length ∧ ws.length - k ≤ g1 ∧ Aside (IsWd W.heap.size wr v1 es) ∧ Aside (toL es = l) ∧ Aside (okE L l ∧ SortL l ∧ l.length ≤ k) ∧ Aside (Below W.heap.size W wr) ∧ Aside (R = newW L ((toL ws).drop k) k l))
    case atStart => exact ⟨0, [], [], _, rfl, rfl, Nat.zero_le _, Nat.le_refl _, IsWd.nil _ _, rfl, ⟨fun _ h => (by cases h), List.Pairwise.nil, Nat.le_refl _⟩, Below.refl _ _, HT⟩
    case round =>
      clear HT
      obtain ⟨k, l, es, vl, rfl, q1, hk, hg1, HI, HL, HK, HB, HR⟩ := hrel
      obtain rfl := q1.symm
      clear q1
      have HAr := HA.out wr HB.out
      by_cases hlt : k < ws.length
      · have hltz : (k : Int) < (ws.length : Int) := by omega
        obtain ⟨g, o, rfl, e2, e3, e4, e5, e6⟩ := HAr.2 k hlt
        have hmk := HSM.out _ (List.getElem_mem hlt)
        have HRk := HR.out
        rw [toL_drop ws hlt, newW] at HRk
        simp only at HRk
        have HR2 : Aside (R = if chkW L ws[k].c ws[k].s = 0 then newW L ((toL ws).drop (k + 1)) (k + 1) (putL l ws[k].c ws[k].s) else ([], k, chkW L ws[k].c ws[k].s)) := HRk
        have HCB : Aside (1 ≤ ws[k].c.length → ∀ b o', ws[k].ao = some ⟨b, o', none⟩ → b < W.heap.size) := fun h1 b o' e => by
          obtain ⟨_, _, _, _, _, _, h8, _⟩ := (HA.out W (Below.refl _ _)).2 k hlt
          obtain ⟨g', o2, e1', e2', _⟩ := h8 0 (by simp [ints]; omega)
          rw [e1'] at e
          injection e with e
          injection e with e
          omega
        clear HR HRk
        generalize ws[k].c = c at *
        generalize ws[k].s = sc at *
        generalize ws[k].ao = ao at *
        generalize ws[k].cap = cap at *
        have hbY : Below wr.heap.size wr (wr.alloc (.cells #[.slice ao c.length cap, .int .i64 sc] 32)) := below_box' wr _
        have hbx : Bx2 (wr.alloc (.cells #[.slice ao c.length cap, .int .i64 sc] 32)) wr.heap.size 32 (.slice ao c.length cap) (.int .i64 sc) := ⟨heap_box wr _⟩
        have cJ := refJoin_any L HLS.out h40 al cl c ao cap (wr.alloc (.cells #[.slice ao c.length cap, .int .i64 sc] 32)) (by omega) (HAr.1.below hbY) (e5.below hbY)
        have HE5 : Aside (ReadsO wr ao (ints c)) := e5
        have HCK : Aside (chkW L c sc = if c.length = 0 ∨ 32 < c.length then 35 else if ¬ okNums L c then 35 else if sc < 0 ∨ 100 < sc then 91 else 0) := rfl
        have hck := @chk_ok L c sc
        have k0 := hbx.c0
        have k1 := hbx.c1
        obtain ⟨N, hN⟩ : ∃ N, c.length = N := ⟨_, rfl⟩
        rw [hN] at e3 cJ hbx hbY k0 k1 HCK hmk
        have HN : Aside (c.length = N) := hN
        obtain ⟨E, hEE⟩ : ∃ E, chkW L c sc = E := ⟨_, rfl⟩
        rw [hEE] at HCK HR2 hck
        clear e5 HAr hN hEE
        generalize joinT L c = JT at *
        go_wp2_with fail
        refine cJ.mono ?_
        rintro e w2 hj
        have hB2 : Below wr.heap.size wr w2 := hbY.trans (hj.2.mono hbY.size)
        have hbx2 := hbx.keep hj.2
        have HF2 : Aside (Below W.heap.size W w2) := HB.out.trans (hB2.mono HB.out.size)
        clear cJ k0 k1 e3 e4
        have k0 := hbx2.c0
        have k1 := hbx2.c1
        rcases hj with ⟨⟨hok, rfl⟩ | ⟨hno, rfl⟩, hb2⟩
        · by_cases h0 : N < 1
          · have h0z : (N : Int) < 1 := by omega
            rw [if_pos (.inl (by omega))] at HCK
            have hE := HCK.out
            subst hE
            rw [if_neg (by decide)] at HR2
            clear hck hbx hbx2
            go_wp2
            go_ret3
            rw [HR2.out]
            exact ⟨⟨_, [], rfl, IsWd.nil _ _, rfl⟩, HF2.out⟩
          · have h0z : ¬ (N : Int) < 1 := by omega
            by_cases h32 : 32 < N
            · have h32z : (32 : Int) < (N : Int) := by omega
              rw [if_pos (.inr h32)] at HCK
              have hE := HCK.out
              subst hE
              rw [if_neg (by decide)] at HR2
              clear hck hbx hbx2
              go_wp2
              go_ret3
              rw [HR2.out]
              exact ⟨⟨_, [], rfl, IsWd.nil _ _, rfl⟩, HF2.out⟩
            · have h32z : ¬ (32 : Int) < (N : Int) := by omega
              rw [if_neg (by omega), if_neg (fun h => h hok)] at HCK
              by_cases hs0 : sc < 0
              · rw [if_pos (.inl hs0)] at HCK
                have hE := HCK.out
                subst hE
                rw [if_neg (by decide)] at HR2
                clear hck hbx hbx2
                go_wp2
                go_ret3
                rw [HR2.out]
                exact ⟨⟨_, [], rfl, IsWd.nil _ _, rfl⟩, HF2.out⟩
              · by_cases hs1 : 100 < sc
                · rw [if_pos (.inr hs1)] at HCK
                  have hE := HCK.out
                  subst hE
                  rw [if_neg (by decide)] at HR2
                  clear hck hbx hbx2
                  go_wp2
                  go_ret3
                  rw [HR2.out]
                  exact ⟨⟨_, [], rfl, IsWd.nil _ _, rfl⟩, HF2.out⟩
                · rw [if_neg (by omega)] at HCK
                  have hE := HCK.out
                  subst hE
                  rw [if_pos rfl] at HR2
                  have hes : es.length ≤ 1000 := by
                    have h7 := HK.out.2.2
                    have h8 := congrArg List.length HL.out
                    rw [toL_len] at h8
                    omega
                  have HM32 : Aside (∀ x ∈ es, x.c.length ≤ 32) := fun y hy => (HK.out.1 (y.c, y.s) (by rw [← HL.out]; exact List.mem_map_of_mem (f := fun y : WdV => (y.c, y.s)) hy)).1
                  have hI2 := HI.out.below hB2
                  have cP := put_any hI2 HF2.out.size hes HM32.out c (by rw [HN.out]; omega) ao cap e6 (HE5.out.below hB2) (fun b o e => ⟨Nat.lt_of_lt_of_le (HCB.out (by rw [HN.out]; omega) b o e) HF2.out.size, fun e8 => by have := (hI2.row.lt b e8).1; have := HCB.out (by rw [HN.out]; omega) b o e; omega⟩) sc
                  have HK2 : Aside (okE L (putL l c sc) ∧ SortL (putL l c sc) ∧ (putL l c sc).length ≤ k + 1) := by
                    have hck2 : chkW L c sc = 0 := by
                      unfold chkW
                      rw [HN.out, if_neg (by omega), if_neg (fun h => h hok), if_neg (by omega)]
                    have hw := @newW_ok L [(c, sc)] 0 l HK.out.1 HK.out.2.1 (by have := HK.out.2.2; simp; omega)
                    rw [newW, if_pos hck2, newW] at hw
                    refine ⟨hw.1, hw.2.1, ?_⟩
                    rw [putL_len HK.out.2.1]
                    have := HK.out.2.2
                    split <;> omega
                  have HPM : Aside (∀ e w', PutP W.heap.size w2 vl es c sc e w' → ∃ v' es', e = .returned v' ∧ IsWd W.heap.size w' v' es' ∧ toL es' = putL l c sc ∧ Below W.heap.size W w') := fun e w' ⟨v', es', e1, p1, p2, p3, _⟩ =>
                    ⟨v', es', e1, p1, by rw [p2, HL.out], HF2.out.grown p3 HF2.out.size (fun q e => (hI2.row.lt q e).1)⟩
                  rw [HN.out] at cP
                  clear hck hbx hI2 hbx2 HE5 HN e6 HCB hok
                  go_wp2_with fail
                  refine cP.mono ?_
                  rintro e w4 hpp
                  obtain ⟨v', es', rfl, hs4, ht4, hb4⟩ := HPM.out e w4 hpp
                  have HI4 : Aside (IsWd W.heap.size w4 v' es') := hs4
                  have HL4 : Aside (toL es' = putL l c sc) := ht4
                  have HB4 : Aside (Below W.heap.size W w4) := hb4
                  clear cP hpp hs4 ht4 hb4 HPM k0 k1 hB2 hb2 hbY
                  go_wp2
                  go_roundg (ws.length - (k + 1))
                  case measure => omega
                  case rel => exact ⟨k + 1, _, es', _, by go_num, rfl, by omega, Nat.le_refl _, HI4, HL4, HK2, HB4, HR2⟩
        · have hE : E = 35 := by
            have h7 := HCK.out
            by_cases h1 : N = 0 ∨ 32 < N
            · rw [if_pos h1] at h7; exact h7
            · rw [if_neg h1, if_pos hno] at h7; exact h7
          subst hE
          rw [if_neg (by decide)] at HR2
          clear hck hbx hbx2
          go_wp2
          go_ret3
          rw [HR2.out]
          exact ⟨⟨_, [], rfl, IsWd.nil _ _, rfl⟩, HF2.out⟩
      · have hltz : ¬ (k : Int) < (ws.length : Int) := by omega
        have HR2 : Aside (R = (l, 0, 0)) := by
          show _ = _
          rw [HR.out, List.drop_eq_nil_of_le (by rw [toL_len]; omega), newW]
        clear HR HAr
        go_wp2
        go_ret3
        rw [HR2.out]
        exact ⟨⟨_, es, rfl, HI.out, HL.out⟩, HB.out⟩
end Go.Proofs.YtcocbjipikeebaaGreatDoor.Utf
/-
  The document's Join of letters of any length.
-/
namespace Go.Proofs.YtcocbjipikeebaaGreatDoor.Utf
open Go Go.Lib Go.RowKit

set_option maxRecDepth 100000 in
set_option maxHeartbeats 4000000 in
theorem refJoinB_any (L : List ByteArray) (hLs : ∀ x ∈ L, x.size ≤ 1048576) (al : Option Addr) (cl : Nat) (zs : List Int) (ao : Option Addr) (cap : Nat) (W : World) (hl : zs.length ≤ 1048576) (hRL : ReadsO W al (L.map Value.string)) (hR : ReadsO W ao (ints zs)) :
    Calls Tryz.prog 26 #[.slice al L.length cl, .slice ao zs.length cap] W fun e w' => ((okNums L zs ∧ e = .returned (.tuple #[.string (joinT L zs), .int .i64 0])) ∨ (¬ okNums L zs ∧ e = .returned (.tuple #[.string ⟨#[]⟩, .int .i64 35]))) ∧ Below W.heap.size W w' := by
  go_enter Tryz.func26, Tryz.ntmps26
  go_wp2
  go_loopg [6, 7] zs.length (fun g1 vs vi wr => ∃ (k : Nat) (t : ByteArray), vi = .int .i64 (k : Int) ∧ vs = .string t ∧ k ≤ zs.length ∧ zs.length - k ≤ g1 ∧ t.size ≤ 1048576 * k ∧ Aside (t.data.toList = joinL L (zs.take k)) ∧ Aside (Below W.heap.size W wr) ∧ Aside (okNums L (zs.take k)))
  case atStart => exact ⟨0, ⟨#[]⟩, rfl, rfl, Nat.zero_le _, Nat.le_refl _, Nat.zero_le _, by show _ = _; simp [joinL], Below.refl _ _, fun z hz => by simp at hz⟩
  case round =>
    obtain ⟨k, t, rfl, rfl, hk, hg1, hts, HT, hB, HO⟩ := hrel
    by_cases hlt : k < zs.length
    · have hltz : (k : Int) < (zs.length : Int) := by omega
      obtain ⟨ga, oa, rfl, _, ec⟩ := (hR.below hB.out) k (by simpa [ints] using hlt)
      have ec' : wr.cell? ⟨ga, oa + k, none⟩ = some (.int .i64 zs[k]) := by rw [ec]; simp [ints]
      clear ec
      have HM : Aside (zs[k] ∈ zs) := List.getElem_mem hlt
      have HO2 : Aside (0 ≤ zs[k] ∧ zs[k] < L.length → okNums L (zs.take (k + 1))) := fun h => take_ok hlt HO.out h
      have HJ : Aside (joinL L (zs.take (k + 1)) = joinL L (zs.take k) ++ (ltr L zs[k]).data.toList) := joinL_next L zs hlt
      have HRL : Aside (ReadsO wr al (L.map Value.string)) := hRL.below hB.out
      clear hR hRL
      generalize zs[k] = z at *
      by_cases hneg : z < 0
      · have HN : Aside (¬ okNums L zs) := fun h => by have := h z HM.out; omega
        go_wp2
        (try go_quiet (fail))
        go_wp2
        go_ret2
        exact ⟨.inr ⟨HN.out, rfl⟩, by first | exact hB.out | exact below_drewN hB.out _⟩
      · obtain ⟨i, rfl⟩ := Int.eq_ofNat_of_zero_le (by omega : 0 ≤ z)
        by_cases hi : i < L.length
        · have hiz : (i : Int) < (L.length : Int) := by omega
          have HO3 : Aside (okNums L (zs.take (k + 1))) := HO2.out ⟨by omega, hiz⟩
          obtain ⟨gs, os, rfl, _, es⟩ := HRL.out i (by simpa using hi)
          rw [List.getElem_map] at es
          have hsz := hLs L[i] (List.getElem_mem hi)
          have HC : Aside ((t ++ L[i]).data.toList = joinL L (zs.take (k + 1))) := by
            show _ = _
            rw [HJ.out, ltr_at hi, ba_cat, HT.out]
          have hsz2 : (t ++ L[i]).size ≤ 1048576 * (k + 1) := by rw [ByteArray.size_append]; omega
          clear HJ HO2 HM HRL HT
          generalize L[i] = X at *
          go_wp2_with fail
          go_roundg (zs.length - (k + 1))
          case measure => omega
          case rel => exact ⟨k + 1, t ++ X, by go_num, rfl, by omega, Nat.le_refl _, hsz2, HC, hB, HO3⟩
        · have hiz : ¬ (i : Int) < (L.length : Int) := by omega
          have HN : Aside (¬ okNums L zs) := fun h => by have := h (i : Int) HM.out; omega
          go_wp2
          (try go_quiet (fail))
          go_wp2
          go_ret2
          exact ⟨.inr ⟨HN.out, rfl⟩, by first | exact hB.out | exact below_drewN hB.out _⟩
    · have hltz : ¬ (k : Int) < (zs.length : Int) := by omega
      obtain rfl : k = zs.length := by omega
      have hO := HO.out
      have hT := HT.out
      rw [List.take_length] at hO hT
      have HO' : Aside (okNums L zs) := hO
      have HT' : Aside (t = joinT L zs) := ba_eq hT
      clear HO hO HT hT hlt
      go_wp2
      go_ret2
      rw [← HT'.out]
      exact ⟨.inl ⟨HO'.out, rfl⟩, hB.out⟩
end Go.Proofs.YtcocbjipikeebaaGreatDoor.Utf
/-
  The document's New of words, with letters of any length.
-/
namespace Go.Proofs.YtcocbjipikeebaaGreatDoor.Utf
open Go Go.Lib Go.RowKit

set_option maxRecDepth 100000 in
set_option maxHeartbeats 4000000 in
theorem refNewB_any {W : World} (L : List ByteArray) (hLs : ∀ x ∈ L, x.size ≤ 1048576) (al : Option Addr) (cl : Nat) (hRL : ReadsO W al (L.map Value.string)) (ws : List WdV) (aw : Option Addr) (cw : Nat) (hlen : ws.length ≤ 4611686018427387904) (hsm : ∀ x ∈ ws, x.c.length ≤ 1048576) (hR : ReadsW W aw ws) :
    Calls Tryz.prog 11 #[.slice al L.length cl, .slice aw ws.length cw] W (RNewP W (newT L (toL ws))) := by
  obtain ⟨R, hRR⟩ : ∃ R, newT L (toL ws) = R := ⟨_, rfl⟩
  have HT : Aside (newT L (toL ws) = if 1000 < ws.length then ([], 0, 111) else newW L (toL ws) 0 []) := by show _ = _; unfold newT; rw [toL_len]
  rw [hRR] at HT ⊢
  have HA : Aside (∀ w, Below W.heap.size W w → ReadsO w al (L.map Value.string) ∧ ReadsW w aw ws) := fun w hb => ⟨hRL.below hb, hR.below hb⟩
  have HSM : Aside (∀ x ∈ ws, x.c.length ≤ 1048576) := hsm
  have HLS : Aside (∀ x ∈ L, x.size ≤ 1048576) := hLs
  clear hRL hR hRR hsm hLs
  by_cases hbig : 1000 < ws.length
  · have hbz : (1000 : Int) < (ws.length : Int) := by omega
    rw [if_pos hbig] at HT
    go_enter Tryz.func11, Tryz.ntmps11
    go_wp2
    go_ret3
    rw [HT.out]
    exact ⟨⟨_, [], rfl, IsWd.nil _ _, rfl⟩, Below.refl _ _⟩
  · have hbz : ¬ (1000 : Int) < (ws.length : Int) := by omega
    rw [if_neg hbig] at HT
    go_enter Tryz.func11, Tryz.ntmps11
    go_wp2
    go_loopg [7, 8] ws.length (fun g1 vl vi wr => ∃ (k : Nat) (l : List (List Int × Int)) (es : List WdV) (v1 : Value), vi = .int .i64 (k : Int) ∧ vl = v1 ∧ k ≤ ws.length ∧ ws.length - k ≤ g1 ∧ Aside (IsWd W.heap.size wr v1 es) ∧ Aside (toL es = l) ∧ Aside (okE L l ∧ SortL l ∧ l.length ≤ k) ∧ Aside (Below W.heap.size W wr) ∧ Aside (R = newW L ((toL ws).drop k) k l))
    case atStart => exact ⟨0, [], [], _, rfl, rfl, Nat.zero_le _, Nat.le_refl _, IsWd.nil _ _, rfl, ⟨fun _ h => (by cases h), List.Pairwise.nil, Nat.le_refl _⟩, Below.refl _ _, HT⟩
    case round =>
      clear HT
      obtain ⟨k, l, es, vl, rfl, q1, hk, hg1, HI, HL, HK, HB, HR⟩ := hrel
      obtain rfl := q1.symm
      clear q1
      have HAr := HA.out wr HB.out
      by_cases hlt : k < ws.length
      · have hltz : (k : Int) < (ws.length : Int) := by omega
        obtain ⟨g, o, rfl, e2, e3, e4, e5, e6⟩ := HAr.2 k hlt
        have hmk := HSM.out _ (List.getElem_mem hlt)
        have HRk := HR.out
        rw [toL_drop ws hlt, newW] at HRk
        simp only at HRk
        have HR2 : Aside (R = if chkW L ws[k].c ws[k].s = 0 then newW L ((toL ws).drop (k + 1)) (k + 1) (putL l ws[k].c ws[k].s) else ([], k, chkW L ws[k].c ws[k].s)) := HRk
        have HCB : Aside (1 ≤ ws[k].c.length → ∀ b o', ws[k].ao = some ⟨b, o', none⟩ → b < W.heap.size) := fun h1 b o' e => by
          obtain ⟨_, _, _, _, _, _, h8, _⟩ := (HA.out W (Below.refl _ _)).2 k hlt
          obtain ⟨g', o2, e1', e2', _⟩ := h8 0 (by simp [ints]; omega)
          rw [e1'] at e
          injection e with e
          injection e with e
          omega
        clear HR HRk
        generalize ws[k].c = c at *
        generalize ws[k].s = sc at *
        generalize ws[k].ao = ao at *
        generalize ws[k].cap = cap at *
        have hbY : Below wr.heap.size wr (wr.alloc (.cells #[.slice ao c.length cap, .int .i64 sc] 32)) := below_box' wr _
        have hbx : Bx2 (wr.alloc (.cells #[.slice ao c.length cap, .int .i64 sc] 32)) wr.heap.size 32 (.slice ao c.length cap) (.int .i64 sc) := ⟨heap_box wr _⟩
        have cJ := refJoinB_any L HLS.out al cl c ao cap (wr.alloc (.cells #[.slice ao c.length cap, .int .i64 sc] 32)) (by omega) (HAr.1.below hbY) (e5.below hbY)
        have HE5 : Aside (ReadsO wr ao (ints c)) := e5
        have HCK : Aside (chkW L c sc = if c.length = 0 ∨ 32 < c.length then 35 else if ¬ okNums L c then 35 else if sc < 0 ∨ 100 < sc then 91 else 0) := rfl
        have hck := @chk_ok L c sc
        have k0 := hbx.c0
        have k1 := hbx.c1
        obtain ⟨N, hN⟩ : ∃ N, c.length = N := ⟨_, rfl⟩
        rw [hN] at e3 cJ hbx hbY k0 k1 HCK hmk
        have HN : Aside (c.length = N) := hN
        obtain ⟨E, hEE⟩ : ∃ E, chkW L c sc = E := ⟨_, rfl⟩
        rw [hEE] at HCK HR2 hck
        clear e5 HAr hN hEE
        generalize joinT L c = JT at *
        go_wp2_with fail
        refine cJ.mono ?_
        rintro e w2 hj
        have hB2 : Below wr.heap.size wr w2 := hbY.trans (hj.2.mono hbY.size)
        have hbx2 := hbx.keep hj.2
        have HF2 : Aside (Below W.heap.size W w2) := HB.out.trans (hB2.mono HB.out.size)
        clear cJ k0 k1 e3 e4
        have k0 := hbx2.c0
        have k1 := hbx2.c1
        rcases hj with ⟨⟨hok, rfl⟩ | ⟨hno, rfl⟩, hb2⟩
        · by_cases h0 : N < 1
          · have h0z : (N : Int) < 1 := by omega
            rw [if_pos (.inl (by omega))] at HCK
            have hE := HCK.out
            subst hE
            rw [if_neg (by decide)] at HR2
            clear hck hbx hbx2
            go_wp2
            go_ret3
            rw [HR2.out]
            exact ⟨⟨_, [], rfl, IsWd.nil _ _, rfl⟩, HF2.out⟩
          · have h0z : ¬ (N : Int) < 1 := by omega
            by_cases h32 : 32 < N
            · have h32z : (32 : Int) < (N : Int) := by omega
              rw [if_pos (.inr h32)] at HCK
              have hE := HCK.out
              subst hE
              rw [if_neg (by decide)] at HR2
              clear hck hbx hbx2
              go_wp2
              go_ret3
              rw [HR2.out]
              exact ⟨⟨_, [], rfl, IsWd.nil _ _, rfl⟩, HF2.out⟩
            · have h32z : ¬ (32 : Int) < (N : Int) := by omega
              rw [if_neg (by omega), if_neg (fun h => h hok)] at HCK
              by_cases hs0 : sc < 0
              · rw [if_pos (.inl hs0)] at HCK
                have hE := HCK.out
                subst hE
                rw [if_neg (by decide)] at HR2
                clear hck hbx hbx2
                go_wp2
                go_ret3
                rw [HR2.out]
                exact ⟨⟨_, [], rfl, IsWd.nil _ _, rfl⟩, HF2.out⟩
              · by_cases hs1 : 100 < sc
                · rw [if_pos (.inr hs1)] at HCK
                  have hE := HCK.out
                  subst hE
                  rw [if_neg (by decide)] at HR2
                  clear hck hbx hbx2
                  go_wp2
                  go_ret3
                  rw [HR2.out]
                  exact ⟨⟨_, [], rfl, IsWd.nil _ _, rfl⟩, HF2.out⟩
                · rw [if_neg (by omega)] at HCK
                  have hE := HCK.out
                  subst hE
                  rw [if_pos rfl] at HR2
                  have hes : es.length ≤ 1000 := by
                    have h7 := HK.out.2.2
                    have h8 := congrArg List.length HL.out
                    rw [toL_len] at h8
                    omega
                  have HM32 : Aside (∀ x ∈ es, x.c.length ≤ 32) := fun y hy => (HK.out.1 (y.c, y.s) (by rw [← HL.out]; exact List.mem_map_of_mem (f := fun y : WdV => (y.c, y.s)) hy)).1
                  have hI2 := HI.out.below hB2
                  have cP := put_any hI2 HF2.out.size hes HM32.out c (by rw [HN.out]; omega) ao cap e6 (HE5.out.below hB2) (fun b o e => ⟨Nat.lt_of_lt_of_le (HCB.out (by rw [HN.out]; omega) b o e) HF2.out.size, fun e8 => by have := (hI2.row.lt b e8).1; have := HCB.out (by rw [HN.out]; omega) b o e; omega⟩) sc
                  have HK2 : Aside (okE L (putL l c sc) ∧ SortL (putL l c sc) ∧ (putL l c sc).length ≤ k + 1) := by
                    have hck2 : chkW L c sc = 0 := by
                      unfold chkW
                      rw [HN.out, if_neg (by omega), if_neg (fun h => h hok), if_neg (by omega)]
                    have hw := @newW_ok L [(c, sc)] 0 l HK.out.1 HK.out.2.1 (by have := HK.out.2.2; simp; omega)
                    rw [newW, if_pos hck2, newW] at hw
                    refine ⟨hw.1, hw.2.1, ?_⟩
                    rw [putL_len HK.out.2.1]
                    have := HK.out.2.2
                    split <;> omega
                  have HPM : Aside (∀ e w', PutP W.heap.size w2 vl es c sc e w' → ∃ v' es', e = .returned v' ∧ IsWd W.heap.size w' v' es' ∧ toL es' = putL l c sc ∧ Below W.heap.size W w') := fun e w' ⟨v', es', e1, p1, p2, p3, _⟩ =>
                    ⟨v', es', e1, p1, by rw [p2, HL.out], HF2.out.grown p3 HF2.out.size (fun q e => (hI2.row.lt q e).1)⟩
                  rw [HN.out] at cP
                  clear hck hbx hI2 hbx2 HE5 HN e6 HCB hok
                  go_wp2_with fail
                  refine cP.mono ?_
                  rintro e w4 hpp
                  obtain ⟨v', es', rfl, hs4, ht4, hb4⟩ := HPM.out e w4 hpp
                  have HI4 : Aside (IsWd W.heap.size w4 v' es') := hs4
                  have HL4 : Aside (toL es' = putL l c sc) := ht4
                  have HB4 : Aside (Below W.heap.size W w4) := hb4
                  clear cP hpp hs4 ht4 hb4 HPM k0 k1 hB2 hb2 hbY
                  go_wp2
                  go_roundg (ws.length - (k + 1))
                  case measure => omega
                  case rel => exact ⟨k + 1, _, es', _, by go_num, rfl, by omega, Nat.le_refl _, HI4, HL4, HK2, HB4, HR2⟩
        · have hE : E = 35 := by
            have h7 := HCK.out
            by_cases h1 : N = 0 ∨ 32 < N
            · rw [if_pos h1] at h7; exact h7
            · rw [if_neg h1, if_pos hno] at h7; exact h7
          subst hE
          rw [if_neg (by decide)] at HR2
          clear hck hbx hbx2
          go_wp2
          go_ret3
          rw [HR2.out]
          exact ⟨⟨_, [], rfl, IsWd.nil _ _, rfl⟩, HF2.out⟩
      · have hltz : ¬ (k : Int) < (ws.length : Int) := by omega
        have HR2 : Aside (R = (l, 0, 0)) := by
          show _ = _
          rw [HR.out, List.drop_eq_nil_of_le (by rw [toL_len]; omega), newW]
        clear HR HAr
        go_wp2
        go_ret3
        rw [HR2.out]
        exact ⟨⟨_, es, rfl, HI.out, HL.out⟩, HB.out⟩
end Go.Proofs.YtcocbjipikeebaaGreatDoor.Utf
