/-
  The program's check and New: a list of words taken in.
-/
import Derived.Test.YtikfaalbdnlelaaGreatDoorGxu
import Derived.Test.YtikfaalbdnlelaaGreatDoorGxw
import Derived.Test.YtikfaalbdnlelaaGreatDoorRjnq
import Derived.Test.YtikfaalbdnlelaaGreatDoorGxx
import Derived.Test.YtikfaalbdnlelaaGreatDoorGag
import Derived.ChangeArms
namespace Go.Proofs.YtikfaalbdnlelaaGreatDoor.Utf
open Go Go.Lib Go.RowKit

/-- Words that came in, in memory. -/
def ReadsW (W : World) (aw : Option Addr) (ws : List WdV) : Prop := ∀ i (hi : i < ws.length), ∃ g o, aw = some ⟨g, o, none⟩ ∧ g < W.heap.size ∧ W.cell? ⟨g, o + i * 2, none⟩ = some (.slice ws[i].ao ws[i].c.length ws[i].cap) ∧ W.cell? ⟨g, o + i * 2 + 1, none⟩ = some (.int .i64 ws[i].s) ∧ ReadsO W ws[i].ao (ints ws[i].c) ∧ (ws[i].ao = none → ws[i].cap = 0)
theorem ReadsW.below {W W' : World} {aw : Option Addr} {ws : List WdV} (h : ReadsW W aw ws) (hb : Below W.heap.size W W') : ReadsW W' aw ws := fun i hi => by
  obtain ⟨g, o, e1, e2, e3, e4, e5, e6⟩ := h i hi
  exact ⟨g, o, e1, Nat.lt_of_lt_of_le e2 hb.size, (hb.cell (p := ⟨g, _, none⟩) e2).trans e3, (hb.cell (p := ⟨g, _, none⟩) e2).trans e4, e5.below hb, e6⟩
instance okDec (L : List ByteArray) (c : List Int) : Decidable (okNums L c) := inferInstanceAs (Decidable (∀ z ∈ c, 0 ≤ z ∧ z < L.length))
/-- What is wrong with a word. -/
def chkW (L : List ByteArray) (c : List Int) (s : Int) : Int := if c.length = 0 ∨ 32 < c.length then 35 else if ¬ okNums L c then 35 else if s < 0 ∨ 100 < s then 91 else 0
/-- Words from number i on. -/
def newW (L : List ByteArray) : List (List Int × Int) → Nat → List (List Int × Int) → List (List Int × Int) × Nat × Int
  | [], _, l => (l, 0, 0)
  | x :: xs, i, l => if chkW L x.1 x.2 = 0 then newW L xs (i + 1) (putL l x.1 x.2) else ([], i, chkW L x.1 x.2)
/-- What a list of words makes. -/
def newT (L : List ByteArray) (ws : List (List Int × Int)) : List (List Int × Int) × Nat × Int := if 1000 < ws.length then ([], 0, 111) else newW L ws 0 []
theorem chk_ok {L : List ByteArray} {c : List Int} {s : Int} (h : chkW L c s = 0) : 1 ≤ c.length ∧ c.length ≤ 32 ∧ okNums L c ∧ 0 ≤ s ∧ s ≤ 100 := by
  unfold chkW at h
  by_cases h1 : c.length = 0 ∨ 32 < c.length
  · rw [if_pos h1] at h; cases h
  · rw [if_neg h1] at h
    by_cases h2 : ¬ okNums L c
    · rw [if_pos h2] at h; cases h
    · rw [if_neg h2] at h
      by_cases h3 : s < 0 ∨ 100 < s
      · rw [if_pos h3] at h; cases h
      · exact ⟨by omega, by omega, Classical.not_not.1 h2, by omega, by omega⟩

set_option maxRecDepth 100000 in
set_option maxHeartbeats 4000000 in
theorem check_any {W : World} {b : Nat} {L : List ByteArray} {rk : List Nat} (hA : IsAlpha W b L rk) (c : List Int) (s : Int) (ao : Option Addr) (cap : Nat) (hl : c.length ≤ 4611686018427387904) (hR : ReadsO W ao (ints c)) :
    Calls Tryz.prog 27 #[.pointer (some ⟨b, 0, none⟩), .agg #[.slice ao c.length cap, .int .i64 s]] W fun e w' => e = .returned (.int .i64 (chkW L c s)) ∧ Below W.heap.size W w' := by
  have h40 := hA.small
  have hbx : Bx2 (W.alloc (.cells #[.slice ao c.length cap, .int .i64 s] 33)) W.heap.size 33 (.slice ao c.length cap) (.int .i64 s) := ⟨heap_box W _⟩
  have hB0 := below_box' W (.cells #[.slice ao c.length cap, .int .i64 s] 33)
  have HA : Aside (∀ w, Below W.heap.size W w → IsAlpha w b L rk) := fun w hb => hA.below hb
  have HR : Aside (∀ w, Below W.heap.size W w → ReadsO w ao (ints c)) := fun w hb => hR.below hb
  have k0 := hbx.c0
  have k1 := hbx.c1
  have HC : Aside (chkW L c s = if c.length = 0 ∨ 32 < c.length then 35 else if ¬ okNums L c then 35 else if s < 0 ∨ 100 < s then 91 else 0) := rfl
  obtain ⟨K, hK⟩ : ∃ K, chkW L c s = K := ⟨_, rfl⟩
  rw [hK] at HC ⊢
  clear hA hR hK
  obtain ⟨N, hN⟩ : ∃ N, c.length = N := ⟨_, rfl⟩
  have HNN : Aside (c.length = N) := hN
  rw [hN] at HC hl k0 hbx hB0 ⊢
  clear hN
  go_enter Tryz.func27, Tryz.ntmps27
  by_cases h0 : N = 0
  · have h0z : ((N : Int) == 0) = true := by rw [beq_iff_eq]; omega
    rw [if_pos (.inl h0)] at HC
    clear hl
    subst h0
    go_wp2
    go_ret
    rw [HC.out]
    exact ⟨rfl, hB0⟩
  · have h0z : ((N : Int) == 0) = false := by rw [beq_eq_false_iff_ne]; omega
    by_cases h32 : 32 < N
    · have h32z : (32 : Int) < (N : Int) := by omega
      rw [if_pos (.inr h32)] at HC
      go_wp2
      go_ret
      rw [HC.out]
      exact ⟨rfl, hB0⟩
    · have h32z : ¬ (32 : Int) < (N : Int) := by omega
      rw [if_neg (by omega)] at HC
      have HB0 : Aside (Below W.heap.size W (W.alloc (.cells #[.slice ao N cap, .int .i64 s] 33))) := hB0
      have HBX : Aside (∀ Z, Below (W.alloc (.cells #[.slice ao N cap, .int .i64 s] 33)).heap.size (W.alloc (.cells #[.slice ao N cap, .int .i64 s] 33)) Z → Z.cell? ⟨W.heap.size, 1, none⟩ = some (.int .i64 s)) := fun Z hb => (hbx.keep hb).c1
      go_wp2
      clear k0 k1 hbx hB0
      generalize (W.alloc (.cells #[.slice ao N cap, .int .i64 s] 33)) = w0 at *
      go_loopg [20] N (fun g1 vi wr => ∃ k : Nat, vi = .int .i64 (k : Int) ∧ k ≤ N ∧ N - k ≤ g1 ∧ Aside (∀ i (h : i < c.length), i < k → 0 ≤ c[i] ∧ c[i] < L.length) ∧ Aside (wr = w0))
      case atStart => exact ⟨0, rfl, Nat.zero_le _, Nat.le_refl _, fun i _ h => by omega, rfl⟩
      case round =>
        obtain ⟨k, rfl, hk, hg1, HK, HW⟩ := hrel
        have hw := HW.out
        subst hw
        by_cases hlt : k < N
        · have hltz : (k : Int) < (N : Int) := by omega
          have hkc : k < c.length := by rw [HNN.out]; exact hlt
          obtain ⟨ga, oa, rfl, _, ea⟩ := HR.out wr HB0.out k (by simpa [ints] using hkc)
          have ea' : wr.cell? ⟨ga, oa + k, none⟩ = some (.int .i64 c[k]) := by rw [ea]; simp [ints]
          have cS := size_any (HA.out wr HB0.out)
          have HBAD : Aside (¬ (0 ≤ c[k] ∧ c[k] < L.length) → ¬ okNums L c) := fun h ho => h (ho _ (List.getElem_mem hkc))
          have HGOOD : Aside ((0 ≤ c[k] ∧ c[k] < L.length) → ∀ i (h : i < c.length), i < k + 1 → 0 ≤ c[i] ∧ c[i] < L.length) := fun h i hi h2 => by
            by_cases hik : i = k
            · subst hik; exact h
            · exact HK.out i hi (by omega)
          clear ea HK
          generalize c[k] = z at *
          by_cases hz : z < 0
          · rw [if_pos (HBAD.out (by omega))] at HC
            clear HGOOD HBAD
            go_wp2
            go_ret
            rw [HC.out]
            exact ⟨rfl, HB0.out⟩
          · by_cases hz2 : (L.length : Int) ≤ z
            · rw [if_pos (HBAD.out (by omega))] at HC
              clear HGOOD HBAD
              go_wp2_with fail
              refine cS.mono ?_
              rintro e w' ⟨rfl, hw⟩
              obtain rfl := hw.symm
              go_wp2
              go_ret
              rw [HC.out]
              exact ⟨rfl, HB0.out⟩
            · have HK2 := HGOOD.out ⟨by omega, by omega⟩
              have HK3 : Aside (∀ i (h : i < c.length), i < k + 1 → 0 ≤ c[i] ∧ c[i] < L.length) := HK2
              clear HGOOD HBAD HK2
              go_wp2_with fail
              refine cS.mono ?_
              rintro e w' ⟨rfl, hw⟩
              obtain rfl := hw.symm
              clear hw cS
              go_wp2
              go_roundg (N - (k + 1))
              case measure => omega
              case rel => exact ⟨k + 1, by go_num, by omega, Nat.le_refl _, HK3, rfl⟩
        · have hltz : ¬ (k : Int) < (N : Int) := by omega
          have hok : okNums L c := fun z hz => by
            obtain ⟨i, hi, rfl⟩ := List.mem_iff_getElem.1 hz
            exact HK.out i hi (by have := HNN.out; omega)
          rw [if_neg (fun h => h hok)] at HC
          have k1 := HBX.out wr (Below.refl _ _)
          clear HK
          by_cases hs0 : s < 0
          · rw [if_pos (.inl hs0)] at HC
            go_wp2
            go_ret
            rw [HC.out]
            exact ⟨rfl, HB0.out⟩
          · by_cases hs1 : 100 < s
            · rw [if_pos (.inr hs1)] at HC
              go_wp2
              go_ret
              rw [HC.out]
              exact ⟨rfl, HB0.out⟩
            · rw [if_neg (by omega)] at HC
              go_wp2
              go_ret
              rw [HC.out]
              exact ⟨rfl, HB0.out⟩
/-- What the program's New answers. -/
def NewQ (W : World) (L : List ByteArray) (ws : List (List Int × Int)) (e : Ending) (w' : World) : Prop := (∃ v, e = .returned (.tuple #[v, .int .i64 ((newT L ws).2.1 : Nat), .int .i64 (newT L ws).2.2]) ∧ ((newT L ws).2.2 ≠ 0 → v = .pointer none) ∧ ((newT L ws).2.2 = 0 → ∃ xb, v = .pointer (some ⟨xb, 0, none⟩) ∧ IsLex w' W.heap.size xb L (newT L ws).1)) ∧ Below W.heap.size W w'
theorem newW_ok {L : List ByteArray} : ∀ (xs : List (List Int × Int)) (i : Nat) (l : List (List Int × Int)), okE L l → SortL l → l.length + xs.length ≤ 1000 → okE L (newW L xs i l).1 ∧ SortL (newW L xs i l).1 ∧ (newW L xs i l).1.length ≤ 1000
  | [], _, _, h1, h2, h3 => ⟨h1, h2, by rw [newW]; simpa using h3⟩
  | x :: xs, i, l, h1, h2, h3 => by
    rw [newW]
    rw [List.length_cons] at h3
    by_cases h : chkW L x.1 x.2 = 0
    · rw [if_pos h]
      have hk := chk_ok h
      refine newW_ok xs _ _ (fun y hy => ?_) (putL_sort h2 _ _) ?_
      · have hv := (lookL_mem (putL_sort h2 _ _) (c := y.1) (s := y.2)).2 hy
        rw [lookL_put h2] at hv
        by_cases e : y.1 = x.1
        · rw [if_pos e] at hv
          injection hv with hv
          have hb : 0 ≤ y.2 ∧ y.2 ≤ 100 := by
            cases ek : lookL l x.1 with
            | none => rw [ek] at hv; simp only at hv; omega
            | some t =>
              rw [ek] at hv
              simp only at hv
              have := (h1 _ ((lookL_mem h2).1 ek)).2.2
              simp only at this
              omega
          rw [e]
          exact ⟨hk.2.1, hk.2.2.1, hb.1, hb.2, hk.1⟩
        · rw [if_neg e] at hv
          exact h1 _ ((lookL_mem h2).1 hv)
      · rw [putL_len h2]
        split <;> omega
    · rw [if_neg h]
      exact ⟨fun _ h => (by cases h), List.Pairwise.nil, Nat.zero_le _⟩
end Go.Proofs.YtikfaalbdnlelaaGreatDoor.Utf
/-
  The program's New walked.
-/
namespace Go.Proofs.YtikfaalbdnlelaaGreatDoor.Utf
open Go Go.Lib Go.RowKit

theorem toL_drop (ws : List WdV) {k : Nat} (h : k < ws.length) : (toL ws).drop k = (ws[k].c, ws[k].s) :: (toL ws).drop (k + 1) := by
  rw [List.drop_eq_getElem_cons (by rw [toL_len]; exact h), toL_at h]

set_option maxRecDepth 100000 in
set_option maxHeartbeats 4000000 in
theorem newX_any {W : World} {b : Nat} {L : List ByteArray} {rk : List Nat} (hA : IsAlpha W b L rk) (hLs : ∀ x ∈ L, x.size ≤ 12) (ws : List WdV) (aw : Option Addr) (cw : Nat) (hlen : ws.length ≤ 4611686018427387904) (hsm : ∀ x ∈ ws, x.c.length ≤ 4611686018427387904) (hR : ReadsW W aw ws) :
    Calls Tryz.prog 9 #[.pointer (some ⟨b, 0, none⟩), .slice aw ws.length cw] W (NewQ W L (toL ws)) := by
  have h40 := hA.small
  obtain ⟨R, hRR⟩ : ∃ R, newT L (toL ws) = R := ⟨_, rfl⟩
  have HT : Aside (newT L (toL ws) = if 1000 < ws.length then ([], 0, 111) else newW L (toL ws) 0 []) := by show _ = _; unfold newT; rw [toL_len]
  unfold NewQ
  rw [hRR] at HT ⊢
  have hown := World.ownsMap_made W Tryz.prog 9 (plainElem (H := Unit) Tryz.prog 3)
  have HA : Aside (∀ w, (W.alloc (.map #[] 0)).grownBy w (some W.heap.size) → IsAlpha w b L rk ∧ ReadsW w aw ws ∧ Below W.heap.size W w) := fun w hg => by
    have hb : Below W.heap.size W w := (below_box' W (.map #[] 0)).grown hg (by simp) (fun k e => by injection e with e; omega)
    exact ⟨hA.below hb, hR.below hb, hb⟩
  have HS0 : Aside (ScW (W.alloc (.map #[] 0)) W.heap.size 0 []) := ⟨_, ScD.empty, hown⟩
  have HSM : Aside (∀ x ∈ ws, x.c.length ≤ 4611686018427387904) := hsm
  have HLS : Aside (∀ x ∈ L, x.size ≤ 12) := hLs
  clear hown hA hR hRR hsm hLs
  by_cases hbig : 1000 < ws.length
  · have hbz : (1000 : Int) < (ws.length : Int) := by omega
    rw [if_pos hbig] at HT
    go_enter Tryz.func9, Tryz.ntmps9
    go_wp2
    go_ret3
    rw [HT.out]
    exact ⟨⟨_, rfl, fun _ => rfl, fun h => absurd h (show ¬ (111 : Int) = 0 by decide)⟩, Below.refl _ _⟩
  · have hbz : ¬ (1000 : Int) < (ws.length : Int) := by omega
    rw [if_neg hbig] at HT
    have hmm := @run_makeMap Tryz.prog
    go_enter Tryz.func9, Tryz.ntmps9
    go_wp2
    have HG0 : Aside ((W.alloc (.map #[] 0)).grownBy (W.alloc (.map #[] 0)) (some W.heap.size)) := World.grownBy.refl _ _
    have hwB : W.heap.size < (W.alloc (.map #[] 0)).heap.size := by simp
    generalize (W.alloc (.map #[] 0)) = w0 at *
    clear hmm
    go_loopg [17] ws.length (fun g1 vi wr => ∃ (k : Nat) (l : List (List Int × Int)), vi = .int .i64 (k : Int) ∧ k ≤ ws.length ∧ ws.length - k ≤ g1 ∧ Aside (ScW wr W.heap.size k l) ∧ Aside (okE L l ∧ SortL l ∧ l.length ≤ k) ∧ Aside (w0.grownBy wr (some W.heap.size)) ∧ Aside (R = newW L ((toL ws).drop k) k l))
    case atStart => exact ⟨0, [], rfl, Nat.zero_le _, Nat.le_refl _, HS0, ⟨fun _ h => (by cases h), List.Pairwise.nil, Nat.le_refl _⟩, HG0, HT⟩
    case round =>
      clear HS0 HG0 HT
      obtain ⟨k, l, rfl, hk, hg1, HS, HK, HG, HR⟩ := hrel
      have HAr := HA.out wr HG.out
      have hszr := HG.out.size
      by_cases hlt : k < ws.length
      · have hltz : (k : Int) < (ws.length : Int) := by omega
        obtain ⟨g, o, rfl, e2, e3, e4, e5, e6⟩ := HAr.2.1 k hlt
        have hmk := HSM.out _ (List.getElem_mem hlt)
        have HRk := HR.out
        rw [toL_drop ws hlt, newW] at HRk
        simp only at HRk
        have HR2 : Aside (R = if chkW L ws[k].c ws[k].s = 0 then newW L ((toL ws).drop (k + 1)) (k + 1) (putL l ws[k].c ws[k].s) else ([], k, chkW L ws[k].c ws[k].s)) := HRk
        clear HR HRk e6
        generalize ws[k].c = c at *
        generalize ws[k].s = sc at *
        generalize ws[k].ao = ao at *
        generalize ws[k].cap = cap at *
        have hbY : Below wr.heap.size wr (wr.alloc (.cells #[.slice ao c.length cap, .int .i64 sc] 33)) := below_box' wr _
        have cC := check_any (HAr.1.below hbY) c sc ao cap hmk (e5.below hbY)
        have hbx : Bx2 (wr.alloc (.cells #[.slice ao c.length cap, .int .i64 sc] 33)) wr.heap.size 33 (.slice ao c.length cap) (.int .i64 sc) := ⟨heap_box wr _⟩
        have HE5 : Aside (ReadsO wr ao (ints c)) := e5
        have hck := @chk_ok L c sc
        generalize chkW L c sc = E at *
        have k0 := hbx.c0
        have k1 := hbx.c1
        obtain ⟨N, hN⟩ : ∃ N, c.length = N := ⟨_, rfl⟩
        rw [hN] at e3 cC hbx hbY k0 k1
        have HN : Aside (c.length = N) := hN
        clear e5 HAr hN
        go_wp2_with fail
        refine cC.mono ?_
        rintro e w2 ⟨rfl, hb2⟩
        have hB2 : Below wr.heap.size wr w2 := hbY.trans (hb2.mono hbY.size)
        have hbx2 := hbx.keep hb2
        clear cC k0 k1 e3 e4
        by_cases hE : E = 0
        · subst hE
          rw [if_pos rfl] at HR2
          obtain ⟨q1, q2, q3, q4, q5⟩ := hck rfl
          have hHG2 : w0.grownBy w2.drew (some W.heap.size) := HG.out.trans (below_but (Below.drew hB2) _)
          have hM2 : ScW w2.drew W.heap.size k l := HS.out.grown (Below.drew hB2)
          have hbt : ∀ x ∈ c, isBt x := fun x hx => by have := q3 x hx; unfold isBt; omega
          have cK := keyOf_any c hbt (by omega) ao cap w2.drew (HE5.out.below (Below.drew hB2))
          have hs6 : wr.heap.size < w2.drew.heap.size := hbx2.lt
          have hS0 : w2.drew.cell? ⟨wr.heap.size, 0, none⟩ = some (.slice ao N cap) ∧ w2.drew.cell? ⟨wr.heap.size, 1, none⟩ = some (.int .i64 sc) := ⟨hbx2.c0, hbx2.c1⟩
          have hSS : ∀ Z, Below w2.drew.heap.size w2.drew Z → Z.cell? ⟨wr.heap.size, 0, none⟩ = some (.slice ao N cap) ∧ Z.cell? ⟨wr.heap.size, 1, none⟩ = some (.int .i64 sc) := fun Z hb => ⟨(hb.cell (p := ⟨wr.heap.size, 0, none⟩) hs6).trans hS0.1, (hb.cell (p := ⟨wr.heap.size, 1, none⟩) hs6).trans hS0.2⟩
          have HM : Aside (ScW w2.drew W.heap.size k l) := hM2
          have HAD : Aside (∀ Z, ScW Z W.heap.size k l → Calls Tryz.prog 28 #[.map (some W.heap.size), .string ⟨(mkB c).toArray⟩, .int .i64 sc] Z fun e w' => e = .returned (.tuple #[]) ∧ ScW w' W.heap.size (k + 1) (putL l c sc) ∧ Z.grownBy w' (some W.heap.size)) := fun Z hz => add_any W.heap.size k l c sc hbt (by omega) q4 (by omega) (by omega) Z hz
          have HK2 : Aside (okE L (putL l c sc) ∧ SortL (putL l c sc) ∧ (putL l c sc).length ≤ k + 1) := by
            have hw := @newW_ok L [(c, sc)] 0 l HK.out.1 HK.out.2.1 (by have := HK.out.2.2; simp; omega)
            have hck2 : chkW L c sc = 0 := by
              unfold chkW
              rw [if_neg (by omega), if_neg (fun h => h q3), if_neg (by omega)]
            rw [newW, if_pos hck2, newW] at hw
            refine ⟨hw.1, hw.2.1, ?_⟩
            rw [putL_len HK.out.2.1]
            have := HK.out.2.2
            split <;> omega
          have hEz : ((0 : Int) != 0) = false := by decide
          have hwrW : W.heap.size < wr.heap.size := by omega
          rw [HN.out] at cK
          clear hbx hbx2 hM2 hck q1 q2 q3 hb2 hbY HE5 HN hbt
          obtain ⟨s6, hs6e⟩ : ∃ s6, wr.heap.size = s6 := ⟨_, rfl⟩
          rw [hs6e] at hS0 hSS hs6 hwrW ⊢
          clear hs6e
          go_wp2
          refine wp_region_held (S := fun Z => Z.cell? ⟨s6, 0, none⟩ = some (.slice ao N cap) ∧ Z.cell? ⟨s6, 1, none⟩ = some (.int .i64 sc)) (by kernel_rfl) ?_
          refine (show wpAnyH _ .any _ _ _ 7 (Array.replicate 7 false) _ w2.drew from ?_)
          refine takeD (i := 0) (d := 29) (v := .map (some W.heap.size)) rfl (by kernel_rfl) (by kernel_rfl) (by kernel_rfl) (fun _ _ _ h => h) (fun oi ho => yields_now ho rfl fun Z hSw => ?_) hS0 ?_
          · obtain ⟨s1, s2⟩ := hSw
            go_simp
          simp only [Act.put, List.setIfInBounds_toArray, List.set_cons_zero, List.set_cons_succ]
          refine takeD (i := 1) (d := 30) (v := .pointer (some ⟨s6, 0, none⟩)) rfl (by kernel_rfl) (by kernel_rfl) (by kernel_rfl) (fun _ _ _ h => h) (fun oi ho => yields_now ho rfl fun Z hSw => ?_) hS0 ?_
          · obtain ⟨s1, s2⟩ := hSw
            go_simp
          simp only [Act.put, List.setIfInBounds_toArray, List.set_cons_zero, List.set_cons_succ]
          refine takeD (i := 2) (d := 31) (v := .slice ao N cap) rfl (by kernel_rfl) (by kernel_rfl) (by kernel_rfl) (fun _ _ _ h => h) (fun oi ho => yields_now ho rfl fun Z hSw => ?_) hS0 ?_
          · obtain ⟨s1, s2⟩ := hSw
            go_simp
          simp only [Act.put, List.setIfInBounds_toArray, List.set_cons_zero, List.set_cons_succ]
          refine takeD (i := 4) (d := 33) (v := .pointer (some ⟨s6, 1, none⟩)) rfl (by kernel_rfl) (by kernel_rfl) (by kernel_rfl) (fun _ _ _ h => h) (fun oi ho => yields_now ho rfl fun Z hSw => ?_) hS0 ?_
          · obtain ⟨s1, s2⟩ := hSw
            go_simp
          simp only [Act.put, List.setIfInBounds_toArray, List.set_cons_zero, List.set_cons_succ]
          refine takeD (i := 5) (d := 34) (v := .int .i64 sc) rfl (by kernel_rfl) (by kernel_rfl) (by kernel_rfl) (fun _ _ _ h => h) (fun oi ho => yields_now ho rfl fun Z hSw => ?_) hS0 ?_
          · obtain ⟨s1, s2⟩ := hSw
            go_simp
          simp only [Act.put, List.setIfInBounds_toArray, List.set_cons_zero, List.set_cons_succ]
          refine wpAnyH_all (rs := [3]) (by kernel_rfl) (by simp) (fun i hi => ?_)
          obtain rfl := List.mem_singleton.1 hi
          refine wpOp_call rfl rfl rfl (by go_simp) (cK) ?_
          rintro e w7 ⟨rfl, hb7⟩
          have hS7 := hSS w7 hb7
          have hM7 := HM.out.grown hb7
          have cAd := HAD.out w7 hM7
          refine ⟨_, rfl, hS7, ?_⟩
          simp only [Act.put, List.setIfInBounds_toArray, List.set_cons_zero, List.set_cons_succ]
          refine wpAnyH_all (rs := [6]) (by kernel_rfl) (by simp) (fun i hi => ?_)
          obtain rfl := List.mem_singleton.1 hi
          refine wpOp_call rfl rfl rfl (by go_simp) (cAd) ?_
          rintro e w8 ⟨rfl, hM8, hg8⟩
          have hS8 : w8.cell? ⟨s6, 0, none⟩ = some (.slice ao N cap) ∧ w8.cell? ⟨s6, 1, none⟩ = some (.int .i64 sc) := ⟨(World.cell?_of_block (a := ⟨s6, 0, none⟩) (hg8.block s6 (Nat.lt_of_lt_of_le hs6 hb7.size) (fun e => by injection e with e; omega))).trans hS7.1, (World.cell?_of_block (a := ⟨s6, 1, none⟩) (hg8.block s6 (Nat.lt_of_lt_of_le hs6 hb7.size) (fun e => by injection e with e; omega))).trans hS7.2⟩
          refine ⟨_, rfl, hS8, ?_⟩
          simp only [Act.put, List.setIfInBounds_toArray, List.set_cons_zero, List.set_cons_succ]
          refine wpAnyH_done (by kernel_rfl) ?_ _
          have HG8 : Aside (w0.grownBy w8 (some W.heap.size)) := (hHG2.trans (below_but hb7 _)).trans hg8
          have HS8 : Aside (ScW w8 W.heap.size (k + 1) (putL l c sc)) := hM8
          clear hS8 hS7 hM7 hS0 hSS hM8 hg8 hb7 cK cAd HM HAD hHG2 hB2 hs6
          go_wp2
          go_roundg (ws.length - (k + 1))
          case measure => omega
          case rel => exact ⟨k + 1, _, by go_num, by omega, Nat.le_refl _, HS8, HK2, HG8, HR2⟩
        · have hEz : (E != 0) = true := by rw [bne_iff_ne]; exact hE
          rw [if_neg hE] at HR2
          have HF : Aside (Below W.heap.size W w2) := (HA.out wr HG.out).2.2.trans (hB2.mono (by omega))
          clear hbx hbx2
          go_wp2
          go_ret3
          rw [HR2.out]
          exact ⟨⟨_, rfl, fun _ => rfl, fun h => absurd h hE⟩, HF.out⟩
      · have hltz : ¬ (k : Int) < (ws.length : Int) := by omega
        have HR2 : Aside (R = (l, 0, 0)) := by
          show _ = _
          rw [HR.out, List.drop_eq_nil_of_le (by rw [toL_len]; omega), newW]
        have cX := lexi_any HAr.1 HLS.out W.heap.size k l HS.out HK.out.1 (by have := HK.out.2.2; omega)
        have HAW : Aside (Below W.heap.size W wr) := HAr.2.2
        clear HR HAr
        go_wp2_with fail
        refine cX.mono ?_
        rintro e w2 ⟨rfl, hX, hb2⟩
        have hX2 := hX.base HAW.out.size
        have HX : Aside (IsLex w2 W.heap.size wr.heap.size L l) := hX2
        have HF : Aside (Below W.heap.size W w2) := HAW.out.trans (hb2.mono HAW.out.size)
        clear cX hX hX2
        go_wp2
        go_ret3
        rw [HR2.out]
        exact ⟨⟨_, rfl, fun h => absurd rfl h, fun _ => ⟨_, rfl, HX.out⟩⟩, HF.out⟩
end Go.Proofs.YtikfaalbdnlelaaGreatDoor.Utf
/-
  The document's New walked.
-/
namespace Go.Proofs.YtikfaalbdnlelaaGreatDoor.Utf
open Go Go.Lib Go.RowKit

/-- What the document's New answers. -/
def RNewP (W : World) (R : List (List Int × Int) × Nat × Int) (e : Ending) (w' : World) : Prop := (∃ v es, e = .returned (.tuple #[v, .int .i64 (R.2.1 : Nat), .int .i64 R.2.2]) ∧ IsWd W.heap.size w' v es ∧ toL es = R.1) ∧ Below W.heap.size W w'

set_option maxRecDepth 100000 in
set_option maxHeartbeats 4000000 in
theorem refNewX_any {W : World} (L : List ByteArray) (hLs : ∀ x ∈ L, x.size ≤ 12) (h40 : L.length ≤ 40) (al : Option Addr) (cl : Nat) (hRL : ReadsO W al (L.map Value.string)) (ws : List WdV) (aw : Option Addr) (cw : Nat) (hlen : ws.length ≤ 4611686018427387904) (hsm : ∀ x ∈ ws, x.c.length ≤ 1048576) (hR : ReadsW W aw ws) :
    Calls Tryz.prog 10 #[.slice al L.length cl, .slice aw ws.length cw] W (RNewP W (newT L (toL ws))) := by
  obtain ⟨R, hRR⟩ : ∃ R, newT L (toL ws) = R := ⟨_, rfl⟩
  have HT : Aside (newT L (toL ws) = if 1000 < ws.length then ([], 0, 111) else newW L (toL ws) 0 []) := by show _ = _; unfold newT; rw [toL_len]
  rw [hRR] at HT ⊢
  have HA : Aside (∀ w, Below W.heap.size W w → ReadsO w al (L.map Value.string) ∧ ReadsW w aw ws) := fun w hb => ⟨hRL.below hb, hR.below hb⟩
  have HSM : Aside (∀ x ∈ ws, x.c.length ≤ 1048576) := hsm
  have HLS : Aside (∀ x ∈ L, x.size ≤ 12) := hLs
  clear hRL hR hRR hsm hLs
  by_cases hbig : 1000 < ws.length
  · have hbz : (1000 : Int) < (ws.length : Int) := by omega
    rw [if_pos hbig] at HT
    go_enter Tryz.func10, Tryz.ntmps10
    go_wp2
    go_ret3
    rw [HT.out]
    exact ⟨⟨_, [], rfl, IsWd.nil _ _, rfl⟩, Below.refl _ _⟩
  · have hbz : ¬ (1000 : Int) < (ws.length : Int) := by omega
    rw [if_neg hbig] at HT
    go_enter Tryz.func10, Tryz.ntmps10
    go_wp2
    go_loopg [7, 8] ws.length (fun g1 vl vi wr => ∃ (k : Nat) (l : List (List Int × Int)) (es : List WdV) (v1 : Value), vi = .int .i64 (k : Int) ∧ vl = v1 ∧ k ≤ ws.length ∧ ws.length - k ≤ g1 ∧ Aside (IsWd W.heap.size wr v1 es) ∧ Aside (toL es = l) ∧ Aside (okE L l ∧ SortL l ∧ l.length ≤ k) ∧ Aside (Below W.heap.size W wr) ∧ Aside (R = newW L ((toL ws).drop k) k l))
    case atStart => exact ⟨0, [], [], _, rfl, rfl, Nat.zero_le _, Nat.le_refl _, IsWd.nil _ _, rfl, ⟨fun _ h => (by cases h), List.Pairwise.nil, Nat.le_refl _⟩, Below.refl _ _, HT⟩
    case round =>
      clear HT
      obtain ⟨k, l, es, vl, rfl, q1, hk, hg1, HI, HL, HK, HB, HR⟩ := hrel
      obtain rfl := q1.symm
      clear q1
      have HAr := HA.out wr HB.out
      by_cases hlt : k < ws.length
      · have hltz : (k : Int) < (ws.length : Int) := by omega
        obtain ⟨g, o, rfl, e2, e3, e4, e5, e6⟩ := HAr.2 k hlt
        have hmk := HSM.out _ (List.getElem_mem hlt)
        have HRk := HR.out
        rw [toL_drop ws hlt, newW] at HRk
        simp only at HRk
        have HR2 : Aside (R = if chkW L ws[k].c ws[k].s = 0 then newW L ((toL ws).drop (k + 1)) (k + 1) (putL l ws[k].c ws[k].s) else ([], k, chkW L ws[k].c ws[k].s)) := HRk
        have HCB : Aside (1 ≤ ws[k].c.length → ∀ b o', ws[k].ao = some ⟨b, o', none⟩ → b < W.heap.size) := fun h1 b o' e => by
          obtain ⟨_, _, _, _, _, _, h8, _⟩ := (HA.out W (Below.refl _ _)).2 k hlt
          obtain ⟨g', o2, e1', e2', _⟩ := h8 0 (by simp [ints]; omega)
          rw [e1'] at e
          injection e with e
          injection e with e
          omega
        clear HR HRk
        generalize ws[k].c = c at *
        generalize ws[k].s = sc at *
        generalize ws[k].ao = ao at *
        generalize ws[k].cap = cap at *
        have hbY : Below wr.heap.size wr (wr.alloc (.cells #[.slice ao c.length cap, .int .i64 sc] 33)) := below_box' wr _
        have hbx : Bx2 (wr.alloc (.cells #[.slice ao c.length cap, .int .i64 sc] 33)) wr.heap.size 33 (.slice ao c.length cap) (.int .i64 sc) := ⟨heap_box wr _⟩
        have cJ := refJoin_any L HLS.out h40 al cl c ao cap (wr.alloc (.cells #[.slice ao c.length cap, .int .i64 sc] 33)) (by omega) (HAr.1.below hbY) (e5.below hbY)
        have HE5 : Aside (ReadsO wr ao (ints c)) := e5
        have HCK : Aside (chkW L c sc = if c.length = 0 ∨ 32 < c.length then 35 else if ¬ okNums L c then 35 else if sc < 0 ∨ 100 < sc then 91 else 0) := rfl
        have hck := @chk_ok L c sc
        have k0 := hbx.c0
        have k1 := hbx.c1
        obtain ⟨N, hN⟩ : ∃ N, c.length = N := ⟨_, rfl⟩
        rw [hN] at e3 cJ hbx hbY k0 k1 HCK hmk
        have HN : Aside (c.length = N) := hN
        obtain ⟨E, hEE⟩ : ∃ E, chkW L c sc = E := ⟨_, rfl⟩
        rw [hEE] at HCK HR2 hck
        clear e5 HAr hN hEE
        generalize joinT L c = JT at *
        go_wp2_with fail
        refine cJ.mono ?_
        rintro e w2 hj
        have hB2 : Below wr.heap.size wr w2 := hbY.trans (hj.2.mono hbY.size)
        have hbx2 := hbx.keep hj.2
        have HF2 : Aside (Below W.heap.size W w2) := HB.out.trans (hB2.mono HB.out.size)
        clear cJ k0 k1 e3 e4
        have k0 := hbx2.c0
        have k1 := hbx2.c1
        rcases hj with ⟨⟨hok, rfl⟩ | ⟨hno, rfl⟩, hb2⟩
        · by_cases h0 : N < 1
          · have h0z : (N : Int) < 1 := by omega
            rw [if_pos (.inl (by omega))] at HCK
            have hE := HCK.out
            subst hE
            rw [if_neg (by decide)] at HR2
            clear hck hbx hbx2
            go_wp2
            go_ret3
            rw [HR2.out]
            exact ⟨⟨_, [], rfl, IsWd.nil _ _, rfl⟩, HF2.out⟩
          · have h0z : ¬ (N : Int) < 1 := by omega
            by_cases h32 : 32 < N
            · have h32z : (32 : Int) < (N : Int) := by omega
              rw [if_pos (.inr h32)] at HCK
              have hE := HCK.out
              subst hE
              rw [if_neg (by decide)] at HR2
              clear hck hbx hbx2
              go_wp2
              go_ret3
              rw [HR2.out]
              exact ⟨⟨_, [], rfl, IsWd.nil _ _, rfl⟩, HF2.out⟩
            · have h32z : ¬ (32 : Int) < (N : Int) := by omega
              rw [if_neg (by omega), if_neg (fun h => h hok)] at HCK
              by_cases hs0 : sc < 0
              · rw [if_pos (.inl hs0)] at HCK
                have hE := HCK.out
                subst hE
                rw [if_neg (by decide)] at HR2
                clear hck hbx hbx2
                go_wp2
                go_ret3
                rw [HR2.out]
                exact ⟨⟨_, [], rfl, IsWd.nil _ _, rfl⟩, HF2.out⟩
              · by_cases hs1 : 100 < sc
                · rw [if_pos (.inr hs1)] at HCK
                  have hE := HCK.out
                  subst hE
                  rw [if_neg (by decide)] at HR2
                  clear hck hbx hbx2
                  go_wp2
                  go_ret3
                  rw [HR2.out]
                  exact ⟨⟨_, [], rfl, IsWd.nil _ _, rfl⟩, HF2.out⟩
                · rw [if_neg (by omega)] at HCK
                  have hE := HCK.out
                  subst hE
                  rw [if_pos rfl] at HR2
                  have hes : es.length ≤ 1000 := by
                    have h7 := HK.out.2.2
                    have h8 := congrArg List.length HL.out
                    rw [toL_len] at h8
                    omega
                  have HM32 : Aside (∀ x ∈ es, x.c.length ≤ 32) := fun y hy => (HK.out.1 (y.c, y.s) (by rw [← HL.out]; exact List.mem_map_of_mem (f := fun y : WdV => (y.c, y.s)) hy)).1
                  have hI2 := HI.out.below hB2
                  have cP := put_any hI2 HF2.out.size hes HM32.out c (by rw [HN.out]; omega) ao cap e6 (HE5.out.below hB2) (fun b o e => ⟨Nat.lt_of_lt_of_le (HCB.out (by rw [HN.out]; omega) b o e) HF2.out.size, fun e8 => by have := (hI2.row.lt b e8).1; have := HCB.out (by rw [HN.out]; omega) b o e; omega⟩) sc
                  have HK2 : Aside (okE L (putL l c sc) ∧ SortL (putL l c sc) ∧ (putL l c sc).length ≤ k + 1) := by
                    have hck2 : chkW L c sc = 0 := by
                      unfold chkW
                      rw [HN.out, if_neg (by omega), if_neg (fun h => h hok), if_neg (by omega)]
                    have hw := @newW_ok L [(c, sc)] 0 l HK.out.1 HK.out.2.1 (by have := HK.out.2.2; simp; omega)
                    rw [newW, if_pos hck2, newW] at hw
                    refine ⟨hw.1, hw.2.1, ?_⟩
                    rw [putL_len HK.out.2.1]
                    have := HK.out.2.2
                    split <;> omega
                  have HPM : Aside (∀ e w', PutP W.heap.size w2 vl es c sc e w' → ∃ v' es', e = .returned v' ∧ IsWd W.heap.size w' v' es' ∧ toL es' = putL l c sc ∧ Below W.heap.size W w') := fun e w' ⟨v', es', e1, p1, p2, p3, _⟩ =>
                    ⟨v', es', e1, p1, by rw [p2, HL.out], HF2.out.grown p3 HF2.out.size (fun q e => (hI2.row.lt q e).1)⟩
                  rw [HN.out] at cP
                  clear hck hbx hI2 hbx2 HE5 HN e6 HCB hok
                  go_wp2_with fail
                  refine cP.mono ?_
                  rintro e w4 hpp
                  obtain ⟨v', es', rfl, hs4, ht4, hb4⟩ := HPM.out e w4 hpp
                  have HI4 : Aside (IsWd W.heap.size w4 v' es') := hs4
                  have HL4 : Aside (toL es' = putL l c sc) := ht4
                  have HB4 : Aside (Below W.heap.size W w4) := hb4
                  clear cP hpp hs4 ht4 hb4 HPM k0 k1 hB2 hb2 hbY
                  go_wp2
                  go_roundg (ws.length - (k + 1))
                  case measure => omega
                  case rel => exact ⟨k + 1, _, es', _, by go_num, rfl, by omega, Nat.le_refl _, HI4, HL4, HK2, HB4, HR2⟩
        · have hE : E = 35 := by
            have h7 := HCK.out
            by_cases h1 : N = 0 ∨ 32 < N
            · rw [if_pos h1] at h7; exact h7
            · rw [if_neg h1, if_pos hno] at h7; exact h7
          subst hE
          rw [if_neg (by decide)] at HR2
          clear hck hbx hbx2
          go_wp2
          go_ret3
          rw [HR2.out]
          exact ⟨⟨_, [], rfl, IsWd.nil _ _, rfl⟩, HF2.out⟩
      · have hltz : ¬ (k : Int) < (ws.length : Int) := by omega
        have HR2 : Aside (R = (l, 0, 0)) := by
          show _ = _
          rw [HR.out, List.drop_eq_nil_of_le (by rw [toL_len]; omega), newW]
        clear HR HAr
        go_wp2
        go_ret3
        rw [HR2.out]
        exact ⟨⟨_, es, rfl, HI.out, HL.out⟩, HB.out⟩
end Go.Proofs.YtikfaalbdnlelaaGreatDoor.Utf
/-
  For LexiconNews: operations that give a value in a drawing region; a copy of a list of words whose cells may be written; worlds that are alike outside some blocks.
-/
namespace Go.Proofs.YtikfaalbdnlelaaGreatDoor.Utf
open Go Go.Lib Go.RowKit

theorem wpOp_value {P : Program} {ops : Array Oper} {Q : Exit → Act → World → Prop} {i d : Nat} {o : Oper} {K : Act → World → Prop} {a : Act} {w w' : World} {v : Value} (q : ops[i]? = some o) (g : o.guard = none) (hd : o.dst = some d) (h : (execOp a.eval o).run P w = .ok (.value v) w') (hK : K (a.put (some d) v) w') : wpOp P ops Q i K a w := by
  refine wpOp_wp q g ?_
  unfold Oper.wp
  rw [h, Oper.upon_value, hd]
  exact hK
theorem wpOp_append_at {P : Program} {w : World} {ops : Array Oper} {Q : Exit → Act → World → Prop} {j d : Nat} {o : Oper} {K : Act → World → Prop} {a : Act} (q : ops[j]? = some o) (hgd : o.guard = none) (hd : o.dst = some d) (s x : Operand) (t : TypeId)
    (ho : o.op = .call { callee := .builtin .append, args := #[s, x], argTypes := #[t, t] })
    (base : Nat) (e : TypeId) (i : TypeInfo) (z : Value) (size bytes : Nat) (ht : P.underlying t = some (.slice e)) (hi : P.info? e = some i) (hz : i.zero = some z)
    (hsize : i.size = size) (hby : i.bytes = bytes) (hzs : z.cells.size = size) (hsz : 0 < size)
    (v : Value) (n : Nat) (xs : List Value) (hs : a.eval s = v) (hown : w.ownsRow base e size v n xs)
    (ad : Addr) (m c : Nat) (news : List Value) (hx : a.eval x = .slice (some ad) m c) (hl : news.length = m * size) (hnews : ∀ j u, news[j]? = some u → w.cell? (ad.add j) = some u) (h1 : ∀ u ∈ news, u.oneCell' = true)
    (h63 : n + m ≤ maxLen) (hbytes : (n + m) * bytes ≤ 140737488355328) (hbase : base ≤ w.heap.size)
    (h : ∀ v' w', w'.ownsRow base e size v' (n + m) (xs ++ news) → w.grownBy w' v.ownBlock → (v'.ownBlock = v.ownBlock ∨ v'.ownBlock = some w.heap.size) → K (a.put (some d) v') w') :
    wpOp P ops Q j K a w := by
  refine wpOp_wp q hgd ?_
  obtain ⟨v', w', hr, h2, h3, _, h5⟩ := run_append_own_at (P := P) w base t o.type e i z size bytes ht hi hz hsize hby hzs hsz v n xs hown ad m c news hl hnews h1 h63 hbytes hbase
  unfold Oper.wp execOp
  simp only [ho, resolve, invoke, builtin, Sem.run_bind, Sem.run_pure, Result.andThen_ok, List.map_toArray, List.map_cons, List.map_nil, hs, hx, hr]
  rw [Oper.upon_value, hd]
  exact h v' w' h2 h3 h5
theorem wpOp_append_src {P : Program} {w : World} {ops : Array Oper} {Q : Exit → Act → World → Prop} {j d : Nat} {o : Oper} {K : Act → World → Prop} {a : Act} (q : ops[j]? = some o) (hgd : o.guard = none) (hd : o.dst = some d) (s x : Operand) (t : TypeId)
    (ho : o.op = .call { callee := .builtin .append, args := #[s, x], argTypes := #[t, t] })
    (base : Nat) (e : TypeId) (i : TypeInfo) (z : Value) (bytes : Nat) (ht : P.underlying t = some (.slice e)) (hi : P.info? e = some i) (hz : i.zero = some z)
    (hsize : i.size = 1) (hby : i.bytes = bytes) (hzs : z.cells.size = 1)
    (v : Value) (n : Nat) (xs : List Value) (hs : a.eval s = v) (hown : w.ownsRow base e 1 v n xs)
    (ao : Option Addr) (m c : Nat) (news : List Value) (hx : a.eval x = .slice ao m c) (hao : ao = none → c = 0) (hm : news.length = m) (hsrc : ReadsO w ao news) (h1 : ∀ u ∈ news, u.oneCell' = true)
    (h63 : n + m ≤ maxLen) (hbytes : (n + m) * bytes ≤ 140737488355328) (hbase : base ≤ w.heap.size)
    (h : ∀ v' w', w'.ownsRow base e 1 v' (n + m) (xs ++ news) → w.grownBy w' v.ownBlock → (v'.ownBlock = v.ownBlock ∨ v'.ownBlock = some w.heap.size) → K (a.put (some d) v') w') :
    wpOp P ops Q j K a w := by
  cases ao with
  | none =>
    obtain rfl := hao rfl
    have hn : news = [] := by
      cases news with
      | nil => rfl
      | cons u r => obtain ⟨g, o, h, _⟩ := hsrc 0 (by simp); cases h
    subst hn
    have hm0 : m = 0 := hm.symm
    subst hm0
    refine wpOp_wp q hgd ?_
    have hrun := run_append_owned_none (P := P) (w := w) base t o.type e i 1 ht hi v n xs hown
    unfold Oper.wp
    simp only [execOp, ho, resolve, invoke, builtin, hs, hx, hrun, Sem.run_bind, Sem.run_pure, Result.andThen_ok, List.map_toArray, List.map_cons, List.map_nil]
    rw [Oper.upon_value, hd]
    refine h v w ?_ ?_ (.inl rfl)
    · rw [List.append_nil, Nat.add_zero]; exact hown
    · exact ⟨rfl, rfl, rfl, Nat.le_refl _, fun _ _ _ => rfl⟩
  | some ad =>
    refine wpOp_append_at q hgd hd s x t ho base e i z 1 bytes ht hi hz hsize hby hzs (by decide) v n xs hs hown ad m c news hx (by omega) (fun j u hu => ?_) h1 h63 hbytes hbase h
    have hj := (List.getElem?_eq_some_iff.1 hu).1
    obtain ⟨g, o, e1, e2, e3⟩ := hsrc j hj
    injection e1 with e1
    subst e1
    rw [Addr.add_lit, e3, ← hu, List.getElem?_eq_getElem hj]
/-- The blocks from B on are as they were. -/
def Same (B : Nat) (W W' : World) : Prop := W.heap.size ≤ W'.heap.size ∧ ∀ k, B ≤ k → k < W.heap.size → W'.heap[k]? = W.heap[k]?
theorem Same.refl (B : Nat) (W : World) : Same B W W := ⟨Nat.le_refl _, fun _ _ _ => rfl⟩
theorem Same.below {B : Nat} {a b c : World} (h : Same B a b) (hb : Below b.heap.size b c) : Same B a c := ⟨Nat.le_trans h.1 hb.size, fun k h1 h2 => (hb.block k (Nat.lt_of_lt_of_le h2 h.1)).trans (h.2 k h1 h2)⟩
theorem Same.grown {B : Nat} {a b c : World} {row : Option Nat} (h : Same B a b) (hg : b.grownBy c row) (hr : ∀ k, row = some k → k < B) : Same B a c := ⟨Nat.le_trans h.1 hg.size, fun k h1 h2 => (hg.block k (Nat.lt_of_lt_of_le h2 h.1) (fun e => by have := hr k e.symm; omega)).trans (h.2 k h1 h2)⟩
theorem Same.cell {B : Nat} {W W' : World} (h : Same B W W') {g q : Nat} (h1 : B ≤ g) (h2 : g < W.heap.size) : W'.cell? ⟨g, q, none⟩ = W.cell? ⟨g, q, none⟩ := World.cell?_of_block (a := ⟨g, q, none⟩) (h.2 g h1 h2)
theorem IsLex.same {W W' : World} {B base xb : Nat} {L : List ByteArray} {l : List (List Int × Int)} (h : IsLex W base xb L l) (hs : Same B W W') (hB : B ≤ base) : IsLex W' base xb L l := by
  obtain ⟨⟨wo, cap, h1, h2⟩, h3⟩ := h
  have hxl := (Array.getElem?_eq_some_iff.1 h1).1
  refine ⟨⟨wo, cap, (hs.2 xb (Nat.le_trans hB h3) hxl).trans h1, fun i hi => ?_⟩, h3⟩
  obtain ⟨g, ao, cp, e1, e2, e3, e4, e5, e6⟩ := h2 i hi
  have hg := Nat.le_trans hB e2.1
  refine ⟨g, ao, cp, e1, ⟨e2.1, Nat.lt_of_lt_of_le e2.2 hs.1⟩, (hs.cell hg e2.2).trans e3, ⟨fun j hj => ?_, e4.2⟩, (hs.cell hg e2.2).trans e5, (hs.cell hg e2.2).trans e6⟩
  obtain ⟨g2, o2, k1, k2, k3⟩ := e4.1 j hj
  exact ⟨g2, o2, k1, Nat.lt_of_lt_of_le k2 hs.1, (hs.cell (Nat.le_trans hB (e4.2 g2 o2 k1)) k2).trans k3⟩
theorem IsWd.same {W W' : World} {B base : Nat} {v : Value} {es : List WdV} (h : IsWd base W v es) (hs : Same B W W') (hB : B ≤ base) : IsWd base W' v es := by
  refine ⟨?_, fun x hx => ?_⟩
  · rcases h.row with ⟨h1, h2 | ⟨g, cap, cur, e1, e2, e3, e4⟩⟩
    · exact ⟨h1, .inl h2⟩
    · exact ⟨h1, .inr ⟨g, cap, cur, e1, e2, (hs.2 g (Nat.le_trans hB e2) (Array.getElem?_eq_some_iff.1 e3).1).trans e3, e4⟩⟩
  · obtain ⟨m1, m0, m2⟩ := h.mem x hx
    refine ⟨fun j hj => ?_, m0, fun b o e => ⟨(m2 b o e).1, Nat.lt_of_lt_of_le (m2 b o e).2.1 hs.1, (m2 b o e).2.2⟩⟩
    obtain ⟨g2, o2, k1, k2, k3⟩ := m1 j hj
    exact ⟨g2, o2, k1, Nat.lt_of_lt_of_le k2 hs.1, (hs.cell (Nat.le_trans hB (m2 g2 o2 k1).1) k2).trans k3⟩
/-- The own block of a word's cells. -/
def ob (x : WdV) : Option Nat := (Value.slice x.ao x.c.length x.cap).ownBlock
/-- A copy of words, in memory from B on; from word k on their cells are as they were. -/
structure Cp (B : Nat) (W : World) (v : Value) (ins : List WdV) (k : Nat) : Prop where
  row : W.ownsRow B 33 2 v ins.length (ins.flatMap encW)
  own : ∀ i (hi : i < ins.length), ∃ xs, W.ownsRow B 3 1 (.slice ins[i].ao ins[i].c.length ins[i].cap) ins[i].c.length xs ∧ (k ≤ i → xs = ints ins[i].c)
  ne : ∀ i j (hi : i < ins.length) (hj : j < ins.length), i ≠ j → ∀ b, ob ins[i] = some b → ob ins[j] ≠ some b
  nr : ∀ i (hi : i < ins.length), ∀ b, ob ins[i] = some b → v.ownBlock ≠ some b
theorem Cp.nil (B : Nat) (W : World) : Cp B W (.slice none 0 0) [] 0 := ⟨World.ownsRow_nil _ _ _ _, fun i hi => by simp at hi, fun i j hi => by simp at hi, fun i hi => by simp at hi⟩
theorem Cp.below {B : Nat} {W W' : World} {v : Value} {ins : List WdV} {k : Nat} (h : Cp B W v ins k) (hb : Below W.heap.size W W') : Cp B W' v ins k :=
  ⟨row_turn h.row (below_but hb none) (fun _ _ _ => by simp), fun i hi => by
    obtain ⟨xs, h1, h2⟩ := h.own i hi
    exact ⟨xs, row_turn h1 (below_but hb none) (fun _ _ _ => by simp), h2⟩, h.ne, h.nr⟩
theorem Cp.more {B : Nat} {W : World} {v : Value} {ins : List WdV} {k : Nat} (h : Cp B W v ins k) : Cp B W v ins (k + 1) :=
  ⟨h.row, fun i hi => by obtain ⟨xs, h1, h2⟩ := h.own i hi; exact ⟨xs, h1, fun h => h2 (by omega)⟩, h.ne, h.nr⟩
/-- A word's cell is written. -/
theorem Cp.store {B : Nat} {W W' : World} {v : Value} {ins : List WdV} {k : Nat} (h : Cp B W v ins (k + 1)) (hk : k < ins.length) {g : Nat} (hg : ob ins[k] = some g) {ys : List Value} (h1 : W'.ownsRow B 3 1 (.slice ins[k].ao ins[k].c.length ins[k].cap) ins[k].c.length ys) (h2 : W.grownBy W' (some g)) : Cp B W' v ins (k + 1) := by
  refine ⟨row_turn h.row h2 (fun b _ e e2 => by injection e2 with e2; subst e2; exact h.nr k hk b hg e), fun i hi => ?_, h.ne, h.nr⟩
  by_cases e : i = k
  · subst e
    exact ⟨ys, h1, fun h => by omega⟩
  · obtain ⟨xs, h3, h4⟩ := h.own i hi
    exact ⟨xs, row_turn h3 h2 (fun b _ e3 e2 => by injection e2 with e2; subst e2; exact h.ne k i hk hi (fun h => e h.symm) b hg e3), h4⟩
/-- What the copy reads as. -/
theorem Cp.reads {B : Nat} {W : World} {ao : Option Addr} {n cap : Nat} {ins : List WdV} (h : Cp B W (.slice ao n cap) ins 0) : ReadsW W ao ins := fun i hi => by
  obtain ⟨xs, h1, h2⟩ := h.own i hi
  obtain rfl := h2 (Nat.zero_le _)
  have hrd : ReadsO W ins[i].ao (ints ins[i].c) := by
    obtain ⟨a, c, e, hr⟩ := row_reads h1
    injection e with e
    subst e
    exact hr.o
  have hnc : ins[i].ao = none → ins[i].cap = 0 := fun e => by
    rcases h1.2 with ⟨e3, _⟩ | ⟨g, cp, cur, e1, _⟩
    · injection e3
    · injection e1 with e1; rw [e] at e1; cases e1
  rcases h.row.2 with ⟨e, h0⟩ | ⟨g, cap', cur, e1, e2, e3, _⟩
  · omega
  · injection e1 with e1 e4 e5
    subst e1
    have hgl := (Array.getElem?_eq_some_iff.1 e3).1
    have := flatW_at hi
    refine ⟨g, 0, rfl, hgl, ?_, ?_, hrd, hnc⟩
    · have k := h.row.cells (g := g) rfl (i * 2) _ this.1
      rwa [Addr.add_lit] at k
    · have k := h.row.cells (g := g) rfl (i * 2 + 1) _ this.2
      rw [Addr.add_lit] at k
      rwa [Nat.add_assoc]
/-- One more word at the copy's end. -/
theorem Cp.next {B : Nat} {W W' : World} {v v' : Value} {ins : List WdV} {x : WdV} (h : Cp B W v ins 0) (hx : W.ownsRow B 3 1 (.slice x.ao x.c.length x.cap) x.c.length (ints x.c)) (hn : ∀ b, ob x = some b → v.ownBlock ≠ some b ∧ ∀ i (hi : i < ins.length), ob ins[i] ≠ some b)
    (hown : W'.ownsRow B 33 2 v' (ins.length + 1) (ins.flatMap encW ++ encW x)) (hg : W.grownBy W' v.ownBlock) (hat : v'.ownBlock = v.ownBlock ∨ ∃ b, v'.ownBlock = some b ∧ W.heap.size ≤ b) : Cp B W' v' (ins ++ [x]) 0 := by
  have hall : ∀ i (hi : i < (ins ++ [x]).length), (∃ hi2 : i < ins.length, (ins ++ [x])[i] = ins[i]) ∨ (i = ins.length ∧ (ins ++ [x])[i] = x) := fun i hi => by
    rw [List.length_append, List.length_singleton] at hi
    by_cases e : i < ins.length
    · exact .inl ⟨e, List.getElem_append_left e⟩
    · right
      have : i = ins.length := by omega
      subst this
      exact ⟨rfl, by simp⟩
  have hown2 : ∀ i (hi : i < ins.length), ∀ b, ob ins[i] = some b → b < W.heap.size := fun i hi b e => by
    obtain ⟨xs, h1, _⟩ := h.own i hi
    exact (h1.lt b e).2
  have hv : ∀ b, (∀ y : Unit, b < W.heap.size ∧ v.ownBlock ≠ some b) → v'.ownBlock ≠ some b := fun b hb e => by
    rcases hat with e2 | ⟨c, e2, e3⟩
    · exact (hb ()).2 (e2.symm.trans e)
    · rw [e2] at e; injection e with e; have := (hb ()).1; omega
  refine ⟨?_, fun i hi => ?_, fun i j hi hj hij b hb => ?_, fun i hi b hb => ?_⟩
  · rw [List.flatMap_append, List.length_append]
    simpa using hown
  · rcases hall i hi with ⟨hi2, e⟩ | ⟨_, e⟩
    · rw [e]
      obtain ⟨xs, h1, h2⟩ := h.own i hi2
      exact ⟨xs, row_turn h1 hg (fun b _ e2 e3 => h.nr i hi2 b e2 e3.symm), fun _ => h2 (Nat.zero_le _)⟩
    · rw [e]
      exact ⟨_, row_turn hx hg (fun b _ e2 e3 => (hn b e2).1 e3.symm), fun _ => rfl⟩
  · rcases hall i hi with ⟨hi2, e⟩ | ⟨ei, e⟩
    · rw [e] at hb
      rcases hall j hj with ⟨hj2, e2⟩ | ⟨ej, e2⟩
      · rw [e2]; exact h.ne i j hi2 hj2 hij b hb
      · rw [e2]; exact fun e3 => (hn b e3).2 i hi2 hb
    · rw [e] at hb
      rcases hall j hj with ⟨hj2, e2⟩ | ⟨ej, e2⟩
      · rw [e2]; exact (hn b hb).2 j hj2
      · omega
  · rcases hall i hi with ⟨hi2, e⟩ | ⟨ei, e⟩
    · rw [e] at hb
      exact hv b fun _ => ⟨hown2 i hi2 b hb, h.nr i hi2 b hb⟩
    · rw [e] at hb
      exact hv b fun _ => ⟨(hx.lt b hb).2, (hn b hb).1⟩
end Go.Proofs.YtikfaalbdnlelaaGreatDoor.Utf
/-
  A slice of words that came in: its words, wherever their cells lie; a reading's bulk is at least its length and its words' lengths.
-/
namespace Go.Proofs.YtikfaalbdnlelaaGreatDoor.Utf
open Go Go.Lib Go.RowKit Go.ChangeShapes Go.WideShapes Go.ChangeAt
set_option maxRecDepth 100000

theorem cellsIs : Tryz.prog.cellsOf 31 = 1 := by kernel_rfl
theorem cellsWd : Tryz.prog.cellsOf 33 = 2 := by kernel_rfl
theorem bulk_mem {H : Type} : ∀ (l : List (DataW H)), ∀ d ∈ l, Rows.uptoBulk d ≤ Rows.uptoBulkAll l
  | [], d, h => by cases h
  | x :: l, d, h => by
    simp only [Rows.uptoBulkAll]
    rcases List.mem_cons.1 h with rfl | h
    · omega
    · have := bulk_mem l d h
      omega
/-- A list of numbers within something that came in. -/
theorem open_intsF {H : Type} {enc : TypeId × Value → H} {W : World} {fuel : Nat} {c : Value} {y : DataW H × List MemPlace} (h : DataW.trod enc Tryz.prog W 0 (fun _ => true) true fuel 31 [c] = some y) :
    ∃ (zs : List Int) (ao : Option Addr) (cap : Nat), c = .slice ao zs.length cap ∧ zs.length ≤ Rows.uptoBulk y.1 ∧ ReadsO W ao (ints zs) ∧ (ao = none → cap = 0) ∧ ∀ b o, ao = some ⟨b, o, none⟩ → cap = 0 ∨ b < W.heap.size := by
  rcases open_ints Tryz.underlying31 Tryz.underlying3 cells3 h with ⟨hcs, rfl⟩ | ⟨a, len, cap, zs, hcs, _, hl, hm, hz, rfl, hcell, hwz⟩
  · simp only [List.cons.injEq, and_true] at hcs
    subst hcs
    exact ⟨[], none, 0, rfl, Nat.zero_le _, fun j hj => by simp [ints] at hj, fun _ => rfl, fun b o e => by cases e⟩
  · simp only [List.cons.injEq, and_true] at hcs
    subst hcs
    simp only [if_true] at hz
    have hlen : (zs.take len).length = len := by rw [List.length_take]; omega
    refine ⟨zs.take len, some a, cap, by rw [hlen], ?_, fun j hj => ?_, fun h => (by cases h), fun b o e => ?_⟩
    · have := bulk_len (H := H) (lits .i64 (zs.take len))
      simp only [lits, List.length_map] at this
      simp only [Rows.uptoBulk, lits]
      omega
    · rw [ints, List.length_map, hlen] at hj
      have hci := hcell j (by omega)
      obtain ⟨ab, ao, spot⟩ := a
      have hspot : spot = none := by simpa [Addr.add] using World.cell?_spot (hcell 0 (by omega))
      subst hspot
      rw [Addr.add_lit] at hci
      refine ⟨ab, ao, rfl, cell_lt hci, ?_⟩
      rw [hci]
      simp only [ints, List.getElem_map, List.getElem_take]
      rw [List.getD_eq_getElem?_getD, List.getElem?_eq_getElem (by omega)]
      rfl
    · injection e with e
      subst e
      rcases Nat.eq_zero_or_pos cap with h0 | h0
      · exact .inl h0
      · right
        have hci := hcell 0 (by omega)
        rw [Addr.add_lit] at hci
        exact cell_lt hci
theorem add_zero' (a : Addr) : a.add 0 = a := by unfold Addr.add; rw [if_pos rfl]
theorem add_one' (a : Addr) (m : Nat) : (a.add m).add 1 = a.add (m + 1) := by
  unfold Addr.add
  by_cases h : m = 0
  · subst h; simp
  · simp [h, Nat.add_assoc]
/-- One word that came in. -/
theorem open_wordF {H : Type} {enc : TypeId × Value → H} {W : World} {fuel : Nat} {x0 x1 : Value} {y : DataW H × List MemPlace} (h : DataW.trod enc Tryz.prog W 0 (fun _ => true) true fuel 33 [x0, x1] = some y) :
    ∃ wd : WdV, x0 = .slice wd.ao wd.c.length wd.cap ∧ x1 = .int .i64 wd.s ∧ wd.c.length ≤ Rows.uptoBulk y.1 ∧ ReadsO W wd.ao (ints wd.c) ∧ (wd.ao = none → wd.cap = 0) := by
  obtain ⟨xs, n, _, hx, _, hlen, hfs⟩ := DataW.trod_struct Tryz.underlying33 h
  match xs, hlen with
  | [y0, y1], _ =>
    have t0 : DataW.trod enc Tryz.prog W 0 (fun _ => true) true n 31 (([x0, x1].drop 0).take (Tryz.prog.cellsOf 31)) = some y0 := hfs 0 { name := "Cells", type := 31, offset := 0, embedded := false, tag := "", pkgPath := "", byteOffset := 0 } rfl
    rw [cellsIs] at t0
    replace t0 : DataW.trod enc Tryz.prog W 0 (fun _ => true) true n 31 [x0] = some y0 := t0
    have t1 : DataW.trod enc Tryz.prog W 0 (fun _ => true) true n 3 (([x0, x1].drop 1).take (Tryz.prog.cellsOf 3)) = some y1 := hfs 1 { name := "Score", type := 3, offset := 1, embedded := false, tag := "", pkgPath := "", byteOffset := 24 } rfl
    rw [cells3] at t1
    replace t1 : DataW.trod enc Tryz.prog W 0 (fun _ => true) true n 3 [x1] = some y1 := t1
    obtain ⟨zs, ao, cap, rfl, hb, hr, hc, _⟩ := open_intsF t0
    obtain ⟨m, hm, _⟩ := DataW.trod_int Tryz.underlying3 t1
    injection hm with hm
    refine ⟨⟨ao, cap, zs, m⟩, rfl, hm, ?_, hr, hc⟩
    rw [hx]
    simp only [List.map_cons, List.map_nil, Rows.uptoBulk, Rows.uptoBulkAll]
    omega
/-- A list of words that came in. -/
theorem open_wordArg {H : Type} {enc : TypeId × Value → H} {W : World} {base : Nat} {v : Value} {d : DataW H} {ps : List MemPlace} (hval : Value.okWide Tryz.prog W .any base 23 v) (h : DataW.Trod enc Tryz.prog W 0 (fun _ => true) true 23 v d ps) :
    ∃ (ws : List WdV) (aw : Option Addr) (cw : Nat), v = .slice aw ws.length cw ∧ ws.length ≤ Rows.uptoBulk d ∧ (∀ x ∈ ws, x.c.length ≤ Rows.uptoBulk d) ∧ ReadsW W aw ws := by
  obtain ⟨a1, len, cap, rfl⟩ := okWide_slice Tryz.underlying23 hval
  obtain ⟨fuel, hf⟩ := h
  rcases DataW.trod_slice Tryz.underlying23 hf with ⟨hcs, hx⟩ | ⟨a, len', cap', elems, rest, n, _, hcs, hx, _, hl, hm, hlen, hel, _, _⟩
  · simp [Value.cells] at hcs
    obtain ⟨rfl, rfl, rfl⟩ := hcs
    exact ⟨[], none, 0, rfl, Nat.zero_le _, fun _ h => (by cases h), fun j hj => by simp at hj⟩
  · simp [Value.cells] at hcs
    obtain ⟨rfl, rfl, rfl⟩ := hcs
    simp only [Prod.mk.injEq] at hx
    obtain ⟨rfl, rfl⟩ := hx
    have key : ∀ i, i < len → ∃ wd : WdV, W.cell? (a.add (i * 2)) = some (.slice wd.ao wd.c.length wd.cap) ∧ W.cell? (a.add (i * 2 + 1)) = some (.int .i64 wd.s) ∧ wd.c.length ≤ Rows.uptoBulkAll (elems.map (·.1)) ∧ ReadsO W wd.ao (ints wd.c) ∧ (wd.ao = none → wd.cap = 0) := by
      intro i hi
      have hy := hel i hi
      rw [List.getElem?_eq_getElem (by omega), cellsWd, Option.bind_eq_some_iff] at hy
      obtain ⟨cs', hcs, hy'⟩ := hy
      obtain ⟨_, hl2, hc⟩ := World.cells?_some hcs
      match cs', hl2 with
      | [x0, x1], _ =>
        obtain ⟨wd, rfl, rfl, hb, hr, hn⟩ := open_wordF hy'
        have hc0 := hc 0 (by omega)
        have hc1 := hc 1 (by omega)
        refine ⟨wd, ?_, ?_, Nat.le_trans hb (bulk_mem _ _ (List.mem_map_of_mem (List.getElem_mem _))), hr, hn⟩
        · rw [add_zero'] at hc0
          exact hc0
        · rw [add_one'] at hc1
          exact hc1
    obtain ⟨f, hf⟩ := Classical.axiomOfChoice (r := fun (i : Fin len) (wd : WdV) => W.cell? (a.add (i * 2)) = some (.slice wd.ao wd.c.length wd.cap) ∧ W.cell? (a.add (i * 2 + 1)) = some (.int .i64 wd.s) ∧ wd.c.length ≤ Rows.uptoBulkAll (elems.map (·.1)) ∧ ReadsO W wd.ao (ints wd.c) ∧ (wd.ao = none → wd.cap = 0)) (fun i => key i i.isLt)
    have hfl : (List.ofFn f).length = len := List.length_ofFn
    refine ⟨List.ofFn f, some a, cap, by rw [hfl], ?_, fun x hx => ?_, fun i hi => ?_⟩
    · have h1 := bulk_len (H := H) (elems.map (·.1))
      rw [List.length_map] at h1
      simp only [Rows.uptoBulk]
      omega
    · obtain ⟨i, rfl⟩ := List.mem_ofFn.1 hx
      have := (hf i).2.2.1
      simp only [Rows.uptoBulk]
      omega
    · rw [hfl] at hi
      have h2 := hf ⟨i, hi⟩
      have hat : (List.ofFn f)[i]'(by rw [hfl]; exact hi) = f ⟨i, hi⟩ := List.getElem_ofFn ..
      rw [hat]
      have h3 := World.cell?_spot (hf ⟨0, by omega⟩).1
      generalize f ⟨i, hi⟩ = wd at *
      obtain ⟨k1, k2, _, k4, k5⟩ := h2
      obtain ⟨ab, ao, spot⟩ := a
      have hspot : spot = none := by simpa [Addr.add] using h3
      subst hspot
      rw [Addr.add_lit] at k1 k2
      exact ⟨ab, ao, rfl, cell_lt k1, k1, by rw [Nat.add_assoc]; exact k2, k4, k5⟩
end Go.Proofs.YtikfaalbdnlelaaGreatDoor.Utf
