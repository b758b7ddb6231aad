/-
  Hits of a pattern: the program's and the document's.
-/
import Derived.Test.YtcocbjipikeebaaGreatDoorGps
import Derived.Test.YtcocbjipikeebaaGreatDoorGsp
import Derived.Test.YtcocbjipikeebaaGreatDoorGxw
import Derived.Test.YtcocbjipikeebaaGreatDoorGxu
namespace Go.Proofs.YtcocbjipikeebaaGreatDoor.Utf
open Go Go.Lib Go.RowKit

/-- The numbers of the first k words that fit. -/
def hitD (l : List (List Int × Int)) (p : List Nat) : Nat → List Int
  | 0 => []
  | k + 1 => if fitL p (l.getD k ([], 0)).1 = true then hitD l p k ++ [((k : Nat) : Int)] else hitD l p k
theorem hitD_len (l : List (List Int × Int)) (p : List Nat) : ∀ k, (hitD l p k).length ≤ k
  | 0 => Nat.le_refl _
  | k + 1 => by
    have := hitD_len l p k
    rw [hitD]
    split
    · rw [List.length_append, List.length_singleton]; omega
    · omega
theorem hitD_stay {l : List (List Int × Int)} {p : List Nat} {a : Nat} : ∀ b, a ≤ b → b ≤ l.length → (∀ i (hi : i < l.length), a ≤ i → i < b → l[i].1.length ≠ p.length) → hitD l p b = hitD l p a
  | 0, h, _, _ => by rw [Nat.le_zero.1 h]
  | b + 1, h, hb, hn => by
    rcases Nat.lt_or_ge b a with h1 | h1
    · rw [show a = b + 1 by omega]
    · rw [hitD, getD_at (by omega), fitL_len (fun e => hn b (by omega) h1 (by omega) e.symm), if_neg (by decide)]
      exact hitD_stay b h1 (by omega) (fun i hi h2 h3 => hn i hi h2 (by omega))
theorem hitD_all {l : List (List Int × Int)} {p : List Nat} {r1 r2 : Nat} (h1 : IsCnt l (p.length : Int) r1) (h2 : IsCnt l ((p.length : Int) + 1) r2) : hitD l p (spn r1 r2).1 = [] ∧ hitD l p (spn r1 r2).2 = hitD l p l.length := by
  have hle := cnt_le h1 h2
  have hs : ∀ i (hi : i < l.length), l[i].1.length = p.length → r1 ≤ i ∧ i < r2 := fun i hi e => (cnt_iff h1 h2 hi).1 (by rw [e])
  have hz : ∀ a, a ≤ r1 → hitD l p a = [] := fun a ha => by
    have := hitD_stay (l := l) (p := p) (a := 0) a (Nat.zero_le _) (by have := h1.1; omega) (fun i hi _ h3 e => by have := hs i hi e; omega)
    rw [this]; rfl
  have ht : hitD l p l.length = hitD l p r2 := hitD_stay l.length h2.1 (Nat.le_refl _) (fun i hi h3 _ e => by have := hs i hi e; omega)
  unfold spn
  by_cases e : r1 = r2
  · rw [if_pos e]
    refine ⟨rfl, ?_⟩
    rw [ht, ← e, hz r1 (Nat.le_refl _)]
    rfl
  · rw [if_neg e]
    exact ⟨hz r1 (Nat.le_refl _), ht.symm⟩

set_option maxRecDepth 10000 in
theorem first_nil (f : Value) (W : World) :
    Calls Tryz.prog 67 #[.pointer none, f] W fun e w' => e = .returned (.int .i64 0) ∧ w' = W := by
  have cL := len_nil W
  go_enter Tryz.func67, Tryz.ntmps67
  go_wp2_with fail
  refine cL.mono ?_
  rintro e w1 ⟨rfl, hw⟩
  obtain rfl := hw.symm
  clear cL hw
  go_wp2
  refine wp_loop_rounds 1 ?_
  rw [rounds_succ]
  go_wp2
  go_ret
  exact ⟨rfl, rfl⟩
set_option maxRecDepth 10000 in
theorem span_nil (n : Int) (W : World) :
    Calls Tryz.prog 39 #[.pointer none, .int .i64 n] W fun e w' => e = .returned (.tuple #[.int .i64 0, .int .i64 0]) ∧ Below W.heap.size W w' := by
  have hb0 := below_box' W (.cells #[.int .i64 n] 3)
  have hc0 : (W.alloc (.cells #[.int .i64 n] 3)).cell? ⟨W.heap.size, 0, none⟩ = some (.int .i64 n) := box_at W _ 3 0 rfl
  have cF := fun f w => first_nil f w
  go_enter Tryz.func39, Tryz.ntmps39
  go_wp2_with (go_at_call 67; refine (cF _ _).mono ?_; rintro e w1 ⟨rfl, hw⟩; obtain rfl := hw.symm)
  go_ret2
  exact ⟨rfl, hb0⟩

/-- A list of numbers made. -/
def HitQ (W : World) (zs : List Int) (e : Ending) (w' : World) : Prop := (∃ v, e = .returned v ∧ w'.ownsRow W.heap.size 3 1 v zs.length (ints zs)) ∧ Below W.heap.size W w'

set_option maxRecDepth 100000 in
set_option maxHeartbeats 2000000 in
theorem hits_nil (p : List Nat) (_hl : p.length ≤ 1048576) (ap : Option Addr) (cp : Nat) (W : World) :
    Calls Tryz.prog 16 #[.pointer none, .slice ap p.length cp] W (HitQ W []) := by
  have cS := span_nil (p.length : Int) W
  generalize p.length = N at *
  go_enter Tryz.func16, Tryz.ntmps16
  go_wp2_with fail
  refine cS.mono ?_
  rintro e w1 ⟨rfl, hb⟩
  go_wp2
  refine wp_loop_rounds 1 ?_
  rw [rounds_succ]
  go_wp2
  go_ret
  exact ⟨⟨_, rfl, World.ownsRow_nil _ _ _ _⟩, hb⟩

set_option maxRecDepth 100000 in
set_option maxHeartbeats 4000000 in
theorem hits_any {W : World} {base xb : Nat} {L : List ByteArray} {l : List (List Int × Int)} (h : IsLex W base xb L l) (hl : l.length ≤ 1000) (hs : SortL l) (h32 : ∀ x ∈ l, x.1.length ≤ 32 ∧ 1 ≤ x.1.length) (p : List Nat) (hp : Low p) (hpl : p.length ≤ 1048576) (ap : Option Addr) (cp : Nat) (hR : ReadsO W ap (msks p)) :
    Calls Tryz.prog 16 #[.pointer (some ⟨xb, 0, none⟩), .slice ap p.length cp] W (HitQ W (hitD l p l.length)) := by
  obtain ⟨i0, hi0, hz0, hz1, hz2⟩ := info_parts infoI
  have HX : Aside (∀ w, Below W.heap.size W w → IsLex w base xb L l ∧ ReadsO w ap (msks p)) := fun w hb => ⟨h.below hb, hR.below hb⟩
  have cS := span_any h hl hs (p.length : Int)
  have HP : Aside (Low p) := hp
  have H32 : Aside (∀ x ∈ l, x.1.length ≤ 32 ∧ 1 ≤ x.1.length) := h32
  clear h hR hp h32
  obtain ⟨N, hN⟩ : ∃ N, p.length = N := ⟨_, rfl⟩
  have HN : Aside (p.length = N) := hN
  rw [hN] at cS ⊢
  go_enter Tryz.func16, Tryz.ntmps16
  go_wp2_with fail
  refine cS.mono ?_
  rintro e w1 ⟨⟨r1, r2, i1, i2, rfl⟩, hb1⟩
  rw [← hN] at i1 i2
  obtain ⟨hle, hlen, hin⟩ := spn_in i1 i2
  obtain ⟨k1, k2⟩ := hitD_all i1 i2
  obtain ⟨f, hf⟩ : ∃ f, f = (spn r1 r2).1 := ⟨_, rfl⟩
  obtain ⟨t, ht⟩ : ∃ t, t = (spn r1 r2).2 := ⟨_, rfl⟩
  have HK : Aside (hitD l p f = [] ∧ hitD l p t = hitD l p l.length) := by rw [hf, ht]; exact ⟨k1, k2⟩
  rw [← hf, ← ht] at hle
  rw [← ht] at hlen
  rw [← hf, ← ht]
  have HPL : Aside (p.length ≤ 1048576) := hpl
  clear hf ht cS i1 i2 hin k1 k2 hN hpl
  go_wp2
  go_loopg [5, 6] (t - f) (fun g1 vh vi wr => ∃ (k : Nat) (u : Value) (zs : List Int), vi = .int .i64 ((f + k : Nat) : Int) ∧ vh = u ∧ f + k ≤ t ∧ t - f - k ≤ g1 ∧ zs.length ≤ f + k ∧ Aside (hitD l p (f + k) = zs) ∧ Aside (wr.ownsRow W.heap.size 3 1 u zs.length (ints zs)) ∧ Aside (Below W.heap.size W wr))
  case atStart => exact ⟨0, _, [], rfl, rfl, by omega, by omega, Nat.zero_le _, HK.out.1, World.ownsRow_nil _ _ _ _, hb1⟩
  case round =>
    obtain ⟨k, u, zs, rfl, q1, hk, hg1, hzl, HZ, HO, HB⟩ := hrel
    obtain rfl := q1.symm
    clear q1
    by_cases hlt : f + k < t
    · have hltz : ((f + k : Nat) : Int) < (t : Int) := by omega
      have hkl : f + k < l.length := by omega
      have hx := H32.out _ (List.getElem_mem hkl)
      have cW := word_any (HX.out wr HB.out).1 (f + k) hkl hx.2 hx.1
      have HZ2 : Aside (hitD l p (f + k + 1) = if fitL p l[f + k].1 = true then zs ++ [((f + k : Nat) : Int)] else zs) := by show _ = _; rw [hitD, HZ.out, getD_at hkl]
      have HM : Aside (∀ Z ac cc, Below W.heap.size W Z → ReadsO Z ac (ints l[f + k].1) → Calls Tryz.prog 9 #[.slice ap N cp, .slice ac l[f + k].1.length cc] Z fun e w' => e = .returned (.bool (fitL p l[f + k].1)) ∧ Below Z.heap.size Z w') := fun Z ac cc hb hr => by
        have := match_any p HP.out l[f + k].1 ap cp ac cc Z (by have := HPL.out; omega) (HX.out Z hb).2 hr
        rw [HN.out] at this
        exact this
      clear HZ
      generalize fitL p l[f + k].1 = b at *
      generalize l[f + k].1 = c at *
      generalize l[f + k].2 = sc at *
      generalize hj : f + k = j at *
      go_wp2_with fail
      refine cW.mono ?_
      rintro e w2 ⟨⟨v, rfl, hrow⟩, hb2⟩
      obtain ⟨av, cv, rfl⟩ := row_slice hrow
      have HB2 : Aside (Below W.heap.size W w2) := HB.out.trans (hb2.mono HB.out.size)
      have HO2 : Aside (w2.ownsRow W.heap.size 3 1 u zs.length (ints zs)) := row_keeps HO.out hb2
      have cM := HM.out w2 av cv HB2.out (by obtain ⟨a, c', e, q⟩ := row_reads hrow; injection e with e1 e2 e3; rw [e1]; exact q.o)
      clear hrow cW hb2 HM HO hx
      generalize c.length = M at *
      have hfl : ∀ W, (Instr.field 32 (.agg #[.slice av M cv, .int .i64 sc]) 0).run Tryz.prog W = .ok (.slice av M cv) W := fun W => by kernel_rfl
      go_wp2_with fail
      refine cM.mono ?_
      rintro e w3 ⟨rfl, hb3⟩
      have HB3 : Aside (Below W.heap.size W w3) := HB2.out.trans (hb3.mono HB2.out.size)
      have HO3 : Aside (w3.ownsRow W.heap.size 3 1 u zs.length (ints zs)) := row_keeps HO2.out hb3
      have hws := HB3.out.size
      clear cM hb3 HO2
      cases b with
      | true =>
        rw [if_pos rfl] at HZ2
        go_wp2_with (at_builtin; refine wpList_append_own _ rfl _ _ 30 rfl W.heap.size 3 i0 (.int .i64 0) 1 8 Tryz.underlying30 hi0 hz0 hz1 hz2 rfl (by decide) _ _ _ rfl (HO3.out.alloc _) ⟨w3.heap.size, 0, none⟩ 1 1 [.int .i64 (j : Nat)] rfl rfl (cell_one_new _ _ _) (by simp [Value.oneCell']) (by unfold maxLen; omega) (by omega) (by simp; omega) ?_)
        intro v' wa hown' hgrow _
        have HBa : Aside (Below W.heap.size W wa) := Below.grown (HB3.out.alloc hws _) hgrow (by simp; omega) (fun j hj => (HO3.out.lt _ hj).1)
        have HOWa : Aside (wa.ownsRow W.heap.size 3 1 v' (zs ++ [((j : Nat) : Int)]).length (ints (zs ++ [((j : Nat) : Int)]))) := by
          show wa.ownsRow _ _ _ _ _ _
          simp only [ints, List.map_append, List.map_cons, List.map_nil, List.length_append, List.length_cons, List.length_nil]
          exact hown'
        have hzn : (zs ++ [((j : Nat) : Int)]).length ≤ j + 1 := by rw [List.length_append, List.length_singleton]; omega
        clear hown' hgrow
        generalize zs ++ [((j : Nat) : Int)] = zn at *
        go_wp2
        go_roundg (t - f - (k + 1))
        case measure => omega
        case rel => exact ⟨k + 1, _, zn, by rw [show f + (k + 1) = j + 1 by omega]; go_num, rfl, by omega, by omega, by rw [show f + (k + 1) = j + 1 by omega]; exact hzn, by rw [show f + (k + 1) = j + 1 by omega]; exact HZ2, HOWa, HBa⟩
      | false =>
        rw [if_neg (by decide)] at HZ2
        go_wp2
        go_roundg (t - f - (k + 1))
        case measure => omega
        case rel => exact ⟨k + 1, _, zs, by rw [show f + (k + 1) = j + 1 by omega]; go_num, rfl, by omega, by omega, by omega, by rw [show f + (k + 1) = j + 1 by omega]; exact HZ2, HO3, HB3⟩
    · have hltz : ¬ ((f + k : Nat) : Int) < (t : Int) := by omega
      have hkk : k = t - f := by omega
      subst hkk
      have hft : f + (t - f) = t := by omega
      rw [hft] at hltz HZ ⊢
      have HZ3 : Aside (hitD l p l.length = zs) := by show _ = _; rw [← HK.out.2, HZ.out]
      clear HZ
      go_wp2
      go_ret
      rw [HZ3.out]
      exact ⟨⟨_, rfl, HO.out⟩, HB.out⟩

set_option maxRecDepth 100000 in
set_option maxHeartbeats 4000000 in
theorem refHits_any {B : Nat} {W : World} {v : Value} {es : List WdV} (h : IsWd B W v es) (hes : es.length ≤ 1000) (p : List Nat) (hp : Low p) (hpl : p.length ≤ 1048576) (ap : Option Addr) (cp : Nat) (hR : ReadsO W ap (msks p)) :
    Calls Tryz.prog 17 #[v, .slice ap p.length cp] W (HitQ W (hitD (toL es) p es.length)) := by
  obtain ⟨i0, hi0, hz0, hz1, hz2⟩ := info_parts infoI
  obtain ⟨ao, cap, rfl, hnil, -⟩ := h.slice
  have H : Aside (∀ Z, Below W.heap.size W Z → IsWd B Z (.slice ao es.length cap) es ∧ ReadsO Z ap (msks p)) := fun Z hb => ⟨h.below hb, hR.below hb⟩
  have HP : Aside (Low p) := hp
  clear h hR hp
  obtain ⟨N, hN⟩ : ∃ N, es.length = N := ⟨_, rfl⟩
  have HN : Aside (es.length = N) := hN
  obtain ⟨Q, hQ⟩ : ∃ Q, p.length = Q := ⟨_, rfl⟩
  have HQ : Aside (p.length = Q) := hQ
  rw [hN] at H hes ⊢
  rw [hQ] at hpl ⊢
  clear hN hnil hQ
  go_enter Tryz.func17, Tryz.ntmps17
  go_wp2
  go_loopg [5, 6] N (fun g1 vm vk wr => ∃ (k : Nat) (u : Value) (zs : List Int), vk = .int .i64 (k : Int) ∧ vm = u ∧ k ≤ N ∧ N - k ≤ g1 ∧ zs.length ≤ k ∧ Aside (hitD (toL es) p k = zs) ∧ Aside (wr.ownsRow W.heap.size 3 1 u zs.length (ints zs)) ∧ Aside (Below W.heap.size W wr))
  case atStart => exact ⟨0, _, [], rfl, rfl, Nat.zero_le _, Nat.le_refl _, Nat.le_refl _, rfl, World.ownsRow_nil _ _ _ _, Below.refl _ _⟩
  case round =>
    obtain ⟨k, u, zs, rfl, q1, hk, hg1, hzl, HZ, HO, HB⟩ := hrel
    obtain rfl := q1.symm
    clear q1
    by_cases hlt : k < N
    · have hltz : (k : Int) < (N : Int) := by omega
      have hkl : k < es.length := by rw [HN.out]; exact hlt
      have hI := (H.out wr HB.out).1
      obtain ⟨g, rfl, q1, q2⟩ := hI.at' hkl
      have hmk := (hI.mem es[k] (List.getElem_mem hkl)).1
      have HSk : Aside (hitD (toL es) p (k + 1) = if fitL p es[k].c = true then zs ++ [((k : Nat) : Int)] else zs) := by
        show _ = _
        rw [hitD, HZ.out, getD_at (by rw [toL_len]; exact hkl), toL_at hkl]
      have cM := refMatch_any p HP.out es[k].c ap cp es[k].ao es[k].cap wr (by rw [HQ.out]; omega) (H.out wr HB.out).2 hmk
      rw [HQ.out] at cM
      clear hI q2 HZ hmk
      generalize es[k].ao = ak at *
      generalize es[k].cap = ck at *
      generalize es[k].c = c at *
      generalize fitL p c = b at *
      generalize c.length = M at *
      go_wp2_with fail
      refine cM.mono ?_
      rintro e w3 ⟨rfl, hb3⟩
      have HB3 : Aside (Below W.heap.size W w3) := HB.out.trans (hb3.mono HB.out.size)
      have HO3 : Aside (w3.ownsRow W.heap.size 3 1 u zs.length (ints zs)) := row_keeps HO.out hb3
      have hws := HB3.out.size
      clear cM hb3 HO q1
      cases b with
      | true =>
        rw [if_pos rfl] at HSk
        go_wp2_with (at_builtin; refine wpList_append_own _ rfl _ _ 30 rfl W.heap.size 3 i0 (.int .i64 0) 1 8 Tryz.underlying30 hi0 hz0 hz1 hz2 rfl (by decide) _ _ _ rfl (HO3.out.alloc _) ⟨w3.heap.size, 0, none⟩ 1 1 [.int .i64 (k : Nat)] rfl rfl (cell_one_new _ _ _) (by simp [Value.oneCell']) (by unfold maxLen; omega) (by omega) (by simp; omega) ?_)
        intro v' wa hown' hgrow _
        have HBa : Aside (Below W.heap.size W wa) := Below.grown (HB3.out.alloc hws _) hgrow (by simp; omega) (fun j hj => (HO3.out.lt _ hj).1)
        have HOWa : Aside (wa.ownsRow W.heap.size 3 1 v' (zs ++ [((k : Nat) : Int)]).length (ints (zs ++ [((k : Nat) : Int)]))) := by
          show wa.ownsRow _ _ _ _ _ _
          simp only [ints, List.map_append, List.map_cons, List.map_nil, List.length_append, List.length_cons, List.length_nil]
          exact hown'
        have hzn : (zs ++ [((k : Nat) : Int)]).length ≤ k + 1 := by rw [List.length_append, List.length_singleton]; omega
        clear hown' hgrow
        generalize zs ++ [((k : Nat) : Int)] = zn at *
        go_wp2
        go_roundg (N - (k + 1))
        case measure => omega
        case rel => exact ⟨k + 1, _, zn, by go_num, rfl, by omega, Nat.le_refl _, hzn, HSk, HOWa, HBa⟩
      | false =>
        rw [if_neg (by decide)] at HSk
        go_wp2
        go_roundg (N - (k + 1))
        case measure => omega
        case rel => exact ⟨k + 1, _, zs, by go_num, rfl, by omega, Nat.le_refl _, by omega, HSk, HO3, HB3⟩
    · have hltz : ¬ (k : Int) < (N : Int) := by omega
      obtain rfl : k = N := by omega
      go_wp2
      go_ret
      rw [HZ.out]
      exact ⟨⟨_, rfl, HO.out⟩, HB.out⟩
end Go.Proofs.YtcocbjipikeebaaGreatDoor.Utf
