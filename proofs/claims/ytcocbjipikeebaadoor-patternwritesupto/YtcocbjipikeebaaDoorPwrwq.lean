/-
  PatternWrites walked: Print of any masks is the document's; what is written is read back.
-/
import Derived.Test.YtcocbjipikeebaaDoorGpr
import Derived.Test.YtcocbjipikeebaaDoorGrp
import Derived.Test.YtcocbjipikeebaaDoorRnwq
import Derived.Test.YtcocbjipikeebaaDoorLxptq
namespace Go.Proofs.YtcocbjipikeebaaDoor.Pts
open Go Go.Lib Go.RowKit Utf Msk

/-- What is answered for masks: the text, the place, the kind. -/
def PAns (L : List ByteArray) (p : List Nat) (T : ByteArray) (n c : Int) : Prop :=
  (∃ i, ∃ h : i < p.length, (∀ x ∈ p.take i, fineM L x) ∧ ¬ fineM L p[i] ∧ T = ⟨#[]⟩ ∧ n = (i : Nat) ∧ c = 100) ∨
    ((∀ x ∈ p, fineM L x) ∧ ((32 < p.length ∧ T = ⟨#[]⟩ ∧ n = 32 ∧ c = 34) ∨ (p.length ≤ 32 ∧ T = ⟨(txtL L p).toArray⟩ ∧ n = 0 ∧ c = 0)))
theorem printQ_ans {W : World} {L : List ByteArray} {p : List Nat} {e : Ending} {w' : World} (h : PrintQ W L p e w') : ∃ T n c, e = .returned (.tuple #[.string T, .int .i64 n, .int .i64 c]) ∧ PAns L p T n c ∧ Below W.heap.size W w' := by
  obtain ⟨⟨i, hi, h1, h2, rfl⟩ | ⟨h1, ⟨h2, rfl⟩ | ⟨h2, rfl⟩⟩, hb⟩ := h
  · exact ⟨_, _, _, rfl, .inl ⟨i, hi, h1, h2, rfl, rfl, rfl⟩, hb⟩
  · exact ⟨_, _, _, rfl, .inr ⟨h1, .inl ⟨h2, rfl, rfl, rfl⟩⟩, hb⟩
  · exact ⟨_, _, _, rfl, .inr ⟨h1, .inr ⟨h2, rfl, rfl, rfl⟩⟩, hb⟩
theorem take_mem {p : List Nat} {i j : Nat} (hi : i < p.length) (h : i < j) : p[i] ∈ p.take j := List.mem_iff_getElem.2 ⟨i, by rw [List.length_take]; omega, List.getElem_take⟩
theorem PAns.same {L : List ByteArray} {p : List Nat} {T U : ByteArray} {n m c d : Int} (h : PAns L p T n c) (k : PAns L p U m d) : T = U ∧ n = m ∧ c = d := by
  rcases h with ⟨i, hi, h1, h2, rfl, rfl, rfl⟩ | ⟨h1, ⟨h2, rfl, rfl, rfl⟩ | ⟨h2, rfl, rfl, rfl⟩⟩ <;> rcases k with ⟨j, hj, k1, k2, rfl, rfl, rfl⟩ | ⟨k1, ⟨k2, rfl, rfl, rfl⟩ | ⟨k2, rfl, rfl, rfl⟩⟩
  · rcases Nat.lt_trichotomy i j with e | e | e
    · exact absurd (k1 _ (take_mem hi e)) h2
    · subst e; exact ⟨rfl, rfl, rfl⟩
    · exact absurd (h1 _ (take_mem hj e)) k2
  · exact absurd (k1 _ (List.getElem_mem hi)) h2
  · exact absurd (k1 _ (List.getElem_mem hi)) h2
  · exact absurd (h1 _ (List.getElem_mem hj)) k2
  · exact ⟨rfl, rfl, rfl⟩
  · omega
  · exact absurd (h1 _ (List.getElem_mem hj)) k2
  · omega
  · exact ⟨rfl, rfl, rfl⟩
theorem fine_none {m : Nat} : ¬ fineM [] m := fun h => h.1 rfl
theorem PAns.none {p : List Nat} {T : ByteArray} {n c : Int} (h : PAns [] p T n c) : T = ⟨#[]⟩ ∧ n = 0 ∧ ((c = 0 ∧ p.length = 0) ∨ (c = 100 ∧ 1 ≤ p.length)) := by
  rcases h with ⟨i, hi, h1, _, rfl, rfl, rfl⟩ | ⟨h1, hh⟩
  · rcases Nat.eq_zero_or_pos i with rfl | h0
    · exact ⟨rfl, rfl, .inr ⟨rfl, hi⟩⟩
    · exact absurd (h1 _ (take_mem (by omega) h0)) fine_none
  · match p, h1, hh with
    | x :: p, h1, _ => exact absurd (h1 x (List.mem_cons_self ..)) fine_none
    | [], _, .inl ⟨h2, _⟩ => simp at h2
    | [], _, .inr ⟨_, e1, e2, e3⟩ => exact ⟨by rw [e1]; rfl, e2, .inl ⟨e3, rfl⟩⟩
theorem own_empty7 (w : World) (e : TypeId) (z : Nat) : (w.alloc (.cells #[] e)).ownsRow w.heap.size e z (.slice (some ⟨w.heap.size, 0, none⟩) 0 0) 0 [] :=
  ⟨by simp, .inr ⟨w.heap.size, 0, #[], rfl, Nat.le_refl _, heap_box w _, Nat.le_refl _, by unfold maxLen; omega, by simp, by simp⟩⟩
theorem msks_one (p : List Nat) : ∀ u ∈ msks p, u.oneCell' = true := fun u hu => by
  obtain ⟨m, _, rfl⟩ := List.mem_map.1 hu
  rfl

set_option maxRecDepth 100000 in
set_option maxHeartbeats 6000000 in
theorem patWrites_walk (L : List ByteArray) (al : Option Addr) (cl : Nat) (p : List Nat) (ap : Option Addr) (cp : Nat) (w : World) (hlen : L.length ≤ 1048576) (hsm : ∀ x ∈ L, x.size ≤ 1048576) (hcap : L.length ≤ cl) (hRL : ReadsO w al (L.map Value.string)) (hpl : p.length ≤ 1048576) (hlp : Low p) (hnil : ap = none → cp = 0) (hRp : ReadsO w ap (msks p)) (hT : Tab w) (hU : Lib.Utf8Tabs 1 2 w) :
    Calls Tryd.prog 3 #[.slice al L.length cl, .slice ap p.length cp] w fun e w' => e = .returned (.bool true) ∧ Below w.heap.size w w' := by
  obtain ⟨i0, hi, hz0, hz1, hz2⟩ := info_partsU Utf.infoU64
  have cA := awake10_any w hT hU
  have hw0 := hT.size
  have HRL : Aside (∀ W, Below w.heap.size w W → ReadsO W al (L.map Value.string) ∧ ReadsO W ap (msks p)) := fun W hb => ⟨hRL.below hb, hRp.below hb⟩
  have HU : Aside (∀ W, Below w.heap.size w W → Tab W ∧ Lib.Utf8Tabs 1 2 W) := fun W hb => ⟨hT.below hw0 hb, tabs_below hb (tabs_size hU) hU⟩
  have HSM : Aside (∀ x ∈ L, x.size ≤ 1048576) := hsm
  have HLP : Aside (Low p) := hlp
  clear hRL hT hU hw0 hRp hsm hlp
  go_enter Tryd.func3, Tryd.ntmps3
  go_wp2_with fail
  refine cA.mono ?_
  rintro e w1 ⟨rfl, hb1⟩
  have HB1 : Aside (Below w.heap.size w w1) := hb1
  have cF := refNew_any L al cl w1 hcap (by omega) (fun x hx => by have := HSM.out x hx; omega) (HRL.out _ hb1).1
  have HN : Aside (∀ W, Below w.heap.size w W → _) := fun W hb => new_any L al cl W (by omega) (HRL.out _ hb).1
  have hG := @new_good L
  generalize (newR L).1 = N1 at *
  generalize (newR L).2 = E at *
  clear cA hb1
  go_wp2_with fail
  refine cF.mono ?_
  rintro e w2 ⟨rfl, hb2⟩
  have HB2 : Aside (Below w.heap.size w w2) := HB1.out.trans (hb2.mono HB1.out.size)
  clear cF hb2 HB1
  by_cases hE : E = 0
  · subst hE
    have cN := HN.out w2 HB2.out
    obtain ⟨h1, hl40, hnm, hnd⟩ := hG (by first | rfl | trivial)
    have hLs : ∀ x ∈ L, 1 ≤ x.size ∧ x.size ≤ 12 := fun x hx => name_len (hnm x hx)
    have HM : Aside ((∀ x ∈ L, nameP x) ∧ L.Nodup ∧ L.length ≤ 40 ∧ 1 ≤ L.length ∧ ∀ x ∈ L, 1 ≤ x.size ∧ x.size ≤ 12) := ⟨hnm, hnd, hl40, h1, hLs⟩
    clear HN hG hnm hnd hLs
    go_wp2_with fail
    refine cN.mono ?_
    rintro e w3 ⟨⟨v, rfl, hv1, hv2⟩, hb3⟩
    obtain ⟨b, rk, rfl, hA, hRk⟩ := hv2 (by first | rfl | trivial)
    have HB3 : Aside (Below w.heap.size w w3) := HB2.out.trans (hb3.mono HB2.out.size)
    have HA : Aside (∀ W, Below w3.heap.size w3 W → IsAlpha W b L rk) := fun W hb => hA.is.below hb
    have hbA := below_box' w3 (.cells #[] 39)
    have hRA : ReadsO (w3.alloc (.cells #[] 39)) ap (msks p) := (HRL.out w3 HB3.out).2.below hbA
    have hml := msks_len p
    clear cN hv1 hv2 hb3 hA hRk
    go_wp2_with (at_builtin; refine wpList_append_src rfl _ _ 23 rfl w3.heap.size 39 i0 (.int .u64 0) 8 Tryd.underlying23 hi hz0 hz1 hz2 rfl (.slice (some ⟨w3.heap.size, 0, none⟩) 0 0) 0 [] rfl (own_empty7 w3 _ _) ap p.length cp (msks p) rfl hnil hml hRA (msks_one p) (by unfold maxLen; omega) (by omega) (by simp) ?_)
    intro vi w4 how hgw _
    have how' : w4.ownsRow w3.heap.size 39 1 vi p.length (msks p) := by simpa using how
    obtain ⟨ai, ci, _, rfl, hri⟩ := row_reads7 how'
    have HB4 : Aside (Below w3.heap.size w3 w4) := Below.grown hbA hgw (by simp) (fun j hj => by have : w3.heap.size = j := Option.some.inj hj; omega)
    have HRI : Aside (∀ W, Below w4.heap.size w4 W → ReadsO W ai (msks p)) := fun W hb => hri.below hb
    have HF4 : Aside (Below w.heap.size w w4) := HB3.out.trans (HB4.out.mono HB3.out.size)
    have cP := print7_any (HA.out w4 HB4.out) (fun x hx => (HM.out.2.2.2.2 x hx).2) (HU.out w4 HF4.out).1 p HLP.out (by omega) ai ci hri
    clear how how' hgw hbA hRA hri hml
    go_wp2_with fail
    refine cP.mono ?_
    rintro e w5 hp
    obtain ⟨T, n, c, rfl, hans, hb5⟩ := printQ_ans hp
    have HB5 : Aside (Below w3.heap.size w3 w5) := HB4.out.trans (hb5.mono HB4.out.size)
    have HF5 : Aside (Below w.heap.size w w5) := HB3.out.trans (HB5.out.mono HB3.out.size)
    have HG5 : Aside (Below w4.heap.size w4 w5) := hb5
    have HAN : Aside (PAns L p T n c) := hans
    have cR := refPrint7_any L h1 hl40 (fun x hx => (HM.out.2.2.2.2 x hx).2) al cl p HLP.out hpl ap cp w5 (HRL.out w5 HF5.out).1 (HRL.out w5 HF5.out).2
    clear cP hp hans hb5
    go_wp2_with fail
    refine cR.mono ?_
    rintro e w6 hp
    obtain ⟨T2, n2, c2, rfl, hans, hb6⟩ := printQ_ans hp
    obtain ⟨rfl, rfl, rfl⟩ := HAN.out.same hans
    have HB6 : Aside (Below w3.heap.size w3 w6) := HB5.out.trans (hb6.mono HB5.out.size)
    have HF6 : Aside (Below w.heap.size w w6) := HB3.out.trans (HB6.out.mono HB3.out.size)
    have HG6 : Aside (Below w4.heap.size w4 w6) := HG5.out.trans (hb6.mono HG5.out.size)
    have cS := refSameU_any p ai ap ci cp w6 hpl (HRI.out w6 HG6.out) (HRL.out w6 HF6.out).2
    have htt : (T.toList != T.toList) = false := by simp
    have hnn : (n != n) = false := by rw [bne_eq_false_iff_eq]
    have hcc : (c != c) = false := by rw [bne_eq_false_iff_eq]
    clear cR hp hans hb6 HB4 HB5 HF5 HG5
    go_wp2_with fail
    refine cS.mono ?_
    rintro e w7 ⟨rfl, hb7⟩
    have HB7 : Aside (Below w3.heap.size w3 w7) := HB6.out.trans (hb7.mono HB6.out.size)
    have HF7 : Aside (Below w.heap.size w w7) := HB3.out.trans (HB7.out.mono HB3.out.size)
    clear cS hb7
    by_cases hc : c = 0
    · subst hc
      have hT2 : T = ⟨(txtL L p).toArray⟩ ∧ p.length ≤ 32 ∧ ∀ x ∈ p, fineM L x := by
        rcases HAN.out with ⟨_, _, _, _, _, _, h⟩ | ⟨h1, ⟨_, _, _, h⟩ | ⟨h2, h3, _, _⟩⟩
        · cases h
        · cases h
        · exact ⟨h3, h2, h1⟩
      have hpp := pat_print HM.out.1 HM.out.2.1 hl40 HLP.out (fun m hm => (hT2.2.2 m hm).2) hT2.2.1
      have htl := txtL_len (fun x hx => (HM.out.2.2.2.2 x hx).2) p
      have hTs : T.size ≤ 140737488355328 := by
        rw [hT2.1]
        show (txtL L p).toArray.size ≤ _
        rw [List.size_toArray]; have := hT2.2.1; omega
      rw [← hT2.1] at hpp
      have cP2 := parse7_any (HA.out w7 HB7.out) (HU.out w7 HF7.out).2 HM.out.2.1 (fun x hx => (HM.out.2.2.2.2 x hx).1) T hTs
      rw [hpp] at cP2
      clear hpp htl hTs hT2 HAN
      go_wp2_with fail
      refine cP2.mono ?_
      rintro e w8 ⟨⟨hne, _⟩ | ⟨_, v8, rfl, ho8⟩, hb8⟩
      · exact absurd rfl hne
      · obtain ⟨aq, cq, _, rfl, hr8⟩ := row_reads7 ho8
        have HF8 : Aside (Below w.heap.size w w8) := HF7.out.trans (hb8.mono HF7.out.size)
        have cS2 := refSameU_any p ap aq cp cq w8 hpl (HRL.out w8 HF8.out).2 hr8
        clear cP2 hb8 ho8 hr8
        go_wp2_with fail
        refine cS2.mono ?_
        rintro e w9 ⟨rfl, hb9⟩
        have HF9 : Aside (Below w.heap.size w w9) := HF8.out.trans (hb9.mono HF8.out.size)
        clear cS2 hb9
        go_wp2
        go_ret
        exact ⟨rfl, HF9.out⟩
    · have hcz : (c != 0) = true := by rw [bne_iff_ne]; exact hc
      clear hc HAN
      go_wp2
      go_ret
      exact ⟨rfl, HF7.out⟩
  · have hEz : (E != 0) = true := by rw [bne_iff_ne]; exact hE
    have cP := printP_any (W := w2) (pa := none) (L := []) (.inr ⟨rfl, rfl⟩) (fun x hx => by cases hx) (HU.out w2 HB2.out).1 p HLP.out (by omega) ap cp (HRL.out w2 HB2.out).2
    clear HN hG
    go_wp2_with fail
    refine cP.mono ?_
    rintro e w3 hp
    obtain ⟨T, n, c, rfl, hans, hb3⟩ := printQ_ans hp
    have HB3 : Aside (Below w.heap.size w w3) := HB2.out.trans (hb3.mono HB2.out.size)
    obtain ⟨rfl, rfl, hcs⟩ := hans.none
    have hem : (((⟨#[]⟩ : ByteArray).toList.isEmpty)) = true := by rw [ByteArray.toList_eq]; rfl
    clear cP hp hans hb3
    rcases hcs with ⟨rfl, h0⟩ | ⟨rfl, h0⟩
    · have hz : ((p.length : Int) == 0) = true := by rw [beq_iff_eq]; omega
      clear h0
      generalize p.length = NP at *
      go_wp2
      go_ret
      exact ⟨rfl, HB3.out⟩
    · have hz : ((p.length : Int) == 0) = false := by rw [beq_eq_false_iff_ne]; omega
      clear h0
      go_wp2
      go_ret
      exact ⟨rfl, HB3.out⟩
end Go.Proofs.YtcocbjipikeebaaDoor.Pts
