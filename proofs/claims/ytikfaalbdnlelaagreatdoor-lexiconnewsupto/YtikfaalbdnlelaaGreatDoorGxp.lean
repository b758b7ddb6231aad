/-
  strings.Builder's WriteByte at this program's numbers; a fresh builder.
-/
import Derived.Test.YtikfaalbdnlelaaGreatDoorGbl
import Derived.Lib.FrozenHead2
import Derived.Shelf.LaysM
import Derived.Shelf.Strconv.Itoa3
import Derived.Test.YtikfaalbdnlelaaGreatDoorProg
import Derived.Test.YtikfaalbdnlelaaGreatDoorGxm
import Derived.Test.YtikfaalbdnlelaaGreatDoorGxd
import Derived.Lib.AppendIntMem
namespace Go.Proofs.YtikfaalbdnlelaaGreatDoor.Skt
open Go Go.Lib Go.RowKit Go.Shelf Utf

set_option maxHeartbeats 2000000 in
set_option maxRecDepth 100000 in
theorem writeByte_any (B b : Nat) (bs : List Value) (c : Int) (w : World) (h : Lib.IsBuilderF 86 5 B b bs w) (hlen : bs.length + 1 ≤ 140737488355328) (hBw : B ≤ w.heap.size) :
    Calls Tryz.prog 43 #[.pointer (some ⟨b, 0, none⟩), .int .u8 c] w fun e w' => e = .returned .nilIface ∧ Lib.BuilderAtF 86 5 B b (.pointer (some ⟨b, 0, none⟩)) (bs ++ [.int .u8 c]) w' ∧ Below B w w' := by
  obtain ⟨i0, hi, hz0, hz1, hz2⟩ := info_parts infoByte
  go_enter Tryz.func43, Tryz.ntmps43
  go_wp2_with (go_at_call 76; refine (copyCheck_any B b bs _ h).mono ?_)
  rintro e w1 ⟨rfl, h1, hb1, hk1⟩
  obtain ⟨hB, v, hbk, hown, hne⟩ := h1
  have c0 : w1.cell? ⟨b, 0, none⟩ = some (.pointer (some ⟨b, 0, none⟩)) := by rw [Lib.cell_of_heap hbk]; rfl
  have c1 : w1.cell? ⟨b, 1, none⟩ = some v := by rw [Lib.cell_of_heap hbk]; rfl
  clear hk1
  go_wp2_with (at_builtin; refine wpList_append_ownF _ rfl _ _ 84 rfl B 5 i0 (.int .u8 0) 1 1 Tryz.underlying84 hi hz0 hz1 hz2 rfl (by decide) _ _ _ rfl (hown.alloc _) ⟨w1.heap.size, 0, none⟩ 1 1 [.int .u8 c] rfl rfl ?c1 ?c2 ?c3 ?c4 ?c5 ?_)
  case c1 =>
    intro j u hj
    match j, hj with
    | 0, hj => simp at hj; subst hj; simp [Addr.add]
  case c2 => intro u hu; simp at hu; subst hu; rfl
  case c3 => unfold maxLen; omega
  case c4 => omega
  case c5 => have := hb1.size; simp; omega
  intro v' w2 hown' hgrow _
  have hlt : b < w1.heap.size := by
    rcases Nat.lt_or_ge b w1.heap.size with h' | h'
    · exact h'
    · simp [Array.getElem?_eq_none h'] at hbk
  have hb2 : w2.heap[b]? = some (.cells #[.pointer (some ⟨b, 0, none⟩), v] 86 (0, 0)) := by
    rw [hgrow.block b (by simp; omega) (fun e => hne e.symm), Lib.alloc_old w1 _ b hlt]
    exact hbk
  have d0 : w2.cell? ⟨b, 0, none⟩ = some (.pointer (some ⟨b, 0, none⟩)) := by rw [Lib.cell_of_heap hb2]; rfl
  have d1 : w2.cell? ⟨b, 1, none⟩ = some v := by rw [Lib.cell_of_heap hb2]; rfl
  have f1 : w2.frozen? ⟨b, 1, none⟩ = false := Lib.frozen_of_heap hb2 1
  obtain ⟨g, cap, rfl⟩ : ∃ g cap, v' = .slice (some ⟨g, 0, none⟩) (bs.length + 1) cap := by
    rcases hown'.2 with ⟨_, h0⟩ | ⟨g, cap, cur, fz, hv, _⟩
    · omega
    · exact ⟨g, cap, hv⟩
  go_wp2
  go_ret
  refine ⟨rfl, ?_, ?_⟩
  · exact Lib.BuilderAtF.put (T := 86) (e := 5) hB hb2 (bs' := bs ++ [.int .u8 c]) (by simpa using hown') (by decide)
  · exact ((hb1.alloc (by have := hb1.size; omega) _).grown hgrow (by have := hb1.size; simp; omega) (fun k hk => (hown.lt k hk).1)).setCell (p := ⟨b, 1, none⟩) hB _
theorem builder_new (T e : TypeId) (w : World) : Lib.IsBuilderF T e w.heap.size w.heap.size [] (w.alloc (.cells #[.pointer none, .slice none 0 0] T)) :=
  .inl ⟨Nat.le_refl _, .slice none 0 0, World.alloc_heap_new w _, World.ownsRowF_nil _ _ _ _, by simp [Value.ownBlock]⟩
end Go.Proofs.YtikfaalbdnlelaaGreatDoor.Skt
/-
  The library's contract of strconv.Itoa, laid at this program's numbers.
-/
namespace Go.Proofs
open Go.Shelf
def Tryz.laysM171_ren : Go.Shelf.Ren := ⟨fun | 171 => 44 | 243 => 77 | 246 => 102 | 283 => 120 | 284 => 121 | 285 => 122 | 286 => 123 | 129 => 114 | 317 => 135 | 318 => 136 | 319 => 137 | 320 => 138 | 337 => 142 | 338 => 143 | n => n, fun | 3 => 3 | 9 => 9 | 2 => 2 | 4 => 4 | 171 => 157 | 0 => 0 | 53 => 152 | 37 => 84 | 5 => 5 | 173 => 159 | 212 => 170 | 51 => 150 | 20 => 20 | 213 => 171 | 46 => 131 | 232 => 176 | 233 => 177 | n => n, fun | 17 => 1 | 18 => 2 | 19 => 3 | n => n⟩
theorem Tryz.laysM171 : Go.Proofs.LaysM.n171 Tryz.prog Tryz.laysM171_ren := {
  mixed := by kernel_rfl
  f129 := Tryz.func114.trans (congrArg some (by kernel_rfl))
  f171 := Tryz.func44.trans (congrArg some (by kernel_rfl))
  f243 := Tryz.func77.trans (congrArg some (by kernel_rfl))
  f246 := Tryz.func102.trans (congrArg some (by kernel_rfl))
  f283 := Tryz.func120.trans (congrArg some (by kernel_rfl))
  f284 := Tryz.func121.trans (congrArg some (by kernel_rfl))
  f285 := Tryz.func122.trans (congrArg some (by kernel_rfl))
  f286 := Tryz.func123.trans (congrArg some (by kernel_rfl))
  f317 := Tryz.func135.trans (congrArg some (by kernel_rfl))
  f318 := Tryz.func136.trans (congrArg some (by kernel_rfl))
  f319 := Tryz.func137.trans (congrArg some (by kernel_rfl))
  f320 := Tryz.func138.trans (congrArg some (by kernel_rfl))
  f337 := Tryz.func142.trans (congrArg some (by kernel_rfl))
  f338 := Tryz.func143.trans (congrArg some (by kernel_rfl))
  t0 := Tryz.underlying0
  a0 := Tryz.isAgg0
  z0 := Tryz.sizeOf0
  v0 := Tryz.zeroValue0
  t2 := Tryz.underlying2
  a2 := Tryz.isAgg2
  z2 := Tryz.sizeOf2
  v2 := Tryz.zeroValue2
  t3 := Tryz.underlying3
  a3 := Tryz.isAgg3
  z3 := Tryz.sizeOf3
  v3 := Tryz.zeroValue3
  t4 := Tryz.underlying4
  a4 := Tryz.isAgg4
  z4 := Tryz.sizeOf4
  v4 := Tryz.zeroValue4
  t5 := Tryz.underlying5
  a5 := Tryz.isAgg5
  z5 := Tryz.sizeOf5
  v5 := Tryz.zeroValue5
  t9 := Tryz.underlying9
  a9 := Tryz.isAgg9
  z9 := Tryz.sizeOf9
  v9 := Tryz.zeroValue9
  t20 := Tryz.underlying20
  a20 := Tryz.isAgg20
  z20 := Tryz.sizeOf20
  v20 := Tryz.zeroValue20
  t37 := Tryz.underlying84
  a37 := Tryz.isAgg84
  z37 := Tryz.sizeOf84
  v37 := Tryz.zeroValue84
  t46 := Tryz.underlying131
  a46 := Tryz.isAgg131
  z46 := Tryz.sizeOf131
  v46 := Tryz.zeroValue131
  t51 := Tryz.underlying150
  a51 := Tryz.isAgg150
  z51 := Tryz.sizeOf150
  v51 := Tryz.zeroValue150
  t53 := Tryz.underlying152
  a53 := Tryz.isAgg152
  z53 := Tryz.sizeOf152
  v53 := Tryz.zeroValue152
  t171 := Tryz.underlying157
  a171 := Tryz.isAgg157
  z171 := Tryz.sizeOf157
  v171 := Tryz.zeroValue157
  t173 := Tryz.underlying159
  a173 := Tryz.isAgg159
  z173 := Tryz.sizeOf159
  v173 := Tryz.zeroValue159
  t212 := Tryz.underlying170
  a212 := Tryz.isAgg170
  z212 := Tryz.sizeOf170
  v212 := Tryz.zeroValue170
  t213 := Tryz.underlying171
  a213 := Tryz.isAgg171
  z213 := Tryz.sizeOf171
  t232 := Tryz.underlying176
  a232 := Tryz.isAgg176
  z232 := Tryz.sizeOf176
  v232 := Tryz.zeroValue176
  t233 := Tryz.underlying177
  a233 := Tryz.isAgg177
  z233 := Tryz.sizeOf177
  v233 := Tryz.zeroValue177
  g17 := by kernel_rfl
  g18 := by kernel_rfl
  g19 := by kernel_rfl
  i0 := by kernel_rfl
  i2 := by kernel_rfl
  i3 := by kernel_rfl
  i4 := by kernel_rfl
  i5 := by kernel_rfl
  i9 := by kernel_rfl
  i20 := by kernel_rfl
  i37 := by kernel_rfl
  i46 := by kernel_rfl
  i51 := by kernel_rfl
  i53 := by kernel_rfl
  i171 := by kernel_rfl
  i173 := by kernel_rfl
  i212 := by kernel_rfl
  i232 := by kernel_rfl
  i233 := by kernel_rfl
  m17 := by kernel_rfl
  m18 := by kernel_rfl
  m19 := by kernel_rfl }
open Go.RowKit Go.Sort Go.Lib in
theorem Tryz.strconv_Itoa (n : Int) (h0 : -9223372036854775808 ≤ n) (h1 : n ≤ 9223372036854775807) (w : World) (htab : Lib.TabIs Tryz.prog w "internal/strconv.uint64pow10" .u64 Lib.pow10Tab) :
    Calls Tryz.prog 44 #[.int .i64 n] w fun e w' => e = .returned (.string ⟨(Lib.itoa n).toArray⟩) ∧ ∃ k os, w' = grow (w.drewN k) os := Any.strconv_Itoa Tryz.laysM171 n h0 h1 w htab
end Go.Proofs
/-
  The program's Print.
-/
namespace Go.Proofs.YtikfaalbdnlelaaGreatDoor.Utf
open Go Go.Lib Go.RowKit

/-- The table of powers, in its variable. -/
def Pw (W : World) : Prop := Lib.TabIs Tryz.prog W "internal/strconv.uint64pow10" .u64 Lib.pow10Tab
theorem Pw.below {W W' : World} (h : Pw W) (hb : Below W.heap.size W W') : Pw W' := tabBelow_of_tabIs h W' hb
theorem itoa_any {n : Nat} (hn : n < 1000) (w : World) (hT : Pw w) : Calls Tryz.prog 44 #[.int .i64 (n : Int)] w fun e w' => e = .returned (.string ⟨(Grd.dig3 n).toArray⟩) ∧ Below w.heap.size w w' := by
  refine (Tryz.strconv_Itoa (n : Int) (by omega) (by omega) w hT).mono ?_
  rintro e w' ⟨rfl, k, os, rfl⟩
  refine ⟨?_, Lib.below_grow _ _ (Nat.le_refl _) _ _⟩
  rw [← Grd.digs_dig3 hn]
  unfold Lib.itoa
  rw [if_neg (by omega), Int.toNat_natCast]
theorem bf_below {T e : TypeId} {B b : Nat} {bs : List Value} {W W' : World} (h : Lib.IsBuilderF T e B b bs W) (hb : Below W.heap.size W W') : Lib.IsBuilderF T e B b bs W' := by
  have key : ∀ {p : Value}, Lib.BuilderAtF T e B b p bs W → Lib.BuilderAtF T e B b p bs W' := by
    rintro p ⟨hB, v, hbk, hown, hne⟩
    refine ⟨hB, v, (hb.block b (Array.getElem?_eq_some_iff.1 hbk).1).trans hbk, ⟨hown.1, ?_⟩, hne⟩
    rcases hown.2 with hn | ⟨g, cap, cur, fz, hv, hbg, hg, rest⟩
    · exact .inl hn
    · exact .inr ⟨g, cap, cur, fz, hv, hbg, (hb.block g (Array.getElem?_eq_some_iff.1 hg).1).trans hg, rest⟩
  exact h.imp key key
theorem bc_snoc (l : List UInt8) (c : UInt8) (n : Int) (h : n = c.toNat) : Lib.byteCells l ++ [.int .u8 n] = Lib.byteCells (l ++ [c]) := by
  subst h
  simp [Lib.byteCells]
theorem lineE_len {L : List ByteArray} (hLs : ∀ x ∈ L, x.size ≤ 12) {x : List Int × Int} (h : x.1.length ≤ 32) : (lineE L x ++ [10]).length ≤ 400 := by
  have h1 := joinL_le hLs x.1
  have h2 := Grd.dig3_len x.2.toNat
  unfold lineE
  rw [List.length_append, List.length_append, List.length_cons, List.length_singleton]
  omega
theorem printB_len {L : List ByteArray} (hLs : ∀ x ∈ L, x.size ≤ 12) : ∀ (l : List (List Int × Int)), (∀ x ∈ l, x.1.length ≤ 32) → (printB L l).length ≤ 400 * l.length
  | [], _ => Nat.zero_le _
  | x :: l, h => by
    have h1 := lineE_len (L := L) hLs (h x (by simp))
    have h2 := printB_len hLs l (fun y hy => h y (by simp [hy]))
    unfold printB at h2 ⊢
    rw [List.flatMap_cons, List.length_append, List.length_cons]
    omega
theorem printB_next (L : List ByteArray) (l : List (List Int × Int)) {k : Nat} (h : k < l.length) : printB L (l.take (k + 1)) = printB L (l.take k) ++ (joinL L l[k].1 ++ ([59] ++ (Grd.dig3 l[k].2.toNat ++ [10]))) := by
  unfold printB
  rw [List.take_succ_eq_append_getElem h, List.flatMap_append]
  simp [lineE]

set_option maxRecDepth 100000 in
set_option maxHeartbeats 4000000 in
theorem lprint_any {W : World} {base xb : Nat} {L : List ByteArray} {l : List (List Int × Int)} (h : IsLex W base xb L l) (hk : okE L l) (hLs : ∀ x ∈ L, x.size ≤ 12) (hl : l.length ≤ 1000) (hP : Pw W) :
    Calls Tryz.prog 16 #[.pointer (some ⟨xb, 0, none⟩)] W fun e w' => e = .returned (.string ⟨(printB L l).toArray⟩) ∧ Below W.heap.size W w' := by
  have hB0 : Below W.heap.size W (W.alloc (.cells #[.pointer none, .slice none 0 0] 86)) := (Below.refl _ _).alloc (Nat.le_refl _) _
  have HI0 : Aside (Lib.IsBuilderF 86 5 W.heap.size W.heap.size (Lib.byteCells (printB L (l.take 0))) (W.alloc (.cells #[.pointer none, .slice none 0 0] 86))) := Skt.builder_new 86 5 W
  have HX : Aside (∀ w, Below W.heap.size W w → IsLex w base xb L l) := fun w hb => h.below hb
  have HP : Aside (∀ w, Below W.heap.size W w → Pw w) := fun w hb => hP.below hb
  have HK : Aside (okE L l) := hk
  have HLS : Aside (∀ x ∈ L, x.size ≤ 12) := hLs
  have cL := len_any (h.below hB0)
  have HC : Aside (∃ wo cap, ∀ w, Below W.heap.size W w → w.cell? ⟨xb, 0, none⟩ = some (.slice wo l.length cap) ∧ ∀ k (hk : k < l.length), ∃ g, wo = some ⟨g, 0, none⟩ ∧ w.cell? ⟨g, k * 3 + 1, none⟩ = some (.string (joinT L l[k].1)) ∧ w.cell? ⟨g, k * 3 + 2, none⟩ = some (.int .i64 l[k].2)) := by
    obtain ⟨⟨wo, cap, h1, h2⟩, _⟩ := h
    refine ⟨wo, cap, fun w hb => ?_⟩
    have hx : xb < W.heap.size := (Array.getElem?_eq_some_iff.1 h1).1
    have cx : W.cell? ⟨xb, 0, none⟩ = some (.slice wo l.length cap) := (show Boxed W xb 82 _ from h1).cell
    refine ⟨(hb.cell (p := ⟨xb, 0, none⟩) hx).trans cx, fun k hk => ?_⟩
    obtain ⟨g, ao, cp, e1, e2, e3, e4, e5, e6⟩ := h2 k hk
    exact ⟨g, e1, (hb.cell (p := ⟨g, _, none⟩) e2.2).trans e5, (hb.cell (p := ⟨g, _, none⟩) e2.2).trans e6⟩
  obtain ⟨wo, cap, hC⟩ := HC.out
  have HC2 : Aside (∀ w, Below W.heap.size W w → w.cell? ⟨xb, 0, none⟩ = some (.slice wo l.length cap) ∧ ∀ k (hk : k < l.length), ∃ g, wo = some ⟨g, 0, none⟩ ∧ w.cell? ⟨g, k * 3 + 1, none⟩ = some (.string (joinT L l[k].1)) ∧ w.cell? ⟨g, k * 3 + 2, none⟩ = some (.int .i64 l[k].2)) := hC
  clear h hP hk hLs HC hC
  go_enter Tryz.func16, Tryz.ntmps16
  go_wp2_with fail
  refine cL.mono ?_
  rintro e w1 ⟨rfl, hw⟩
  obtain rfl := hw.symm
  clear cL hw
  go_wp2
  go_loopg [7] l.length (fun g1 vi wr => ∃ k : Nat, vi = .int .i64 (k : Int) ∧ k ≤ l.length ∧ l.length - k ≤ g1 ∧ Aside (Lib.IsBuilderF 86 5 W.heap.size W.heap.size (Lib.byteCells (printB L (l.take k))) wr) ∧ Aside (Below W.heap.size W wr))
  case atStart => exact ⟨0, rfl, Nat.zero_le _, Nat.le_refl _, HI0, hB0⟩
  case round =>
    clear hB0 HI0
    obtain ⟨k, rfl, hk, hg1, HI, HB⟩ := hrel
    by_cases hlt : k < l.length
    · have hltz : (k : Int) < (l.length : Int) := by omega
      have hx := HC2.out wr HB.out
      obtain ⟨g, rfl, q1, q2⟩ := hx.2 k hlt
      clear q1 q2
      have hcx := hx.1
      obtain ⟨g', eg, c5, c6⟩ := hx.2 k hlt
      obtain rfl : g = g' := by injection eg with eg; injection eg
      have hsc := (HK.out _ (List.getElem_mem hlt))
      have h32 := hsc.1
      have hs0 := hsc.2.2.1
      have hs1 := hsc.2.2.2.1
      have HNX : Aside (printB L (l.take (k + 1)) = printB L (l.take k) ++ (joinL L l[k].1 ++ ([59] ++ (Grd.dig3 l[k].2.toNat ++ [10])))) := printB_next L l hlt
      have HLN : Aside ((printB L (l.take k)).length ≤ 400000 ∧ (joinL L l[k].1).length ≤ 400) := by
        have h1 := printB_len HLS.out (l.take k) (fun x hx => (HK.out x (List.mem_of_mem_take hx)).1)
        have h2 := joinL_le HLS.out l[k].1
        rw [List.length_take] at h1
        exact ⟨by omega, by omega⟩
      have HC3 : Aside (∀ w, Below W.heap.size W w → w.cell? ⟨xb, 0, none⟩ = some (.slice (some ⟨g, 0, none⟩) l.length cap) ∧ w.cell? ⟨g, k * 3 + 2, none⟩ = some (.int .i64 l[k].2)) := fun w hb => by
        have := HC2.out w hb
        obtain ⟨g2, e2, q3, e6⟩ := this.2 k hlt
        injection e2 with e2
        injection e2 with e2
        subst e2
        exact ⟨this.1, e6⟩
      obtain ⟨sn, hsn⟩ : ∃ sn : Nat, l[k].2 = (sn : Int) := ⟨l[k].2.toNat, by omega⟩
      have hsn2 : l[k].2.toNat = sn := by omega
      rw [hsn2] at HNX
      rw [hsn] at HC3
      have hjt : joinT L l[k].1 = ⟨(joinL L l[k].1).toArray⟩ := rfl
      rw [hjt] at c5
      have hsn3 : sn < 1000 := by omega
      clear hx hsc eg c6 hs0 hs1 hjt hsn2 hsn
      generalize joinL L l[k].1 = J at *
      generalize hbd : printB L (l.take k) = BD at *
      generalize hbn : printB L (l.take (k + 1)) = BN at *
      have HBN : Aside (printB L (l.take (k + 1)) = BN) := hbn
      clear hbd hbn h32
      have hq1 : (Lib.byteCells BD).length + (⟨J.toArray⟩ : ByteArray).size ≤ 140737488355328 := by
        rw [Lib.byteCells_length]
        have h1 := HLN.out
        have e : (⟨J.toArray⟩ : ByteArray).size = J.length := by simp [ByteArray.size]
        omega
      have c1 := writeString_any W.heap.size W.heap.size (Lib.byteCells BD) ⟨J.toArray⟩ wr HI.out hq1 HB.out.size
      go_wp2_with fail
      refine c1.mono ?_
      rintro e w1 ⟨rfl, hA1, hb1, _⟩
      rw [strCells_bytes, ← byteCells_append] at hA1
      have HI1 : Aside (Lib.IsBuilderF 86 5 W.heap.size W.heap.size (Lib.byteCells (BD ++ J)) w1) := .inr hA1
      have HB1 : Aside (Below W.heap.size W w1) := HB.out.trans hb1
      clear hA1 hb1 c1 HI hcx c5
      have c2 := Skt.writeByte_any W.heap.size W.heap.size (Lib.byteCells (BD ++ J)) 59 w1 HI1.out (by rw [Lib.byteCells_length, List.length_append]; have := HLN.out; omega) HB1.out.size
      go_wp2_with fail
      refine c2.mono ?_
      rintro e w2 ⟨rfl, hA2, hb2⟩
      rw [bc_snoc _ 59 59 rfl] at hA2
      have HB2 : Aside (Below W.heap.size W w2) := HB1.out.trans hb2
      have hI2 : Lib.IsBuilderF 86 5 W.heap.size W.heap.size (Lib.byteCells (BD ++ J ++ [59])) w2 := .inr hA2
      clear hA2 hb2 c2 HI1
      have c3 := itoa_any hsn3 w2 (HP.out _ HB2.out)
      obtain ⟨cx, c6⟩ := HC3.out w2 HB2.out
      go_wp2_with fail
      refine c3.mono ?_
      rintro e w3 ⟨rfl, hb3⟩
      have HB3 : Aside (Below W.heap.size W w3) := HB2.out.trans (hb3.mono HB2.out.size)
      have hI3 := bf_below hI2 hb3
      have hd3 := Grd.dig3_len sn
      clear c3 hb3 hI2 cx c6
      have hq4 : (Lib.byteCells (BD ++ J ++ [59])).length + (⟨(Grd.dig3 sn).toArray⟩ : ByteArray).size ≤ 140737488355328 := by
        rw [Lib.byteCells_length, List.length_append, List.length_append, List.length_singleton]
        have h1 := HLN.out
        have e : (⟨(Grd.dig3 sn).toArray⟩ : ByteArray).size = (Grd.dig3 sn).length := by simp [ByteArray.size]
        omega
      have c4 := writeString_any W.heap.size W.heap.size (Lib.byteCells (BD ++ J ++ [59])) ⟨(Grd.dig3 sn).toArray⟩ w3 hI3 hq4 HB3.out.size
      go_wp2_with fail
      refine c4.mono ?_
      rintro e w4 ⟨rfl, hA4, hb4, _⟩
      rw [strCells_bytes, ← byteCells_append] at hA4
      have HB4 : Aside (Below W.heap.size W w4) := HB3.out.trans hb4
      have hI4 : Lib.IsBuilderF 86 5 W.heap.size W.heap.size (Lib.byteCells (BD ++ J ++ [59] ++ Grd.dig3 sn)) w4 := .inr hA4
      clear hA4 hb4 c4 hI3
      have c5 := Skt.writeByte_any W.heap.size W.heap.size _ 10 w4 hI4 (by rw [Lib.byteCells_length, List.length_append, List.length_append, List.length_append, List.length_singleton]; have := HLN.out; omega) HB4.out.size
      go_wp2_with fail
      refine c5.mono ?_
      rintro e w5 ⟨rfl, hA5, hb5⟩
      rw [bc_snoc _ 10 10 rfl, show BD ++ J ++ [59] ++ Grd.dig3 sn ++ [10] = BD ++ (J ++ ([59] ++ (Grd.dig3 sn ++ [10]))) by simp, ← HNX.out, ← HBN.out] at hA5
      have HB5 : Aside (Below W.heap.size W w5) := HB4.out.trans hb5
      have HI5 : Aside (Lib.IsBuilderF 86 5 W.heap.size W.heap.size (Lib.byteCells (printB L (l.take (k + 1)))) w5) := .inr hA5
      clear hA5 hb5 c5 hI4 HBN HNX
      go_wp2
      go_roundg (l.length - (k + 1))
      case measure => omega
      case rel => exact ⟨k + 1, by go_num, by omega, Nat.le_refl _, HI5, HB5⟩
    · have hltz : ¬ (k : Int) < (l.length : Int) := by omega
      obtain rfl : k = l.length := by omega
      have hI := HI.out
      rw [List.take_length] at hI
      have cT := string_any W.heap.size W.heap.size (printB L l) wr hI HB.out.size
      clear hI HI
      go_wp2_with fail
      refine cT.mono ?_
      rintro e w2 ⟨rfl, hb2, _⟩
      have HB2 : Aside (Below W.heap.size W w2) := HB.out.trans hb2
      go_wp2
      go_ret
      exact ⟨rfl, HB2.out⟩
end Go.Proofs.YtikfaalbdnlelaaGreatDoor.Utf
