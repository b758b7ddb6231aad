/-
  The program's Read.
-/
import Derived.Test.YtilokjcbkhhifaaDoorNmc
import Derived.Test.YtilokjcbkhhifaaDoorAtoi
import Derived.Lib.AtoiErrMem
namespace Go.Proofs.YtilokjcbkhhifaaDoor.Grd
open Go Go.Lib Go.RowKit

/-- The two errors of package strconv, in their variables. -/
structure Ev (W : World) : Prop where
  e1 : ∃ t p, W.cell? ⟨1, 0, none⟩ = some (.iface t p)
  e2 : ∃ t p, W.cell? ⟨2, 0, none⟩ = some (.iface t p)
theorem Ev.below {W W' : World} (h : Ev W) (hb : Below W.heap.size W W') : Ev W' := by
  obtain ⟨t1, p1, h1⟩ := h.e1
  obtain ⟨t2, p2, h2⟩ := h.e2
  have lt := fun (b : Nat) (v : Value) (h : W.cell? ⟨b, 0, none⟩ = some v) => (show b < W.heap.size by
    by_cases hb : b < W.heap.size
    · exact hb
    · have e : W.heap[b]? = none := Array.getElem?_eq_none (by omega)
      simp [World.cell?, e] at h)
  exact ⟨⟨t1, p1, (hb.cell (p := ⟨1, 0, none⟩) (lt 1 _ h1)).trans h1⟩, ⟨t2, p2, (hb.cell (p := ⟨2, 0, none⟩) (lt 2 _ h2)).trans h2⟩⟩
theorem Atoi_any (s : ByteArray) (w : World) (hs : s.size ≤ 281474976710656) (hE : Ev w) :
    Calls Tryd.prog 40 #[.string s] w fun e w' => ∃ v er, e = .returned (.tuple #[.int .i64 v, er]) ∧ ((Lib.atoiAll s.data.toList = .ok v ∧ er = .nilIface) ∨ ((∀ x, Lib.atoiAll s.data.toList ≠ .ok x) ∧ ∃ t p, er = .iface t p)) ∧ Below w.heap.size w w' := by
  cases h : Lib.atoiAll s.data.toList with
  | ok v =>
    refine (Tryd.strconv_Atoi_ok s (by omega) v h w).mono ?_
    rintro e w' ⟨rfl, hw⟩
    refine ⟨v, .nilIface, rfl, .inl ⟨rfl, rfl⟩, ?_⟩
    rcases hw with rfl | ⟨t, rfl⟩
    · exact Below.refl _ _
    · exact Lib.bytesWorld_below _ _ _
  | «syntax» =>
    obtain ⟨t, p, h1⟩ := hE.e1
    refine (Tryd.strconv_Atoi_syntax s hs h _ w h1 (.inr ⟨t, p, rfl⟩)).mono ?_
    rintro e w' ⟨N, rfl, _, _, hb⟩
    exact ⟨0, _, rfl, .inr ⟨(fun x hx => by cases hx), _, _, rfl⟩, hb⟩
  | range =>
    obtain ⟨t, p, h1⟩ := hE.e2
    refine (Tryd.strconv_Atoi_range s hs h _ w h1 (.inr ⟨t, p, rfl⟩)).mono ?_
    rintro e w' ⟨N, rfl, _, _, hb⟩
    exact ⟨_, _, rfl, .inr ⟨(fun x hx => by cases hx), _, _, rfl⟩, hb⟩

theorem last_byte (L : List UInt8) (x : UInt8) (hi : L.length < (⟨(L ++ [x]).toArray⟩ : ByteArray).size) : (⟨(L ++ [x]).toArray⟩ : ByteArray)[L.length]'hi = x := by
  show (L ++ [x]).toArray[L.length]'_ = x
  simp
theorem toList_inj {a b : ByteArray} (h : a.toList = b.toList) : a = b := by
  rw [ByteArray.toList_eq, ByteArray.toList_eq] at h
  obtain ⟨a⟩ := a
  obtain ⟨b⟩ := b
  congr
  exact Array.toList_inj.1 h
/-- The parts of a name. -/
theorem Reads.parts {s : ByteArray} {n l : Nat} {dn : Bool} (h : Reads s n dn) (hl : s.size = l + 1) : (s.extract 0 l).data.toList = dig3 n ∧ ∀ (hi : l < s.size), (((s[l]'hi).toNat : Int) == 68) = dn := by
  obtain ⟨h1, h2, rfl⟩ := h
  have hll : l = (dig3 n).length := by
    have : (⟨(nmL n dn).toArray⟩ : ByteArray).size = (dig3 n).length + 1 := by show (nmL n dn).toArray.size = _; unfold nmL; simp
    omega
  subst hll
  refine ⟨?_, fun hi => ?_⟩
  · rw [ByteArray.data_extract]
    unfold nmL
    simp
  · have e : (⟨(nmL n dn).toArray⟩ : ByteArray)[(dig3 n).length]'hi = (if dn then 68 else 65) := last_byte (dig3 n) (if dn then 68 else 65) hi
    rw [e]
    cases dn <;> rfl
set_option maxRecDepth 20000 in
set_option maxHeartbeats 2000000 in
theorem Read_any (s : ByteArray) (w : World) (hs : s.size ≤ 281474976710656) (hE : Ev w) (hT : Pw w) :
    Calls Tryd.prog 24 #[.string s] w fun e w' => e = .returned (rdV (rd s)) ∧ Below w.heap.size w w' := by
  by_cases h0 : s.size = 0
  · obtain rfl : s = ⟨#[]⟩ := by
      obtain ⟨d⟩ := s
      congr
      exact Array.eq_empty_of_size_eq_zero h0
    have HV : Aside (rd ⟨#[]⟩ = none) := rd_none fun n dn h => by
      have e : 0 = (nmL n dn).length := by simpa using congrArg (fun b : ByteArray => b.data.toList.length) h.2.2
      have := nmL_len n dn
      omega
    have hne : (⟨#[]⟩ : ByteArray).toList.isEmpty = true := by rw [ByteArray.toList_eq]; rfl
    clear h0 hE hT hs
    go_enter Tryd.func24, Tryd.ntmps24
    go_wp2
    go_ret3
    exact ⟨by rw [HV.out]; rfl, Below.refl _ _⟩
  · have hne : s.toList.isEmpty = false := by
      rw [ByteArray.toList_eq]
      cases hl : s.data.toList with
      | nil => exact absurd (show s.size = 0 by rw [← ByteArray.size_data, ← Array.length_toList, hl]; rfl) h0
      | cons _ _ => rfl
    obtain ⟨l, hl⟩ : ∃ l, s.size = l + 1 := ⟨s.size - 1, by omega⟩
    have hsz : (s.extract 0 l).size = l := by simp [ByteArray.size_extract]; omega
    have cA := Atoi_any (s.extract 0 l) w (by omega) hE
    have HN : Aside (∀ v dn W, -9223372036854775808 ≤ v → v ≤ 9223372036854775807 → Below w.heap.size w W → Calls Tryd.prog 26 #[.int .i64 v, .bool dn] W fun e w' => e = .returned (.string (nameS v dn)) ∧ Below W.heap.size W w') := fun v dn W h0 h1 hb => Name_any v dn W h0 h1 (hT.below hb)
    have hlz : (s.size : Int) = (l : Int) + 1 := by omega
    clear hE hT
    go_enter Tryd.func24, Tryd.ntmps24
    go_wp2_with fail
    refine cA.mono ?_
    rintro e w1 ⟨v, er, rfl, hcase, hb1⟩
    rcases hcase with ⟨hok, rfl⟩ | ⟨hno, t, p, rfl⟩
    · have hvb := Lib.atoiAll_bounds hok
      have HP : Aside (∀ n dn, Reads s n dn → v = (n : Int) ∧ ((s[l].toNat : Int) == 68) = dn) := fun n dn h => by
        obtain ⟨e1, e2⟩ := h.parts hl
        rw [e1, atoiAll_dig3 h.2.1] at hok
        cases hok
        exact ⟨rfl, e2 _⟩
      have HB1 : Aside (Below w.heap.size w w1) := hb1
      clear hok cA hb1
      go_wp2_with fail
      generalize ((s[l].toNat : Int) == 68) = D at *
      refine (HN.out v D w1 hvb.1 hvb.2 HB1.out).mono ?_
      rintro e w2 ⟨rfl, hb2⟩
      have HB2 : Aside (Below w.heap.size w w2) := HB1.out.trans (hb2.mono HB1.out.size)
      clear hb2
      by_cases hN : nameS v D = s
      · have hN2 : ((nameS v D).toList == s.toList) = true := by rw [hN]; exact beq_self_eq_true _
        have HV : Aside (rdV (rd s) = .tuple #[.int .i64 v, .bool D, .bool true]) := by
          obtain ⟨n, rfl, hr⟩ := nameS_reads h0 hN
          show _ = _
          rw [rd_some hr]
          rfl
        clear hN
        generalize nameS v D = nm at *
        go_wp2
        go_ret3
        exact ⟨by rw [HV.out]; rfl, HB2.out⟩
      · have hN2 : ((nameS v D).toList == s.toList) = false := by rw [beq_eq_false_iff_ne]; exact fun h => hN (toList_inj h)
        have HV : Aside (rdV (rd s) = .tuple #[.int .i64 0, .bool false, .bool false]) := by
          show _ = _
          rw [rd_none fun n dn h => hN (by obtain ⟨rfl, e⟩ := HP.out n dn h; rw [e]; exact reads_nameS h)]
          rfl
        generalize nameS v D = nm at *
        go_wp2
        go_ret3
        exact ⟨by rw [HV.out]; rfl, HB2.out⟩
    · have HV : Aside (rdV (rd s) = .tuple #[.int .i64 0, .bool false, .bool false]) := by
        show _ = _
        rw [rd_none fun n dn h => by
          obtain ⟨e1, _⟩ := h.parts hl
          rw [e1, atoiAll_dig3 h.2.1] at hno
          exact hno _ rfl]
        rfl
      have HB1 : Aside (Below w.heap.size w w1) := hb1
      clear cA hb1 hno
      go_wp2_with fail
      go_ret3
      exact ⟨by rw [HV.out]; rfl, HB1.out⟩
end Go.Proofs.YtilokjcbkhhifaaDoor.Grd
