/-
  Alphabets whose letters have one rune each: no letter begins another; a joined text is split into its letters, has one way, and none with a sign behind it that is no letter.
-/
import Derived.Test.YtaijphanpolegaaWysm
import Derived.Test.YtaijphanpolegaaJonm
import Derived.Test.YtaijphanpolegaaRsp
import Derived.Test.YtaijphanpolegaaSur
import Derived.Test.YtaijphanpolegaaFixm
namespace Go.Proofs.Ytaijphanpolegaa.Utf
open Go Go.Lib Go.RowKit

theorem sing_enc {X : ByteArray} (hn : nameP X) (h1 : (pairs X).length = 1) : ∃ r, X.data.toList = encB r ∧ capR r := by
  have hs := (name_len hn).1
  have hv : validB X = true := by
    unfold validB
    obtain ⟨f, hf⟩ : ∃ f, X.size = f + 1 := ⟨X.size - 1, by omega⟩
    have hp : 0 < X.size := by omega
    have hpr : pairs X = (0, (Utf8.decode X 0).1) :: pairsFrom X f (0 + (Utf8.decode X 0).2) := by
      unfold pairs
      rw [hf, pairsFrom_step hp]
    have hc := hn.2.2 (0, (Utf8.decode X 0).1) (by rw [hpr]; exact List.mem_cons_self)
    have hne : ¬ ((Utf8.decode X 0).1 = 65533 ∧ (Utf8.decode X 0).2 = 1) := fun h => by
      have := hc.1
      dsimp only at this
      rw [h.1] at this
      unfold isL at this
      omega
    rw [hf, validFrom_step hp hne]
    have hrest : (pairsFrom X f (0 + (Utf8.decode X 0).2)).length = 0 := by
      rw [hpr, List.length_cons] at h1
      omega
    have hd := decode_fits X 0 hp
    have : ¬ 0 + (Utf8.decode X 0).2 < X.size := fun hlt => by
      obtain ⟨f', hf'⟩ : ∃ f', f = f' + 1 := ⟨f - 1, by omega⟩
      rw [hf', pairsFrom_step hlt, List.length_cons] at hrest
      omega
    exact validFrom_end X f _ this
  have he := valid_fix X hv
  match hp : pairs X, h1 with
  | [x], _ =>
    refine ⟨x.2, ?_, hn.2.2 x (by rw [hp]; exact List.mem_cons_self)⟩
    rw [← he, hp, encs_cons, encs_nil, List.append_nil]

/-- Letters of one rune each. -/
def Singles (L : List ByteArray) : Prop := ∀ X ∈ L, nameP X ∧ (pairs X).length = 1
theorem sing_unique {t X Y : ByteArray} (hX : nameP X ∧ (pairs X).length = 1) (hY : nameP Y ∧ (pairs Y).length = 1) (h1 : begins t X = true) (h2 : begins t Y = true) : X = Y := by
  obtain ⟨r, e1, _⟩ := sing_enc hX.1 hX.2
  obtain ⟨q, e2, _⟩ := sing_enc hY.1 hY.2
  obtain ⟨b1, f1⟩ := begins_iff.1 h1
  obtain ⟨b2, f2⟩ := begins_iff.1 h2
  have d1 := dec_mid t [] r b1 (by rw [← f1, e1, List.nil_append])
  have d2 := dec_mid t [] q b2 (by rw [← f2, e2, List.nil_append])
  rw [d1] at d2
  have hl : (encB r).length = (encB q).length := (Prod.mk.inj d2).2
  refine begins_same h1 h2 ?_
  rw [← ba_sz, ← ba_sz, e1, e2, hl]
theorem Singles.same {L : List ByteArray} (h : Singles L) (hN : L.Nodup) {t : ByteArray} {i j : Nat} (hi : i < L.length) (hj : j < L.length) (h1 : begins t L[i] = true) (h2 : begins t L[j] = true) : i = j :=
  (List.getElem_inj (h₀ := hi) (h₁ := hj) hN).1 (sing_unique (h _ (List.getElem_mem hi)) (h _ (List.getElem_mem hj)) h1 h2)

theorem sumW_one {L : List ByteArray} {rk : List Nat} (hRk : Ranked L rk) {t : ByteArray} {ws : List Nat} {p i : Nat} (hi : i < L.length) (hb : begins t L[i] = true) (hu : ∀ j (hj : j < L.length), begins t L[j] = true → j = i) :
    sumW L rk t ws p L.length = ws.getD (p + L[i].size) 0 := by
  obtain ⟨r, hr, hri, hnm⟩ := hRk.rank hi
  have hl : rk.length = L.length := by rw [hRk.perm.length_eq, List.length_range]
  have hnd : rk.Nodup := hRk.perm.nodup_iff.2 List.nodup_range
  have hother : ∀ q, q < L.length → q ≠ r → begins t (nmR L rk q) = false := fun q hq hne => by
    cases hbq : begins t (nmR L rk q) with
    | false => rfl
    | true =>
      have hk := hRk.perm.mem_iff.1 (List.getElem_mem (show q < rk.length by omega))
      have hk' : rk[q] < L.length := List.mem_range.1 hk
      have e : nmR L rk q = L[rk[q]] := by
        unfold nmR
        rw [show rk[q]? = some rk[q] from List.getElem?_eq_getElem (by omega), Option.getD_some, List.getElem?_eq_getElem hk']
        rfl
      rw [e] at hbq
      have hqi := hu _ hk' hbq
      have hrr : rk[r]'(by omega) = i := by
        rw [List.getElem?_eq_getElem (by omega)] at hri
        exact Option.some.inj hri
      exact absurd ((List.getElem_inj (h₀ := by omega) (h₁ := by omega) hnd).1 (hqi.trans hrr.symm)) hne
  have hbr : begins t (nmR L rk r) = true := by rw [hnm]; exact hb
  rw [sumW_skip (r + 1) L.length (by omega) (fun j h1 h2 => hother j h2 (by omega)), sumW_hit hbr, sumW_skip 0 r (by omega) (fun j _ h2 => hother j (by omega) (by omega)), hnm]
  simp [sumW]
theorem sumW_none {L : List ByteArray} {rk : List Nat} (hRk : Ranked L rk) {t : ByteArray} {ws : List Nat} {p : Nat} (hu : ∀ j (hj : j < L.length), begins t L[j] = false) : sumW L rk t ws p L.length = 0 := by
  have hl : rk.length = L.length := by rw [hRk.perm.length_eq, List.length_range]
  rw [sumW_skip 0 L.length (by omega) (fun q _ hq => ?_)]
  · rfl
  · have hk := hRk.perm.mem_iff.1 (List.getElem_mem (show q < rk.length by omega))
    have hk' : rk[q] < L.length := List.mem_range.1 hk
    have e : nmR L rk q = L[rk[q]] := by
      unfold nmR
      rw [show rk[q]? = some rk[q] from List.getElem?_eq_getElem (by omega), Option.getD_some, List.getElem?_eq_getElem hk']
      rfl
    rw [e]
    exact hu _ hk'

/-- How far the first letters reach. -/
def reach (L : List ByteArray) (zs : List Int) (k : Nat) : Nat := (joinL L (zs.take k)).length
theorem reach_next (L : List ByteArray) (zs : List Int) {k : Nat} (h : k < zs.length) : reach L zs (k + 1) = reach L zs k + (ltr L zs[k]).size := by
  unfold reach
  rw [joinL_next L zs h, List.length_append, ba_sz]
theorem rest_at {L : List ByteArray} {zs : List Int} {s : ByteArray} {tail : List UInt8} (hs : s.data.toList = joinL L zs ++ tail) {k : Nat} (_hk : k ≤ zs.length) : (s.extract (reach L zs k) s.size).data.toList = joinL L (zs.drop k) ++ tail := by
  have hj : joinL L zs = joinL L (zs.take k) ++ joinL L (zs.drop k) := by
    unfold joinL
    rw [← List.flatMap_append, List.take_append_drop]
  rw [extract_list, hs, hj, List.append_assoc]
  unfold reach
  rw [List.drop_left, List.take_of_length_le]
  have : s.size = s.data.toList.length := (ba_sz s).symm
  rw [this, hs, hj]
  simp only [List.length_append]
  omega
theorem begins_at {L : List ByteArray} {zs : List Int} {s : ByteArray} {tail : List UInt8} (hs : s.data.toList = joinL L zs ++ tail) {k : Nat} (hk : k < zs.length) : begins (s.extract (reach L zs k) s.size) (ltr L zs[k]) = true := by
  rw [begins_iff, rest_at hs (Nat.le_of_lt hk), List.drop_eq_getElem_cons hk]
  unfold joinL
  rw [List.flatMap_cons, List.append_assoc]
  exact List.prefix_append _ _
theorem ok_at {L : List ByteArray} {zs : List Int} (h : okNums L zs) {k : Nat} (hk : k < zs.length) : ∃ (i : Nat) (hi : i < L.length), zs[k] = (i : Int) ∧ ltr L zs[k] = L[i] := by
  have := h zs[k] (List.getElem_mem hk)
  refine ⟨zs[k].toNat, by omega, by omega, ?_⟩
  unfold ltr
  rw [List.getElem?_eq_getElem (by omega)]
  rfl
theorem reach_le {L : List ByteArray} {zs : List Int} {s : ByteArray} {tail : List UInt8} (hs : s.data.toList = joinL L zs ++ tail) (k : Nat) : reach L zs k + (joinL L (zs.drop k)).length + tail.length = s.size := by
  have hj : joinL L zs = joinL L (zs.take k) ++ joinL L (zs.drop k) := by
    unfold joinL
    rw [← List.flatMap_append, List.take_append_drop]
  rw [← ba_sz s, hs, hj]
  unfold reach
  simp only [List.length_append]

/-- The counts at the letters' places are all the same. -/
theorem ways_chain {L : List ByteArray} {rk : List Nat} (hRk : Ranked L rk) (hS : Singles L) (hN : L.Nodup) {zs : List Int} (hok : okNums L zs) {s : ByteArray} {tail : List UInt8} (hs : s.data.toList = joinL L zs ++ tail) {ws : List Nat} (hw : WaysTo L rk s 0 ws) (v : Nat) (hend : ws[reach L zs zs.length]? = some v) :
    ∀ d, d ≤ zs.length → ws[reach L zs (zs.length - d)]? = some v := by
  intro d
  induction d with
  | zero => intro _; exact hend
  | succ d ih =>
    intro hd
    have ih' := ih (by omega)
    obtain ⟨k, hk⟩ : ∃ k, k = zs.length - (d + 1) := ⟨_, rfl⟩
    rw [← hk]
    rw [show zs.length - d = k + 1 by omega] at ih'
    have hkl : k < zs.length := by omega
    obtain ⟨i, hi, hz, hl⟩ := ok_at hok hkl
    have hb := begins_at hs hkl
    rw [hl] at hb
    have hrn := reach_next L zs hkl
    rw [hl] at hrn
    have hX := (name_len (hS _ (List.getElem_mem hi)).1).1
    have hv := hw.small v (List.mem_of_getElem? ih')
    have hlt : reach L zs k < s.size := by
      have h1 := begins_size hb
      rw [rest_size] at h1
      omega
    rw [hw.at' _ (Nat.zero_le _) hlt, sumW_one hRk hi hb (fun j hj h => hS.same hN hj hi h hb), List.getD_eq_getElem?_getD, ← hrn, ih', Option.getD_some]
    congr 1
    omega
theorem ways_one {L : List ByteArray} {rk : List Nat} (hRk : Ranked L rk) (hS : Singles L) (hN : L.Nodup) {zs : List Int} (hok : okNums L zs) {ws : List Nat} (hw : WaysTo L rk (joinT L zs) 0 ws) : ws[0]? = some 1 := by
  have hs : (joinT L zs).data.toList = joinL L zs ++ [] := by rw [List.append_nil]; rfl
  have he : reach L zs zs.length = (joinT L zs).size := by
    have := reach_le hs zs.length
    rw [List.drop_length] at this
    simp [joinL] at this
    simpa [reach] using this
  have := ways_chain hRk hS hN hok hs hw 1 (by rw [he]; exact hw.last) zs.length (Nat.le_refl _)
  rw [Nat.sub_self] at this
  simpa [reach, joinL] using this
theorem quest_none {L : List ByteArray} (hS : Singles L) {t : ByteArray} (ht : t.data.toList = [63]) : ∀ j (hj : j < L.length), begins t L[j] = false := fun j hj => by
  cases hb : begins t L[j] with
  | false => rfl
  | true =>
    have hn := hS _ (List.getElem_mem hj)
    obtain ⟨r, e, hc⟩ := sing_enc hn.1 hn.2
    obtain ⟨b1, f1⟩ := begins_iff.1 hb
    have d1 := dec_mid t [] r b1 (by rw [← f1, e, List.nil_append])
    have ht' : t = ⟨#[63]⟩ := ba_eq ht
    rw [ht'] at d1
    have h63 : Utf8.decode ⟨#[63]⟩ 0 = (63, 1) := by kernel_rfl
    rw [show ([] : List UInt8).length = 0 from rfl, h63] at d1
    have hw : 63 = wr (r : Int) := (Prod.mk.inj d1).1
    have hcw : wr (r : Int) = r := by
      have := letter_wr hc.1
      omega
    have : r = 63 := by omega
    rw [this] at hc
    have := hc.1
    unfold isL at this
    omega
theorem ways_zero {L : List ByteArray} {rk : List Nat} (hRk : Ranked L rk) (hS : Singles L) (hN : L.Nodup) {zs : List Int} (hok : okNums L zs) {s : ByteArray} (hs : s.data.toList = joinL L zs ++ [63]) {ws : List Nat} (hw : WaysTo L rk s 0 ws) : ws[0]? = some 0 := by
  have hr := reach_le hs zs.length
  rw [List.drop_length] at hr
  have hr' : reach L zs zs.length + 1 = s.size := by simpa [joinL] using hr
  have hrest := rest_at hs (Nat.le_refl zs.length)
  rw [List.drop_length] at hrest
  have hrest' : (s.extract (reach L zs zs.length) s.size).data.toList = [63] := by simpa [joinL] using hrest
  have hz : ws[reach L zs zs.length]? = some 0 := by
    rw [hw.at' _ (Nat.zero_le _) (by omega), sumW_none hRk (quest_none hS hrest')]
    rfl
  have := ways_chain hRk hS hN hok hs hw 0 hz zs.length (Nat.le_refl _)
  rw [Nat.sub_self] at this
  simpa [reach, joinL] using this

/-- A joined text is split into its letters. -/
theorem split_chain {L : List ByteArray} (hS : Singles L) (hN : L.Nodup) {zs : List Int} (hok : okNums L zs) (h32 : zs.length ≤ 32) : ∀ k, k ≤ zs.length → splitS L (joinT L zs) = splitR L (joinT L zs) (33 - k) (reach L zs k) ((zs.take k).map Int.toNat) := by
  have hs : (joinT L zs).data.toList = joinL L zs ++ [] := by rw [List.append_nil]; rfl
  intro k
  induction k with
  | zero => intro _; rfl
  | succ k ih =>
    intro hk
    rw [ih (by omega)]
    have hkl : k < zs.length := by omega
    obtain ⟨i, hi, hz, hl⟩ := ok_at hok hkl
    have hb := begins_at hs hkl
    rw [hl] at hb
    have hrn := reach_next L zs hkl
    rw [hl] at hrn
    have hX := (name_len (hS _ (List.getElem_mem hi)).1).1
    have hlt : reach L zs k < (joinT L zs).size := by
      have h1 := begins_size hb
      rw [rest_size] at h1
      omega
    have hbest : best L ((joinT L zs).extract (reach L zs k) (joinT L zs).size) = some i :=
      best_some hN ⟨hi, hb, fun j hj h => by obtain rfl := hS.same hN hj hi h hb; exact Nat.le_refl _⟩
    have hlen : ((zs.take k).map Int.toNat).length = k := by rw [List.length_map, List.length_take]; omega
    rw [show 33 - k = (32 - k) + 1 by omega, splitR_next (by omega) (by omega) hbest, lsz_at hi, ← hrn, show 32 - k = 33 - (k + 1) by omega]
    congr 1
    rw [List.take_succ_eq_append_getElem hkl, List.map_append, hz]
    rfl
theorem single_sure {L : List ByteArray} (hS : Singles L) (hN : L.Nodup) {zs : List Int} (hok : okNums L zs) (h32 : zs.length ≤ 32) : sureP L zs := by
  have hs : (joinT L zs).data.toList = joinL L zs ++ [] := by rw [List.append_nil]; rfl
  have he : reach L zs zs.length = (joinT L zs).size := by
    have := reach_le hs zs.length
    rw [List.drop_length] at this
    simp [joinL] at this
    simpa [reach] using this
  have h := split_chain hS hN hok h32 zs.length (Nat.le_refl _)
  rw [show 33 - zs.length = (32 - zs.length) + 1 by omega, splitR_end he, List.take_length] at h
  refine ⟨hok, by rw [h], ?_⟩
  rw [h]
  show (zs.map Int.toNat).map (fun r : Nat => (r : Int)) = zs
  rw [List.map_map]
  conv => rhs; rw [← List.map_id zs]
  refine List.map_congr_left fun z hz => ?_
  have := hok z hz
  show ((z.toNat : Nat) : Int) = z
  omega
end Go.Proofs.Ytaijphanpolegaa.Utf
