/-
  The document's ways walked: the first ways of a text, by a function that calls itself.
-/
import Derived.Test.YtaijphanpolegaaRctq
import Derived.Test.YtaijphanpolegaaSenq
import Derived.Laws.AppendOwnNone
namespace Go.Proofs.Ytaijphanpolegaa.Utf
open Go Go.Lib Go.RowKit

/-- append of a list that lies in a row, or is nil, to a list of the call's own. -/
theorem wpList_append_row {P : Program} {w : World} {ops : Array Oper} {rest : List Oper} {o : Oper} {a : Act} {Q : Exit → Act → World → Prop} (hgd : o.guard = none) (s x : Operand) (t : TypeId)
    (ho : o.op = .call { callee := .builtin .append, args := #[s, x], argTypes := #[t, t] })
    (base : Nat) (e : TypeId) (i : TypeInfo) (z : Value) (bytes : Nat) (ht : P.underlying t = some (.slice e)) (hi : P.info? e = some i) (hz : i.zero = some z)
    (hsize : i.size = 1) (hby : i.bytes = bytes) (hzs : z.cells.size = 1)
    (v : Value) (n : Nat) (xs : List Value) (hs : a.eval s = v) (hown : w.ownsRow base e 1 v n xs)
    (dv : Value) (b' m : Nat) (news : List Value) (hx : a.eval x = dv) (hsrc : w.ownsRow b' e 1 dv m news) (h1 : ∀ u ∈ news, u.oneCell' = true)
    (h63 : n + m ≤ maxLen) (hbytes : (n + m) * bytes ≤ 140737488355328) (hbase : base ≤ w.heap.size)
    (h : ∀ v' w', w'.ownsRow base e 1 v' (n + m) (xs ++ news) → w.grownBy w' v.ownBlock → (v'.ownBlock = v.ownBlock ∨ v'.ownBlock = some w.heap.size) → wpList P ops Q rest (a.put o.dst v') w') :
    wpList P ops Q (o :: rest) a w := by
  have hl := hsrc.1
  rcases hsrc.2 with ⟨hd, hm⟩ | ⟨g, cap, cur, hd, _⟩
  · subst hm
    have hn : news = [] := List.eq_nil_of_length_eq_zero (by omega)
    subst hn
    refine wpList_append_own_none hgd s x t ho base e i 1 ht hi v n xs hs hown (hx.trans hd) (h v w ?_ ?_ (.inl rfl))
    · rw [List.append_nil, Nat.add_zero]; exact hown
    · exact ⟨rfl, rfl, rfl, Nat.le_refl _, fun _ _ _ => rfl⟩
  · subst hd
    refine wpList_append_own_at w hgd s x t ho base e i z 1 bytes ht hi hz hsize hby hzs (by decide) v n xs hs hown ⟨g, 0, none⟩ m cap news hx hl (fun j u hu => ?_) h1 h63 hbytes hbase fun v' w' k1 k2 _ k4 => h v' w' k1 k2 k4
    exact hsrc.cells (g := g) rfl j u hu

theorem ownsRow_base {w : World} {B B' : Nat} {e : TypeId} {v : Value} {n : Nat} {xs : List Value} (h : w.ownsRow B e 1 v n xs) (hb : B' ≤ B) : w.ownsRow B' e 1 v n xs :=
  ⟨h.1, h.2.imp id fun ⟨g, cap, cur, k1, k2, k3⟩ => ⟨g, cap, cur, k1, by omega, k3⟩⟩
/-- A list of its own, made by a copy. -/
theorem els_copy {W w1 : World} {o : Obj} (h : (W.alloc o).grownBy w1 (some W.heap.size)) : Els (fun _ => False) W w1 :=
  ((Els.refl _ W).alloc o).trans_new (O' := fun j => j = W.heap.size) (Els.grown h fun j hj => (Option.some.inj hj).symm) fun i hi h => by omega
theorem upTo_len {m : Nat} {pre : List (List Nat)} (h : pre.length ≤ m) (A : List (List Nat)) : (upTo m pre A).length ≤ m := by
  unfold upTo
  rw [List.length_append, List.length_take]
  omega
/-- What stands while the ways are gathered. -/
structure WySt (WB W : World) (v : Value) (most : Nat) (vo : Value) (preq : List (List Nat)) (wq : World) : Prop where
  ll : LL WB.heap.size (fun _ => True) vo preq wq
  els : Els (fun k => v.ownBlock = some k) W wq
  own : ∀ j, vo.ownBlock = some j → v.ownBlock = some j ∨ W.heap.size ≤ j
  le : preq.length ≤ most
theorem WySt.step {WB W : World} {v : Value} {most : Nat} {vo v' : Value} {preq A : List (List Nat)} {wq wr w' : World} (h : WySt WB W v most vo preq wq) (he : Els (fun _ => False) wq wr) (hl : LL WB.heap.size (fun _ => True) v' (upTo most preq A) w') (he2 : Els (fun k => vo.ownBlock = some k) wr w') (ho : ∀ j, v'.ownBlock = some j → vo.ownBlock = some j ∨ wr.heap.size ≤ j) : WySt WB W v most v' (upTo most preq A) w' := by
  have h1 := h.els.size
  have h2 := he.size
  refine ⟨hl, (h.els.trans_new he fun _ _ h => h.elim).trans_new he2 fun i hi hv => ?_, fun j hj => ?_, upTo_len h.le A⟩
  · rcases h.own i hv with e | e
    · exact e
    · omega
  · rcases ho j hj with e | e
    · exact h.own j e
    · exact .inr (by omega)

set_option maxRecDepth 100000 in
set_option maxHeartbeats 4000000 in
theorem refWays_any {WB : World} (L : List ByteArray) (al : Option Addr) (cl : Nat) (h40 : L.length ≤ 40) (hN : L.Nodup) (hLs : ∀ x ∈ L, 1 ≤ x.size ∧ x.size ≤ 12) (hRL : ∀ W', Below WB.heap.size WB W' → ReadsO W' al (L.map Value.string)) (s : ByteArray) (hs : s.size ≤ 16777216)
    {rk : List Nat} (hRk : Ranked L rk) (hw : ∀ r, r < L.length → 1 ≤ wid L rk r) (ws : List Nat) (hW : WaysTo L rk s 0 ws) (gw cw : Nat) (hC : ∀ W', Below WB.heap.size WB W' → ∀ p n : Nat, ws[p]? = some n → W'.cell? ⟨gw, p, none⟩ = some (.int .i64 (n : Int))) (most : Nat) (hmost : most ≤ 1048576) :
    ∀ (f pos : Nat) (done : List Nat) (dv v : Value) (pre : List (List Nat)) (W : World), s.size - pos < f → pos ≤ s.size → done.length ≤ pos → pre.length ≤ most → Below WB.heap.size WB W → W.ownsRow 0 3 1 dv done.length (nums done) → LL WB.heap.size (fun _ => True) v pre W →
      Calls Try.prog 41 #[.slice al L.length cl, .string s, .int .i64 (pos : Int), dv, v, .int .i64 (most : Int), .slice (some ⟨gw, 0, none⟩) (s.size + 1) cw] W fun e w' =>
        ∃ v', e = .returned v' ∧ LL WB.heap.size (fun _ => True) v' (upTo most pre ((waysL L rk s ws pos).map (done ++ ·))) w' ∧ Els (fun k => v.ownBlock = some k) W w' ∧ ∀ j, v'.ownBlock = some j → v.ownBlock = some j ∨ W.heap.size ≤ j := by
  obtain ⟨i0, hi, hz0, hz1, hz2⟩ := info_parts infoInt'
  obtain ⟨j0, hj, hy0, hy1, hy2⟩ := info_parts infoSl
  have HRL : Aside (∀ W', Below WB.heap.size WB W' → ReadsO W' al (L.map Value.string)) := hRL
  have HLs : Aside (∀ x ∈ L, 1 ≤ x.size ∧ x.size ≤ 12) := hLs
  have HW : Aside (WaysTo L rk s 0 ws) := hW
  have HC : Aside (∀ W', Below WB.heap.size WB W' → ∀ p n : Nat, ws[p]? = some n → W'.cell? ⟨gw, p, none⟩ = some (.int .i64 (n : Int))) := hC
  have HN : Aside (∀ pos, pos < s.size → waysL L rk s ws pos = letA L s (waysL L rk s ws) pos 12) := fun pos hp => waysL_step hRk hN hLs hw hW hp
  have HN0 : Aside (∀ pos, pos ≤ s.size → ws.getD pos 0 = 0 → waysL L rk s ws pos = []) := fun pos hp h => waysL_none hw hW hp h
  have HNE : Aside (waysL L rk s ws s.size = [[]]) := waysL_end hw
  clear hRL hLs hW hC hw hRk hN
  intro f
  induction f with
  | zero =>
    intro pos done dv v pre W hf
    omega
  | succ f ih =>
    intro pos done dv v pre W hf hp hdl hpl hB hD hL
    have HIH : Aside _ := ih
    clear ih
    obtain ⟨⟨us, hrowv, hus⟩, hown⟩ := hL
    have HLL : Aside (LL WB.heap.size (fun _ => True) v pre W) := ⟨⟨us, hrowv, hus⟩, hown⟩
    obtain ⟨av, cv, rfl, hrv⟩ := row_reads hrowv
    obtain ⟨ad, cd, rfl, hrd⟩ := row_reads hD
    have hlw := HW.out.len
    obtain ⟨n, hn⟩ : ∃ n, ws[pos]? = some n := ⟨_, List.getElem?_eq_getElem (l := ws) (i := pos) (by omega)⟩
    have cn := HC.out W hB pos n hn
    have hpz : (pos : Int) < (s.size : Int) + 1 := by omega
    have hWs := hB.size
    clear hrv hrd
    have H0 : Aside (n = 0 → waysL L rk s ws pos = []) := fun h => HN0.out pos hp (by rw [List.getD_eq_getElem?_getD, hn, Option.getD_some]; exact h)
    clear hn
    have HUS : Aside (RowsN W WB.heap.size (fun _ => True) us pre) := hus
    have HD : Aside (W.ownsRow 0 3 1 (.slice ad done.length cd) done.length (nums done)) := hD
    have HB : Aside (Below WB.heap.size WB W) := hB
    clear hus hown hD hB
    go_enter Try.func41, Try.ntmps41
    by_cases hfull : most ≤ pre.length
    · have hfz : (pre.length : Int) ≥ (most : Int) := by omega
      go_wp2
      go_ret
      refine ⟨_, rfl, ?_, Els.refl _ _, fun j hj => .inl hj⟩
      rw [upTo_full hfull]
      exact HLL.out
    · have hfz : ¬ (pre.length : Int) ≥ (most : Int) := by omega
      have hone : ∀ u ∈ nums done, u.oneCell' = true := fun u hu => by
        obtain ⟨r, _, rfl⟩ := List.mem_map.1 hu
        rfl
      have oe : ∀ W : World, (W.alloc (.cells #[] 3)).ownsRow W.heap.size 3 1 (.slice (some ⟨W.heap.size, 0, none⟩) 0 0) 0 [] := fun W =>
        ⟨rfl, .inr ⟨W.heap.size, 0, #[], rfl, Nat.le_refl _, heap_alloc_new W _, Nat.le_refl _, Nat.zero_le _, rfl, rfl⟩⟩
      by_cases hn0 : n = 0
      · have hnb : ((n : Int) == 0) = true := by rw [beq_iff_eq]; omega
        go_wp2
        go_ret
        refine ⟨_, rfl, ?_, Els.refl _ _, fun j hj => .inl hj⟩
        rw [H0.out hn0, List.map_nil, upTo_nil]
        exact HLL.out
      · have hnb : ((n : Int) == 0) = false := by rw [beq_eq_false_iff_ne]; omega
        clear hn0
        by_cases hend : pos = s.size
        · have heb : ((pos : Int) == (s.size : Int)) = true := by rw [beq_iff_eq]; omega
          have HE : Aside (waysL L rk s ws pos = [[]]) := by show _ = _; rw [hend]; exact HNE.out
          have hd1 := HD.out.alloc (.cells #[] 3)
          have oe1 := oe W
          clear hend
          go_wp2_with (first
            | (at_builtin; refine wpList_append_row rfl _ _ 37 rfl W.heap.size 3 i0 (.int .i64 0) 8 Try.underlying37 hi hz0 hz1 hz2 rfl _ 0 [] rfl oe1 _ 0 done.length (nums done) rfl hd1 hone (by unfold maxLen; omega) (by omega) (by simp) ?_))
          intro v1 w1 hr1 hg1 ho1
          obtain ⟨a1, c1, rfl, _⟩ := row_reads hr1
          have e1 : Els (fun _ => False) W w1 := els_copy hg1
          have hw1 := e1.size
          have hrow1 := e1.row hrowv fun _ _ => id
          have HUS1 : Aside (RowsN w1 WB.heap.size (fun _ => True) us pre) := HUS.out.els e1 fun _ _ => id
          have HE1 : Aside (Els (fun _ => False) W w1 ∧ w1.ownsRow WB.heap.size 3 1 (.slice a1 done.length c1) done.length (nums done)) := ⟨e1, ownsRow_base hr1 hWs⟩
          clear hr1 hg1 ho1 e1 hd1 oe1 cn
          go_wp2_with (first
            | (at_builtin; refine wpList_append_own_at _ rfl _ _ 45 rfl WB.heap.size 37 j0 (.slice none 0 0) 1 24 Try.underlying45 hj hy0 hy1 hy2 rfl (by decide) _ _ _ rfl (hrow1.alloc _) ⟨w1.heap.size, 0, none⟩ 1 1 [.slice a1 done.length c1] rfl rfl (cell_one_new _ _ _) (by simp [Value.oneCell']) (by unfold maxLen; omega) (by omega) (by simp; omega) ?_))
          intro v2 w2 hr2 hg2 _ ho2
          have ho2 : v2.ownBlock = (Value.slice av pre.length cv).ownBlock ∨ v2.ownBlock = some (w1.alloc (.cells #[Value.slice a1 done.length c1] 37)).heap.size := by rw [World.size_alloc]; exact ho2
          have l2 := LL.snoc hrow1 HUS1.out HE1.out.2 (fun _ _ => trivial) (fun _ _ => trivial) hg2 hr2 ho2 trivial
          obtain ⟨g2, c2, rfl⟩ := ownsRow_succ hr2
          go_wp2
          go_ret
          refine ⟨.slice (some ⟨g2, 0, none⟩) (pre.length + 1) c2, rfl, ?_, ((HE1.out.1.mono fun k _ h => h.elim).alloc _).trans (Els.grown hg2 fun j hj => hj), fun j hj => ?_⟩
          · rw [HE.out]
            simp only [List.map_cons, List.map_nil, List.append_nil]
            rw [upTo_one (by omega)]
            exact l2
          · rcases ho2 with h | h
            · exact .inl (h ▸ hj)
            · rw [h, World.size_alloc] at hj
              have := Option.some.inj hj
              exact .inr (by omega)
        · have heb : ((pos : Int) == (s.size : Int)) = false := by rw [beq_eq_false_iff_ne]; omega
          have HST0 : Aside (WySt WB W (.slice av pre.length cv) most (.slice av pre.length cv) pre W) := ⟨HLL.out, Els.refl _ _, fun j hj => .inl hj, hpl⟩
          have HBq : Aside (∀ wq, Els (fun k => (Value.slice av pre.length cv).ownBlock = some k) W wq → Below WB.heap.size WB wq) := fun wq he => HB.out.trans (he.below (fun k hk _ h => by have := (hrowv.lt k h).1; omega) hWs)
          have HDq : Aside (∀ wq, Els (fun k => (Value.slice av pre.length cv).ownBlock = some k) W wq → wq.ownsRow 0 3 1 (.slice ad done.length cd) done.length (nums done)) := fun wq he => he.row HD.out fun j hj => rows_apart hrowv HD.out hj
          have HT : Aside (waysL L rk s ws pos = letA L s (waysL L rk s ws) pos 12) := HN.out pos (by omega)
          clear hrowv HUS HD HB HLL H0
          go_wp2
          go_loopg [4, 15] 12 (fun g1 vo vn wq => ∃ (m : Nat) (preq : List (List Nat)), vn = .int .i64 (m : Int) ∧ m ≤ 12 ∧ m ≤ g1 ∧ Aside (WySt WB W (.slice av pre.length cv) most vo preq wq) ∧ Aside (upTo most preq ((letA L s (waysL L rk s ws) pos m).map (done ++ ·)) = upTo most pre ((waysL L rk s ws pos).map (done ++ ·))))
          case atStart => exact ⟨12, pre, rfl, Nat.le_refl _, Nat.le_refl _, HST0, by show _ = _; rw [HT.out]⟩
          case round =>
            clear HST0 HT
            obtain ⟨m, preq, rfl, hm12, hmg, HST, HEQ⟩ := hrel
            rename World => wq
            by_cases hm0 : m = 0
            · subst hm0
              go_wp2
              go_ret
              refine ⟨_, rfl, ?_, HST.out.els, HST.out.own⟩
              rw [← HEQ.out, letA, List.map_nil, upTo_nil]
              exact HST.out.ll
            · have hmz : (m : Int) > 0 := by omega
              have HEQ0 : Aside (upTo most preq ((letN L s (waysL L rk s ws) pos m (L.length - 0) 0 ++ letA L s (waysL L rk s ws) pos (m - 1)).map (done ++ ·)) = upTo most pre ((waysL L rk s ws pos).map (done ++ ·))) := by
                show _ = _
                rw [← HEQ.out, Nat.sub_zero, ← letA_pos (by omega)]
              clear HEQ
              go_wp2
              go_loopg [4, 16] L.length (fun g2 vo vi wr => ∃ (k : Nat) (preq : List (List Nat)), vi = .int .i64 (k : Int) ∧ k ≤ L.length ∧ L.length - k ≤ g2 ∧ Aside (WySt WB W (.slice av pre.length cv) most vo preq wr) ∧ Aside (upTo most preq ((letN L s (waysL L rk s ws) pos m (L.length - k) k ++ letA L s (waysL L rk s ws) pos (m - 1)).map (done ++ ·)) = upTo most pre ((waysL L rk s ws pos).map (done ++ ·))))
              case atStart => exact ⟨0, preq, rfl, Nat.zero_le _, Nat.le_refl _, HST, HEQ0⟩
              case round =>
                clear HST HEQ0
                obtain ⟨k, preq, rfl, hk, hg2, HST, HEQ⟩ := hrel
                rename World => wr
                obtain ⟨ao, co, hvo⟩ : ∃ ao co, u4 = .slice ao preq.length co := by
                  obtain ⟨⟨us', hrowo, _⟩, _⟩ := HST.out.ll
                  obtain ⟨ao, co, hvo, _⟩ := row_reads hrowo
                  exact ⟨ao, co, hvo⟩
                subst hvo
                by_cases hlt : k < L.length
                · have hltz : (k : Int) < (L.length : Int) := by omega
                  have HBr : Aside (Below WB.heap.size WB wr) := HBq.out _ HST.out.els
                  obtain ⟨ga, oa, rfl, _, ec⟩ := (HRL.out _ HBr.out) k (by simpa using hlt)
                  rw [List.getElem_map] at ec
                  have hsz := HLs.out L[k] (List.getElem_mem hlt)
                  have hgd : (L[k]?).getD ⟨#[]⟩ = L[k] := by rw [List.getElem?_eq_getElem hlt]; rfl
                  have hls := lsz_at hlt
                  have HEQ1 : Aside (upTo most (upTo most preq ((letB L s (waysL L rk s ws) pos m k).map (done ++ ·))) ((letN L s (waysL L rk s ws) pos m (L.length - (k + 1)) (k + 1) ++ letA L s (waysL L rk s ws) pos (m - 1)).map (done ++ ·)) = upTo most pre ((waysL L rk s ws pos).map (done ++ ·))) := by
                    show _ = _
                    rw [← HEQ.out, upTo_app, ← List.map_append, ← List.append_assoc, show L.length - k = (L.length - (k + 1)) + 1 by omega, letN]
                  clear HEQ
                  by_cases hsm : L[k].size = m
                  · have hsb : (((L[k].size : Nat) : Int) == (m : Int)) = true := by rw [beq_iff_eq]; omega
                    have cT := fun w => stands_any s L[k] pos w hp (by omega) hsz.1
                    cases hb : begins (s.extract pos s.size) L[k] with
                    | false =>
                      have HX : Aside (letB L s (waysL L rk s ws) pos m k = []) := by
                        show _ = _
                        unfold letB
                        rw [hgd, hb, if_neg (fun h => by cases h.2)]
                      rw [hb] at cT
                      clear hb hgd hls hsm
                      generalize L[k] = X at *
                      go_wp2_with fail
                      refine (cT _).mono ?_
                      rintro e w' ⟨rfl, hw'⟩
                      obtain rfl := hw'.symm
                      go_wp2
                      go_roundg (L.length - (k + 1))
                      case measure => omega
                      case rel => exact ⟨k + 1, preq, by go_num, by omega, Nat.le_refl _, HST, by have := HEQ1.out; rw [HX.out, List.map_nil, upTo_nil] at this; exact this⟩
                    | true =>
                      have hbs := begins_size hb
                      rw [rest_size] at hbs
                      have HX : Aside ((letB L s (waysL L rk s ws) pos m k).map (done ++ ·) = (waysL L rk s ws (pos + m)).map ((done ++ [k]) ++ ·)) := by
                        show _ = _
                        unfold letB
                        rw [hgd, hb, if_pos ⟨by omega, rfl⟩, List.map_map]
                        refine List.map_congr_left fun a _ => ?_
                        simp
                      rw [hb] at cT
                      have hd0 := HDq.out _ HST.out.els
                      have hd1 := hd0.alloc (.cells #[] 3)
                      have oe1 := oe wr
                      clear hb hgd hls
                      generalize L[k] = X at *
                      go_wp2_with (first
                        | (go_at_call 38; refine (cT _).mono ?_; rintro e w' ⟨rfl, hw'⟩; obtain rfl := hw'.symm)
                        | (at_builtin; refine wpList_append_row rfl _ _ 37 rfl wr.heap.size 3 i0 (.int .i64 0) 8 Try.underlying37 hi hz0 hz1 hz2 rfl _ 0 [] rfl oe1 _ 0 done.length (nums done) rfl hd1 hone (by unfold maxLen; omega) (by omega) (by simp) ?_))
                      intro v1 w1 hr1 hg1 _
                      obtain ⟨a1, c1, rfl, _⟩ := row_reads hr1
                      have HE1 : Aside (Els (fun _ => False) wr w1) := els_copy hg1
                      have hw1 : wr.heap.size + 1 ≤ w1.heap.size := by have := hg1.size; simpa using this
                      clear hg1 hd1 hd0 oe1 ec
                      go_wp2_with (first
                        | (at_builtin; refine wpList_append_own_at _ rfl _ _ 37 rfl wr.heap.size 3 i0 (.int .i64 0) 1 8 Try.underlying37 hi hz0 hz1 hz2 rfl (by decide) _ _ _ rfl (hr1.alloc _) ⟨w1.heap.size, 0, none⟩ 1 1 [.int .i64 (k : Int)] rfl rfl (cell_one_new _ _ _) (by simp [Value.oneCell']) (by unfold maxLen; omega) (by omega) (by simp; omega) ?_))
                      intro v2 w2 hr2 hg2 _ _
                      have e2 : Els (fun _ => False) wr w2 := ((HE1.out.alloc _).trans_new (O' := fun j => (Value.slice a1 done.length c1).ownBlock = some j) (Els.grown hg2 fun j hj => hj) fun i hi h => by have := (hr1.lt i h).1; omega)
                      obtain ⟨g2, c2, rfl⟩ := ownsRow_succ hr2
                      have HE2 : Aside (Els (fun _ => False) wr w2) := e2
                      have hr2' : w2.ownsRow 0 3 1 (.slice (some ⟨g2, 0, none⟩) (done.length + 1) c2) (done ++ [k]).length (nums (done ++ [k])) := by
                        rw [nums_snoc, List.length_append]
                        exact ownsRow_base hr2 (Nat.zero_le _)
                      have cI := HIH.out (pos + m) (done ++ [k]) (.slice (some ⟨g2, 0, none⟩) (done.length + 1) c2) (.slice ao preq.length co) preq w2 (by omega) (by omega) (by rw [List.length_append, List.length_singleton]; omega) HST.out.le (HBr.out.trans (e2.below (fun _ _ _ => id) HBr.out.size)) hr2' (HST.out.ll.els e2 fun _ _ => id)
                      have ecast : ((pos + m : Nat) : Int) = (pos : Int) + (m : Int) := by omega
                      rw [ecast] at cI
                      clear hr1 hr2 hg2 e2 hr2'
                      go_wp2_with fail
                      refine cI.mono ?_
                      rintro e w3 ⟨v', rfl, hl', he', ho'⟩
                      have HST3 : Aside (WySt WB W (.slice av pre.length cv) most v' (upTo most preq ((letB L s (waysL L rk s ws) pos m k).map (done ++ ·))) w3) := by
                        show WySt _ _ _ _ _ _ _
                        rw [HX.out]
                        exact HST.out.step HE2.out hl' he' ho'
                      obtain ⟨a3, c3, n3, hv3⟩ : ∃ a3 c3 n3, v' = .slice a3 n3 c3 := by
                        obtain ⟨⟨us', hrowo, _⟩, _⟩ := hl'
                        obtain ⟨ao, co, hvo, _⟩ := row_reads hrowo
                        exact ⟨ao, co, _, hvo⟩
                      subst hv3
                      clear hl' he' ho' cI HST
                      go_wp2
                      go_roundg (L.length - (k + 1))
                      case measure => omega
                      case rel => exact ⟨k + 1, _, by go_num, by omega, Nat.le_refl _, HST3, HEQ1⟩
                  · have hsb : (((L[k].size : Nat) : Int) == (m : Int)) = false := by rw [beq_eq_false_iff_ne]; omega
                    have HX : Aside (letB L s (waysL L rk s ws) pos m k = []) := by
                      show _ = _
                      unfold letB
                      rw [if_neg (fun h => by omega)]
                    clear hgd hls hsm
                    generalize L[k] = X at *
                    go_wp2
                    go_roundg (L.length - (k + 1))
                    case measure => omega
                    case rel => exact ⟨k + 1, preq, by go_num, by omega, Nat.le_refl _, HST, by have := HEQ1.out; rw [HX.out, List.map_nil, upTo_nil] at this; exact this⟩
                · have hltz : ¬ (k : Int) < (L.length : Int) := by omega
                  obtain rfl : k = L.length := by omega
                  go_wp2
                  go_roundg (m - 1)
                  case measure => omega
                  case rel => exact ⟨m - 1, preq, by first | go_num | (congr 1; omega), by omega, Nat.le_refl _, HST, by have := HEQ.out; rw [Nat.sub_self, letN, List.nil_append] at this; exact this⟩
end Go.Proofs.Ytaijphanpolegaa.Utf
