/-
  The program's Find, of a word that is there.
-/
import Derived.Test.YtcocbjipikeebaaDoorGxd
import Derived.Test.YtcocbjipikeebaaDoorGxw
import Derived.Test.YtcocbjipikeebaaDoorEqiq
import Derived.OrdersHeld
namespace Go.Proofs.YtcocbjipikeebaaDoor.Utf
open Go Go.Lib Go.RowKit

theorem ord_mono {l : List (List Int × Int)} (hs : SortL l) (c : List Int) {i j : Nat} (hi : i < l.length) (hj : j < l.length) (hij : i ≤ j) (h : 0 ≤ ordI l[i].1 c) : 0 ≤ ordI l[j].1 c := by
  rcases Nat.lt_or_ge i j with h1 | h1
  · have h2 := (List.pairwise_iff_getElem.1 hs) i j hi hj h1
    rcases Int.lt_or_le (ordI l[j].1 c) 0 with h3 | h3
    · have := ordI_trans h2 h3
      omega
    · exact h3
  · have : i = j := by omega
    subst this
    exact h

end Go.Proofs.YtcocbjipikeebaaDoor.Utf
/-
  The program's Find, of any cells.
-/
namespace Go.Proofs.YtcocbjipikeebaaDoor.Utf
open Go Go.Lib Go.RowKit

theorem yields_notF {P : Program} {ops : Array Oper} {S : World → Prop} {o oi : Oper} {a : Act} (ho : some o = some oi) (hw : Region.wanted o (yielded ops a.tmps) = false) : YieldsIf P ops S oi undef a := by
  obtain rfl := Option.some.inj ho
  exact Or.inr ⟨hw, rfl⟩
/-- What Find answers. -/
def FoundQ (W : World) (l : List (List Int × Int)) (c : List Int) (e : Ending) (w' : World) : Prop := ((∃ k : Nat, ∃ h : k < l.length, l[k].1 = c ∧ e = .returned (.tuple #[.int .i64 (k : Nat), .bool true])) ∨ ((∀ x ∈ l, x.1 ≠ c) ∧ e = .returned (.tuple #[.int .i64 0, .bool false]))) ∧ Below W.heap.size W w'

end Go.Proofs.YtcocbjipikeebaaDoor.Utf
