/-
  A map of the call's own whose elements are bools, as a set of numbers: made, asked, written. Nothing here speaks of a program.
-/
import Derived.Test.YtpkbikimpjmkgaaBase
import Derived.Maps.OwnOps
import Derived.Maps.Views
namespace Go.Proofs.Ytpkbikimpjmkgaa
open Go.RowKit Go.Maps

def litI (x : Int) : Lit := .int .i64 x
theorem litI_key (x : Int) : WideAt.IsKeyLit (litI x) := trivial
theorem litI_same (x y : Int) : (litI x).sameKey (litI y) = (x == y) := by
  by_cases h : x = y
  · subst h; rw [WideAt.sameKey_self (litI_key x)]; simp
  · rw [sameKey_ne (fun e => h (by unfold litI at e; injection e))]
    symm; rw [beq_eq_false_iff_ne]; exact h
/-- The numbers, each of which leads to true. -/
def setD (xs : List Int) : DataW Unit := setOf (.lit (.bool true)) (xs.map litI)
theorem setD_snoc (xs : List Int) (x : Int) : setD (xs ++ [x]) = (setD xs).put (litI x) (.lit (.bool true)) := by
  unfold setD
  rw [List.map_append, List.map_singleton, setOf_snoc]
theorem setD_isMap (xs : List Int) : IsMap (setD xs) := (tidy_setOf _ _ (by intro l hl; obtain ⟨x, _, rfl⟩ := List.mem_map.1 hl; exact litI_key x)).isMap
theorem setD_nil : setD [] = .map [] := rfl
theorem atKey_empty (k : Lit) (z : DataW Unit) : (DataW.map [] : DataW Unit).atKey k z = z := rfl
theorem setD_at (y : Int) : ∀ xs : List Int, (setD xs).atKey (litI y) (.lit (.bool false)) = .lit (.bool (xs.contains y)) := by
  suffices h : ∀ n (xs : List Int), xs.length = n → (setD xs).atKey (litI y) (.lit (.bool false)) = .lit (.bool (xs.contains y)) from fun xs => h _ xs rfl
  intro n
  induction n with
  | zero =>
    intro xs h
    obtain rfl := List.eq_nil_of_length_eq_zero h
    rfl
  | succ n ih =>
    intro xs h
    obtain ⟨ys, x, rfl⟩ : ∃ ys x, xs = ys ++ [x] := by
      have hne : xs ≠ [] := by intro e; subst e; cases h
      exact ⟨xs.dropLast, xs.getLast hne, (List.dropLast_concat_getLast hne).symm⟩
    rw [List.length_append, List.length_singleton] at h
    rw [setD_snoc]
    by_cases e : y = x
    · subst e
      rw [atKey_put_same (setD_isMap ys) (litI_key y)]
      simp
    · rw [atKey_put_other (fun e2 => e (by unfold litI at e2; injection e2)), ih ys (by omega)]
      congr 2
      rw [List.contains_eq_any_beq, List.contains_eq_any_beq, List.any_append]
      simp [e]
theorem plainElem_bool_inv {H : Type} {P : Program} {e : TypeId} (he : P.underlying e = some .bool) {v : Value} {z : DataW H × List MemPlace} (h : plainElem P e v = some z) : ∃ x, v = .bool x ∧ z = (.lit (.bool x), []) := by
  unfold plainElem at h
  rw [he] at h
  cases v <;> simp at h
  exact ⟨_, rfl, h.symm⟩
/-- Block b is a map in which just these numbers lead to true. -/
def MapI (P : Program) (k e : TypeId) (w : World) (b : Nat) (xs : List Int) : Prop := w.ownsMap P k (plainElem (H := Unit) P e) b xs.length (setD xs)
section
variable {P : Program} {t k e : TypeId} {w w' : World} {b : Nat} {xs : List Int}
theorem MapI.made (P : Program) (k e : TypeId) (w : World) : MapI P k e (w.alloc (.map #[] 0)) w.heap.size [] := World.ownsMap_made w P k _
theorem MapI.lt (h : MapI P k e w b xs) : b < w.heap.size := World.ownsMap.lt h
theorem MapI.alloc (h : MapI P k e w b xs) (o : Obj) : MapI P k e (w.alloc o) b xs := World.ownsMap.alloc h o
theorem MapI.drewN (h : MapI P k e w b xs) (j : Nat) : MapI P k e (w.drewN j) b xs := h
theorem MapI.grown {row : Option Nat} (h : MapI P k e w b xs) (hg : w.grownBy w' row) (hne : some b ≠ row) : MapI P k e w' b xs := World.ownsMap.kept h hg hne
theorem MapI.heap (h : MapI P k e w b xs) (hb : w'.heap[b]? = w.heap[b]?) : MapI P k e w' b xs := by
  obtain ⟨es, clock, h1, F, hs, hD⟩ := h
  exact ⟨es, clock, hb.trans h1, F, hs, hD⟩
theorem MapI.below (h : MapI P k e w b xs) (hb : Below w.heap.size w w') : MapI P k e w' b xs := h.heap (hb.block b h.lt)
theorem MapI.setCell {p : Addr} (h : MapI P k e w b xs) (u : Value) (hp : b ≠ p.block) : MapI P k e (w.setCell p u) b xs := h.heap (Below.heap_setCell _ _ _ _ hp)
/-- Whether a number is there. -/
theorem MapI.look (h : MapI P k e w b xs) (hk : P.underlying k = some (.int .i64)) (he : P.underlying e = some .bool) (ht : P.underlying t = some (.map k e)) (hz : (zeroValue e).run P w = .ok (.bool false) w) {x : Int} (hx : (Lit.int .i64 x).wf = true) :
    (Instr.lookup t (.map (some b)) (.int .i64 x) false).run P w = .ok (.bool (xs.contains x)) w := by
  obtain ⟨v, ps, hr, hv⟩ := World.ownsMap.lookup h (int_keyed hk) ht hz (plainElem_bool he false) (keyOf_int_mk hk hx)
  obtain ⟨y, rfl, h2⟩ := plainElem_bool_inv he hv
  injection h2 with h2
  rw [show (Lit.int .i64 x) = litI x from rfl, setD_at] at h2
  injection h2 with h2
  injection h2 with h2
  rw [h2, hr]
/-- A number is put there. -/
theorem MapI.store (h : MapI P k e w b xs) (hk : P.underlying k = some (.int .i64)) (he : P.underlying e = some .bool) (ht : P.underlying t = some (.map k e)) (hn : xs.length < maxLen) {x : Int} (hx : (Lit.int .i64 x).wf = true) :
    ∃ w', (Instr.mapUpdate t (.map (some b)) (.int .i64 x) (.bool true)).run P w = .ok () w' ∧ MapI P k e w' b (xs ++ [x]) ∧ w.grownBy w' (some b) := by
  obtain ⟨w', hr, h2, h3⟩ := World.ownsMap.update h (int_keyed hk) ht hn (keyOf_int_mk hk hx) (plainElem_bool he true)
  refine ⟨w', hr, ?_, h3⟩
  unfold MapI
  rw [setD_snoc, List.length_append, List.length_singleton]
  exact h2
end

/-- A number is put there, at the operation. -/
theorem wpList_mapI {P : Program} {w : World} {ops : Array Oper} {rest : List Oper} {o : Oper} {a : Act} {Q : Exit → Act → World → Prop} (hg : o.guard = none) (m x v : Operand) (t : TypeId) (hop : o.op = Op.mapUpdate t m x v)
    (k e : TypeId) (hk : P.underlying k = some (.int .i64)) (he : P.underlying e = some .bool) (ht : P.underlying t = some (.map k e)) (b : Nat) (xs : List Int) (hm : a.eval m = .map (some b)) (h : MapI P k e w b xs) (hn : xs.length < maxLen)
    (y : Int) (hx : a.eval x = .int .i64 y) (hy : (Lit.int .i64 y).wf = true) (hv : a.eval v = .bool true)
    (hK : ∀ w', MapI P k e w' b (xs ++ [y]) → w.grownBy w' (some b) → wpList P ops Q rest (a.put o.dst undef) w') : wpList P ops Q (o :: rest) a w := by
  refine wpList_plain hg fun K' hK' => ?_
  obtain ⟨w', hr, h2, h3⟩ := h.store hk he ht hn hy
  unfold Oper.wp
  simp [execOp, hop, hm, hx, hv, hr, Result.andThen]
  exact hK' _ _ (hK w' h2 h3)

end Go.Proofs.Ytpkbikimpjmkgaa
