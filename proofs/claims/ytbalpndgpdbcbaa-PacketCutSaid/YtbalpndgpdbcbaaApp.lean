/-
  'append' onto a row of the call's own, of any slice of bytes: what comes back, and where it lies. Nothing here speaks of a program.
-/
import Derived.Test.YtbalpndgpdbcbaaBox
import Derived.Maps.AppendAt
import Derived.Deep.AppendLies
namespace Go.Proofs.Ytbalpndgpdbcbaa
open Go.RowKit

/-- The block that a slice lies in. -/
def rowOf (A : Option Addr) : Option Nat := A.map (·.block)
theorem ownBlock_slice (A : Option Addr) (n c : Nat) : (Value.slice A n c).ownBlock = rowOf A := by cases A <;> rfl
theorem Box.grown {w w' : World} {b : Nat} {xs : List Value} {row : Option Nat} (h : Box w b xs) (hg : w.grownBy w' row) (hne : some b ≠ row) : Box w' b xs :=
  h.heap (hg.block b h.2.2 hne) hg.size
theorem Bs.grown {w w' : World} {A : Option Addr} {n c : Nat} {s : List UInt8} {row : Option Nat} (h : Bs w A n c s) (hg : w.grownBy w' row) (hne : 0 < n → rowOf A ≠ row) : Bs w' A n c s := by
  refine ⟨h.1, h.2.1, h.2.2.1, h.2.2.2.1, fun hn => ?_⟩
  obtain ⟨b, o, hA, hlt, hc⟩ := Sl.at_ h hn
  refine ⟨b, o, hA, fun i x hx => ?_⟩
  rw [cell_heap (hg.block b hlt (by have := hne hn; rw [hA] at this; exact this))]
  exact hc i x hx

theorem Bs.setFar {w : World} {A : Option Addr} {n c : Nat} {s : List UInt8} {p : Addr} (h : Bs w A n c s) (u : Value) (hne : rowOf A ≠ some p.block) : Bs (w.setCell p u) A n c s := by
  refine ⟨h.1, h.2.1, h.2.2.1, h.2.2.2.1, fun hn => ?_⟩
  obtain ⟨b, o, hA, hc⟩ := h.2.2.2.2 hn
  refine ⟨b, o, hA, fun i x hx => ?_⟩
  rw [World.cell?_setCell_other]
  · exact hc i x hx
  · intro e
    subst e
    exact hne (by rw [hA]; rfl)
theorem run_app {P : Program} (w : World) (t ty : TypeId) (base : Nat) (e : TypeId) (ht : P.underlying t = some (.slice e)) (hinfo : (P.info? e).map (fun i => (i.zero, i.size, i.bytes)) = some (some (.int .u8 0), 1, 1))
    (A : Option Addr) (n c : Nat) (S : List UInt8) (hown : Own w base e A n c S) (B : Option Addr) (m d : Nat) (T : List UInt8) (hT : Bs w B m d T) (hb : n + m ≤ 140737488355328) (hbase : base ≤ w.heap.size) :
    ∃ A' c' w', (Builtin.append_ #[t, t] ty #[.slice A n c, .slice B m d]).run P w = .ok (.slice A' (n + m) c') w' ∧ Own w' base e A' (n + m) c' (S ++ T) ∧ w.grownBy w' (rowOf A) ∧ (rowOf A' = rowOf A ∨ rowOf A' = some w.heap.size) := by
  obtain ⟨i, hi, hz, hz1, hz2⟩ := info_parts hinfo
  cases B with
  | none =>
    obtain ⟨rfl, rfl⟩ := Sl.nothing hT rfl
    have hT0 : T = [] := List.eq_nil_of_length_eq_zero hT.len
    subst hT0
    have hrun := run_append_owned_none (P := P) (w := w) base t ty e i 1 ht hi (.slice A n c) n _ hown
    exact ⟨A, c, w, hrun, by simpa using hown, ⟨rfl, rfl, rfl, Nat.le_refl _, fun _ _ _ => rfl⟩, Or.inl rfl⟩
  | some ad =>
    obtain ⟨v', w', hr, h2, h3, _, h5⟩ := run_append_own_at (P := P) w base t ty e i (.int .u8 0) 1 1 ht hi hz hz1 hz2 rfl (by omega) (.slice A n c) n (S.map byteV) hown ad m d (T.map byteV) (by rw [List.length_map, hT.len, Nat.mul_one]) (Sl.added hT ad rfl) (bytes_oneCell T)
      (by simp only [maxLen]; omega) (by omega) hbase
    rw [← List.map_append] at h2
    obtain ⟨A', c', rfl, hO⟩ := own_form h2
    rw [ownBlock_slice] at h3
    rw [ownBlock_slice, ownBlock_slice] at h5
    exact ⟨A', c', w', hr, hO, h3, h5⟩

/-- At a plain operation. -/
theorem wpList_app2 {P : Program} {w : World} {ops : Array Oper} {rest : List Oper} {o : Oper} {a : Act} {Q : Exit → Act → World → Prop} (hgd : o.guard = none) (s x : Operand) (t : TypeId)
    (ho : o.op = .call { callee := .builtin .append, args := #[s, x], argTypes := #[t, t] })
    (base : Nat) (e : TypeId) (ht : P.underlying t = some (.slice e)) (hinfo : (P.info? e).map (fun i => (i.zero, i.size, i.bytes)) = some (some (.int .u8 0), 1, 1))
    (A : Option Addr) (n c : Nat) (S : List UInt8) (hs : a.eval s = .slice A n c) (hown : Own w base e A n c S)
    (B : Option Addr) (m d : Nat) (T : List UInt8) (hx : a.eval x = .slice B m d) (hT : Bs w B m d T) (hb : n + m ≤ 140737488355328) (hbase : base ≤ w.heap.size)
    (h : ∀ A' c' w', Own w' base e A' (n + m) c' (S ++ T) → w.grownBy w' (rowOf A) → (rowOf A' = rowOf A ∨ rowOf A' = some w.heap.size) → wpList P ops Q rest (a.put o.dst (.slice A' (n + m) c')) w') : wpList P ops Q (o :: rest) a w := by
  refine wpList_plain hgd fun K hK => ?_
  obtain ⟨A', c', w', hr, h2, h3, h4⟩ := run_app (P := P) w t o.type base e ht hinfo A n c S hown B m d T hT hb hbase
  unfold Oper.wp execOp
  simp only [ho, resolve, invoke, builtin, Sem.run_bind, Sem.run_pure, Result.andThen_ok, List.map_toArray, List.map_cons, List.map_nil, hs, hx, hr]
  exact hK _ _ (h A' c' w' h2 h3 h4)
/-- At an operation of a region that draws its order. -/
theorem step_app2 {P : Program} {w : World} {ops : Array Oper} {o : Oper} {a : Act} {K : Act → World → Prop} {Q : Exit → Act → World → Prop} {E : Prop} (hgd : o.guard = none) (s x : Operand) (t : TypeId)
    (ho : o.op = .call { callee := .builtin .append, args := #[s, x], argTypes := #[t, t] })
    (base : Nat) (e : TypeId) (ht : P.underlying t = some (.slice e)) (hinfo : (P.info? e).map (fun i => (i.zero, i.size, i.bytes)) = some (some (.int .u8 0), 1, 1))
    (A : Option Addr) (n c : Nat) (S : List UInt8) (hs : a.eval s = .slice A n c) (hown : Own w base e A n c S)
    (B : Option Addr) (m d : Nat) (T : List UInt8) (hx : a.eval x = .slice B m d) (hT : Bs w B m d T) (hb : n + m ≤ 140737488355328) (hbase : base ≤ w.heap.size)
    (h : ∀ A' c' w', Own w' base e A' (n + m) c' (S ++ T) → w.grownBy w' (rowOf A) → (rowOf A' = rowOf A ∨ rowOf A' = some w.heap.size) → K (a.put o.dst (.slice A' (n + m) c')) w') :
    if Region.wanted o (yielded ops a.tmps) = true then Oper.wp P o a w K Q else E := by
  have hw : Region.wanted o (yielded ops a.tmps) = true := by simp [Region.wanted, hgd]
  rw [if_pos hw]
  obtain ⟨A', c', w', hr, h2, h3, h4⟩ := run_app (P := P) w t o.type base e ht hinfo A n c S hown B m d T hT hb hbase
  unfold Oper.wp execOp
  simp only [ho, resolve, invoke, builtin, Sem.run_bind, Sem.run_pure, Result.andThen_ok, List.map_toArray, List.map_cons, List.map_nil, hs, hx, hr]
  exact h A' c' w' h2 h3 h4

/-- One byte that was just written out. -/
theorem Bs.lit1 (w : World) (x : UInt8) (e : TypeId) : Bs (w.alloc (.cells #[byteV x] e)) (some ⟨w.heap.size, 0, none⟩) 1 1 [x] := by
  have := Sl.lit w [byteV x] e (by simp [maxLen])
  exact this
theorem Own.row_ge {w : World} {base n c : Nat} {e : TypeId} {A : Option Addr} {s : List UInt8} (h : Own w base e A n c s) : ∀ k, rowOf A = some k → base ≤ k := by
  intro k hk
  obtain ⟨_, h2⟩ := h
  rcases h2 with ⟨h3, _⟩ | ⟨g, cap, cur, hv, hb, _⟩
  · injection h3 with e1
    subst e1
    cases hk
  · injection hv with e1
    subst e1
    injection hk with hk
    subst hk
    exact hb
theorem Own.row_ne {w : World} {base n c b : Nat} {e : TypeId} {A : Option Addr} {s : List UInt8} (h : Own w base e A n c s) (hb : b < base) : some b ≠ rowOf A := fun e => by
  have := h.row_ge b e.symm
  omega
theorem own_empty (w : World) (e : TypeId) (base : Nat) (hb : base ≤ w.heap.size) : Own (w.alloc (.cells #[] e)) base e (some ⟨w.heap.size, 0, none⟩) 0 0 [] :=
  World.ownsRow_lit (base := base) (e := e) (size := 1) w #[] 0 hb (Nat.zero_le _) rfl
theorem own_empty2 (w : World) (o : Obj) (e : TypeId) (base : Nat) (hb : base ≤ w.heap.size) : Own ((w.alloc o).alloc (.cells #[] e)) base e (some ⟨w.heap.size + 1, 0, none⟩) 0 0 [] := by
  have := own_empty (w.alloc o) e base (by simp; omega)
  rwa [World.size_alloc] at this
theorem Own.row_lt {w : World} {base n c : Nat} {e : TypeId} {A : Option Addr} {s : List UInt8} (h : Own w base e A n c s) : ∀ k, rowOf A = some k → k < w.heap.size := by
  intro k hk
  obtain ⟨_, h2⟩ := h
  rcases h2 with ⟨h3, _⟩ | ⟨g, cap, cur, hv, hb, hh, _⟩
  · injection h3 with e1
    subst e1
    cases hk
  · injection hv with e1
    subst e1
    injection hk with hk
    subst hk
    exact lt_of_block hh
theorem Own.other2 {w : World} {base n cap : Nat} {A : Option Addr} {e : TypeId} {s : List UInt8} {p : Addr} (h : Own w base e A n cap s) (u : Value) (hp : some p.block ≠ rowOf A) : Own (w.setCell p u) base e A n cap s := by
  obtain ⟨h1, h2⟩ := h
  refine ⟨h1, ?_⟩
  rcases h2 with h2 | ⟨g', cap', cur, hv, hg, hh, r⟩
  · exact .inl h2
  · injection hv with e1 e2 e3
    subst e1 e3
    exact .inr ⟨g', cap, cur, rfl, hg, (Below.heap_setCell _ _ _ _ (fun e => hp (by rw [← e]; rfl))).trans hh, r⟩
theorem Own.alloc {w : World} {base n c : Nat} {e : TypeId} {A : Option Addr} {s : List UInt8} (h : Own w base e A n c s) (o : Obj) : Own (w.alloc o) base e A n c s := World.ownsRow.alloc h o

end Go.Proofs.Ytbalpndgpdbcbaa
