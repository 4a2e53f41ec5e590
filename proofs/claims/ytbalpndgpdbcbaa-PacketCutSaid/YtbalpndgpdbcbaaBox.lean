/-
  Variables that lie in memory as structs of two, three cells: what they hold is as it was behind a call that makes memory. Nothing here speaks of a program.
-/
import Derived.Test.YtbalpndgpdbcbaaMem
import Derived.Laws.CopyOwn
namespace Go.Proofs.Ytbalpndgpdbcbaa
open Go.RowKit

/-- Block b holds these cells, from the first on, and may be written. -/
def Box (w : World) (b : Nat) (xs : List Value) : Prop := (∀ i x, xs[i]? = some x → w.cell? ⟨b, i, none⟩ = some x) ∧ (∀ o, w.frozen? ⟨b, o, none⟩ = false) ∧ b < w.heap.size
section
variable {w w' : World} {b : Nat} {xs : List Value}
theorem Box.below {B : Nat} (h : Box w b xs) (hb : Below B w w') (hB : b < B) : Box w' b xs :=
  ⟨fun i x hx => (hb.cell (p := ⟨b, i, none⟩) hB).trans (h.1 i x hx), fun o => (hb.frozen (p := ⟨b, o, none⟩) hB).trans (h.2.1 o), Nat.lt_of_lt_of_le h.2.2 hb.size⟩
theorem Box.call (h : Box w b xs) (hb : Below w.heap.size w w') : Box w' b xs := h.below hb h.2.2
theorem Box.alloc (h : Box w b xs) (o : Obj) : Box (w.alloc o) b xs := h.below ((Below.refl _ _).alloc (Nat.le_refl _) o) h.2.2
theorem Box.drewN (h : Box w b xs) (k : Nat) : Box (w.drewN k) b xs := h
theorem Box.new (w : World) (xs : List Value) (t : TypeId) : Box (w.alloc (.cells xs.toArray t)) w.heap.size xs := by
  refine ⟨fun i x hx => ?_, fun o => ?_, by simp⟩
  · rw [World.cell?_alloc_at _ _ _ _ rfl]; simpa using hx
  · rw [World.frozen?_alloc_at _ _ _ _ rfl]
theorem Box.other {p : Addr} (h : Box w b xs) (u : Value) (hp : p.block ≠ b) : Box (w.setCell p u) b xs := by
  refine ⟨fun i x hx => ?_, fun o => ?_, by simpa using h.2.2⟩
  · rw [World.cell?_setCell_other _ _ _ _ (by intro e; subst e; exact hp rfl)]; exact h.1 i x hx
  · rw [World.frozen?_setCell]; exact h.2.1 o
theorem Box.set (h : Box w b xs) (i : Nat) (u : Value) (hi : i < xs.length) : Box (w.setCell ⟨b, i, none⟩ u) b (xs.set i u) := by
  refine ⟨fun j x hx => ?_, fun o => ?_, by simpa using h.2.2⟩
  · by_cases e : i = j
    · subst e
      rw [List.getElem?_set_self hi] at hx
      injection hx with hx; subst hx
      exact World.cell?_setCell_same _ _ _ (h.1 i _ (List.getElem?_eq_getElem hi))
    · rw [List.getElem?_set_ne e] at hx
      rw [World.cell?_setCell_other _ _ _ _ (by intro e2; injection e2 with _ e3; exact e e3)]
      exact h.1 j x hx
  · rw [World.frozen?_setCell]; exact h.2.1 o
theorem cell_heap {w w' : World} {b : Nat} (h : w'.heap[b]? = w.heap[b]?) (o : Nat) : w'.cell? ⟨b, o, none⟩ = w.cell? ⟨b, o, none⟩ := by unfold World.cell?; rw [h]
theorem frozen_heap {w w' : World} {b : Nat} (h : w'.heap[b]? = w.heap[b]?) (o : Nat) : w'.frozen? ⟨b, o, none⟩ = w.frozen? ⟨b, o, none⟩ := by unfold World.frozen?; rw [h]
theorem Box.heap (h : Box w b xs) (hb : w'.heap[b]? = w.heap[b]?) (hs : w.heap.size ≤ w'.heap.size) : Box w' b xs :=
  ⟨fun i x hx => (cell_heap hb i).trans (h.1 i x hx), fun o => (frozen_heap hb o).trans (h.2.1 o), Nat.lt_of_lt_of_le h.2.2 hs⟩
theorem Box.two {x y : Value} (h : Box w b [x, y]) : w.cell? ⟨b, 0, none⟩ = some x ∧ w.cell? ⟨b, 1, none⟩ = some y ∧ w.frozen? ⟨b, 0, none⟩ = false ∧ w.frozen? ⟨b, 1, none⟩ = false ∧ b < w.heap.size :=
  ⟨h.1 0 _ rfl, h.1 1 _ rfl, h.2.1 0, h.2.1 1, h.2.2⟩
theorem Box.three {x y z : Value} (h : Box w b [x, y, z]) : w.cell? ⟨b, 0, none⟩ = some x ∧ w.cell? ⟨b, 1, none⟩ = some y ∧ w.cell? ⟨b, 2, none⟩ = some z ∧ w.frozen? ⟨b, 0, none⟩ = false ∧ w.frozen? ⟨b, 1, none⟩ = false ∧ w.frozen? ⟨b, 2, none⟩ = false ∧ b < w.heap.size :=
  ⟨h.1 0 _ rfl, h.1 1 _ rfl, h.1 2 _ rfl, h.2.1 0, h.2.1 1, h.2.1 2, h.2.2⟩
end
/-- What a call hands back: this value, the memory that was there being as it was. -/
def Says (w : World) (v : Value) (e : Ending) (w' : World) : Prop := e = .returned v ∧ Below w.heap.size w w'
theorem below1 (w : World) (a : Obj) : Below w.heap.size w (w.alloc a) := (Below.refl _ _).alloc (Nat.le_refl _) _
theorem below2 (w : World) (a b : Obj) : Below w.heap.size w ((w.alloc a).alloc b) := (below1 w a).alloc (by simp) _
theorem below3 (w : World) (a b c : Obj) : Below w.heap.size w (((w.alloc a).alloc b).alloc c) := (below2 w a b).alloc (by simp; omega) _
theorem below_drewN {B : Nat} {w w1 : World} (h : Below B w w1) (k : Nat) : Below B w (w1.drewN k) := ⟨h.os, h.tape, h.output, h.size, h.block⟩
/-- What a walk is told of memory behind a call that makes memory. -/
theorem bcell {W w1 : World} (hb : Below W.heap.size W w1) : (∀ b o, b < W.heap.size → w1.cell? ⟨b, o, none⟩ = W.cell? ⟨b, o, none⟩) ∧ (∀ b o, b < W.heap.size → w1.frozen? ⟨b, o, none⟩ = W.frozen? ⟨b, o, none⟩) :=
  ⟨fun b o h => hb.cell (p := ⟨b, o, none⟩) h, fun b o h => hb.frozen (p := ⟨b, o, none⟩) h⟩

theorem Own.get {w : World} {base g n cap j : Nat} {e : TypeId} {s : List UInt8} (h : Own w base e (some ⟨g, 0, none⟩) n cap s) (hj : j < n) : w.cell? ⟨g, j, none⟩ = some (.int .u8 ((s.getD j 0).toNat : Int)) := by
  obtain ⟨b, o, he, _, hc⟩ := h.bs.at_ (by omega)
  injection he with he
  injection he with e1 e2
  subst e1 e2
  have := hc j hj
  rwa [Nat.zero_add] at this
theorem Own.other {w : World} {base g n cap : Nat} {e : TypeId} {s : List UInt8} {p : Addr} (h : Own w base e (some ⟨g, 0, none⟩) n cap s) (u : Value) (hp : p.block ≠ g) : Own (w.setCell p u) base e (some ⟨g, 0, none⟩) n cap s := by
  obtain ⟨h1, h2⟩ := h
  refine ⟨h1, ?_⟩
  rcases h2 with h2 | ⟨g', cap', cur, hv, hg, hh, r⟩
  · exact .inl h2
  · injection hv with e1 _ e3
    injection e1 with e1
    injection e1 with e1
    subst e1 e3
    exact .inr ⟨g, cap, cur, rfl, hg, (Below.heap_setCell _ _ _ _ (fun e => hp e.symm)).trans hh, r⟩
/-- A cell that holds no byte is written: bytes are as they were. -/
theorem Bs.setOther {w : World} {A : Option Addr} {n c : Nat} {s : List UInt8} {p : Addr} {old : Value} (h : Bs w A n c s) (u : Value) (hp : w.cell? p = some old) (hold : ∀ x, old ≠ byteV x) : Bs (w.setCell p u) A n c s := by
  refine ⟨h.1, h.2.1, h.2.2.1, h.2.2.2.1, fun hn => ?_⟩
  obtain ⟨b, o, hA, hc⟩ := h.2.2.2.2 hn
  refine ⟨b, o, hA, fun i x hx => ?_⟩
  rw [World.cell?_setCell_other]
  · exact hc i x hx
  · intro e
    rw [e, hc i x hx] at hp
    injection hp with hp
    obtain ⟨y, _, hy⟩ := List.mem_map.1 (List.mem_of_getElem? hx)
    exact hold y (by rw [← hp, ← hy])
theorem Bs.box2 {w : World} {A : Option Addr} {n c : Nat} {s : List UInt8} {b a2 a3 : Nat} {a1 : Option Addr} {m : Int} (h : Bs w A n c s) (k : Box w b [.slice a1 a2 a3, .int .i64 m]) (u1 u2 : Value) :
    Bs ((w.setCell ⟨b, 0, none⟩ u1).setCell ⟨b, 1, none⟩ u2) A n c s := by
  obtain ⟨c0, c1, _⟩ := k.two
  have k' := k.set 0 u1 (by simp)
  obtain ⟨_, c1', _⟩ := Box.two (x := u1) (y := .int .i64 m) k'
  exact (h.setOther u1 c0 (by intro x e; cases e)).setOther u2 c1' (by intro x e; cases e)
theorem Box.put2 {w : World} {b : Nat} {x y : Value} (k : Box w b [x, y]) (u v : Value) : Box ((w.setCell ⟨b, 0, none⟩ u).setCell ⟨b, 1, none⟩ v) b [u, v] := (k.set 0 u (by simp)).set 1 v (by simp)
theorem Box.put3 {w : World} {b : Nat} {x y z : Value} (k : Box w b [x, y, z]) (u v t : Value) : Box (((w.setCell ⟨b, 0, none⟩ u).setCell ⟨b, 1, none⟩ v).setCell ⟨b, 2, none⟩ t) b [u, v, t] := ((k.set 0 u (by simp)).set 1 v (by simp)).set 2 t (by simp)
theorem Bs.box3 {w : World} {A : Option Addr} {n c : Nat} {s : List UInt8} {b a2 a3 : Nat} {a1 : Option Addr} {m1 m2 : Int} (h : Bs w A n c s) (k : Box w b [.slice a1 a2 a3, .int .i64 m1, .int .i64 m2]) (u1 u2 u3 : Value) :
    Bs (((w.setCell ⟨b, 0, none⟩ u1).setCell ⟨b, 1, none⟩ u2).setCell ⟨b, 2, none⟩ u3) A n c s := by
  obtain ⟨c0, _⟩ := k.three
  have k' : Box _ b [u1, .int .i64 m1, .int .i64 m2] := k.set 0 u1 (by simp)
  obtain ⟨_, c1, _⟩ := k'.three
  have k'' : Box _ b [u1, u2, .int .i64 m2] := k'.set 1 u2 (by simp)
  obtain ⟨_, _, c2, _⟩ := k''.three
  exact ((h.setOther u1 c0 (by intro x e; cases e)).setOther u2 c1 (by intro x e; cases e)).setOther u3 c2 (by intro x e; cases e)
theorem below_put2 {B b : Nat} {w W : World} (h : Below B w W) (hb : B ≤ b) (u v : Value) : Below B w ((W.setCell ⟨b, 0, none⟩ u).setCell ⟨b, 1, none⟩ v) := (h.setCell (p := ⟨b, 0, none⟩) hb u).setCell (p := ⟨b, 1, none⟩) hb v
theorem below_put3 {B b : Nat} {w W : World} (h : Below B w W) (hb : B ≤ b) (u v t : Value) : Below B w (((W.setCell ⟨b, 0, none⟩ u).setCell ⟨b, 1, none⟩ v).setCell ⟨b, 2, none⟩ t) := (below_put2 h hb u v).setCell (p := ⟨b, 2, none⟩) hb t
/-- 'copy(dst, src)': dst a whole row of the call's own, src any slice of bytes that isn't longer. -/
theorem wpList_copyB {P : Program} {w : World} {ops : Array Oper} {rest : List Oper} {o : Oper} {a : Act} {Q : Exit → Act → World → Prop} (hgd : o.guard = none) (d s : Operand) (dT sT : TypeId)
    (ho : o.op = .call { callee := .builtin .copy, args := #[d, s], argTypes := #[dT, sT] }) (e : TypeId) (hu : P.underlying dT = some (.slice e)) (hsz : (P.info? e).map (·.size) = some 1)
    (base g n : Nat) (S : List UInt8) (hd : a.eval d = .slice (some ⟨g, 0, none⟩) n n) (hown : Own w base e (some ⟨g, 0, none⟩) n n S)
    (B : Option Addr) (m c : Nat) (T : List UInt8) (hs : a.eval s = .slice B m c) (hT : Bs w B m c T) (hmn : m ≤ n)
    (h : ∀ w', Own w' base e (some ⟨g, 0, none⟩) n n (T ++ S.drop m) → (∀ k, k ≠ g → w'.heap[k]? = w.heap[k]?) → w'.heap.size = w.heap.size → Below base w w' → wpList P ops Q rest (a.put o.dst (goInt (m : Int))) w') :
    wpList P ops Q (o :: rest) a w := by
  have hl := hT.len
  have hmin : Nat.min m n = m := Nat.min_eq_left hmn
  rcases Nat.eq_zero_or_pos m with h0 | h0
  · subst h0
    have hT0 : T = [] := List.eq_nil_of_length_eq_zero hl
    subst hT0
    refine wpList_copy_nothing hgd d s dT sT ho e hu hsz _ _ _ _ _ _ hd hs (by simp) ?_
    exact h w (by simpa using hown) (fun _ _ => rfl) rfl (Below.refl _ _)
  · obtain ⟨h1, h2⟩ := hown
    rcases h2 with ⟨h3, _⟩ | ⟨g', cap, cur, hv, hb, hg, hnc, hcm, hcs, ht⟩
    · cases h3
    · injection hv with e1 e2 e3
      injection e1 with e1
      injection e1 with e1
      subst e1 e3
      obtain ⟨b, off, rfl, _, hc⟩ := Sl.at_ hT h0
      have hcl : cur.toList = S.map byteV := by
        rw [← ht, List.take_of_length_le (by rw [Array.length_toList, hcs]; exact Nat.le_refl _)]
      refine wpList_copy_own hgd d s dT sT ho e hu hsz g 0 n n ⟨b, off, none⟩ m c hd hs cur e hg (T.map byteV) (by rw [List.length_map, hl]; exact hmin.symm) (fun j v hj => by rw [add_plain']; exact hc j v hj) (by rw [List.length_map, hl, hcs]; omega) (bytes_oneCell T) ?_
      rw [List.length_map, hl]
      refine h _ ?_ (fun k hk => setRow_other w g k _ hk) (size_setRow _ _ _) (below_setRow (Below.refl _ _) hb _)
      refine ⟨by rw [List.length_map] at h1 ⊢; simp [hl]; omega, .inr ⟨g, n, _, rfl, hb, setRow_heap w g cur _ e _ hg, Nat.le_refl _, hcm, ?_, ?_⟩⟩
      · simp [hcl, hl]; rw [List.length_map] at h1; omega
      · rw [List.take_of_length_le]
        · simp [hcl, List.map_append, List.map_drop]
        · simp [hcl, hl]; rw [List.length_map] at h1; omega

end Go.Proofs.Ytbalpndgpdbcbaa
