/-
  Slices in memory, read as lists: a slice value whose first n cells hold a list of values; the same for bytes. Nothing here speaks of a program.
-/
import Derived.WalkKit
import Derived.WalkSpells
import Derived.WalkLawsBesides
import Derived.Deep.Draws
import Derived.Lib.Hide
import Derived.StillTailTactics
import Derived.Laws.AppendOwnNone
import Derived.Deep.AppendLies
namespace Go.Proofs.Ytbalpndgpdbcbaa
open Go.RowKit

/-- The slice value with address A, length n and capacity c holds the values xs (one cell each). -/
def Sl (w : World) (A : Option Addr) (n c : Nat) (xs : List Value) : Prop :=
  xs.length = n ∧ n ≤ c ∧ c ≤ maxLen ∧ (A = none → c = 0) ∧ (0 < n → ∃ b o, A = some ⟨b, o, none⟩ ∧ ∀ i x, xs[i]? = some x → w.cell? ⟨b, o + i, none⟩ = some x)

section
variable {w w' : World} {A : Option Addr} {n c : Nat} {xs : List Value}
theorem Sl.len (h : Sl w A n c xs) : xs.length = n := h.1
theorem Sl.le (h : Sl w A n c xs) : n ≤ c := h.2.1
theorem Sl.cap (h : Sl w A n c xs) : c ≤ maxLen := h.2.2.1
theorem Sl.at_ (h : Sl w A n c xs) (hn : 0 < n) : ∃ b o, A = some ⟨b, o, none⟩ ∧ b < w.heap.size ∧ ∀ i x, xs[i]? = some x → w.cell? ⟨b, o + i, none⟩ = some x := by
  obtain ⟨b, o, hA, hc⟩ := h.2.2.2.2 hn
  have hx : 0 < xs.length := by rw [h.1]; exact hn
  have h0 := hc 0 _ (List.getElem?_eq_getElem hx)
  exact ⟨b, o, hA, World.block_lt_of_cell? _ _ h0, hc⟩
theorem Sl.none_ (h : Sl w A n c xs) : A = none → c = 0 := h.2.2.2.1
theorem Sl.nil (w : World) : Sl w none 0 0 [] := ⟨rfl, Nat.zero_le _, Nat.zero_le _, fun _ => rfl, fun h => absurd h (by omega)⟩
theorem Sl.keep (h : Sl w A n c xs) (hk : ∀ p : Addr, p.block < w.heap.size → w'.cell? p = w.cell? p) : Sl w' A n c xs := by
  refine ⟨h.1, h.2.1, h.2.2.1, h.2.2.2.1, fun hn => ?_⟩
  obtain ⟨b, o, hA, hlt, hc⟩ := h.at_ hn
  exact ⟨b, o, hA, fun i x hx => (hk ⟨b, o + i, none⟩ hlt).trans (hc i x hx)⟩
theorem Sl.below (h : Sl w A n c xs) (hb : Below w.heap.size w w') : Sl w' A n c xs := h.keep fun _ hp => hb.cell hp
theorem Sl.drewN (h : Sl w A n c xs) (k : Nat) : Sl (w.drewN k) A n c xs := h
theorem Sl.alloc (h : Sl w A n c xs) (o : Obj) : Sl (w.alloc o) A n c xs := h.below ((Below.refl _ _).alloc (Nat.le_refl _) o)
/-- The part of a slice from l to r. -/
theorem Sl.cut (h : Sl w A n c xs) {l r : Nat} (hl : l ≤ r) (hr : r ≤ n) :
    Sl w (if c = l then A else A.map (·.add l)) (r - l) (c - l) ((xs.drop l).take (r - l)) := by
  have h1 := h.1
  have h2 := h.2.1
  have h3 := h.2.2.1
  have h4 := h.none_
  refine ⟨by simp; omega, by omega, by omega, fun hA => ?_, fun hn => ?_⟩
  · split at hA
    · omega
    · rw [Option.map_eq_none_iff] at hA
      have := h4 hA
      omega
  obtain ⟨b, o, hA, _, hc⟩ := h.at_ (by omega)
  subst hA
  refine ⟨b, o + l, ?_, fun i x hx => ?_⟩
  · rw [if_neg (by omega)]
    simp [Addr.add]
  · rw [List.getElem?_take] at hx
    split at hx
    · rw [List.getElem?_drop] at hx
      rw [Nat.add_assoc]
      exact hc _ _ hx
    · cases hx
theorem Sl.cells (h : Sl w A n c xs) {b o : Nat} (hA : A = some ⟨b, o, none⟩) : ∀ i, (hi : i < xs.length) → w.cell? ⟨b, o + i, none⟩ = some xs[i] := by
  intro i hi
  obtain ⟨b', o', hA', _, hc⟩ := h.at_ (by have := h.1; omega)
  rw [hA] at hA'
  injection hA' with e
  injection e with e1 e2
  subst e1; subst e2
  exact hc i _ (List.getElem?_eq_getElem hi)
theorem add_plain' (b o j : Nat) : (⟨b, o, none⟩ : Addr).add j = ⟨b, o + j, none⟩ := by unfold Addr.add; split <;> simp_all
/-- The cells where an append looks for them. -/
theorem Sl.added (h : Sl w A n c xs) : ∀ ad, A = some ad → ∀ j u, xs[j]? = some u → w.cell? (ad.add j) = some u := by
  intro ad hA j u hu
  have hj : j < xs.length := (List.getElem?_eq_some_iff.1 hu).1
  obtain ⟨b, o, hA', _, hc⟩ := h.at_ (by have := h.1; omega)
  rw [hA] at hA'
  injection hA' with e
  rw [e, add_plain']
  exact hc j u hu
theorem Sl.nothing (h : Sl w A n c xs) : A = none → n = 0 ∧ c = 0 := fun hA => by
  have := h.none_ hA
  have := h.le
  omega
/-- What a call owns, read as a slice. -/
theorem Sl.of_own {base : Nat} {e : TypeId} (h : w.ownsRow base e 1 (.slice A n c) n xs) : Sl w A n c xs := by
  obtain ⟨hl, h2⟩ := h
  rcases h2 with ⟨h3, h4⟩ | ⟨g, cap, cur, hv, hb, hg, hnc, hcm, hs, ht⟩
  · injection h3 with e1 e2 e3
    subst e1; subst e2; subst e3
    have : xs = [] := List.eq_nil_of_length_eq_zero (by omega)
    subst this
    exact Sl.nil w
  · injection hv with e1 e2 e3
    subst e1; subst e3
    refine ⟨by omega, hnc, hcm, (fun h => by cases h), fun _ => ⟨g, 0, rfl, fun i x hx => ?_⟩⟩
    rw [Nat.zero_add, cell_of_row w g i cur e (0, 0) hg]
    rw [← ht, List.getElem?_take] at hx
    split at hx
    · simpa using hx
    · cases hx
end

/-- A slice that was just written out. -/
theorem Sl.lit (w : World) (vs : List Value) (t : TypeId) (hm : vs.length ≤ maxLen) : Sl (w.alloc (.cells vs.toArray t)) (some ⟨w.heap.size, 0, none⟩) vs.length vs.length vs := by
  refine ⟨rfl, Nat.le_refl _, hm, (fun h => by cases h), fun _ => ⟨w.heap.size, 0, rfl, fun i x hx => ?_⟩⟩
  rw [Nat.zero_add, World.cell?_alloc_at _ _ _ _ rfl]
  simpa using hx

/-- A byte as a value. -/
def byteV (x : UInt8) : Value := .int .u8 (x.toNat : Int)
theorem byteV_ofNat (q : Nat) : byteV (UInt8.ofNat q) = .int .u8 ((q : Int) % 256) := by
  unfold byteV
  rw [UInt8.toNat_ofNat']
  simp
/-- The slice value holds the bytes s. -/
def Bs (w : World) (A : Option Addr) (n c : Nat) (s : List UInt8) : Prop := Sl w A n c (s.map byteV)

section
variable {w w' : World} {A : Option Addr} {n c : Nat} {s : List UInt8}
theorem Bs.len (h : Bs w A n c s) : s.length = n := by simpa using Sl.len h
theorem Bs.le (h : Bs w A n c s) : n ≤ c := Sl.le h
theorem Bs.cap (h : Bs w A n c s) : c ≤ maxLen := Sl.cap h
theorem Bs.nil (w : World) : Bs w none 0 0 [] := Sl.nil w
theorem Bs.below (h : Bs w A n c s) (hb : Below w.heap.size w w') : Bs w' A n c s := Sl.below h hb
theorem Bs.alloc (h : Bs w A n c s) (o : Obj) : Bs (w.alloc o) A n c s := Sl.alloc h o
theorem Bs.drewN (h : Bs w A n c s) (k : Nat) : Bs (w.drewN k) A n c s := h
theorem Bs.drew (h : Bs w A n c s) : Bs w.drew A n c s := h
theorem Bs.at_ (h : Bs w A n c s) (hn : 0 < n) : ∃ b o, A = some ⟨b, o, none⟩ ∧ b < w.heap.size ∧ ∀ i, i < n → w.cell? ⟨b, o + i, none⟩ = some (.int .u8 ((s.getD i 0).toNat : Int)) := by
  obtain ⟨b, o, hA, hlt, hc⟩ := Sl.at_ h hn
  have hl := h.len
  refine ⟨b, o, hA, hlt, fun i hi => hc i _ ?_⟩
  rw [List.getElem?_map, List.getElem?_eq_getElem (by omega), List.getD_eq_getElem?_getD, List.getElem?_eq_getElem (by omega)]
  rfl
theorem Bs.cut (h : Bs w A n c s) {l r : Nat} (hl : l ≤ r) (hr : r ≤ n) :
    Bs w (if c = l then A else A.map (·.add l)) (r - l) (c - l) ((s.drop l).take (r - l)) := by
  have := Sl.cut h hl hr
  rwa [← List.map_drop, ← List.map_take] at this
theorem byte_getD_lt (s : List UInt8) (i : Nat) : (s.getD i 0).toNat < 256 := (s.getD i 0).toNat_lt
theorem Bs.of_cells {b o : Nat} (hl : s.length = n) (hn : n ≤ c) (hc : c ≤ maxLen) (h : ∀ i, (hi : i < s.length) → w.cell? ⟨b, o + i, none⟩ = some (byteV s[i])) : Bs w (some ⟨b, o, none⟩) n c s := by
  refine ⟨by simpa using hl, hn, hc, (fun h => by cases h), fun _ => ⟨b, o, rfl, fun i x hx => ?_⟩⟩
  rw [List.getElem?_map] at hx
  cases hi : s[i]? with
  | none => rw [hi] at hx; cases hx
  | some y =>
    rw [hi] at hx
    obtain ⟨hlt, rfl⟩ := List.getElem?_eq_some_iff.1 hi
    have := h i hlt
    simp only [Option.map_some, Option.some.injEq] at hx
    rw [this, hx]
end

/-- A slice of bytes: where it lies, how long it is, its room, its bytes. -/
structure Part where
  A : Option Addr
  n : Nat
  c : Nat
  s : List UInt8
def Part.v (p : Part) : Value := .slice p.A p.n p.c
/-- The slice value holds slices of bytes. -/
def Bss (w : World) (A : Option Addr) (l c : Nat) (ps : List Part) : Prop := Sl w A l c (ps.map Part.v) ∧ ∀ p ∈ ps, Bs w p.A p.n p.c p.s
theorem Bss.below {w w' : World} {A : Option Addr} {l c : Nat} {ps : List Part} (h : Bss w A l c ps) (hb : Below w.heap.size w w') : Bss w' A l c ps :=
  ⟨h.1.below hb, fun p hp => (h.2 p hp).below hb⟩
theorem Bss.lit {w : World} (ps : List Part) (t : TypeId) (hm : ps.length ≤ maxLen) (h : ∀ p ∈ ps, Bs w p.A p.n p.c p.s) : Bss (w.alloc (.cells (ps.map Part.v).toArray t)) (some ⟨w.heap.size, 0, none⟩) ps.length ps.length ps := by
  have := Sl.lit w (ps.map Part.v) t (by simpa using hm)
  rw [List.length_map] at this
  exact ⟨this, fun p hp => (h p hp).alloc _⟩
theorem bytes_oneCell (s : List UInt8) : ∀ u ∈ s.map byteV, u.oneCell' = true := by
  intro u hu
  obtain ⟨x, _, rfl⟩ := List.mem_map.1 hu
  rfl
/-- How many bytes slices have together. -/
def total (ps : List Part) : Nat := (ps.map Part.n).sum
theorem total_take_le (ps : List Part) (k : Nat) : total (ps.take k) ≤ total ps := by
  have : ps = ps.take k ++ ps.drop k := (List.take_append_drop k ps).symm
  conv => rhs; rw [this]
  unfold total
  rw [List.map_append, List.sum_append]
  omega
theorem total_succ (ps : List Part) (k : Nat) (h : k < ps.length) : total (ps.take (k + 1)) = total (ps.take k) + ps[k].n := by
  unfold total
  rw [List.take_succ_eq_append_getElem h, List.map_append, List.sum_append]; rfl
/-- The bytes of slices, one behind the other. -/
def joined (ps : List Part) : List UInt8 := (ps.map Part.s).flatten
theorem joined_succ (ps : List Part) (k : Nat) (h : k < ps.length) : joined (ps.take (k + 1)) = joined (ps.take k) ++ ps[k].s := by
  unfold joined
  rw [List.take_succ_eq_append_getElem h, List.map_append, List.flatten_append, List.map_singleton, List.flatten_singleton]
theorem joined_length {ps : List Part} (h : ∀ p ∈ ps, p.s.length = p.n) : (joined ps).length = total ps := by
  induction ps with
  | nil => rfl
  | cons p ps ih =>
    have h1 := h p (by simp)
    have h2 := ih (fun q hq => h q (by simp [hq]))
    simp only [joined, total, List.map_cons, List.flatten_cons, List.length_append, List.sum_cons] at *
    omega

/-- The slice value is a row of the call's own (blocks from base on), of type e, and holds the bytes s. -/
def Own (w : World) (base : Nat) (e : TypeId) (A : Option Addr) (n c : Nat) (s : List UInt8) : Prop := w.ownsRow base e 1 (.slice A n c) n (s.map byteV)
section
variable {w w' : World} {A : Option Addr} {base n c : Nat} {e : TypeId} {s : List UInt8}
theorem Own.bs (h : Own w base e A n c s) : Bs w A n c s := Sl.of_own h
theorem Own.len (h : Own w base e A n c s) : s.length = n := h.bs.len
theorem Own.mono {base' : Nat} (h : Own w base e A n c s) (hb : base' ≤ base) : Own w base' e A n c s := by
  obtain ⟨h1, h2⟩ := h
  refine ⟨h1, ?_⟩
  rcases h2 with h2 | ⟨g, cap, cur, hv, hg, r⟩
  · exact .inl h2
  · exact .inr ⟨g, cap, cur, hv, by omega, r⟩
theorem Own.below (h : Own w base e A n c s) (hb : Below w.heap.size w w') : Own w' base e A n c s := by
  obtain ⟨h1, h2⟩ := h
  refine ⟨h1, ?_⟩
  rcases h2 with h2 | ⟨g, cap, cur, hv, hg, hh, r⟩
  · exact .inl h2
  · exact .inr ⟨g, cap, cur, hv, hg, (hb.block g (lt_of_block hh)).trans hh, r⟩
theorem Own.form (h : Own w base e A n c s) (hn : 0 < n) : ∃ g, A = some ⟨g, 0, none⟩ ∧ base ≤ g ∧ g < w.heap.size := by
  obtain ⟨g, cap, hv, hb, hlt⟩ := World.ownsRow.form h hn
  injection hv with e1
  exact ⟨g, e1, hb, hlt⟩
/-- A byte of an own row is written. -/
theorem Own.store {g cap j : Nat} {x : UInt8} (h : Own w base e (some ⟨g, 0, none⟩) n cap s) (hj : j < n) :
    (∃ u, w.cell? ⟨g, j, none⟩ = some u) ∧ w.frozen? ⟨g, j, none⟩ = false ∧ Own (w.setCell ⟨g, j, none⟩ (byteV x)) base e (some ⟨g, 0, none⟩) n cap (s.set j x) := by
  have hl := h.len
  refine ⟨⟨byteV (s[j]'(by omega)), ?_⟩, World.ownsRow.frozenAt h j, ?_⟩
  · rw [World.ownsRow.cellAt h j (by omega), List.getElem?_map, List.getElem?_eq_getElem (by omega)]; rfl
  · have := (World.ownsRow.stored h j (byteV x)).1
    unfold Own
    rwa [List.map_set]
theorem Own.nil (w : World) (base : Nat) (e : TypeId) : Own w base e none 0 0 [] := World.ownsRow_nil _ _ _ _
end

/-- An own row's value, taken apart. -/
theorem own_form {w : World} {base : Nat} {e : TypeId} {v : Value} {n : Nat} {s : List UInt8} (h : w.ownsRow base e 1 v n (s.map byteV)) : ∃ A c, v = .slice A n c ∧ Own w base e A n c s := by
  obtain ⟨h1, h2⟩ := h
  rcases h2 with ⟨rfl, h3⟩ | ⟨g, cap, cur, rfl, r⟩
  · subst h3
    exact ⟨none, 0, rfl, h1, .inl ⟨rfl, rfl⟩⟩
  · exact ⟨some ⟨g, 0, none⟩, cap, rfl, h1, .inr ⟨g, cap, cur, rfl, r⟩⟩
/-- 'append(out, x...)': out a row of the call's own (or nil), x any slice of bytes (nil, empty or not). -/
theorem wpList_app {P : Program} (w : World) {ops : Array Oper} {rest : List Oper} {o : Oper} {a : Act} {Q : Exit → Act → World → Prop} (hgd : o.guard = none) (s x : Operand) (t : TypeId)
    (ho : o.op = .call { callee := .builtin .append, args := #[s, x], argTypes := #[t, t] })
    (base : Nat) (e : TypeId) (ht : P.underlying t = some (.slice e)) (hinfo : (P.info? e).map (fun i => (i.zero, i.size, i.bytes)) = some (some (.int .u8 0), 1, 1))
    (A : Option Addr) (n c : Nat) (S : List UInt8) (hs : a.eval s = .slice A n c) (hown : Own w base e A n c S)
    (B : Option Addr) (m d : Nat) (T : List UInt8) (hx : a.eval x = .slice B m d) (hT : Bs w B m d T) (hb : n + m ≤ 140737488355328) (hbase : base ≤ w.heap.size)
    (h : ∀ A' c' w', Own w' base e A' (n + m) c' (S ++ T) → Below base w w' → wpList P ops Q rest (a.put o.dst (.slice A' (n + m) c')) w') : wpList P ops Q (o :: rest) a w := by
  obtain ⟨i, hi, hz, hz1, hz2⟩ := info_parts hinfo
  cases B with
  | none =>
    obtain ⟨rfl, rfl⟩ := Sl.nothing hT rfl
    have hT0 : T = [] := List.eq_nil_of_length_eq_zero hT.len
    subst hT0
    refine wpList_append_own_none hgd s x t ho base e i 1 ht hi _ n _ hs hown hx ?_
    have := h A c w (by simpa using hown) (Below.refl _ _)
    simpa using this
  | some ad =>
    refine wpList_append_own w hgd s x t ho base e i (.int .u8 0) 1 1 ht hi hz hz1 hz2 rfl (by omega) _ n _ hs hown ad m d (T.map byteV) hx (by rw [List.length_map, hT.len, Nat.mul_one]) (Sl.added hT ad rfl) (bytes_oneCell T)
      (by simp only [maxLen]; omega) (by omega) hbase ?_
    intro v' w' hown' hg _
    rw [← List.map_append] at hown'
    obtain ⟨A', c', rfl, hO⟩ := own_form hown'
    exact h A' c' w' hO ((Below.refl _ _).grown hg hbase fun k hk => (World.ownsRow.lt hown k hk).1)

/-- What a call hands back: new bytes. -/
def GivesB (w : World) (e : TypeId) (s : List UInt8) (x : Ending) (w' : World) : Prop :=
  ∃ A c, x = .returned (.slice A s.length c) ∧ Own w' w.heap.size e A s.length c s ∧ Below w.heap.size w w'
/-- What a call hands back: new bytes, and the number of an error. -/
def GivesBE (w : World) (e : TypeId) (s : List UInt8) (err : Int) (x : Ending) (w' : World) : Prop :=
  ∃ A c, x = .returned (.tuple #[.slice A s.length c, .int .i64 err]) ∧ Own w' w.heap.size e A s.length c s ∧ Below w.heap.size w w'
theorem GivesBE.none_ (w : World) (e : TypeId) (err : Int) : GivesBE w e [] err (.returned (.tuple #[.slice none 0 0, .int .i64 err])) w :=
  ⟨none, 0, rfl, Own.nil _ _ _, Below.refl _ _⟩

theorem run_size_one {P : Program} {e : TypeId} {z : Value} {bytes : Nat} (h : (P.info? e).map (fun i => (i.zero, i.size, i.bytes)) = some (some z, 1, bytes)) (w : World) : (Go.sizeOf e).run P w = .ok 1 w := by
  obtain ⟨i, hi, hzz⟩ := Option.map_eq_some_iff.1 h
  simp only [Prod.mk.injEq] at hzz
  simp [sizeOf, typeInfo, hi, hzz.2.1]
/-- The part of a slice between two places, as one value: for the walk to take as an equation. -/
theorem Bs.slice_lr {P : Program} {t e : TypeId} (ht : P.underlying t = some (.slice e)) (hz : ∀ w, (Go.sizeOf e).run P w = .ok 1 w) {w : World} {A : Option Addr} {l c : Nat} {s : List UInt8} (h : Bs w A l c s)
    {a r : Nat} (ha : a ≤ r) (hr : r ≤ l) :
    ∃ A' c', (∀ W lo hi, lo = (a : Int) → hi = (r : Int) → (Instr.slice t (.slice A l c) (some (.int .i64 lo)) (some (.int .i64 hi)) none).run P W = .ok (.slice A' (r - a) c') W) ∧ Bs w A' (r - a) c' ((s.drop a).take (r - a)) := by
  have ht' : P.underlying t = some (.slice (P.elem t)) := by simp [Program.elem, ht]
  have he : P.elem t = e := by simp [Program.elem, ht]
  have hlc := h.le
  refine ⟨_, _, fun W lo hi e1 e2 => ?_, h.cut ha hr⟩
  subst e1 e2
  rw [run_slice_lh W t A l c ht' .i64 .i64 _ _ (by omega) (by omega) (by omega), he, hz]
  simp [Result.andThen, sliced]
theorem Bs.slice_r {P : Program} {t e : TypeId} (ht : P.underlying t = some (.slice e)) (hz : ∀ w, (Go.sizeOf e).run P w = .ok 1 w) {w : World} {A : Option Addr} {l c : Nat} {s : List UInt8} (h : Bs w A l c s)
    {r : Nat} (hr : r ≤ l) :
    ∃ A' c', (∀ W hi, hi = (r : Int) → (Instr.slice t (.slice A l c) none (some (.int .i64 hi)) none).run P W = .ok (.slice A' r c') W) ∧ Bs w A' r c' (s.take r) := by
  have ht' : P.underlying t = some (.slice (P.elem t)) := by simp [Program.elem, ht]
  have he : P.elem t = e := by simp [Program.elem, ht]
  have hlc := h.le
  have hcut := h.cut (l := 0) (r := r) (Nat.zero_le _) hr
  rw [Nat.sub_zero, Nat.sub_zero, List.drop_zero] at hcut
  refine ⟨_, _, fun W hi e2 => ?_, hcut⟩
  subst e2
  rw [run_slice_h W t A l c ht' .i64 _ (by omega) (by omega), he, hz]
  simp [Result.andThen, sliced]
theorem Bs.slice_l {P : Program} {t e : TypeId} (ht : P.underlying t = some (.slice e)) (hz : ∀ w, (Go.sizeOf e).run P w = .ok 1 w) {w : World} {A : Option Addr} {l c : Nat} {s : List UInt8} (h : Bs w A l c s)
    {a : Nat} (ha : a ≤ l) :
    ∃ A' c', (∀ W lo, lo = (a : Int) → (Instr.slice t (.slice A l c) (some (.int .i64 lo)) none none).run P W = .ok (.slice A' (l - a) c') W) ∧ Bs w A' (l - a) c' (s.drop a) := by
  have ht' : P.underlying t = some (.slice (P.elem t)) := by simp [Program.elem, ht]
  have he : P.elem t = e := by simp [Program.elem, ht]
  have hlc := h.le
  have hcut := h.cut (l := a) (r := l) ha (Nat.le_refl _)
  rw [List.take_of_length_le (by simp [h.len])] at hcut
  refine ⟨_, _, fun W lo e2 => ?_, hcut⟩
  subst e2
  rw [run_slice_l W t A l c ht' .i64 _ (by omega) (by omega), he, hz]
  simp [Result.andThen, sliced]

/-- A slice of bytes as a string. -/
theorem run_string_of {P : Program} (w : World) (src e dst : TypeId) (hs : P.underlying src = some (.slice e)) (he : P.underlying e = some (.int .u8)) (hd : P.underlying dst = some .string)
    {A : Option Addr} {n c : Nat} {s : List UInt8} (h : Bs w A n c s) : (convert src dst (.slice A n c)).run P w = .ok (.string ⟨s.toArray⟩) w := by
  have hl := h.len
  rcases Nat.eq_zero_or_pos n with h0 | h0
  · subst h0
    have : s = [] := List.eq_nil_of_length_eq_zero hl
    subst this
    rw [run_convert_bytes_string w src dst e A 0 c hs he hd]
    cases A with
    | none => simp [Conv.bytesToString]; rfl
    | some a => rw [run_bytesToString w a 0 c [] (by simp [loadCells, loadCellsFrom])]; rfl
  · obtain ⟨b, o, rfl, _, hc⟩ := h.at_ h0
    rw [run_convert_bytes_arg (P := P) w src e hs he b o n c (s.map fun x => (x.toNat : Int)) (by simpa using hl) (fun i hi => by
      rw [hc i hi]
      simp [List.getD]
      rw [List.getElem?_eq_getElem (by omega)]; rfl) dst hd]
    congr 2
    simp [strOfNums, Function.comp_def]

/-- Where a slice of bytes is behind further blocks. -/
theorem Bs.rename {w : World} {A B : Option Addr} {n m c d : Nat} {s t : List UInt8} (h : Bs w A n c s) (e1 : A = B) (e2 : n = m) (e3 : c = d) (e4 : s = t) : Bs w B m d t := by subst e1 e2 e3 e4; exact h

end Go.Proofs.Ytbalpndgpdbcbaa
