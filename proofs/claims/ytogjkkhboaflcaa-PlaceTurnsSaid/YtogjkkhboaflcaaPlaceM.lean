/-
  Places as plain data: what a list of places has; and lists of places in memory.
-/
import Derived.Test.YtogjkkhboaflcaaBase
namespace Go.Proofs.Ytogjkkhboaflcaa
open Go.RowKit

/-- A place: a field, where it begins, how many bytes. -/
structure Pl where
  f : Int
  a : Int
  s : Int
theorem Pl.eq_iff (p q : Pl) : p = q ↔ p.f = q.f ∧ p.a = q.a ∧ p.s = q.s := by
  cases p; cases q
  simp
instance : DecidableEq Pl := fun p q => decidable_of_iff _ (Pl.eq_iff p q).symm
def zeroPl : Pl := ⟨0, 0, 0⟩
def plC (p : Pl) : List Value := [.int .i64 p.f, .int .i64 p.a, .int .i64 p.s]
abbrev plV (p : Pl) : Value := .agg #[.int .i64 p.f, .int .i64 p.a, .int .i64 p.s]
theorem plC_length (p : Pl) : (plC p).length = 3 := rfl
def fitsI (x : Int) : Prop := -9223372036854775808 ≤ x ∧ x ≤ 9223372036854775807
def fitsPl (p : Pl) : Prop := fitsI p.f ∧ fitsI p.a ∧ fitsI p.s
/-- Does the byte at x stand in it? -/
def inPl (p : Pl) (x : Int) : Bool := decide (p.a ≤ x ∧ x - p.a < p.s)
def ownerP : List Pl → Int → Int
  | [], _ => -1
  | p :: l, x => if inPl p x = true then p.f else ownerP l x
def filterP (l : List Pl) (f : Int) : List Pl := l.filter fun p => p.f == f
/-- The nth place of a field; whether there is none. -/
def findE (l : List Pl) (f n : Int) : Int := if 0 ≤ n ∧ n < (filterP l f).length then 0 else 8
def findP (l : List Pl) (f n : Int) : Pl := if 0 ≤ n ∧ n < (filterP l f).length then (filterP l f).getD n.toNat zeroPl else zeroPl

theorem ownerP_at {l : List Pl} {k : Nat} (h : k < l.length) (x : Int) : ownerP (l.drop k) x = if inPl l[k] x = true then l[k].f else ownerP (l.drop (k + 1)) x := by
  rw [List.drop_eq_getElem_cons h]
  rfl
theorem filterP_snoc {l : List Pl} {k : Nat} (h : k < l.length) (f : Int) : filterP (l.take (k + 1)) f = filterP (l.take k) f ++ (if l[k].f == f then [l[k]] else []) := by
  unfold filterP
  rw [List.take_succ_eq_append_getElem h, List.filter_append]
  congr 1
  cases hq : (l[k].f == f) <;> simp [List.filter, hq]

/-- The places of a header without sources; of its sources; of an extension; of the payload; of a trailer. -/
def basePl : List Pl := [⟨1, 0, 1⟩, ⟨2, 1, 1⟩, ⟨3, 2, 2⟩, ⟨4, 4, 4⟩, ⟨5, 8, 4⟩]
def csrcPl (n : Nat) : List Pl := (List.range n).map fun (i : Nat) => ⟨6, 12 + 4 * (i : Int), 4⟩
def extPl (ex : Bool) (n e : Nat) : List Pl := if ex = true then [⟨7, 12 + 4 * (n : Int), 2⟩, ⟨8, 12 + 4 * (n : Int) + 2, 2⟩] ++ (if 0 < e then [⟨9, 12 + 4 * (n : Int) + 4, e⟩] else []) else []
def atX (ex : Bool) (n e : Nat) : Int := 12 + 4 * (n : Int) + (if ex = true then 4 + (e : Int) else 0)
def payPl (a : Int) (y : Nat) : List Pl := if 0 < y then [⟨10, a, y⟩] else []
def fillPl (a k : Int) : List Pl := if 1 < k then [⟨11, a, k - 1⟩] else []
def countPl (len : Nat) (k : Int) : List Pl := if 0 < k then [⟨12, (len : Int) - 1, 1⟩] else []
theorem csrcPl_succ (n : Nat) : csrcPl (n + 1) = csrcPl n ++ [⟨6, 12 + 4 * (n : Int), 4⟩] := by unfold csrcPl; rw [List.range_succ, List.map_append]; rfl
theorem csrcPl_length (n : Nat) : (csrcPl n).length = n := by unfold csrcPl; simp

/-- The slice value holds the places l. -/
def Pls (w : World) (A : Option Addr) (n c : Nat) (l : List Pl) : Prop := SlK 3 w A n c (l.flatMap plC)
section
variable {w w' : World} {A : Option Addr} {n c : Nat} {l : List Pl}
theorem Pls.len (h : Pls w A n c l) : l.length = n := by
  have := h.1
  rw [flat_length plC_length] at this
  omega
theorem Pls.bounds (h : Pls w A n c l) : n ≤ c ∧ c ≤ 9223372036854775807 := ⟨h.2.1, Nat.le_trans h.2.2.1 (by decide)⟩
theorem Pls.nil (w : World) : Pls w none 0 0 [] := SlK.nil 3 w
theorem Pls.below (h : Pls w A n c l) (hb : Below w.heap.size w w') : Pls w' A n c l := SlK.below h hb
theorem Pls.alloc (h : Pls w A n c l) (o : Obj) : Pls (w.alloc o) A n c l := SlK.alloc h o
theorem Pls.drew (h : Pls w A n c l) : Pls w.drew A n c l := h
theorem Pls.at_ (h : Pls w A n c l) (hn : 0 < n) : ∃ b o, A = some ⟨b, o, none⟩ ∧ b < w.heap.size ∧ ∀ i, (hi : i < l.length) → w.cell? ⟨b, o + i * 3, none⟩ = some (.int .i64 l[i].f) ∧ w.cell? ⟨b, o + i * 3 + 1, none⟩ = some (.int .i64 l[i].a) ∧ w.cell? ⟨b, o + i * 3 + 2, none⟩ = some (.int .i64 l[i].s) := by
  obtain ⟨b, o, hA, hlt, hc⟩ := SlK.at_ h (by omega) hn
  refine ⟨b, o, hA, hlt, fun i hi => ?_⟩
  have g := fun j (hj : j < 3) => flat_get (enc := plC) plC_length l i j hj
  rw [List.getElem?_eq_getElem hi] at g
  refine ⟨?_, ?_, ?_⟩
  · have := hc (i * 3 + 0) (.int .i64 l[i].f) (by rw [g 0 (by omega)]; rfl)
    simpa [Nat.add_assoc] using this
  · have := hc (i * 3 + 1) (.int .i64 l[i].a) (by rw [g 1 (by omega)]; rfl)
    simpa [Nat.add_assoc] using this
  · have := hc (i * 3 + 2) (.int .i64 l[i].s) (by rw [g 2 (by omega)]; rfl)
    simpa [Nat.add_assoc] using this
theorem plC_one (l : List Pl) : ∀ u ∈ l.flatMap plC, u.oneCell' = true := by
  intro u hu
  rw [List.mem_flatMap] at hu
  obtain ⟨p, _, hp⟩ := hu
  simp only [plC, List.mem_cons, List.not_mem_nil, or_false] at hp
  rcases hp with rfl | rfl | rfl <;> rfl
end

end Go.Proofs.Ytogjkkhboaflcaa
