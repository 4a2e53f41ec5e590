/-
  Lists of elements in memory. And plain: whether a list is right, element by element.
-/
import Derived.Test.YtpkbikimpjmkgaaBase
import Derived.Test.YtpkbikimpjmkgaaElemN
namespace Go.Proofs.Ytpkbikimpjmkgaa
open Go.RowKit

/-- An element in memory: its id, where its data lies, its bytes. -/
structure Ep where
  id : Int
  A : Option Addr
  n : Nat
  c : Nat
  s : List UInt8
def epC (e : Ep) : List Value := [.int .i64 e.id, .slice e.A e.n e.c]
theorem epC_length (e : Ep) : (epC e).length = 2 := rfl
def elOfEp (e : Ep) : El := ⟨e.id, e.s⟩
/-- The slice value holds the elements l. -/
def Els (w : World) (A : Option Addr) (n c : Nat) (l : List El) : Prop := ∃ es : List Ep, l = es.map elOfEp ∧ SlK 2 w A n c (es.flatMap epC) ∧ ∀ e ∈ es, Bs w e.A e.n e.c e.s
section
variable {w w' : World} {A : Option Addr} {n c : Nat} {l : List El}
theorem Els.len (h : Els w A n c l) : l.length = n := by
  obtain ⟨es, rfl, h1, _⟩ := h
  have := h1.1
  rw [flat_length epC_length] at this
  rw [List.length_map]; omega
theorem Els.bounds (h : Els w A n c l) : n ≤ c ∧ c ≤ 9223372036854775807 := by
  obtain ⟨es, _, h1, _⟩ := h
  exact ⟨h1.2.1, Nat.le_trans h1.2.2.1 (by decide)⟩
theorem Els.nil (w : World) : Els w none 0 0 [] := ⟨[], rfl, SlK.nil 2 w, by simp⟩
theorem Els.below (h : Els w A n c l) (hb : Below w.heap.size w w') : Els w' A n c l := by
  obtain ⟨es, h0, h1, h2⟩ := h
  exact ⟨es, h0, h1.below hb, fun e he => (h2 e he).below hb⟩
theorem Els.alloc (h : Els w A n c l) (o : Obj) : Els (w.alloc o) A n c l := h.below ((Below.refl _ _).alloc (Nat.le_refl _) o)
theorem Els.drewN (h : Els w A n c l) (k : Nat) : Els (w.drewN k) A n c l := h
theorem Els.drew (h : Els w A n c l) : Els w.drew A n c l := h
theorem Els.at_ (h : Els w A n c l) (hn : 0 < n) : ∃ b o, A = some ⟨b, o, none⟩ ∧ b < w.heap.size ∧ ∀ i, (hi : i < l.length) → ∃ Ai ni ci, w.cell? ⟨b, o + i * 2, none⟩ = some (.int .i64 l[i].id) ∧ w.cell? ⟨b, o + i * 2 + 1, none⟩ = some (.slice Ai ni ci) ∧ Bs w Ai ni ci l[i].data := by
  obtain ⟨es, rfl, h1, h2⟩ := h
  obtain ⟨b, o, hA, hlt, hc⟩ := SlK.at_ h1 (by omega) hn
  refine ⟨b, o, hA, hlt, fun i hi => ?_⟩
  have hi' : i < es.length := by simpa using hi
  have g := fun j (hj : j < 2) => flat_get (enc := epC) epC_length es i j hj
  rw [List.getElem?_eq_getElem hi'] at g
  refine ⟨es[i].A, es[i].n, es[i].c, ?_, ?_, ?_⟩
  · have := hc (i * 2 + 0) (.int .i64 es[i].id) (by rw [g 0 (by omega)]; rfl)
    simpa [elOfEp] using this
  · have := hc (i * 2 + 1) (.slice es[i].A es[i].n es[i].c) (by rw [g 1 (by omega)]; rfl)
    simpa [Nat.add_assoc] using this
  · have := h2 es[i] (List.getElem_mem hi')
    simpa [elOfEp] using this
end

theorem rightL_succ {l : List El} {k : Nat} (h : k < l.length) : rightL (l.take (k + 1)) = (rightL (l.take k) && (okEl l[k] && (l.take k).all (fun x => x.id != l[k].id))) := by
  rw [List.take_succ_eq_append_getElem h, Bool.eq_iff_iff, Bool.and_eq_true, Bool.and_eq_true, rightL_iff, rightL_iff, List.forall_mem_append, List.pairwise_append, List.all_eq_true]
  simp only [List.mem_singleton, forall_eq, List.pairwise_singleton, true_and, bne_iff_ne]
  constructor
  · rintro ⟨⟨h1, h2⟩, h3, h4⟩; exact ⟨⟨h1, h3⟩, h2, h4⟩
  · rintro ⟨⟨h1, h3⟩, h2, h4⟩; exact ⟨⟨h1, h2⟩, h3, h4⟩
theorem rightL_take {l : List El} (h : rightL l = true) (k : Nat) : rightL (l.take k) = true := by
  rw [rightL_iff] at h ⊢
  exact ⟨fun e he => h.1 e (List.mem_of_mem_take he), h.2.sublist (List.take_sublist k l)⟩
theorem rightL_not {l : List El} {k : Nat} (h : rightL (l.take k) = false) : rightL l = false := by
  cases hq : rightL l
  · rfl
  · rw [rightL_take hq k] at h; cases h
theorem narrowL_succ {l : List El} {k : Nat} (h : k < l.length) : narrowL (l.take (k + 1)) = (narrowL (l.take k) && narrowE l[k]) := by
  unfold narrowL
  rw [List.take_succ_eq_append_getElem h, List.all_append]
  simp
theorem narrowL_not {l : List El} {k : Nat} (h : narrowL (l.take k) = false) : narrowL l = false := by
  unfold narrowL at h ⊢
  rw [List.all_eq_false] at h ⊢
  obtain ⟨x, hx, h2⟩ := h
  exact ⟨x, List.mem_of_mem_take hx, h2⟩
def shortL (l : List El) : Bool := l.all (fun e => decide (e.data.length ≤ 400)) && decide (l.length ≤ 300)

end Go.Proofs.Ytpkbikimpjmkgaa
