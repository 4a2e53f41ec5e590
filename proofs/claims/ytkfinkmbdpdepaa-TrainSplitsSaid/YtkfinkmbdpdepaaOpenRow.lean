/-
  From the reading of an argument: a slice of structs that came in. Nothing here speaks of a program.
-/
import Derived.Test.YtkfinkmbdpdepaaBase
import Derived.Lib.SmallJoins
namespace Go.Proofs.Ytkfinkmbdpdepaa
open Go.ChangeShapes Go.WideShapes Go.RowKit Go.Deep

/-- What a walk is told of a slice of structs that came in: k cells each, of which R holds. -/
def IsRows (k : Nat) (W : World) (a : Option Addr) (len cap : Nat) (R : List Value → Prop) : Prop :=
  (a = none ∧ len = 0 ∧ cap = 0) ∨
  ∃ x, a = some x ∧ len ≤ cap ∧ cap ≤ maxLen ∧ ∀ i, i < len → ∃ b o cs, x = ⟨b, o, none⟩ ∧ cs.length = k ∧ (∀ j v, cs[j]? = some v → W.cell? ⟨b, o + (i * k + j), none⟩ = some v) ∧ R cs

theorem list_of {α : Type} {P : Nat → α → Prop} : ∀ n, (∀ i, i < n → ∃ x, P i x) → ∃ l : List α, l.length = n ∧ ∀ i, (hi : i < l.length) → P i l[i] := by
  intro n
  induction n with
  | zero => intro _; exact ⟨[], rfl, fun i hi => by simp at hi⟩
  | succ n ih =>
    intro h
    obtain ⟨l, hl, hp⟩ := ih fun i hi => h i (by omega)
    obtain ⟨x, hx⟩ := h n (by omega)
    refine ⟨l ++ [x], by simp [hl], fun i hi => ?_⟩
    rw [List.getElem_append]
    split
    · exact hp i (by assumption)
    · have : i = n := by simp at hi; omega
      subst this
      simpa [hl] using hx

section
variable {H : Type} {enc : TypeId × Value → H} {P : Program} {w : World} {base : Nat} {spare : Nat → Bool} {held : Bool}
/-- A slice of structs, opened. -/
theorem open_rows {t e : TypeId} {fuel k : Nat} {cs : List Value} {x : DataW H × List MemPlace} (ht : P.underlying t = some (.slice e)) (hk : P.cellsOf e = k) (hk0 : 0 < k) (h : DataW.trod enc P w base spare held fuel t cs = some x) :
    cs = [.slice none 0 0] ∨ ∃ (a : Addr) (len cap n : Nat), cs = [.slice (some a) len cap] ∧ len ≤ cap ∧ cap ≤ maxLen ∧
      ∀ i, i < len → ∃ b o cs' y, a = ⟨b, o, none⟩ ∧ cs'.length = k ∧ (∀ j v, cs'[j]? = some v → w.cell? ⟨b, o + (i * k + j), none⟩ = some v) ∧ DataW.trod enc P w base spare held n e cs' = some y := by
  rcases DataW.trod_slice ht h with ⟨h0, _⟩ | ⟨a, len, cap, elems, rest, n, _, rfl, _, _, hl, hm, hel, hx, _, _⟩
  · exact .inl h0
  refine .inr ⟨a, len, cap, n, rfl, hl, hm, fun i hi => ?_⟩
  have hspot : a.spot = none := by
    have h1 := hx 0 (by omega)
    rw [List.getElem?_eq_getElem (by omega), hk] at h1
    obtain ⟨cs', hc, hy⟩ := Option.bind_eq_some_iff.1 h1
    obtain ⟨_, hlen, hcell⟩ := World.cells?_some hc
    have h0 := hcell 0 hk0
    rw [List.getElem?_eq_getElem (by omega)] at h0
    have := World.cell?_spot h0
    simpa [Addr.add] using this
  have h1 := hx i hi
  rw [List.getElem?_eq_getElem (by omega), hk] at h1
  obtain ⟨cs', hc, hy⟩ := Option.bind_eq_some_iff.1 h1
  obtain ⟨_, hlen, hcell⟩ := World.cells?_some hc
  obtain ⟨b, o, spot⟩ := a
  simp only at hspot
  subst hspot
  refine ⟨b, o, cs', _, rfl, hlen, fun j v hj => ?_, hy⟩
  have hjk : j < k := by
    have := (List.getElem?_eq_some_iff.1 hj).1
    omega
  have := hcell j hjk
  rw [hj, add_plain', add_plain', Nat.add_assoc] at this
  exact this
end

/-- Elements that came in, as values of plain data. -/
theorem rows_sl {α : Type} {enc : α → List Value} {k : Nat} {W : World} {a : Option Addr} {len cap : Nat} {R : List Value → Prop} {G : α → Prop} (hk : ∀ x, (enc x).length = k) (hk0 : 0 < k) (h : IsRows k W a len cap R) (hR : ∀ cs, R cs → ∃ x, cs = enc x ∧ G x) :
    ∃ l : List α, SlK k W a len cap (l.flatMap enc) ∧ l.length = len ∧ ∀ x ∈ l, G x := by
  rcases h with ⟨rfl, rfl, rfl⟩ | ⟨x, rfl, hl, hm, hx⟩
  · exact ⟨[], SlK.nil k W, rfl, by simp⟩
  · have hx2 : ∀ i, i < len → ∃ y : α, (∃ b o, x = ⟨b, o, none⟩ ∧ ∀ j v, (enc y)[j]? = some v → W.cell? ⟨b, o + (i * k + j), none⟩ = some v) ∧ G y := by
      intro i hi
      obtain ⟨b, o, cs, h1, h2, h3, h4⟩ := hx i hi
      obtain ⟨y, rfl, hG⟩ := hR cs h4
      exact ⟨y, ⟨b, o, h1, h3⟩, hG⟩
    obtain ⟨l, hll, hp⟩ := list_of len hx2
    refine ⟨l, ⟨by rw [flat_length hk, hll], hl, hm, (fun h => by cases h), fun hn => ?_⟩, hll, fun y hy => ?_⟩
    · obtain ⟨⟨b, o, rfl, _⟩, _⟩ := hp 0 (by omega)
      refine ⟨b, o, rfl, fun i v hv => ?_⟩
      have hi : i < (l.flatMap enc).length := (List.getElem?_eq_some_iff.1 hv).1
      rw [flat_length hk] at hi
      have hq : i / k < l.length := by
        apply Nat.div_lt_of_lt_mul
        rw [Nat.mul_comm]; exact hi
      obtain ⟨⟨b', o', e1, hc⟩, _⟩ := hp (i / k) hq
      injection e1 with e2 e3
      subst e2 e3
      have hi2 : i / k * k + i % k = i := by rw [Nat.mul_comm]; exact Nat.div_add_mod i k
      have hg := flat_get hk l (i / k) (i % k) (Nat.mod_lt _ hk0)
      rw [hi2, hv, List.getElem?_eq_getElem hq] at hg
      have := hc (i % k) v hg.symm
      rwa [hi2] at this
    · obtain ⟨i, hi, rfl⟩ := List.mem_iff_getElem.1 hy
      exact (hp i hi).2

end Go.Proofs.Ytkfinkmbdpdepaa
