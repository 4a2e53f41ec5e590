/-
  From the reading of an argument to the words of the texts on memory: a slice of texts that came in.
-/
import Derived.Test.YtcfmokhiibhfhaaTextC
namespace Go.Proofs.Ytcfmokhiibhfhaa
open Go.RowKit

/-- What a walk is told of a slice of strings that came in. -/
def IsTexts (w : World) (a : Option Addr) (len cap : Nat) (zs : List ByteArray) : Prop :=
  (a = none ∧ len = 0 ∧ cap = 0 ∧ zs = []) ∨
  ∃ x, a = some x ∧ len ≤ cap ∧ cap ≤ maxLen ∧ zs.length = cap ∧ (∀ i, i < zs.length → w.cell? (x.add i) = some (.string (zs.getD i ByteArray.empty)))
theorem ts_of_texts {w : World} {a : Option Addr} {len cap : Nat} {zs : List ByteArray} (h : IsTexts w a len cap zs) : ∃ l, Ts w a len cap l := by
  rcases h with ⟨rfl, rfl, rfl, rfl⟩ | ⟨x, rfl, hl, hm, hz, hcell⟩
  · exact ⟨[], Sl.nil w⟩
  · refine ⟨(zs.take len).map fun s => s.data.toList, by simp; omega, hl, hm, (fun h => by cases h), fun hn => ?_⟩
    obtain ⟨b, off, spot⟩ := x
    have hspot : spot = none := by
      have := World.cell?_spot (hcell 0 (by omega))
      simpa [Addr.add] using this
    subst hspot
    refine ⟨b, off, rfl, fun i y hy => ?_⟩
    rw [List.map_map, List.getElem?_map] at hy
    have hi : i < len := by
      rcases Nat.lt_or_ge i len with h | h
      · exact h
      · rw [List.getElem?_eq_none (by simp; omega)] at hy; cases hy
    have hc := hcell i (by omega)
    rw [add_plain'] at hc
    rw [hc]
    rw [List.getElem?_take_of_lt hi, List.getElem?_eq_getElem (by omega)] at hy
    simp only [Option.map_some, Option.some.injEq, Function.comp] at hy
    rw [← hy, textV_of]
    simp [List.getD, List.getElem?_eq_getElem (show i < zs.length by omega)]

end Go.Proofs.Ytcfmokhiibhfhaa
