/-
  From the reading of an argument to the words of the texts on headers: numbers of four bytes that came in.
-/
import Derived.Test.YtogjkkhboaflcaaBase
namespace Go.Proofs.Ytogjkkhboaflcaa
open Go.RowKit

theorem bound_u16 {n : Int} (h : (Lit.int .u16 n).wf = true) : 0 ≤ n ∧ n ≤ 65535 := by
  have h1 : IntKind.u16.min = 0 := rfl
  have h2 : IntKind.u16.max = 65535 := rfl
  simp only [Lit.wf, Bool.and_eq_true, decide_eq_true_eq] at h
  omega
theorem bound_u32 {n : Int} (h : (Lit.int .u32 n).wf = true) : 0 ≤ n ∧ n ≤ 4294967295 := by
  have h1 : IntKind.u32.min = 0 := rfl
  have h2 : IntKind.u32.max = 4294967295 := rfl
  simp only [Lit.wf, Bool.and_eq_true, decide_eq_true_eq] at h
  omega
theorem nat_u8 {n : Int} (h : (Lit.int .u8 n).wf = true) : ∃ k : Nat, n = (k : Int) ∧ k < 256 := by
  obtain ⟨h0, h1⟩ := bound_u8 h
  exact ⟨n.toNat, by omega, by omega⟩
theorem nat_u16 {n : Int} (h : (Lit.int .u16 n).wf = true) : ∃ k : Nat, n = (k : Int) ∧ k < 65536 := by
  obtain ⟨h0, h1⟩ := bound_u16 h
  exact ⟨n.toNat, by omega, by omega⟩
theorem nat_u32 {n : Int} (h : (Lit.int .u32 n).wf = true) : ∃ k : Nat, n = (k : Int) ∧ k < 4294967296 := by
  obtain ⟨h0, h1⟩ := bound_u32 h
  exact ⟨n.toNat, by omega, by omega⟩
theorem us_of_row {w : World} {a : Option Addr} {len cap : Nat} {zs : List Int} (h : IsRow .u32 w a len cap zs) : ∃ l, Us w a len cap l ∧ ∀ x ∈ l, x < 4294967296 := by
  rcases h with ⟨rfl, rfl, rfl, rfl⟩ | ⟨x, rfl, hl, hm, hz, hcell, hwz⟩
  · exact ⟨[], Us.nil w, by simp⟩
  · refine ⟨(zs.take len).map Int.toNat, ⟨by simp; omega, hl, hm, (fun h => by cases h), fun hn => ?_⟩, ?_⟩
    · obtain ⟨b, off, spot⟩ := x
      have hspot : spot = none := by
        have := World.cell?_spot (hcell 0 (by omega))
        simpa [Addr.add] using this
      subst hspot
      refine ⟨b, off, rfl, fun i y hy => ?_⟩
      rw [List.map_map, List.getElem?_map] at hy
      have hi : i < len := by
        rcases Nat.lt_or_ge i len with h | h
        · exact h
        · rw [List.getElem?_eq_none (by simp; omega)] at hy; cases hy
      have hc := hcell i (by omega)
      rw [add_plain'] at hc
      rw [hc]
      rw [List.getElem?_take_of_lt hi, List.getElem?_eq_getElem (by omega)] at hy
      simp only [Option.map_some, Option.some.injEq, Function.comp] at hy
      rw [← hy]
      have hget : zs.getD i 0 = zs[i]'(by omega) := by simp [List.getD, List.getElem?_eq_getElem (show i < zs.length by omega)]
      obtain ⟨k, hk, _⟩ := nat_u32 (hwz _ (List.getElem_mem (show i < zs.length by omega)))
      rw [hget, hk]
      rfl
    · intro y hy
      obtain ⟨z, hz', rfl⟩ := List.mem_map.1 hy
      obtain ⟨k, rfl, hk⟩ := nat_u32 (hwz z (List.mem_of_mem_take hz'))
      simpa using hk

end Go.Proofs.Ytogjkkhboaflcaa
