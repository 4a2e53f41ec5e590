/-
  The contracts of package text's calls, as the walks of layer 4's statements ask for them, and the statements' own 'same'.
-/
import Derived.Test.YtcfmokhiibhfhaaTextR5
import Derived.Test.YtcfmokhiibhfhaaTextT
import Derived.Deep.QuietTactic
namespace Go.Proofs.Ytcfmokhiibhfhaa
open Go.RowKit

/-- The slice value holds texts. -/
def Ts (w : World) (A : Option Addr) (n c : Nat) (l : List (List UInt8)) : Prop := Sl w A n c (l.map textV)
theorem Texts.ts {w : World} {base n c : Nat} {A : Option Addr} {l : List (List UInt8)} (h : Texts w base A n c l) : Ts w A n c l := Sl.of_own h
theorem Ts.below {w w' : World} {A : Option Addr} {n c : Nat} {l : List (List UInt8)} (h : Ts w A n c l) (hb : Below w.heap.size w w') : Ts w' A n c l := Sl.below h hb
theorem Ts.drewN {w : World} {A : Option Addr} {n c : Nat} {l : List (List UInt8)} (h : Ts w A n c l) (k : Nat) : Ts (w.drewN k) A n c l := h
theorem Ts.len {w : World} {A : Option Addr} {n c : Nat} {l : List (List UInt8)} (h : Ts w A n c l) : l.length = n := by simpa using Sl.len h
/-- What a call hands back: texts, and an error's number. -/
def GivesWE (w : World) (r : Option (List (List UInt8))) (x : Ending) (w' : World) : Prop :=
  ∃ A c, x = .returned (.tuple #[.slice A (r.getD []).length c, .int .i64 (if r.isSome then 0 else 6)]) ∧ Ts w' A (r.getD []).length c (r.getD []) ∧ Below w.heap.size w w'
def unqE (Q : List UInt8) : Value := match unqB Q with
  | none => .tuple #[.string ⟨#[]⟩, .int .i64 6]
  | some x => .tuple #[.string ⟨x.toArray⟩, .int .i64 0]

theorem same_any (A B : Option Addr) (n m c d : Nat) (l r : List (List UInt8)) (w : World) (hl : Ts w A n c l) (hr : Ts w B m d r) :
    Calls Try.prog 20 #[.slice A n c, .slice B m d] w fun e w' => e = .returned (.bool (decide (l = r))) ∧ ∃ q, w' = w.drewN q := by
  have hln := hl.len
  have hrn := hr.len
  have hlc := Sl.le hl
  have hlm := Sl.cap hl
  have hrm := Sl.cap hr
  have hrc := Sl.le hr
  unfold maxLen at hlm hrm
  by_cases hnm : n = m
  · subst hnm
    go_enter Try.func20, Try.ntmps20
    go_wp2_with fail
    go_loopw [5] (fun i W => (∃ k : Nat, k ≤ n ∧ i = .int .i64 k ∧ l.take k = r.take k) ∧ ∃ q, W = w.drewN q) (fun i _ => n - (intOf i).toNat)
    case atStart => exact ⟨⟨0, Nat.zero_le _, rfl, rfl⟩, 0, rfl⟩
    case round =>
      obtain ⟨⟨k, hk, rfl, hz⟩, q, rfl⟩ := hrel
      have Hz := Lib.hid hz
      clear hz
      by_cases hkn : k < n
      · obtain ⟨a, oa, rfl, _, hca⟩ := Sl.at_ hl (by omega)
        obtain ⟨b, ob, rfl, _, hcb⟩ := Sl.at_ hr (by omega)
        have ha : w.cell? ⟨a, oa + k, none⟩ = some (.string ⟨(l[k]'(by omega)).toArray⟩) := hca k _ (by rw [List.getElem?_map, List.getElem?_eq_getElem (by omega)]; rfl)
        have hb : w.cell? ⟨b, ob + k, none⟩ = some (.string ⟨(r[k]'(by omega)).toArray⟩) := hcb k _ (by rw [List.getElem?_map, List.getElem?_eq_getElem (by omega)]; rfl)
        have hlt := Lib.hid (List.take_succ_eq_append_getElem (l := l) (i := k) (by omega))
        have hrt := Lib.hid (List.take_succ_eq_append_getElem (l := r) (i := k) (by omega))
        have hne : Hid ((l[k]'(by omega)) ≠ (r[k]'(by omega)) → l ≠ r) := Lib.hid (fun h e => h (by subst e; rfl))
        generalize (l[k]'(by omega)) = x at *
        generalize (r[k]'(by omega)) = y at *
        clear hca hcb
        have hk0 : (0 : Int) ≤ k ∧ (k : Int) < n := by omega
        by_cases hxy : x = y
        · subst hxy
          go_wp2_with fail
          go_quiet (fail)
          go_wp2
          go_roundw
          case rel => exact ⟨⟨k + 1, by omega, by go_num, by rw [hlt.out, hrt.out, Hz.out]⟩, q + nq, rfl⟩
          case measure => simp [intOf]; omega
        · have hres : Hid (decide (l = r) = false) := Lib.hid (decide_eq_false (hne.out hxy))
          have c1 : (x == y) = false := by rw [beq_eq_false_iff_ne]; exact hxy
          go_wp2_with fail
          go_quiet (fail)
          go_wp2
          go_ret
          exact ⟨by rw [hres.out]; rfl, q + nq, by rw [World.drewN_drewN]⟩
      · have hres : Hid (decide (l = r) = true) := Lib.hid (decide_eq_true (by have := Hz.out; rwa [List.take_of_length_le (by omega), List.take_of_length_le (by omega)] at this))
        go_wp2
        go_ret
        exact ⟨by rw [hres.out]; rfl, q, rfl⟩
  · have hres : Hid (decide (l = r) = false) := Lib.hid (decide_eq_false (fun e => hnm (by rw [← hln, ← hrn, e])))
    have c1 : ((n : Int) != m) = true := by rw [bne_iff_ne]; omega
    clear hln hrn
    go_enter Try.func20, Try.ntmps20
    go_wp2
    go_ret
    exact ⟨by rw [hres.out]; rfl, 0, rfl⟩

end Go.Proofs.Ytcfmokhiibhfhaa
