/-
  Lists of bytes in memory (what Split hands back); and of the document's own answers for layer 11: Lists.
-/
import Derived.Test.YtkfinkmbdpdepaaBase
import Derived.Test.YtkfinkmbdpdepaaTrainR
namespace Go.Proofs.Ytkfinkmbdpdepaa
open Go.RowKit
set_option linter.unusedVariables false
set_option linter.unusedSimpArgs false

/-- A list of bytes in memory: where it lies, its bytes. -/
structure Lp where
  A : Option Addr
  n : Nat
  c : Nat
  s : List UInt8
def lpC (e : Lp) : List Value := [.slice e.A e.n e.c]
theorem lpC_length (e : Lp) : (lpC e).length = 1 := rfl
/-- The slice value holds the lists of bytes l. -/
def Bls (w : World) (A : Option Addr) (n c : Nat) (l : List (List UInt8)) : Prop := ∃ es : List Lp, l = es.map Lp.s ∧ SlK 1 w A n c (es.flatMap lpC) ∧ ∀ e ∈ es, Bs w e.A e.n e.c e.s
section
variable {w w' : World} {A : Option Addr} {n c : Nat} {l : List (List UInt8)}
theorem Bls.len (h : Bls w A n c l) : l.length = n := by
  obtain ⟨es, rfl, h1, _⟩ := h
  have := h1.1
  rw [flat_length lpC_length] at this
  rw [List.length_map]; omega
theorem Bls.bounds (h : Bls w A n c l) : n ≤ c ∧ c ≤ 9223372036854775807 := by
  obtain ⟨es, _, h1, _⟩ := h
  exact ⟨h1.2.1, Nat.le_trans h1.2.2.1 (by decide)⟩
theorem Bls.nil (w : World) : Bls w none 0 0 [] := ⟨[], rfl, SlK.nil 1 w, by simp⟩
theorem Bls.below (h : Bls w A n c l) (hb : Below w.heap.size w w') : Bls w' A n c l := by
  obtain ⟨es, h0, h1, h2⟩ := h
  exact ⟨es, h0, h1.below hb, fun e he => (h2 e he).below hb⟩
theorem Bls.alloc (h : Bls w A n c l) (o : Obj) : Bls (w.alloc o) A n c l := h.below ((Below.refl _ _).alloc (Nat.le_refl _) o)
theorem Bls.drewN (h : Bls w A n c l) (k : Nat) : Bls (w.drewN k) A n c l := h
theorem Bls.drew (h : Bls w A n c l) : Bls w.drew A n c l := h
theorem Bls.at_ (h : Bls w A n c l) (hn : 0 < n) : ∃ b o, A = some ⟨b, o, none⟩ ∧ b < w.heap.size ∧ ∀ i, (hi : i < l.length) → ∃ Ai ni ci, w.cell? ⟨b, o + i, none⟩ = some (.slice Ai ni ci) ∧ Bs w Ai ni ci l[i] := by
  obtain ⟨es, rfl, h1, h2⟩ := h
  obtain ⟨b, o, hA, hlt, hc⟩ := SlK.at_ h1 (by omega) hn
  refine ⟨b, o, hA, hlt, fun i hi => ?_⟩
  have hi' : i < es.length := by simpa using hi
  have g := fun j (hj : j < 1) => flat_get (enc := lpC) lpC_length es i j hj
  rw [List.getElem?_eq_getElem hi'] at g
  refine ⟨es[i].A, es[i].n, es[i].c, ?_, ?_⟩
  · have := hc (i * 1 + 0) (.slice es[i].A es[i].n es[i].c) (by rw [g 0 (by omega)]; rfl)
    simpa using this
  · have := h2 es[i] (List.getElem_mem hi')
    simpa using this
end

set_option maxHeartbeats 4000000 in
theorem rlists_any (A : Option Addr) (n c : Nat) (a : List (List UInt8)) (B : Option Addr) (m d : Nat) (b : List (List UInt8)) (w : World) (ha : Bls w A n c a) (hb : Bls w B m d b) :
    Calls Try.prog 14 #[.slice A n c, .slice B m d] w (Says w (.bool (decide (a = b)))) := by
  have ha1 := ha.len
  have hb1 := hb.len
  obtain ⟨p1, p2⟩ := ha.bounds
  obtain ⟨q1, q2⟩ := hb.bounds
  obtain ⟨z, hz⟩ : ∃ z, decide (a = b) = z := ⟨_, rfl⟩
  rw [hz]
  by_cases hnm : n = m
  · subst hnm
    go_enter Try.func14, Try.ntmps14
    go_wp2_with fail
    go_loopw [5] (fun i W => ∃ k : Nat, k ≤ n ∧ i = .int .i64 k ∧ Hid (a.take k = b.take k) ∧ Bls W A n c a ∧ Bls W B n d b ∧ Below w.heap.size w W) (fun i _ => n - (intOf i).toNat)
    case atStart => exact ⟨0, Nat.zero_le _, rfl, Lib.hid (by simp), ha, hb, Below.refl _ _⟩
    case round =>
      clear ha hb
      obtain ⟨k, hk, rfl, htk, ha, hb, hB⟩ := hrel
      by_cases hkn : k < n
      · obtain ⟨g1, o1, rfl, hlt1, hc1⟩ := ha.at_ (by omega)
        obtain ⟨g2, o2, rfl, hlt2, hc2⟩ := hb.at_ (by omega)
        obtain ⟨A1, n1, c1, x1, hx⟩ := hc1 k (by omega)
        obtain ⟨A2, n2, c2, y1, hy⟩ := hc2 k (by omega)
        have ht1 := Lib.hid (List.take_succ_eq_append_getElem (l := a) (i := k) (by omega))
        have ht2 := Lib.hid (List.take_succ_eq_append_getElem (l := b) (i := k) (by omega))
        have Z : Hid (a = b → a[k]'(by omega) = b[k]'(by omega)) := Lib.hid (fun e => by subst e; rfl)
        have hkn2 : (k : Int) < n := by omega
        clear hc1 hc2
        generalize a[k]'(by omega) = s1 at *
        generalize b[k]'(by omega) = s2 at *
        have t1 := fun j => str_of (hx.drewN j)
        have t2 := fun j => str_of (hy.drewN j)
        by_cases hss : s1 = s2
        · subst hss
          have h2 : Hid (a.take (k + 1) = b.take (k + 1)) := Lib.hid (by rw [ht1.out, ht2.out, htk.out])
          clear Z htk ht1 ht2
          go_wp2_with fail
          go_quiet (fail)
          go_wp2_with fail
          go_roundw
          case rel => exact ⟨k + 1, by omega, by go_num, h2, ha.drewN _, hb.drewN _, below_drewN hB _⟩
          case measure => simp [intOf]; omega
        · have hz2 : Hid (z = false) := Lib.hid (by rw [← hz]; exact decide_eq_false (fun e => hss (Z.out e)))
          have hne : (s1 == s2) = false := by rw [beq_eq_false_iff_ne]; exact hss
          clear hss Z htk ht1 ht2
          go_wp2_with fail
          go_quiet (fail)
          go_wp2_with fail
          go_ret
          exact ⟨by rw [hz2.out]; rfl, below_drewN hB _⟩
      · obtain rfl : k = n := by omega
        have hab : a = b := by have := htk.out; rwa [List.take_of_length_le (by omega), List.take_of_length_le (by omega)] at this
        have hr : Hid (z = true) := Lib.hid (by rw [← hz]; exact decide_eq_true hab)
        have hkn2 : ¬ (k : Int) < k := by omega
        clear hab htk hz
        go_wp2
        go_ret
        exact ⟨by rw [hr.out]; rfl, hB⟩
  · have hr : Hid (z = false) := Lib.hid (by rw [← hz]; exact decide_eq_false (fun e => hnm (by rw [← ha1, ← hb1, e])))
    have hne : ((n : Int) != m) = true := by rw [bne_iff_ne]; omega
    clear hz
    go_enter Try.func14, Try.ntmps14
    go_wp2
    go_ret
    exact ⟨by rw [hr.out]; rfl, Below.refl _ _⟩

end Go.Proofs.Ytkfinkmbdpdepaa
