/-
  What the document's own answers for layer 5 come to: whether a header is right, numbers and headers compared.
-/
import Derived.Test.YtbalpndgpdbcbaaRefNum
import Derived.Test.YtbalpndgpdbcbaaHeadM
import Derived.Deep.QuietTactic
namespace Go.Proofs.Ytbalpndgpdbcbaa
open Go.RowKit

/-- A number of four bytes as a value. -/
def u32V (x : Nat) : Value := .int .u32 (x : Int)
/-- The slice value holds numbers of four bytes. -/
def Us (w : World) (A : Option Addr) (n c : Nat) (l : List Nat) : Prop := Sl w A n c (l.map u32V)
section
variable {w w' : World} {A : Option Addr} {n c : Nat} {l : List Nat}
theorem Us.len (h : Us w A n c l) : l.length = n := by simpa using Sl.len h
theorem Us.below (h : Us w A n c l) (hb : Below w.heap.size w w') : Us w' A n c l := Sl.below h hb
theorem Us.alloc (h : Us w A n c l) (o : Obj) : Us (w.alloc o) A n c l := Sl.alloc h o
theorem Us.drewN (h : Us w A n c l) (k : Nat) : Us (w.drewN k) A n c l := h
theorem Us.nil (w : World) : Us w none 0 0 [] := Sl.nil w
theorem Us.bounds (h : Us w A n c l) : n ≤ c ∧ c ≤ 9223372036854775807 := ⟨Sl.le h, Nat.le_trans (Sl.cap h) (by decide)⟩
theorem Us.at_ (h : Us w A n c l) (hn : 0 < n) : ∃ b o, A = some ⟨b, o, none⟩ ∧ b < w.heap.size ∧ ∀ i, (hi : i < l.length) → w.cell? ⟨b, o + i, none⟩ = some (.int .u32 (l[i] : Int)) := by
  obtain ⟨b, o, hA, hlt, hc⟩ := Sl.at_ h hn
  exact ⟨b, o, hA, hlt, fun i hi => hc i _ (by rw [List.getElem?_map, List.getElem?_eq_getElem hi]; rfl)⟩
end

theorem rhright_any (p e m : Bool) (t : Int) (q ti ss : Nat) (A : Option Addr) (n c : Nat) (l : List Nat) (w : World) (hn : l.length = n) (hb : n ≤ 9223372036854775807) :
    Calls Try.prog 19 #[.agg #[.bool p, .bool e, .bool m, .int .i64 t, .int .u16 q, .int .u32 ti, .int .u32 ss, .slice A n c]] w (Says w (.bool (rightH ⟨p, e, m, t, q, ti, ss, l⟩))) := by
  by_cases h0 : 0 ≤ t
  · by_cases h1 : t < 128
    · by_cases h2 : n < 16
      · rw [show rightH ⟨p, e, m, t, q, ti, ss, l⟩ = true from decide_eq_true ⟨h0, h1, by show l.length < 16; omega⟩]
        clear hn
        go_enter Try.func19, Try.ntmps19
        go_wp2
        go_ret
        exact ⟨by first | rfl | (simp <;> omega), below1 w _⟩
      · rw [show rightH ⟨p, e, m, t, q, ti, ss, l⟩ = false from decide_eq_false (by show ¬ (0 ≤ t ∧ t < 128 ∧ l.length < 16); omega)]
        clear hn
        go_enter Try.func19, Try.ntmps19
        go_wp2
        go_ret
        exact ⟨by first | rfl | (simp <;> omega), below1 w _⟩
    · rw [show rightH ⟨p, e, m, t, q, ti, ss, l⟩ = false from decide_eq_false (by show ¬ (0 ≤ t ∧ t < 128 ∧ l.length < 16); omega)]
      clear hn
      go_enter Try.func19, Try.ntmps19
      go_wp2
      go_ret
      exact ⟨by first | rfl | (simp <;> omega), below1 w _⟩
  · rw [show rightH ⟨p, e, m, t, q, ti, ss, l⟩ = false from decide_eq_false (by show ¬ (0 ≤ t ∧ t < 128 ∧ l.length < 16); omega)]
    clear hn
    go_enter Try.func19, Try.ntmps19
    go_wp2
    go_ret
    exact ⟨by first | rfl | (simp <;> omega), below1 w _⟩

set_option maxHeartbeats 1000000 in
theorem rnumbers_any (A B : Option Addr) (n m c d : Nat) (l r : List Nat) (w : World) (hl : Us w A n c l) (hr : Us w B m d r) :
    Calls Try.prog 52 #[.slice A n c, .slice B m d] w fun e w' => e = .returned (.bool (decide (l = r))) ∧ ∃ q, w' = w.drewN q := by
  have hln := hl.len
  have hrn := hr.len
  obtain ⟨hl1, hl2⟩ := hl.bounds
  obtain ⟨hr1, hr2⟩ := hr.bounds
  by_cases hnm : n = m
  · subst hnm
    go_enter Try.func52, Try.ntmps52
    go_wp2_with fail
    go_loopw [5] (fun i W => (∃ k : Nat, k ≤ n ∧ i = .int .i64 k ∧ l.take k = r.take k) ∧ ∃ q, W = w.drewN q) (fun i _ => n - (intOf i).toNat)
    case atStart => exact ⟨⟨0, Nat.zero_le _, rfl, rfl⟩, 0, rfl⟩
    case round =>
      obtain ⟨⟨k, hk, rfl, hz⟩, q, rfl⟩ := hrel
      have Hz := Lib.hid hz
      clear hz
      by_cases hkn : k < n
      · obtain ⟨a, oa, rfl, _, hca⟩ := hl.at_ (by omega)
        obtain ⟨b, ob, rfl, _, hcb⟩ := hr.at_ (by omega)
        have ha := hca k (by omega)
        have hb := hcb k (by omega)
        have hlt := Lib.hid (List.take_succ_eq_append_getElem (l := l) (i := k) (by omega))
        have hrt := Lib.hid (List.take_succ_eq_append_getElem (l := r) (i := k) (by omega))
        have hne : Hid ((l[k]'(by omega)) ≠ (r[k]'(by omega)) → l ≠ r) := Lib.hid (fun h e => h (by subst e; rfl))
        generalize (l[k]'(by omega)) = x at *
        generalize (r[k]'(by omega)) = y at *
        clear hca hcb
        have hk0 : (0 : Int) ≤ k ∧ (k : Int) < n := by omega
        by_cases hxy : x = y
        · subst hxy
          go_wp2_with fail
          go_quiet (fail)
          go_wp2
          go_roundw
          case rel => exact ⟨⟨k + 1, by omega, by go_num, by rw [hlt.out, hrt.out, Hz.out]⟩, q + nq, rfl⟩
          case measure => simp [intOf]; omega
        · have hres : Hid (decide (l = r) = false) := Lib.hid (decide_eq_false (hne.out hxy))
          have c1 : ((x : Int) != (y : Int)) = true := by rw [bne_iff_ne]; omega
          go_wp2_with fail
          go_quiet (fail)
          go_wp2
          go_ret
          exact ⟨by rw [hres.out]; rfl, q + nq, by rw [World.drewN_drewN]⟩
      · have hres : Hid (decide (l = r) = true) := Lib.hid (decide_eq_true (by have := Hz.out; rwa [List.take_of_length_le (by omega), List.take_of_length_le (by omega)] at this))
        go_wp2
        go_ret
        exact ⟨by rw [hres.out]; rfl, q, rfl⟩
  · have hres : Hid (decide (l = r) = false) := Lib.hid (decide_eq_false (fun e => hnm (by rw [← hln, ← hrn, e])))
    have c1 : ((n : Int) != m) = true := by rw [bne_iff_ne]; omega
    clear hln hrn
    go_enter Try.func52, Try.ntmps52
    go_wp2
    go_ret
    exact ⟨by rw [hres.out]; rfl, 0, rfl⟩

set_option maxHeartbeats 2000000 in
theorem rsameH_any (p e m : Bool) (t : Int) (q ti ss : Nat) (A : Option Addr) (n c : Nat) (l : List Nat) (p' e' m' : Bool) (t' : Int) (q' ti' ss' : Nat) (A' : Option Addr) (n' c' : Nat) (l' : List Nat) (w : World) (hl : Us w A n c l) (hl' : Us w A' n' c' l') :
    Calls Try.prog 37 #[.agg #[.bool p, .bool e, .bool m, .int .i64 t, .int .u16 q, .int .u32 ti, .int .u32 ss, .slice A n c], .agg #[.bool p', .bool e', .bool m', .int .i64 t', .int .u16 q', .int .u32 ti', .int .u32 ss', .slice A' n' c']] w (Says w (.bool (decide ((⟨p, e, m, t, q, ti, ss, l⟩ : Hd) = ⟨p', e', m', t', q', ti', ss', l'⟩)))) := by
  have hN := Lib.hid (fun W h h' => rnumbers_any A A' n n' c c' l l' W h h')
  obtain ⟨b, hb⟩ : ∃ b, decide ((⟨p, e, m, t, q, ti, ss, l⟩ : Hd) = ⟨p', e', m', t', q', ti', ss', l'⟩) = b := ⟨_, rfl⟩
  have Hb := Lib.hid hb
  rw [hb]
  clear hb
  go_enter Try.func37, Try.ntmps37
  go_wp2_with fail
  all_goals first
    | (go_ret
       refine ⟨?_, below2 w _ _⟩
       show Ending.returned (.bool false) = _
       rw [← Hb.out, decide_eq_false]
       intro h
       rw [Hd.mk.injEq] at h
       obtain ⟨h1, h2, h3, h4, h5, h6, h7, h8⟩ := h
       first
         | omega
         | (exfalso; subst h1; contradiction)
         | (exfalso; subst h2; contradiction)
         | (exfalso; subst h3; contradiction))
    | skip
  have k1 : p = p' := by assumption
  have k2 : e = e' := by assumption
  have k3 : m = m' := by assumption
  have k4 : t = t' := by assumption
  have k5 : (q : Int) = (q' : Int) := by assumption
  have k6 : (ti : Int) = (ti' : Int) := by assumption
  have k7 : (ss : Int) = (ss' : Int) := by assumption
  refine (hN.out _ ((hl.alloc _).alloc _) ((hl'.alloc _).alloc _)).mono ?_
  rintro x w' ⟨rfl, z, rfl⟩
  go_wp2
  go_ret
  refine ⟨?_, below_drewN (below2 w _ _) z⟩
  rw [← Hb.out]
  show Ending.returned (.bool (decide (l = l'))) = _
  congr 2
  rw [decide_eq_decide, Hd.mk.injEq]
  constructor
  · intro h
    exact ⟨k1, k2, k3, k4, by omega, by omega, by omega, h⟩
  · intro h
    exact h.2.2.2.2.2.2.2

end Go.Proofs.Ytbalpndgpdbcbaa
