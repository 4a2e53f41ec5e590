/-
  What the document's own answers for layer 7 come to: Owner, Find, Same.
-/
import Derived.Test.YtogjkkhboaflcaaPlaceM
import Derived.Test.YtogjkkhboaflcaaBase
import Derived.Deep.QuietTactic
import Derived.Laws.StructEq
namespace Go.Proofs.Ytogjkkhboaflcaa
open Go.RowKit
set_option linter.unusedVariables false
set_option linter.unusedSimpArgs false

set_option maxHeartbeats 1000000 in
theorem rowner_any (A : Option Addr) (n c : Nat) (l : List Pl) (x : Int) (w : World) (hl : Pls w A n c l) (hf : ∀ p ∈ l, fitsPl p) (hx : fitsI x) :
    Calls Try.prog 13 #[.slice A n c, .int .i64 x] w (Says w (.int .i64 (ownerP l x))) := by
  have hln := hl.len
  obtain ⟨hb1, hb2⟩ := hl.bounds
  obtain ⟨z, hz⟩ : ∃ z, ownerP l x = z := ⟨_, rfl⟩
  rw [hz]
  unfold fitsI at hx
  go_enter Try.func13, Try.ntmps13
  go_wp2_with fail
  go_loopw [5] (fun i W => ∃ k : Nat, k ≤ n ∧ i = .int .i64 k ∧ Hid (ownerP (l.drop k) x = z) ∧ Below w.heap.size w W) (fun i _ => n - (intOf i).toNat)
  case atStart => exact ⟨0, Nat.zero_le _, rfl, Lib.hid (by rw [List.drop_zero]; exact hz), Below.refl _ _⟩
  case round =>
    obtain ⟨k, hk, rfl, hzk, hB⟩ := hrel
    by_cases hkn : k < n
    · obtain ⟨b, o, rfl, hlt, hc⟩ := (hl.below hB).at_ (by omega)
      have hck := hc k (by omega)
      have hfk := hf _ (List.getElem_mem (show k < l.length by omega))
      have hat := Lib.hid (ownerP_at (show k < l.length by omega) x)
      have hkn2 : (k : Int) < n := by omega
      unfold inPl at hat
      generalize l[k] = p at *
      obtain ⟨f, a, s⟩ := p
      (try simp only at hck)
      (try simp only at hat)
      obtain ⟨f0, f1, f2⟩ := hfk
      unfold fitsI at f0 f1 f2
      simp only at f0 f1 f2
      clear hc
      have hBg := hB.alloc hB.size (.cells #[.int .i64 f, .int .i64 a, .int .i64 s] 32)
      have hin : Hid ((a ≤ x ∧ x - a < s) → z = f) := Lib.hid (fun h => by rw [← hzk.out, hat.out, if_pos (decide_eq_true h)])
      have hout : Hid (¬ (a ≤ x ∧ x - a < s) → ownerP (l.drop (k + 1)) x = z) := Lib.hid (fun h => by rw [← hzk.out, hat.out, if_neg (by simpa using h)])
      clear hat hzk
      by_cases h1 : a ≤ x
      · by_cases h2 : 0 < s
        · by_cases h3 : a < 0 ∧ 0 ≤ x
          · obtain ⟨h3, h4⟩ := h3
            have g1 : IntKind.i64.wrap (x - s) = x - s := IntWalk.i64_in _ (by omega)
            by_cases h5 : x < s
            · by_cases h6 : x - s < a
              · have hr := hin.out (by omega)
                subst hr
                go_wp2_with fail
                go_ret
                exact ⟨rfl, hBg⟩
              · have hr := Lib.hid (hout.out (by omega))
                clear hin hout
                go_wp2_with fail
                go_roundw
                case rel => exact ⟨k + 1, by omega, by go_num, hr, hBg⟩
                case measure => simp [intOf]; omega
            · have hr := Lib.hid (hout.out (by omega))
              clear hin hout
              go_wp2_with fail
              go_roundw
              case rel => exact ⟨k + 1, by omega, by go_num, hr, hBg⟩
              case measure => simp [intOf]; omega
          · have g1 : IntKind.i64.wrap (x - a) = x - a := IntWalk.i64_in _ (by omega)
            have g3 : a < 0 → ¬ (0 ≤ x) := fun h h' => h3 ⟨h, h'⟩
            clear h3
            by_cases h4 : a < 0
            · have h5 : ¬ 0 ≤ x := g3 h4
              clear g3
              by_cases h6 : x - a < s
              · have hr := hin.out (by omega)
                subst hr
                go_wp2_with fail
                go_ret
                exact ⟨rfl, hBg⟩
              · have hr := Lib.hid (hout.out (by omega))
                clear hin hout
                go_wp2_with fail
                go_roundw
                case rel => exact ⟨k + 1, by omega, by go_num, hr, hBg⟩
                case measure => simp [intOf]; omega
            · clear g3
              by_cases h6 : x - a < s
              · have hr := hin.out (by omega)
                subst hr
                go_wp2_with fail
                go_ret
                exact ⟨rfl, hBg⟩
              · have hr := Lib.hid (hout.out (by omega))
                clear hin hout
                go_wp2_with fail
                go_roundw
                case rel => exact ⟨k + 1, by omega, by go_num, hr, hBg⟩
                case measure => simp [intOf]; omega
        · have hr := Lib.hid (hout.out (by omega))
          clear hin hout
          go_wp2_with fail
          go_roundw
          case rel => exact ⟨k + 1, by omega, by go_num, hr, hBg⟩
          case measure => simp [intOf]; omega
      · have hr := Lib.hid (hout.out (by omega))
        clear hin hout
        go_wp2_with fail
        go_roundw
        case rel => exact ⟨k + 1, by omega, by go_num, hr, hBg⟩
        case measure => simp [intOf]; omega
    · obtain rfl : k = n := by omega
      have hr : Hid (z = -1) := Lib.hid (by rw [← hzk.out, List.drop_of_length_le (by omega)]; rfl)
      have hkn2 : ¬ (k : Int) < k := by omega
      go_wp2
      go_ret
      exact ⟨by rw [hr.out]; rfl, hB⟩

theorem eqPl (p q : Pl) (W : World) : (binOp .eql 32 (plV p) (plV q)).run Try.prog W = .ok (.bool (decide (p = q))) W := by
  have hS : Try.prog.underlying 32 = some (.struct (Try.prog.fieldsOf 32)) := by kernel_rfl
  have hp : Try.prog.stoodInHeld 32 = false := by kernel_rfl
  obtain ⟨f, a, s⟩ := p
  obtain ⟨f', a', s'⟩ := q
  rw [run_eql_struct, show (10000 : Nat) = 9999 + 1 from rfl, run_equalIn_agg W 9999 _ _ _ hS hp]
  simp only [Program.fieldsOf, Try.underlying32]
  go_simp
  by_cases h1 : f = f' <;> by_cases h2 : a = a' <;> by_cases h3 : s = s' <;> simp [h1, h2, h3]
theorem neqPl (p q : Pl) (W : World) : (binOp .neq 32 (plV p) (plV q)).run Try.prog W = .ok (.bool (!decide (p = q))) W := by
  have h := eqPl p q W
  rw [run_eql_struct] at h
  rw [run_neq_struct]
  cases hr : (Op.equalIn 10000 32 (plV p) (plV q)).run Try.prog W with
  | ok b w' =>
    rw [hr] at h
    simp only [Result.andThen_ok, Result.ok.injEq, Value.bool.injEq] at h ⊢
    obtain ⟨rfl, rfl⟩ := h
    exact ⟨rfl, rfl⟩
  | _ => rw [hr] at h; simp [Result.andThen] at h
def SameI (n : Nat) (a b : List Pl) (i : Value) : Prop := ∃ k : Nat, k ≤ n ∧ i = .int .i64 k ∧ a.take k = b.take k
set_option maxHeartbeats 1000000 in
theorem rsamePl_any (A : Option Addr) (n c : Nat) (a : List Pl) (B : Option Addr) (m d : Nat) (b : List Pl) (w : World) (ha : Pls w A n c a) (hb : Pls w B m d b) :
    Calls Try.prog 9 #[.slice A n c, .slice B m d] w (Says w (.bool (decide (a = b)))) := by
  have ha1 := ha.len
  have hb1 := hb.len
  obtain ⟨p1, p2⟩ := ha.bounds
  obtain ⟨q1, q2⟩ := hb.bounds
  obtain ⟨z, hz⟩ : ∃ z, decide (a = b) = z := ⟨_, rfl⟩
  rw [hz]
  by_cases hnm : n = m
  · subst hnm
    go_enter Try.func9, Try.ntmps9
    go_wp2_with fail
    go_loopw [5] (fun i W => SameI n a b i ∧ Below w.heap.size w W) (fun i _ => n - (intOf i).toNat)
    case atStart => exact ⟨⟨0, Nat.zero_le _, rfl, by simp⟩, Below.refl _ _⟩
    case round =>
      obtain ⟨⟨k, hk, rfl, htk⟩, hB⟩ := hrel
      by_cases hkn : k < n
      · obtain ⟨g1, o1, rfl, hlt1, hc1⟩ := (ha.below hB).at_ (by omega)
        obtain ⟨g2, o2, rfl, hlt2, hc2⟩ := (hb.below hB).at_ (by omega)
        have hk1 := hc1 k (by omega)
        have hk2 := hc2 k (by omega)
        have ht1 := Lib.hid (List.take_succ_eq_append_getElem (l := a) (i := k) (by omega))
        have ht2 := Lib.hid (List.take_succ_eq_append_getElem (l := b) (i := k) (by omega))
        have Z : Hid (a = b → a[k]'(by omega) = b[k]'(by omega)) := Lib.hid (fun e => by subst e; rfl)
        have T := Lib.hid htk
        have hkn2 : (k : Int) < n := by omega
        clear hc1 hc2 htk
        generalize a[k]'(by omega) = x at *
        generalize b[k]'(by omega) = y at *
        obtain ⟨f, s, t⟩ := x
        obtain ⟨f', s', t'⟩ := y
        simp only at hk1 hk2
        by_cases hxy : f = f' ∧ s = s' ∧ t = t'
        · obtain ⟨e1, e2, e3⟩ := hxy
          subst e1 e2 e3
          clear Z
          go_wp2_with fail
          go_quiet (fail)
          go_wp2_with fail
          go_roundw
          case rel => exact ⟨⟨k + 1, by omega, by go_num, by rw [ht1.out, ht2.out, T.out]⟩, below_drewN hB _⟩
          case measure => simp [intOf]; omega
        · have hz2 : Hid (z = false) := Lib.hid (by rw [← hz]; exact decide_eq_false (fun e => by have := Z.out e; simp at this; exact hxy this))
          have hne : ∀ W, (binOp .neq 32 (.agg #[.int .i64 f, .int .i64 s, .int .i64 t]) (.agg #[.int .i64 f', .int .i64 s', .int .i64 t'])).run Try.prog W = .ok (.bool true) W := fun W => by
            have := neqPl ⟨f, s, t⟩ ⟨f', s', t'⟩ W
            rwa [decide_eq_false (fun e => by simp at e; exact hxy e)] at this
          clear hxy Z
          go_wp2_with fail
          go_quiet (fail)
          go_wp2_with fail
          go_ret
          exact ⟨by rw [hz2.out]; rfl, below_drewN hB _⟩
      · obtain rfl : k = n := by omega
        have hab : a = b := by rwa [List.take_of_length_le (by omega), List.take_of_length_le (by omega)] at htk
        have hr : Hid (z = true) := Lib.hid (by rw [← hz]; exact decide_eq_true hab)
        have hkn2 : ¬ (k : Int) < k := by omega
        clear hab htk hz
        go_wp2
        go_ret
        exact ⟨by rw [hr.out]; rfl, hB⟩
  · have hr : Hid (z = false) := Lib.hid (by rw [← hz]; exact decide_eq_false (fun e => hnm (by rw [← ha1, ← hb1, e])))
    have hne : ((n : Int) != m) = true := by rw [bne_iff_ne]; omega
    clear hz
    go_enter Try.func9, Try.ntmps9
    go_wp2
    go_ret
    exact ⟨by rw [hr.out]; rfl, Below.refl _ _⟩

end Go.Proofs.Ytogjkkhboaflcaa
