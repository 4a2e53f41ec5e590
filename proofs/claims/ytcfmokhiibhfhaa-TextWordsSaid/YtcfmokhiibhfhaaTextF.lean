/-
  Package text: what a stroke begins in a quoted form.
-/
import Derived.Test.YtcfmokhiibhfhaaTextE
import Derived.Test.YtcfmokhiibhfhaaTextU
namespace Go.Proofs.Ytcfmokhiibhfhaa
open Go.RowKit

set_option maxRecDepth 100000 in
theorem idx_fin : ∀ c : Fin 256, Lib.indexByte [48, 49, 50, 51, 52, 53, 54, 55, 56, 57, 97, 98, 99, 100, 101, 102] c.1.toUInt8 = if hexV c.1 ≤ 15 then (hexV c.1 : Int) else -1 := by decide
theorem idx_any (x : UInt8) (v : Int) (w : World) (h : (if hexV x.toNat ≤ 15 then (hexV x.toNat : Int) else -1) = v) :
    Calls Try.prog 44 #[.string ⟨#[48, 49, 50, 51, 52, 53, 54, 55, 56, 57, 97, 98, 99, 100, 101, 102]⟩, .int .u8 x.toNat] w fun e w' => e = .returned (.int .i64 v) ∧ w' = w := by
  subst h
  refine (Try.strings_IndexByte _ _ _).mono ?_
  rintro e w' ⟨rfl, rfl⟩
  exact ⟨by rw [← idx_fin ⟨x.toNat, x.toNat_lt⟩]; rfl, rfl⟩
set_option maxRecDepth 100000 in
theorem or_fin : ∀ a b : Fin 16, bits .or .i64 ((a.1 : Int) * 16) (b.1 : Int) % 256 = ((16 * a.1 + b.1 : Nat) : Int) := by decide
theorem or_hex {a b : Nat} (ha : a ≤ 15) (hb : b ≤ 15) : bits .or .i64 ((a : Int) * 16) (b : Int) % 256 = ((16 * a + b : Nat) : Int) := or_fin ⟨a, by omega⟩ ⟨b, by omega⟩

/-- What stands behind a stroke: a byte, and by how many bytes it is told; by none: nothing is told. -/
def escE (R : List UInt8) : Nat × Nat :=
  if R = [] then (0, 0) else if bt R 0 = 34 ∨ bt R 0 = 92 then (bt R 0, 1)
  else if R.length < 2 then (0, 0) else if hexV (bt R 0) ≤ 15 ∧ hexV (bt R 1) ≤ 15 then (16 * hexV (bt R 0) + hexV (bt R 1), 2) else (0, 0)

set_option maxHeartbeats 1000000 in
theorem readEscape_any (s : ByteArray) (x n : Nat) (w : World) (hs : s.size ≤ 1000000) (hx : escE s.data.toList = (x, n)) :
    Calls Try.prog 38 #[.string s] w fun e w' => e = .returned (.tuple #[.int .u8 x, .int .i64 n]) ∧ w' = w := by
  have hsl := size_list s
  unfold escE at hx
  by_cases h0 : s.size = 0
  · have hn : s.data.toList = [] := List.eq_nil_of_length_eq_zero (by omega)
    rw [if_pos hn] at hx
    injection hx with e1 e2
    subst e1 e2
    have c0 : (s.toList == []) = true := by rw [Go.ByteArray.toList_eq, hn]; rfl
    clear hn hsl
    go_enter Try.func38, Try.ntmps38
    go_wp2_with fail
    go_ret2
    exact ⟨rfl, rfl⟩
  · have hn : s.data.toList ≠ [] := fun e => by rw [e, List.length_nil] at hsl; omega
    have c0 : (s.toList == []) = false := by rw [Go.ByteArray.toList_eq, beq_eq_false_iff_ne]; exact hn
    have h1 : 0 < s.size := by omega
    rw [if_neg hn, bt_get s 0 h1, hsl] at hx
    clear hn
    by_cases h34 : s[0].toNat = 34
    · rw [if_pos (.inl h34), h34] at hx
      injection hx with e1 e2
      subst e1 e2
      have c1 : ((s[0].toNat : Int) == 34) = true := by rw [beq_iff_eq]; omega
      go_enter Try.func38, Try.ntmps38
      go_wp2_with fail
      go_ret2
      exact ⟨rfl, rfl⟩
    · have c1 : ((s[0].toNat : Int) == 34) = false := by rw [beq_eq_false_iff_ne]; omega
      by_cases h92 : s[0].toNat = 92
      · rw [if_pos (.inr h92), h92] at hx
        injection hx with e1 e2
        subst e1 e2
        have c2 : ((s[0].toNat : Int) == 92) = true := by rw [beq_iff_eq]; omega
        clear h34
        go_enter Try.func38, Try.ntmps38
        go_wp2_with fail
        go_ret2
        exact ⟨rfl, rfl⟩
      · have c2 : ((s[0].toNat : Int) == 92) = false := by rw [beq_eq_false_iff_ne]; omega
        rw [if_neg (by omega)] at hx
        clear h34 h92
        by_cases h2 : s.size < 2
        · rw [if_pos h2] at hx
          injection hx with e1 e2
          subst e1 e2
          have c3 : decide ((s.size : Int) < 2) = true := by simp; omega
          clear hsl h2
          go_enter Try.func38, Try.ntmps38
          go_wp2_with fail
          go_ret2
          exact ⟨rfl, rfl⟩
        · have c3 : decide ((s.size : Int) < 2) = false := by simp; omega
          have h2' : 1 < s.size := by omega
          rw [if_neg h2, bt_get s 1 h2'] at hx
          clear h2 hsl h0
          by_cases h3 : hexV s[0].toNat ≤ 15
          · have R0 := Lib.hid (fun w => idx_any s[0] _ w (if_pos h3))
            by_cases h4 : hexV s[1].toNat ≤ 15
            · have R1 := Lib.hid (fun w => idx_any s[1] _ w (if_pos h4))
              rw [if_pos ⟨h3, h4⟩] at hx
              injection hx with e1 e2
              subst e1 e2
              have hor := Lib.hid (or_hex h3 h4)
              generalize hexV s[0].toNat = a at *
              generalize hexV s[1].toNat = b at *
              have hw : wrap64 ((a : Int) * 16) = (a : Int) * 16 := by unfold wrap64; omega
              go_enter Try.func38, Try.ntmps38
              go_wp2_with fail
              refine (R0.out _).mono ?_
              rintro e w' ⟨rfl, rfl⟩
              go_wp2_with fail
              refine (R1.out _).mono ?_
              rintro e w' ⟨rfl, rfl⟩
              go_wp2_with fail
              go_ret2
              exact ⟨by rw [← hor.out]; rfl, rfl⟩
            · have R1 := Lib.hid (fun w => idx_any s[1] _ w (if_neg h4))
              rw [if_neg (fun h => h4 h.2)] at hx
              injection hx with e1 e2
              subst e1 e2
              clear h4
              generalize hexV s[0].toNat = a at *
              go_enter Try.func38, Try.ntmps38
              go_wp2_with fail
              refine (R0.out _).mono ?_
              rintro e w' ⟨rfl, rfl⟩
              go_wp2_with fail
              refine (R1.out _).mono ?_
              rintro e w' ⟨rfl, rfl⟩
              go_wp2_with fail
              go_ret2
              exact ⟨rfl, rfl⟩
          · have R0 := Lib.hid (fun w => idx_any s[0] _ w (if_neg h3))
            have R1 := Lib.hid (fun w => idx_any s[1] _ w rfl)
            rw [if_neg (fun h => h3 h.1)] at hx
            injection hx with e1 e2
            subst e1 e2
            clear h3
            generalize (if hexV s[1].toNat ≤ 15 then (hexV s[1].toNat : Int) else -1) = b at *
            go_enter Try.func38, Try.ntmps38
            go_wp2_with fail
            refine (R0.out _).mono ?_
            rintro e w' ⟨rfl, rfl⟩
            go_wp2_with fail
            refine (R1.out _).mono ?_
            rintro e w' ⟨rfl, rfl⟩
            go_wp2_with fail
            go_ret2
            exact ⟨rfl, rfl⟩

end Go.Proofs.Ytcfmokhiibhfhaa
