/-
  What the functions of package elem come to: the walkers, and what each answers; which one walks through a profile, through elements; its profile.
-/
import Derived.Test.YtpkbikimpjmkgaaElemC
import Derived.Test.YtpkbikimpjmkgaaMapS
import Derived.Lib.SliceRun
import Derived.Laws.BitsAllLaws
namespace Go.Proofs.Ytpkbikimpjmkgaa
open Go.RowKit
set_option linter.unusedVariables false
set_option linter.unusedSimpArgs false

/-- The walkers, as values of their interface. -/
abbrev narrowW : Value := .iface 64 (.agg #[])
abbrev wideW : Value := .iface 63 (.agg #[])
theorem andNot15 (p : Nat) (h : p < 65536) : bits .andNot .u16 (p : Int) 15 = ((16 * (p / 16) : Nat) : Int) := by
  rw [show (15 : Int) = ((15 : Nat) : Int) from rfl, u16_andNot_nat p 15 h (by omega)]
  congr 1
  have h1 : (p &&& (65535 - 15)) / 16 = p / 16 := by
    rw [← Nat.shiftRight_eq_div_pow _ 4, ← Nat.shiftRight_eq_div_pow _ 4, Nat.shiftRight_and_distrib]
    exact Nat.and_two_pow_sub_one_of_lt_two_pow (n := 12) (by rw [Nat.shiftRight_eq_div_pow]; omega)
  have h2 : (p &&& (65535 - 15)) % 16 = 0 := by
    rw [Nat.and_mod_two_pow (n := 4)]
    exact Nat.and_zero _
  omega
theorem walkerOf_any (p : Nat) (w : World) (hp : p < 65536) :
    Calls Try.prog 26 #[.int .u16 (p : Int)] w fun e w' => w = w' ∧ e = .returned (.tuple (if p = 48862 then #[narrowW, .bool true] else if p / 16 = 256 then #[wideW, .bool true] else #[.nilIface, .bool false])) := by
  have hb := andNot15 p hp
  by_cases h1 : p = 48862
  · subst h1
    rw [if_pos rfl]
    clear hb
    go_enter Try.func26, Try.ntmps26
    go_wp2_with fail
    go_ret2
    exact ⟨rfl, rfl⟩
  · rw [if_neg h1]
    have g1 : ((p : Int) == 48862) = false := by rw [beq_eq_false_iff_ne]; omega
    by_cases h2 : p / 16 = 256
    · rw [if_pos h2]
      rw [h2] at hb
      have g2 : (((16 * 256 : Nat) : Int) == 4096) = true := rfl
      clear h2 h1
      go_enter Try.func26, Try.ntmps26
      go_wp2_with fail
      go_ret2
      exact ⟨rfl, rfl⟩
    · rw [if_neg h2]
      have g2 : (((16 * (p / 16) : Nat) : Int) == 4096) = false := by rw [beq_eq_false_iff_ne]; omega
      generalize ((16 * (p / 16) : Nat) : Int) = q at *
      clear h2 h1
      go_enter Try.func26, Try.ntmps26
      go_wp2_with fail
      go_ret2
      exact ⟨rfl, rfl⟩
theorem assert_narrow (w : World) : (Instr.typeAssert narrowW 51 64 true).run Try.prog w = .ok (.tuple #[.agg #[], .bool true]) w := by kernel_rfl
theorem assert_wide (w : World) : (Instr.typeAssert wideW 51 64 true).run Try.prog w = .ok (.tuple #[.agg #[], .bool false]) w := by kernel_rfl
theorem profileOf_narrow (w : World) : Calls Try.prog 22 #[narrowW] w (Says w (.int .u16 48862)) := by
  have h1 := assert_narrow
  go_enter Try.func22, Try.ntmps22
  go_wp2_with fail
  go_ret
  exact ⟨rfl, below1 _ _⟩
theorem profileOf_wide (w : World) : Calls Try.prog 22 #[wideW] w (Says w (.int .u16 4096)) := by
  have h1 := assert_wide
  go_enter Try.func22, Try.ntmps22
  go_wp2_with fail
  go_ret
  exact ⟨rfl, below1 _ _⟩

theorem ends_narrow (x : Nat) (w : World) (hx : x < 256) (b : Bool) (hb : decide (x / 16 = 0 ∨ x / 16 = 15) = b) : Calls Try.prog 48 #[.agg #[], .int .u8 (x : Int)] w (Says w (.bool b)) := by
  have hw : ((x : Int) / 16) = ((x / 16 : Nat) : Int) := rfl
  have hc : (x / 16 = 0 ∧ b = true) ∨ (((x / 16 : Nat) : Int) == 0) = false ∧ (((x / 16 : Nat) : Int) == 15) = b := by
    subst hb
    by_cases h : x / 16 = 0
    · left; simp [h]
    · right
      refine ⟨by rw [beq_eq_false_iff_ne]; omega, ?_⟩
      rw [Bool.eq_iff_iff]
      simp only [decide_eq_true_eq, beq_iff_eq]
      omega
  clear hb
  generalize x / 16 = q at *
  rcases hc with ⟨rfl, rfl⟩ | ⟨g1, g2⟩
  · go_enter Try.func48, Try.ntmps48
    go_wp2_with fail
    go_ret
    exact ⟨rfl, below1 _ _⟩
  · go_enter Try.func48, Try.ntmps48
    go_wp2_with fail
    go_ret
    exact ⟨rfl, below1 _ _⟩
theorem ends_wide (x : Nat) (w : World) : Calls Try.prog 45 #[.agg #[], .int .u8 (x : Int)] w (Says w (.bool false)) := by
  go_enter Try.func45, Try.ntmps45
  go_wp2_with fail
  go_ret
  exact ⟨rfl, below1 _ _⟩
theorem own_bytes (w : World) (base : Nat) (e : TypeId) (s : List UInt8) (hb : base ≤ w.heap.size) (hm : s.length ≤ maxLen) : Own (w.alloc (.cells (s.map byteV).toArray e)) base e (some ⟨w.heap.size, 0, none⟩) s.length s.length s := by
  have := World.ownsRow_lit (base := base) (e := e) (size := 1) w (s.map byteV).toArray s.length hb hm (by simp)
  simpa [Own] using this
theorem lead_narrow (id n : Nat) (A : Option Addr) (c : Nat) (w : World) (h1 : 1 ≤ id) (h2 : id ≤ 14) (h3 : 1 ≤ n) (h4 : n ≤ 16) :
    Calls Try.prog 49 #[.agg #[], .agg #[.int .i64 (id : Int), .slice A n c]] w (GivesB w 5 [UInt8.ofNat (16 * id + n - 1)]) := by
  have g1 : IntKind.i64.wrap ((id : Int) * 16) = (id : Int) * 16 := IntWalk.i64_in _ (by omega)
  have g2 : IntKind.i64.wrap ((id : Int) * 16 + n) = (id : Int) * 16 + n := IntWalk.i64_in _ (by omega)
  have g3 : IntKind.i64.wrap ((id : Int) * 16 + n - 1) = (id : Int) * 16 + n - 1 := IntWalk.i64_in _ (by omega)
  have hv : byteV (UInt8.ofNat (16 * id + n - 1)) = .int .u8 ((id : Int) * 16 + n - 1) := by
    rw [byteV_ofNat]
    congr 1
    omega
  go_enter Try.func49, Try.ntmps49
  go_wp2_with fail
  go_ret
  refine ⟨_, _, rfl, ?_, below3 _ _ _ _⟩
  have := own_bytes ((w.alloc (.cells #[] 64)).alloc (.cells #[.int .i64 (id : Int), .slice A n c] 49)) w.heap.size 5 [UInt8.ofNat (16 * id + n - 1)] (by simp; omega) (by simp [maxLen])
  simpa [hv] using this
theorem lead_wide (id n : Nat) (A : Option Addr) (c : Nat) (w : World) (h2 : id ≤ 255) (h4 : n ≤ 255) :
    Calls Try.prog 46 #[.agg #[], .agg #[.int .i64 (id : Int), .slice A n c]] w (GivesB w 5 [UInt8.ofNat id, UInt8.ofNat n]) := by
  have hv : byteV (UInt8.ofNat id) = .int .u8 (id : Int) := by
    rw [byteV_ofNat]
    congr 1
    omega
  have hv2 : byteV (UInt8.ofNat n) = .int .u8 (n : Int) := by
    rw [byteV_ofNat]
    congr 1
    omega
  go_enter Try.func46, Try.ntmps46
  go_wp2_with fail
  go_ret
  refine ⟨_, _, rfl, ?_, below3 _ _ _ _⟩
  have := own_bytes ((w.alloc (.cells #[] 63)).alloc (.cells #[.int .i64 (id : Int), .slice A n c] 49)) w.heap.size 5 [UInt8.ofNat id, UInt8.ofNat n] (by simp; omega) (by simp [maxLen])
  simpa [hv, hv2] using this
/-- What a walker answers of the element at a byte: its spot. -/
abbrev spV (id a s : Int) : Value := .agg #[.int .i64 id, .int .i64 a, .int .i64 s]
theorem spot_narrow (A : Option Addr) (n c : Nat) (s : List UInt8) (a x : Nat) (w : World) (hs : Bs w A n c s) (ha : a < n) (hx : x = (s.getD a 0).toNat) (hn : n ≤ 1000000) :
    Calls Try.prog 50 #[.agg #[], .slice A n c, .int .i64 (a : Int)] w (Says w (spV ((x / 16 : Nat) : Int) ((a : Int) + 1) (((x % 16 : Nat) : Int) + 1))) := by
  obtain ⟨b, o, rfl, hlt, hc⟩ := hs.at_ (by omega)
  have q0 := hc a ha
  rw [← hx] at q0
  have hxb := byte_getD_lt s a
  rw [← hx] at hxb
  have hcc := hs.le
  have hcm := hs.cap
  unfold maxLen at hcm
  clear hx hc hs
  have hd : ((x : Int) / 16) = ((x / 16 : Nat) : Int) := rfl
  have hm : bits .and .u8 (x : Int) 15 = ((x % 16 : Nat) : Int) := by
    rw [show (15 : Int) = ((15 : Nat) : Int) from rfl, u8_and_nat x 15 hxb (by omega)]
    congr 1
    exact Nat.and_two_pow_sub_one_eq_mod x 4
  have h16 : x / 16 < 16 := by omega
  have m16 : x % 16 < 16 := by omega
  have p0 := fun o1 o2 => (World.cell?_alloc_lt (w.alloc o1) o2 ⟨b, o + a, none⟩ (by simp; omega)).trans ((World.cell?_alloc_lt w o1 ⟨b, o + a, none⟩ hlt).trans q0)
  generalize x / 16 = d at *
  generalize x % 16 = r at *
  go_enter Try.func50, Try.ntmps50
  go_wp2_with fail
  refine bodyPost_ret (v := spV (d : Int) ((a : Int) + 1) ((r : Int) + 1)) (by simp [results, Try.results50, go_sem, *]) rfl ⟨rfl, ?_⟩
  exact below2 _ _ _
theorem spot_wide (A : Option Addr) (n c : Nat) (s : List UInt8) (a x y : Nat) (w : World) (hs : Bs w A n c s) (ha : a < n) (hx : x = (s.getD a 0).toNat) (hy : y = if a + 1 < n then (s.getD (a + 1) 0).toNat else 0) (hn : n ≤ 1000000) :
    Calls Try.prog 47 #[.agg #[], .slice A n c, .int .i64 (a : Int)] w (Says w (spV (x : Int) ((a : Int) + 2) (y : Int))) := by
  obtain ⟨b, o, rfl, hlt, hc⟩ := hs.at_ (by omega)
  have q0 := hc a ha
  rw [← hx] at q0
  have hxb := byte_getD_lt s a
  rw [← hx] at hxb
  have hcc := hs.le
  have hcm := hs.cap
  unfold maxLen at hcm
  have p0 := fun o1 o2 => (World.cell?_alloc_lt (w.alloc o1) o2 ⟨b, o + a, none⟩ (by simp; omega)).trans ((World.cell?_alloc_lt w o1 ⟨b, o + a, none⟩ hlt).trans q0)
  by_cases h1 : a + 1 < n
  · have q1 := hc (a + 1) h1
    rw [if_pos h1] at hy
    rw [← hy] at q1
    have hyb := byte_getD_lt s (a + 1)
    rw [← hy] at hyb
    have p1 := fun o1 o2 o3 => (World.cell?_alloc_lt ((w.alloc o1).alloc o2) o3 ⟨b, o + (a + 1), none⟩ (by simp; omega)).trans ((World.cell?_alloc_lt (w.alloc o1) o2 ⟨b, o + (a + 1), none⟩ (by simp; omega)).trans ((World.cell?_alloc_lt w o1 ⟨b, o + (a + 1), none⟩ hlt).trans q1))
    clear hx hy hc hs
    have h2 : (a : Int) + 1 < n := by omega
    go_enter Try.func47, Try.ntmps47
    go_wp2_with fail
    refine bodyPost_ret (v := spV (x : Int) ((a : Int) + 2) (y : Int)) (by simp [results, Try.results47, go_sem, *]) rfl ⟨rfl, ?_⟩
    exact below3 _ _ _ _
  · rw [if_neg h1] at hy
    subst hy
    clear hx hc hs
    have h2 : ¬ (a : Int) + 1 < n := by omega
    go_enter Try.func47, Try.ntmps47
    go_wp2_with fail
    refine bodyPost_ret (v := spV (x : Int) ((a : Int) + 2) 0) (by simp [results, Try.results47, go_sem, *]) rfl ⟨rfl, ?_⟩
    exact below3 _ _ _ _

end Go.Proofs.Ytpkbikimpjmkgaa
