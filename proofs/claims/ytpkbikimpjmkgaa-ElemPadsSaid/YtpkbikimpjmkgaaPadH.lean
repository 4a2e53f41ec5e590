/-
  What the functions of package pad come to, as later layers call them: missing, Fill. (Cut out of the texts on layer 3.)
-/
import Derived.Test.YtpkbikimpjmkgaaBase
namespace Go.Proofs.Ytpkbikimpjmkgaa
open Go.RowKit

theorem missing_any (n : Nat) (w : World) (hn : n ≤ 9223372036854775807) :
    Calls Try.prog 29 #[.int .i64 n] w fun e w' => e = .returned (.int .i64 (miss n)) ∧ w = w' := by
  have h0 : Int.tmod (n : Int) 4 = ((n % 4 : Nat) : Int) := by rw [Int.tmod_eq_emod_of_nonneg (by omega)]; omega
  have hr : n % 4 < 4 := Nat.mod_lt _ (by omega)
  unfold miss
  generalize n % 4 = r at *
  have h1 : Int.tmod (4 - (r : Int)) 4 = (((4 - r) % 4 : Nat) : Int) := by rw [Int.tmod_eq_emod_of_nonneg (by omega)]; omega
  go_enter Try.func29, Try.ntmps29
  go_wp2
  go_ret
  exact ⟨rfl, rfl⟩

theorem fill_any (A : Option Addr) (l c : Nat) (s : List UInt8) (w : World) (hs : Bs w A l c s) (hl : l ≤ 140737488355000) :
    Calls Try.prog 23 #[.slice A l c] w fun e w' => GivesB w 5 (fillB s) e w' := by
  have hlen := hs.len
  have hm := miss_lt l
  have M := Lib.hid (fun w => missing_any l w (by omega))
  have G := Lib.hid (fun w hs => grown_any A l c s (miss l) w hs (by omega))
  unfold fillB
  rw [hlen]
  have hgl : (grownB s (miss l)).length = l + miss l := by rw [grownB_length, hlen]
  generalize grownB s (miss l) = r at *
  generalize miss l = m at *
  have Hgl := Lib.hid hgl
  clear hgl hlen
  go_enter Try.func23, Try.ntmps23
  go_wp2_with fail
  refine (M.out _).mono ?_
  rintro e w' ⟨rfl, rfl⟩
  go_wp2_with fail
  refine (G.out _ hs).mono ?_
  rintro e w1 ⟨A1, c1, rfl, hown1, hb1⟩
  rw [Hgl.out] at hown1 ⊢
  go_wp2
  go_ret
  exact ⟨A1, c1, by rw [Hgl.out]; rfl, by rw [Hgl.out]; exact hown1, hb1⟩

end Go.Proofs.Ytpkbikimpjmkgaa
