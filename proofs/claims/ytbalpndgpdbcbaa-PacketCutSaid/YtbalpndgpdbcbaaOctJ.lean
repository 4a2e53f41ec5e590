/-
  What octet.Join comes to of one slice, of two, of three, that were just written out. And octet.Put of a number that fits.
-/
import Derived.Test.YtbalpndgpdbcbaaOctC
import Derived.Test.YtbalpndgpdbcbaaOctB
namespace Go.Proofs.Ytbalpndgpdbcbaa
open Go.RowKit

/-- What a call hands back: new bytes, m of them. -/
def GivesN (w : World) (m : Nat) (s : List UInt8) (x : Ending) (w' : World) : Prop :=
  ∃ A c, x = .returned (.slice A m c) ∧ Own w' w.heap.size 5 A m c s ∧ Below w.heap.size w w'
theorem join_parts (ps : List Part) (s : List UInt8) (w : World) (vs : Array Value) (k m : Nat) (h : ∀ p ∈ ps, Bs w p.A p.n p.c p.s) (hs : joined ps = s) (hv : vs = (ps.map Part.v).toArray) (hk : k = ps.length) (hm : s.length = m) (hb : ps.length ≤ maxLen) (htot : m ≤ 140737488355328) :
    Calls Try.prog 22 #[.slice (some ⟨w.heap.size, 0, none⟩) k k] (w.alloc (.cells vs 27)) (GivesN w m s) := by
  subst hv hk hm
  exact join_lit ps s w h hs hb htot
theorem join1 (A : Option Addr) (n c : Nat) (s : List UInt8) (w : World) (h : Bs w A n c s) (hb : n ≤ 140737488355328) :
    Calls Try.prog 22 #[.slice (some ⟨w.heap.size, 0, none⟩) 1 1] (w.alloc (.cells #[.slice A n c] 27)) (GivesN w n s) := by
  refine join_parts [⟨A, n, c, s⟩] s w _ 1 n ?_ (by simp [joined]) rfl rfl h.len (by simp [maxLen]) hb
  intro p hp
  simp only [List.mem_cons, List.not_mem_nil, or_false] at hp
  subst hp
  exact h
theorem join2 (A : Option Addr) (n c : Nat) (s : List UInt8) (A2 : Option Addr) (n2 c2 : Nat) (s2 : List UInt8) (m : Nat) (w : World) (h : Bs w A n c s) (h2 : Bs w A2 n2 c2 s2) (hm : n + n2 = m) (hb : m ≤ 140737488355328) :
    Calls Try.prog 22 #[.slice (some ⟨w.heap.size, 0, none⟩) 2 2] (w.alloc (.cells #[.slice A n c, .slice A2 n2 c2] 27)) (GivesN w m (s ++ s2)) := by
  refine join_parts [⟨A, n, c, s⟩, ⟨A2, n2, c2, s2⟩] _ w _ 2 m ?_ (by simp [joined]) rfl rfl (by rw [List.length_append, h.len, h2.len, hm]) (by simp [maxLen]) hb
  intro p hp
  simp only [List.mem_cons, List.not_mem_nil, or_false] at hp
  rcases hp with rfl | rfl
  · exact h
  · exact h2
theorem join3 (A : Option Addr) (n c : Nat) (s : List UInt8) (A2 : Option Addr) (n2 c2 : Nat) (s2 : List UInt8) (A3 : Option Addr) (n3 c3 : Nat) (s3 : List UInt8) (m : Nat) (w : World) (h : Bs w A n c s) (h2 : Bs w A2 n2 c2 s2) (h3 : Bs w A3 n3 c3 s3) (hm : n + n2 + n3 = m) (hb : m ≤ 140737488355328) :
    Calls Try.prog 22 #[.slice (some ⟨w.heap.size, 0, none⟩) 3 3] (w.alloc (.cells #[.slice A n c, .slice A2 n2 c2, .slice A3 n3 c3] 27)) (GivesN w m (s ++ (s2 ++ s3))) := by
  refine join_parts [⟨A, n, c, s⟩, ⟨A2, n2, c2, s2⟩, ⟨A3, n3, c3, s3⟩] _ w _ 3 m ?_ (by simp [joined]) rfl rfl (by rw [List.length_append, List.length_append, h.len, h2.len, h3.len, ← hm]; omega) (by simp [maxLen]) hb
  intro p hp
  simp only [List.mem_cons, List.not_mem_nil, or_false] at hp
  rcases hp with rfl | rfl | rfl
  · exact h
  · exact h2
  · exact h3

theorem oput_any (v m : Nat) (x n : Int) (w : World) (hx : x = (v : Int)) (hn : n = (m : Int)) (h1 : 1 ≤ m) (h2 : m ≤ 8) (hv : v < 256 ^ m) (hv2 : v < 18446744073709551616) :
    Calls Try.prog 43 #[.int .u64 x, .int .i64 n] w fun e w' => ∃ A c, e = .returned (.tuple #[.slice A m c, .int .i64 0]) ∧ Own w' w.heap.size 5 A m c (be m v) ∧ Below w.heap.size w w' := by
  subst hx hn
  have hput := put_any v m w hv2
  rw [(putE_yes h1 h2 hv).1, (putE_yes h1 h2 hv).2] at hput
  refine hput.mono ?_
  rintro e w' ⟨A, c, rfl, ho, hb⟩
  rw [be_length] at ho ⊢
  exact ⟨A, c, rfl, ho, hb⟩

end Go.Proofs.Ytbalpndgpdbcbaa
