/-
  What the document's own answers for layer 7 come to: Find.
-/
import Derived.Test.YtogjkkhboaflcaaPlaceR
namespace Go.Proofs.Ytogjkkhboaflcaa
open Go.RowKit
set_option linter.unusedVariables false
set_option linter.unusedSimpArgs false

theorem info_pl : (Try.prog.info? 32).map (fun i => (i.zero, i.size, i.bytes)) = some (some (.agg #[.int .i64 0, .int .i64 0, .int .i64 0]), 3, 24) := by kernel_rfl
/-- The slice value is a row of the call's own of places. -/
def OwnPl (w : World) (base : Nat) (A : Option Addr) (n c : Nat) (l : List Pl) : Prop := w.ownsRow base 32 3 (.slice A n c) n (l.flatMap plC)
theorem OwnPl.pls {w : World} {base n c : Nat} {A : Option Addr} {l : List Pl} (h : OwnPl w base A n c l) : Pls w A n c l := SlK.of_own h
theorem OwnPl.len {w : World} {base n c : Nat} {A : Option Addr} {l : List Pl} (h : OwnPl w base A n c l) : l.length = n := h.pls.len
theorem OwnPl.nil (w : World) (base : Nat) : OwnPl w base none 0 0 [] := rowK_nil w base _ 3
theorem new1 (w : World) (p : Pl) (t : TypeId) : ∀ j u, (plC p)[j]? = some u → (w.alloc (.cells #[.int .i64 p.f, .int .i64 p.a, .int .i64 p.s] t)).cell? ((⟨w.heap.size, 0, none⟩ : Addr).add j) = some u := by
  intro j u hj
  rw [add_plain', Nat.zero_add, World.cell?_alloc_at _ _ _ _ rfl]
  simpa [plC] using hj
theorem new2 (w : World) (p q : Pl) (t : TypeId) : ∀ j u, (plC p ++ plC q)[j]? = some u → (w.alloc (.cells #[.int .i64 p.f, .int .i64 p.a, .int .i64 p.s, .int .i64 q.f, .int .i64 q.a, .int .i64 q.s] t)).cell? ((⟨w.heap.size, 0, none⟩ : Addr).add j) = some u := by
  intro j u hj
  rw [add_plain', Nat.zero_add, World.cell?_alloc_at _ _ _ _ rfl]
  simpa [plC] using hj
theorem plC_one1 (p : Pl) : ∀ u ∈ plC p, u.oneCell' = true := by
  intro u hu
  simp only [plC, List.mem_cons, List.not_mem_nil, or_false] at hu
  rcases hu with rfl | rfl | rfl <;> rfl

def FindI (w : World) (l : List Pl) (f : Int) (v i : Value) (W : World) : Prop :=
  ∃ (k m : Nat) (B : Option Addr) (d : Nat), k ≤ l.length ∧ m ≤ k ∧ i = .int .i64 k ∧ v = .slice B m d ∧ OwnPl W (w.heap.size + 1) B m d (filterP (l.take k) f) ∧ Box W w.heap.size [.int .i64 0, .int .i64 0, .int .i64 0] ∧ Below w.heap.size w W

set_option maxRecDepth 100000 in
set_option maxHeartbeats 2000000 in
theorem rfind_any (A : Option Addr) (n c : Nat) (l : List Pl) (f x : Int) (w : World) (hl : Pls w A n c l) (hn : n ≤ 1000000) (hx : fitsI x) :
    Calls Try.prog 11 #[.slice A n c, .int .i64 f, .int .i64 x] w (Says w (.tuple #[plV (findP l f x), .int .i64 (findE l f x)])) := by
  have hln := hl.len
  obtain ⟨hb1, hb2⟩ := hl.bounds
  obtain ⟨rp, hrp⟩ : ∃ rp, findP l f x = rp := ⟨_, rfl⟩
  obtain ⟨re, hre⟩ : ∃ re, findE l f x = re := ⟨_, rfl⟩
  rw [hrp, hre]
  have HP := Lib.hid hrp
  have HE := Lib.hid hre
  clear hrp hre
  unfold fitsI at hx
  have k1 := Box.new w [.int .i64 0, .int .i64 0, .int .i64 0] 32
  have hl1 := hl.alloc (.cells #[.int .i64 0, .int .i64 0, .int .i64 0] 32)
  have hB := below1 w (.cells #[.int .i64 0, .int .i64 0, .int .i64 0] 32)
  go_enter Try.func11, Try.ntmps11
  go_wp2_with fail
  go_loopw [8, 9] (fun v i W => FindI w l f v i W) (fun _ i _ => n - (intOf i).toNat)
  case atStart => exact ⟨0, 0, none, 0, Nat.zero_le _, Nat.le_refl _, rfl, rfl, OwnPl.nil _ _, k1, hB⟩
  case round =>
    obtain ⟨k, m, B, d, hk, hmk, rfl, rfl, hown, kb, hBk⟩ := hrel
    clear k1 hl1 hB
    have hsz := hBk.size
    have hks := kb.2.2
    by_cases hkn : k < n
    · obtain ⟨b, o, rfl, hlt, hc⟩ := (hl.below hBk).at_ (by omega)
      have hck := hc k (by omega)
      have hsn := Lib.hid (filterP_snoc (l := l) (k := k) (by omega) f)
      have hkn2 : (k : Int) < n := by omega
      clear hc
      generalize l[k]'(by omega) = p at *
      obtain ⟨pf, pa, ps⟩ := p
      (try simp only at hck)
      (try simp only at hsn)
      by_cases hpf : pf = f
      · subst hpf
        have hs1 : Hid (filterP (l.take (k + 1)) pf = filterP (l.take k) pf ++ [⟨pf, pa, ps⟩]) := Lib.hid (by rw [hsn.out]; simp)
        clear hsn
        go_wp2_with (at_builtin; go_loud (refine wpList_appK rfl (.tmp 23) (.tmp 28) 23 rfl (w.heap.size + 1) 32 _ 3 24 Try.underlying23 info_pl rfl (by omega) B m d _ rfl (rowK_alloc hown _) _ 1 1 (plC ⟨pf, pa, ps⟩) rfl rfl (new1 _ ⟨pf, pa, ps⟩ _) (plC_one1 _) (by simp only [maxLen]; omega) (by omega) (by simp; omega) ?_; intro A9 c9 w9 hown9 hgrow hat))
        have hgo : OwnPl w9 (w.heap.size + 1) A9 (m + 1) c9 (filterP (l.take (k + 1)) pf) := by
          unfold OwnPl
          rw [hs1.out, List.flatMap_append, List.flatMap_cons, List.flatMap_nil, List.append_nil]
          exact hown9
        have hfar0 : some w.heap.size ≠ rowOf B := fun e => by have := rowV_ge hown _ e.symm; omega
        have hBg : Below w.heap.size w w9 := (hBk.alloc hBk.size (.cells #[.int .i64 pf, .int .i64 pa, .int .i64 ps] 32)).grown hgrow (by simp; omega) (fun q hq => by have := rowV_ge hown q hq; omega)
        have kg := (kb.alloc (.cells #[.int .i64 pf, .int .i64 pa, .int .i64 ps] 32)).grown hgrow hfar0
        go_roundw
        case rel => exact ⟨k + 1, m + 1, A9, c9, by omega, by omega, by go_num, rfl, hgo, kg, hBg⟩
        case measure => simp [intOf]; omega
      · have hs1 : Hid (filterP (l.take (k + 1)) f = filterP (l.take k) f) := Lib.hid (by rw [hsn.out]; simp [hpf])
        clear hsn
        have hpf2 : (pf == f) = false := by rw [beq_eq_false_iff_ne]; exact hpf
        go_wp2_with fail
        go_roundw
        case rel => exact ⟨k + 1, m, B, d, by omega, by omega, by go_num, rfl, by rw [hs1.out]; exact hown, kb, hBk⟩
        case measure => simp [intOf]; omega
    · obtain rfl : k = n := by omega
      rw [List.take_of_length_le (by omega)] at hown
      have hml := hown.len
      have hkn2 : ¬ (k : Int) < k := by omega
      obtain ⟨c0, c1, c2, f0, f1, f2, l1⟩ := kb.three
      by_cases hx0 : x < 0 ∨ (m : Int) ≤ x
      · have hr : Hid (rp = zeroPl) := Lib.hid (by rw [← HP.out]; unfold findP; rw [if_neg (by omega)])
        have he : Hid (re = 8) := Lib.hid (by rw [← HE.out]; unfold findE; rw [if_neg (by omega)])
        have kq := kb.put3 (.int .i64 0) (.int .i64 0) (.int .i64 0)
        obtain ⟨z0, z1, z2, _⟩ := kq.three
        have hBq := below_put3 hBk (Nat.le_refl w.heap.size) (.int .i64 0) (.int .i64 0) (.int .i64 0)
        clear hown HP HE hl hkn2
        rcases (show x < 0 ∨ (0 ≤ x ∧ (m : Int) ≤ x) by omega) with h1 | ⟨h1, h2⟩
        all_goals
          clear hx0
          go_wp2_with fail
          clear c0 c1 c2 f0 f1 f2 l1
          rw [hr.out, he.out]
          exact bodyPost_ret (v := .tuple #[plV zeroPl, .int .i64 8]) (by simp [results, Try.results11, go_sem, zeroPl, *]) rfl ⟨rfl, hBq⟩
      · obtain ⟨j, rfl⟩ := Int.eq_ofNat_of_zero_le (show 0 ≤ x by omega)
        have hjm : j < m := by omega
        have hr : Hid (rp = (filterP l f)[j]'(by omega)) := Lib.hid (by rw [← HP.out]; unfold findP; rw [if_pos (by omega), Int.toNat_natCast, List.getD_eq_getElem?_getD, List.getElem?_eq_getElem (by omega)]; rfl)
        have he : Hid (re = 0) := Lib.hid (by rw [← HE.out]; unfold findE; rw [if_pos (by omega)])
        obtain ⟨b, o, rfl, hlt, hc⟩ := hown.pls.at_ (by omega)
        have hck := hc j (by omega)
        have hbg := rowV_ge hown b rfl
        clear hc HP HE
        generalize (filterP l f)[j]'(by omega) = p at *
        obtain ⟨pf, pa, ps⟩ := p
        (try simp only at hck)
        have kq := kb.put3 (.int .i64 pf) (.int .i64 pa) (.int .i64 ps)
        obtain ⟨z0, z1, z2, _⟩ := kq.three
        have hBq := below_put3 hBk (Nat.le_refl w.heap.size) (.int .i64 pf) (.int .i64 pa) (.int .i64 ps)
        have hjm2 : (j : Int) < m := by omega
        have hlt0 : ¬ ((m : Int) ≤ j) := by omega
        clear hx0 hown hl hkn2
        go_wp2_with fail
        clear c0 c1 c2 f0 f1 f2 l1 hck
        rw [hr.out, he.out]
        exact bodyPost_ret (v := .tuple #[plV ⟨pf, pa, ps⟩, .int .i64 0]) (by simp [results, Try.results11, go_sem, *]) rfl ⟨rfl, hBq⟩

end Go.Proofs.Ytogjkkhboaflcaa
