/-
  What the functions of package place come to: Find.
-/
import Derived.Test.YtogjkkhboaflcaaPlaceH
namespace Go.Proofs.Ytogjkkhboaflcaa
open Go.RowKit
set_option linter.unusedVariables false
set_option linter.unusedSimpArgs false

theorem find_hit {l : List Pl} {k : Nat} (hk : k < l.length) (f : Int) (hf : (l[k]'hk).f = f) (x : Int) (hx : x = ((filterP (l.take k) f).length : Nat)) : findP l f x = l[k]'hk ∧ findE l f x = 0 := by
  subst hx
  have e : l = l.take k ++ l[k]'hk :: l.drop (k + 1) := by rw [← List.drop_eq_getElem_cons hk, List.take_append_drop]
  have e2 : filterP l f = filterP (l.take k) f ++ l[k]'hk :: filterP (l.drop (k + 1)) f := by
    conv => lhs; rw [e]
    unfold filterP
    rw [List.filter_append, List.filter_cons, if_pos (by simpa using hf)]
  have h2 : (0 : Int) ≤ ((filterP (l.take k) f).length : Nat) ∧ (((filterP (l.take k) f).length : Nat) : Int) < (filterP l f).length := by
    rw [e2, List.length_append, List.length_cons]
    omega
  unfold findP findE
  rw [if_pos h2, if_pos h2, Int.toNat_natCast, e2]
  simp

def PFindI (w : World) (l : List Pl) (f x : Int) (v i : Value) (W : World) : Prop :=
  ∃ k m : Nat, k ≤ l.length ∧ m ≤ k ∧ (filterP (l.take k) f).length = m ∧ (m : Int) ≤ x ∧ i = .int .i64 k ∧ v = .int .i64 (x - m) ∧ Box W w.heap.size [.int .i64 0, .int .i64 0, .int .i64 0] ∧ Below w.heap.size w W

set_option maxRecDepth 100000 in
set_option maxHeartbeats 2000000 in
theorem plfind_any (A : Option Addr) (n c : Nat) (l : List Pl) (f x : Int) (w : World) (hl : Pls w A n c l) (hx : fitsI x) :
    Calls Try.prog 10 #[.slice A n c, .int .i64 f, .int .i64 x] w (Says w (.tuple #[plV (findP l f x), .int .i64 (findE l f x)])) := by
  have hln := hl.len
  obtain ⟨hb1, hb2⟩ := hl.bounds
  obtain ⟨rp, hrp⟩ : ∃ rp, findP l f x = rp := ⟨_, rfl⟩
  obtain ⟨re, hre⟩ : ∃ re, findE l f x = re := ⟨_, rfl⟩
  rw [hrp, hre]
  have HP := Lib.hid hrp
  have HE := Lib.hid hre
  clear hrp hre
  unfold fitsI at hx
  have k1 := Box.new w [.int .i64 0, .int .i64 0, .int .i64 0] 32
  have hl1 := hl.alloc (.cells #[.int .i64 0, .int .i64 0, .int .i64 0] 32)
  have hB := below1 w (.cells #[.int .i64 0, .int .i64 0, .int .i64 0] 32)
  by_cases hx0 : x < 0
  · have hr : Hid (rp = zeroPl) := Lib.hid (by rw [← HP.out]; unfold findP; rw [if_neg (by omega)])
    have he : Hid (re = 8) := Lib.hid (by rw [← HE.out]; unfold findE; rw [if_neg (by omega)])
    obtain ⟨c0, c1, c2, f0, f1, f2, l1⟩ := k1.three
    have kq := k1.put3 (.int .i64 0) (.int .i64 0) (.int .i64 0)
    obtain ⟨z0, z1, z2, _⟩ := kq.three
    have hBq := below_put3 hB (Nat.le_refl w.heap.size) (.int .i64 0) (.int .i64 0) (.int .i64 0)
    clear HP HE hl hl1
    go_enter Try.func10, Try.ntmps10
    go_wp2_with fail
    clear c0 c1 c2 f0 f1 f2 l1
    rw [hr.out, he.out]
    exact bodyPost_ret (v := .tuple #[plV zeroPl, .int .i64 8]) (by simp [results, Try.results10, go_sem, zeroPl, *]) rfl ⟨rfl, hB⟩
  · go_enter Try.func10, Try.ntmps10
    go_wp2_with fail
    go_loopw [2, 15] (fun v i W => PFindI w l f x v i W) (fun _ i _ => n - (intOf i).toNat)
    case atStart => exact ⟨0, 0, Nat.zero_le _, Nat.le_refl _, rfl, by omega, rfl, by simp, k1, hB⟩
    case round =>
      clear k1 hl1 hB
      obtain ⟨k, m, hk, hmk, hm, hmx, rfl, rfl, kb, hBk⟩ := hrel
      have hsz := hBk.size
      have hks := kb.2.2
      have HM := Lib.hid hm
      clear hm
      by_cases hkn : k < n
      · obtain ⟨b, o, rfl, hlt, hc⟩ := (hl.below hBk).at_ (by omega)
        have hck := hc k (by omega)
        have hsn := Lib.hid (filterP_snoc (l := l) (k := k) (by omega) f)
        have hit := Lib.hid (find_hit (l := l) (k := k) (by omega) f)
        have hkn2 : (k : Int) < n := by omega
        clear hc
        generalize l[k]'(by omega) = p at *
        obtain ⟨pf, pa, ps⟩ := p
        (try simp only at hck)
        (try simp only at hsn)
        (try simp only at hit)
        have kg := kb.alloc (.cells #[.int .i64 pf, .int .i64 pa, .int .i64 ps] 32)
        have hBg := hBk.alloc hBk.size (.cells #[.int .i64 pf, .int .i64 pa, .int .i64 ps] 32)
        by_cases hpf : pf = f
        · subst hpf
          have hs1 : Hid ((filterP (l.take (k + 1)) pf).length = m + 1) := Lib.hid (by rw [hsn.out, List.length_append, HM.out]; simp)
          clear hsn
          by_cases hxm : x = m
          · have hh := hit.out rfl x (by rw [HM.out]; exact hxm)
            have hr : Hid (rp = ⟨pf, pa, ps⟩) := Lib.hid (by rw [← HP.out]; exact hh.1)
            have he : Hid (re = 0) := Lib.hid (by rw [← HE.out]; exact hh.2)
            clear hh hit
            subst hxm
            have hw : ((m : Int) - m == 0) = true := by rw [beq_iff_eq]; omega
            have hn1 : ¬ w.heap.size = wr.heap.size := by omega
            have hn2 : ¬ wr.heap.size = w.heap.size := by omega
            obtain ⟨c0, c1, c2, f0, f1, f2, l1⟩ := kg.three
            obtain ⟨d0, d1, d2, e0, e1, e2, l2⟩ := kb.three
            have kq := kb.put3 (.int .i64 pf) (.int .i64 pa) (.int .i64 ps)
            have kr := kq.alloc (.cells #[.int .i64 pf, .int .i64 pa, .int .i64 ps] 32)
            obtain ⟨y0, y1, y2, _⟩ := kq.three
            obtain ⟨z0, z1, z2, _⟩ := kr.three
            have hBq := (below_put3 hBk (Nat.le_refl w.heap.size) (.int .i64 pf) (.int .i64 pa) (.int .i64 ps)).alloc (by simp; omega) (.cells #[.int .i64 pf, .int .i64 pa, .int .i64 ps] 32)
            go_wp2_with fail
            clear c0 c1 c2 f0 f1 f2 l1 hck d0 d1 d2 e0 e1 e2 l2
            rw [hr.out, he.out]
            exact bodyPost_ret (v := .tuple #[plV ⟨pf, pa, ps⟩, .int .i64 0]) (by simp [results, Try.results10, go_sem, *]) rfl ⟨rfl, hBq⟩
          · have hw : (x - (m : Int) == 0) = false := by rw [beq_eq_false_iff_ne]; omega
            clear hit
            go_wp2_with fail
            go_roundw
            case rel => exact ⟨k + 1, m + 1, by omega, by omega, hs1.out, by omega, by go_num, by go_num, kg, hBg⟩
            case measure => simp [intOf]; omega
        · have hs1 : Hid ((filterP (l.take (k + 1)) f).length = m) := Lib.hid (by rw [hsn.out, List.length_append, HM.out]; simp [hpf])
          clear hsn hit
          have hpf2 : (pf != f) = true := by rw [bne_iff_ne]; exact hpf
          go_wp2_with fail
          go_roundw
          case rel => exact ⟨k + 1, m, by omega, by omega, hs1.out, by omega, by go_num, rfl, kg, hBg⟩
          case measure => simp [intOf]; omega
      · obtain rfl : k = n := by omega
        have hkn2 : ¬ (k : Int) < k := by omega
        have hml := HM.out
        rw [List.take_of_length_le (by omega)] at hml
        have hr : Hid (rp = zeroPl) := Lib.hid (by rw [← HP.out]; unfold findP; rw [if_neg (by omega)])
        have he : Hid (re = 8) := Lib.hid (by rw [← HE.out]; unfold findE; rw [if_neg (by omega)])
        obtain ⟨c0, c1, c2, f0, f1, f2, l1⟩ := kb.three
        have kq := kb.put3 (.int .i64 0) (.int .i64 0) (.int .i64 0)
        obtain ⟨z0, z1, z2, _⟩ := kq.three
        have hBq := below_put3 hBk (Nat.le_refl w.heap.size) (.int .i64 0) (.int .i64 0) (.int .i64 0)
        clear hml HP HE hl HM
        go_wp2_with fail
        clear c0 c1 c2 f0 f1 f2 l1
        rw [hr.out, he.out]
        exact bodyPost_ret (v := .tuple #[plV zeroPl, .int .i64 8]) (by simp [results, Try.results10, go_sem, zeroPl, *]) rfl ⟨rfl, hBq⟩

end Go.Proofs.Ytogjkkhboaflcaa
