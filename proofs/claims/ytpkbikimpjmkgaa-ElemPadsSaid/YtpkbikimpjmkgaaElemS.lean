/-
  What the document's own answers for layer 8 come to: Spots. (Written by gen_ElemS.py.)
-/
import Derived.Test.YtpkbikimpjmkgaaElemR
namespace Go.Proofs.Ytpkbikimpjmkgaa
open Go.RowKit
set_option linter.unusedVariables false
set_option linter.unusedSimpArgs false

def spC (x : Sp) : List Value := [.int .i64 (x.id : Int), .int .i64 (x.at_ : Int), .int .i64 (x.size : Int)]
theorem spC_length (x : Sp) : (spC x).length = 3 := rfl
theorem spC_one1 (x : Sp) : ∀ u ∈ spC x, u.oneCell' = true := by
  intro u hu
  simp only [spC, List.mem_cons, List.not_mem_nil, or_false] at hu
  rcases hu with rfl | rfl | rfl <;> rfl
theorem newSp (w : World) (x : Sp) (t : TypeId) : ∀ j u, (spC x)[j]? = some u → (w.alloc (.cells #[.int .i64 (x.id : Int), .int .i64 (x.at_ : Int), .int .i64 (x.size : Int)] t)).cell? ((⟨w.heap.size, 0, none⟩ : Addr).add j) = some u := by
  intro j u hj
  rw [add_plain', Nat.zero_add, World.cell?_alloc_at _ _ _ _ rfl]
  simpa [spC] using hj
theorem info_sp : (Try.prog.info? 43).map (fun i => (i.zero, i.size, i.bytes)) = some (some (.agg #[.int .i64 0, .int .i64 0, .int .i64 0]), 3, 24) := by kernel_rfl
/-- The slice value holds the spots l; is a row of the call's own. -/
def Sps (w : World) (A : Option Addr) (n c : Nat) (l : List Sp) : Prop := SlK 3 w A n c (l.flatMap spC)
def OwnSp (w : World) (base : Nat) (A : Option Addr) (n c : Nat) (l : List Sp) : Prop := w.ownsRow base 43 3 (.slice A n c) n (l.flatMap spC)
section
variable {w w' : World} {A : Option Addr} {n c base : Nat} {l : List Sp}
theorem Sps.len (h : Sps w A n c l) : l.length = n := by
  have := h.1
  rw [flat_length spC_length] at this
  omega
theorem Sps.bounds (h : Sps w A n c l) : n ≤ c ∧ c ≤ 9223372036854775807 := ⟨h.2.1, Nat.le_trans h.2.2.1 (by decide)⟩
theorem Sps.nil (w : World) : Sps w none 0 0 [] := SlK.nil 3 w
theorem Sps.below (h : Sps w A n c l) (hb : Below w.heap.size w w') : Sps w' A n c l := SlK.below h hb
theorem Sps.alloc (h : Sps w A n c l) (o : Obj) : Sps (w.alloc o) A n c l := SlK.alloc h o
theorem Sps.at_ (h : Sps w A n c l) (hn : 0 < n) : ∃ b o, A = some ⟨b, o, none⟩ ∧ b < w.heap.size ∧ ∀ i, (hi : i < l.length) → w.cell? ⟨b, o + i * 3, none⟩ = some (.int .i64 (l[i].id : Int)) ∧ w.cell? ⟨b, o + i * 3 + 1, none⟩ = some (.int .i64 (l[i].at_ : Int)) ∧ w.cell? ⟨b, o + i * 3 + 2, none⟩ = some (.int .i64 (l[i].size : Int)) := by
  obtain ⟨b, o, hA, hlt, hc⟩ := SlK.at_ h (by omega) hn
  refine ⟨b, o, hA, hlt, fun i hi => ?_⟩
  have g := fun j (hj : j < 3) => flat_get (enc := spC) spC_length l i j hj
  rw [List.getElem?_eq_getElem hi] at g
  refine ⟨?_, ?_, ?_⟩
  · have := hc (i * 3 + 0) _ (by rw [g 0 (by omega)]; rfl)
    simpa [Nat.add_assoc] using this
  · have := hc (i * 3 + 1) _ (by rw [g 1 (by omega)]; rfl)
    simpa [Nat.add_assoc] using this
  · have := hc (i * 3 + 2) _ (by rw [g 2 (by omega)]; rfl)
    simpa [Nat.add_assoc] using this
theorem OwnSp.sps (h : OwnSp w base A n c l) : Sps w A n c l := SlK.of_own h
theorem OwnSp.len (h : OwnSp w base A n c l) : l.length = n := h.sps.len
theorem OwnSp.nil (w : World) (base : Nat) : OwnSp w base none 0 0 [] := rowK_nil w base _ 3
theorem OwnSp.below (h : OwnSp w base A n c l) (hb : Below w.heap.size w w') : OwnSp w' base A n c l := rowK_below h hb
theorem OwnSp.drewN (h : OwnSp w base A n c l) (k : Nat) : OwnSp (w.drewN k) base A n c l := h
theorem OwnSp.app {p : Sp} (h : w.ownsRow base 43 3 (.slice A n c) n (l.flatMap spC ++ spC p)) : OwnSp w base A n c (l ++ [p]) := by
  unfold OwnSp
  rw [List.flatMap_append, List.flatMap_cons, List.flatMap_nil, List.append_nil]
  exact h
end
/-- What a call hands back: spots, and the number of an error. -/
def GivesSp (w : World) (l : List Sp) (err : Nat) (x : Ending) (w' : World) : Prop :=
  ∃ A m c, x = .returned (.tuple #[.slice A m c, .int .i64 err]) ∧ Sps w' A m c l ∧ Below w.heap.size w w'

theorem rspots_no (p : Nat) (A : Option Addr) (n c : Nat) (s : List UInt8) (w : World) (hs : Bs w A n c s) (hp : p < 65536) (h : isProf p = false) :
    Calls Try.prog 15 #[.int .u16 p, .slice A n c] w (GivesSp w (spotsL p s) (spotsE p s)) := by
  have e1 : spotsL p s = [] := by unfold spotsL; rw [h]; simp
  have e2 : spotsE p s = 6 := by unfold spotsE; rw [h]; simp
  rw [e1, e2]
  unfold isProf at h
  rw [decide_eq_false_iff_not] at h
  have h1 : ((p : Int) == 48862) = false := by rw [beq_eq_false_iff_ne]; omega
  have h2 : ((p : Int) / 16 != 256) = true := by rw [bne_iff_ne]; omega
  have h3 : Int.tdiv (p : Int) 16 = (p : Int) / 16 := by rw [Int.tdiv_eq_ediv_of_nonneg (by omega)]
  clear h e1 e2
  go_enter Try.func15, Try.ntmps15
  go_wp2_with fail
  go_ret2
  exact ⟨none, 0, 0, rfl, Sps.nil _, Below.refl _ _⟩


set_option maxRecDepth 100000 in
set_option maxHeartbeats 8000000 in
theorem rspots_narrow (A : Option Addr) (n c : Nat) (s : List UInt8) (pv : Int) (w : World) (hs : Bs w A n c s) (hn : n ≤ 1000000) (hp : pv = 48862) :
    Calls Try.prog 15 #[.int .u16 pv, .slice A n c] w (GivesSp w (spotsG true n 0 s []).2 (spotsG true n 0 s []).1) := by
  have hsl := hs.len
  have hlc := hs.le
  have hcm := hs.cap
  unfold maxLen at hcm
  obtain ⟨R, hR⟩ : ∃ R, spotsG true n 0 s [] = R := ⟨_, rfl⟩
  rw [hR]
  have HR := Lib.hid hR
  clear hR
  subst hp
  go_enter Try.func15, Try.ntmps15
  go_wp2_with fail
  go_loopw [7, 8] (fun o i W => ∃ a : Nat, a ≤ n ∧ i = .int .i64 a ∧ ∃ (m : Nat) (B : Option Addr) (d : Nat) (out : List Sp), o = .slice B m d ∧ m ≤ a ∧ OwnSp W w.heap.size B m d out ∧ Hid (R = spotsG true (n - a) a (s.drop a) out) ∧ Below w.heap.size w W) (fun _ i _ => n - (intOf i).toNat)
  case atStart => exact ⟨0, Nat.zero_le _, rfl, 0, none, 0, [], rfl, Nat.le_refl _, OwnSp.nil _ _, Lib.hid (by rw [Nat.sub_zero, List.drop_zero]; exact HR.out.symm), Below.refl _ _⟩
  case round =>
    obtain ⟨a, ha, rfl, m, B, d, out, rfl, hma, hown, hq, hB⟩ := hrel
    by_cases han : a < n
    · obtain ⟨b, o, rfl, hlt, hc⟩ := (hs.below hB).at_ (by omega)
      have q0 := hc a han
      have Q1 := Lib.hid (fun h : a + 1 < n => hc (a + 1) h)
      clear hc
      have hdr := List.drop_eq_getElem_cons (l := s) (i := a) (by omega)
      have hgd : s.getD a 0 = s[a]'(by omega) := by rw [List.getD_eq_getElem?_getD, List.getElem?_eq_getElem (by omega)]; rfl
      rw [← hgd] at hdr
      have hxb := byte_getD_lt s a
      have hrl : (s.drop (a + 1)).length = n - (a + 1) := by rw [List.length_drop, hsl]
      have hqq := hq.out
      rw [hdr, show n - a = (n - (a + 1)) + 1 by omega, spotsG_cons, hrl] at hqq
      have han2 : (a : Int) < n := by omega
      have hol := hown.len
      generalize (s.getD a 0).toNat = x at *
      clear hdr hgd hq
      by_cases hx0 : x = 0
      · subst hx0
        have hr2 := Lib.hid (hqq.trans (if_pos rfl))
        clear hqq
        go_wp2_with fail
        go_roundw
        case rel => exact ⟨a + 1, by omega, by go_num, m, B, d, out, rfl, by omega, hown, hr2, hB⟩
        case measure => simp [intOf]; omega
      · rw [if_neg hx0] at hqq
        have hx1 : ((x : Int) == 0) = false := by rw [beq_eq_false_iff_ne]; omega
        have hx2 : (x == 0) = false := by rw [beq_eq_false_iff_ne]; omega
        have hfarB : ∀ gb, wr.heap.size = gb → rowOf B ≠ some gb := fun gb hgb e => by have := rowV_lt hown _ e; omega
        rw [if_pos rfl] at hqq
        have t1 : Int.tdiv (x : Int) 16 = ((x / 16 : Nat) : Int) := by rw [Int.tdiv_eq_ediv_of_nonneg (by omega)]; omega
        have t2 : Int.tmod (x : Int) 16 = ((x % 16 : Nat) : Int) := by rw [Int.tmod_eq_emod_of_nonneg (by omega)]; omega
        have hi16 : x / 16 ≤ 15 := by omega
        have hm16 : x % 16 + 1 ≤ 16 := by omega
        obtain ⟨zn, hzn⟩ : ∃ zn, x % 16 + 1 = zn := ⟨_, rfl⟩
        obtain ⟨pn, hpn⟩ : ∃ pn, a + 1 = pn := ⟨_, rfl⟩
        have hz0 : 1 ≤ zn := by omega
        rw [hzn, hpn] at hqq
        rw [hzn] at hm16
        have hcz : ((x % 16 : Nat) : Int) + 1 = (zn : Int) := by omega
        have hcp : (a : Int) + 1 = (pn : Int) := by omega
        generalize x % 16 = x16 at *
        generalize x / 16 = idn at *
        have kb := Box.new wr [.int .i64 (idn : Int), .int .i64 (pn : Int), .int .i64 (zn : Int)] 43
        have hBx := below1 wr (.cells #[.int .i64 (idn : Int), .int .i64 (pn : Int), .int .i64 (zn : Int)] 43)
        have hBg := hB.trans (hBx.mono hB.size)
        obtain ⟨z0, z1, z2, _⟩ := kb.three
        have w2 : IntKind.i64.wrap ((a : Int) + 2) = (a : Int) + 2 := IntWalk.i64_in _ (by omega)
        by_cases he : idn = 0 ∨ idn = 15
        · have hr2 := Lib.hid (hqq.trans (if_pos he))
          have hown2 := hown.below hBx
          clear hqq
          have he2 : (((idn : Int) == 0) = true) ∨ (((idn : Int) == 0) = false ∧ ((idn : Int) == 15) = true) := by
            simp only [beq_iff_eq, beq_eq_false_iff_ne]; omega
          clear he
          rcases he2 with e0 | ⟨e0, e15⟩
          all_goals
            go_wp2_with fail
            go_ret2
            refine ⟨B, m, d, ?_, ?_, hBg⟩
            · rw [hr2.out]; rfl
            · rw [hr2.out]; exact hown2.sps
        · rw [if_neg he] at hqq
          have e0 : ((idn : Int) == 0) = false := by rw [beq_eq_false_iff_ne]; omega
          have e15 : ((idn : Int) == 15) = false := by rw [beq_eq_false_iff_ne]; omega
          have e0b : (idn == 0) = false := by rw [beq_eq_false_iff_ne]; omega
          have e15b : (idn == 15) = false := by rw [beq_eq_false_iff_ne]; omega
          clear he
          by_cases hsh : n - pn < zn
          · have hr2 := Lib.hid (hqq.trans (if_pos hsh))
            have g5 : decide ((n : Int) < (pn : Int) + zn) = true := decide_eq_true (by omega)
            clear hqq
            go_wp2_with fail
            go_ret2
            refine ⟨none, 0, 0, ?_, ?_, hBg⟩
            · rw [hr2.out]; rfl
            · rw [hr2.out]; exact Sps.nil _
          · rw [if_neg hsh] at hqq
            have hfit : pn + zn ≤ n := by omega
            have hdup : Hid (out.any (fun s => s.id == idn) = true → R = (6, [])) := Lib.hid (fun h => hqq.trans (if_pos h))
            have hcont : Hid (out.any (fun s => s.id == idn) = false → R = spotsG true (n - (pn + zn)) (pn + zn) (s.drop (pn + zn)) (out ++ [⟨idn, pn, zn⟩])) := Lib.hid (fun h => by
              rw [hqq, if_neg (by rw [h]; simp), List.drop_drop]
              exact spotsG_fuel _ _ _ _ _ _ (by rw [List.length_drop, hsl]; omega) (by rw [List.length_drop, hsl]; omega))
            clear hqq hsh hrl hpn hzn
            have hplen : (pn + zn : Nat) ≤ n := hfit
            have g5 : decide ((n : Int) < (pn : Int) + zn) = false := decide_eq_false (by omega)
            have hown2 := hown.below hBx
            have hfB := hfarB _ rfl
            have hgw : w.heap.size ≤ wr.heap.size := hB.size
            go_wp2_with fail
            clear z0 z1 z2
            clear hfarB q0 hlt hB
            generalize hgb : wr.heap.size = gb at *
            go_loopw [11] (fun i W => ∃ j : Nat, j ≤ m ∧ i = .int .i64 j ∧ Hid ((out.take j).any (fun s => s.id == idn) = false) ∧ OwnSp W w.heap.size B m d out ∧ Box W gb [.int .i64 idn, .int .i64 (pn : Int), .int .i64 (zn : Int)] ∧ Below w.heap.size w W) (fun i _ => m - (intOf i).toNat)
            case atStart => exact ⟨0, Nat.zero_le _, rfl, Lib.hid rfl, hown2, kb, hBg⟩
            case round =>
              clear hown2 kb hBg hBx
              obtain ⟨j, hj, rfl, hany, hownj, kb, hBj⟩ := hrel
              have c0 := kb.field 0 rfl
              by_cases hjm : j < m
              · obtain ⟨b2, o2, rfl, hlt2, hc2⟩ := hownj.sps.at_ (by omega)
                have p0 := (hc2 j (by rw [hol]; exact hjm)).1
                have htk := Lib.hid (List.take_succ_eq_append_getElem (l := out) (i := j) (by omega))
                have hjm2 : Hid (out[j]'(by omega) ∈ out) := Lib.hid (List.getElem_mem _)
                have hjm3 : (j : Int) < m := by omega
                clear hc2
                generalize out[j]'(by omega) = y at *
                obtain ⟨yid, ya, ys⟩ := y
                (try simp only at p0)
                by_cases hy : yid = idn
                · subst hy
                  have hR := Lib.hid (hdup.out (by rw [List.any_eq_true]; exact ⟨_, hjm2.out, by simp⟩))
                  go_wp2_with fail
                  go_quiet (fail)
                  go_wp2_with fail
                  go_ret2
                  refine ⟨none, 0, 0, ?_, ?_, below_drewN hBj _⟩
                  · rw [hR.out]; rfl
                  · rw [hR.out]; exact Sps.nil _
                · have hne : ((yid : Int) == (idn : Int)) = false := by rw [beq_eq_false_iff_ne]; omega
                  have hne2 : (yid == idn) = false := by rw [beq_eq_false_iff_ne]; exact hy
                  have hany2 : Hid ((out.take (j + 1)).any (fun s => s.id == idn) = false) := Lib.hid (by rw [htk.out, List.any_append, hany.out]; simp [hy])
                  clear hany htk hjm2 hy
                  go_wp2_with fail
                  go_quiet (fail)
                  go_wp2_with fail
                  go_roundw
                  case rel => exact ⟨j + 1, by omega, by go_num, hany2, hownj.drewN _, kb.drewN _, below_drewN hBj _⟩
                  case measure => simp [intOf]; omega
              · obtain rfl : j = m := by omega
                have hjm3 : ¬ (j : Int) < j := by omega
                have hR := Lib.hid (hcont.out (by have := hany.out; rwa [List.take_of_length_le (by omega)] at this))
                have c1 := kb.field 1 rfl
                have c2 := kb.field 2 rfl
                have w1 : IntKind.i64.wrap ((pn : Int) + zn) = (pn : Int) + zn := IntWalk.i64_in _ (by omega)
                have hlb := kb.2.2
                have hbj := hBj.size
                go_wp2_with (at_builtin; go_loud (refine wpList_appK rfl (.tmp 90) (.tmp 92) 36 rfl w.heap.size 43 _ 3 24 Try.underlying36 info_sp rfl (by omega) B j d _ rfl (rowK_alloc hownj _) _ 1 1 (spC ⟨idn, pn, zn⟩) rfl rfl (newSp _ ⟨idn, pn, zn⟩ _) (spC_one1 _) (by simp only [maxLen]; omega) (by omega) (by simp; omega) ?_; intro A9 c9 w9 hown9 hgrow hat; have kg := (kb.alloc (.cells #[.int .i64 idn, .int .i64 (pn : Int), .int .i64 (zn : Int)] 43)).grown hgrow (fun e => hfB e.symm); have d1 := kg.field 1 rfl; have d2 := kg.field 2 rfl))
                have hBg2 : Below w.heap.size w w9 := (hBj.alloc hBj.size (.cells #[.int .i64 idn, .int .i64 (pn : Int), .int .i64 (zn : Int)] 43)).grown hgrow (by simp; omega) (fun q hq => rowV_ge hownj q hq)
                go_roundw
                case rel => exact ⟨pn + zn, hfit, by go_num, j + 1, A9, c9, _, rfl, by omega, OwnSp.app hown9, hR, hBg2⟩
                case measure => simp [intOf]; omega
    · obtain rfl : a = n := by omega
      have han2 : ¬ (a : Int) < a := by omega
      have hr2 : Hid (R = (0, out)) := Lib.hid (by have := hq.out; rwa [List.drop_of_length_le (by omega), spotsG_nil] at this)
      go_wp2_with fail
      go_ret2
      refine ⟨B, m, d, ?_, ?_, hB⟩
      · rw [hr2.out]; rfl
      · rw [hr2.out]; exact hown.sps

set_option maxRecDepth 100000 in
set_option maxHeartbeats 8000000 in
theorem rspots_wide (A : Option Addr) (n c : Nat) (s : List UInt8) (pv : Int) (w : World) (hs : Bs w A n c s) (hn : n ≤ 1000000) (p : Nat) (hpp : pv = (p : Int)) (hp : p / 16 = 256) :
    Calls Try.prog 15 #[.int .u16 pv, .slice A n c] w (GivesSp w (spotsG false n 0 s []).2 (spotsG false n 0 s []).1) := by
  have hsl := hs.len
  have hlc := hs.le
  have hcm := hs.cap
  unfold maxLen at hcm
  obtain ⟨R, hR⟩ : ∃ R, spotsG false n 0 s [] = R := ⟨_, rfl⟩
  rw [hR]
  have HR := Lib.hid hR
  clear hR
  subst hpp
  have hq1 : ((p : Int) == 48862) = false := by rw [beq_eq_false_iff_ne]; omega
  have hq2 : Int.tdiv (p : Int) 16 = 256 := by rw [Int.tdiv_eq_ediv_of_nonneg (by omega)]; omega
  have hq3 : (p : Int) / 16 = 256 := by omega
  go_enter Try.func15, Try.ntmps15
  go_wp2_with fail
  go_loopw [7, 8] (fun o i W => ∃ a : Nat, a ≤ n ∧ i = .int .i64 a ∧ ∃ (m : Nat) (B : Option Addr) (d : Nat) (out : List Sp), o = .slice B m d ∧ m ≤ a ∧ OwnSp W w.heap.size B m d out ∧ Hid (R = spotsG false (n - a) a (s.drop a) out) ∧ Below w.heap.size w W) (fun _ i _ => n - (intOf i).toNat)
  case atStart => exact ⟨0, Nat.zero_le _, rfl, 0, none, 0, [], rfl, Nat.le_refl _, OwnSp.nil _ _, Lib.hid (by rw [Nat.sub_zero, List.drop_zero]; exact HR.out.symm), Below.refl _ _⟩
  case round =>
    obtain ⟨a, ha, rfl, m, B, d, out, rfl, hma, hown, hq, hB⟩ := hrel
    by_cases han : a < n
    · obtain ⟨b, o, rfl, hlt, hc⟩ := (hs.below hB).at_ (by omega)
      have q0 := hc a han
      have Q1 := Lib.hid (fun h : a + 1 < n => hc (a + 1) h)
      clear hc
      have hdr := List.drop_eq_getElem_cons (l := s) (i := a) (by omega)
      have hgd : s.getD a 0 = s[a]'(by omega) := by rw [List.getD_eq_getElem?_getD, List.getElem?_eq_getElem (by omega)]; rfl
      rw [← hgd] at hdr
      have hxb := byte_getD_lt s a
      have hrl : (s.drop (a + 1)).length = n - (a + 1) := by rw [List.length_drop, hsl]
      have hqq := hq.out
      rw [hdr, show n - a = (n - (a + 1)) + 1 by omega, spotsG_cons, hrl] at hqq
      have han2 : (a : Int) < n := by omega
      have hol := hown.len
      generalize (s.getD a 0).toNat = x at *
      clear hdr hgd hq
      by_cases hx0 : x = 0
      · subst hx0
        have hr2 := Lib.hid (hqq.trans (if_pos rfl))
        clear hqq
        go_wp2_with fail
        go_roundw
        case rel => exact ⟨a + 1, by omega, by go_num, m, B, d, out, rfl, by omega, hown, hr2, hB⟩
        case measure => simp [intOf]; omega
      · rw [if_neg hx0] at hqq
        have hx1 : ((x : Int) == 0) = false := by rw [beq_eq_false_iff_ne]; omega
        have hx2 : (x == 0) = false := by rw [beq_eq_false_iff_ne]; omega
        have hfarB : ∀ gb, wr.heap.size = gb → rowOf B ≠ some gb := fun gb hgb e => by have := rowV_lt hown _ e; omega
        rw [if_neg (by simp)] at hqq
        obtain ⟨idn, hidn⟩ : ∃ idn, idn = x := ⟨_, rfl⟩
        subst hidn
        obtain ⟨pn, hpn⟩ : ∃ pn, a + 2 = pn := ⟨_, rfl⟩
        have hcp : (a : Int) + 2 = (pn : Int) := by omega
        have w1' : IntKind.i64.wrap ((a : Int) + 1) = (a : Int) + 1 := IntWalk.i64_in _ (by omega)
        by_cases ha1 : a + 1 < n
        · have q1 := Q1.out ha1
          have hd2 := List.drop_eq_getElem_cons (l := s) (i := a + 1) (by omega)
          have hgd2 : s.getD (a + 1) 0 = s[a + 1]'(by omega) := by rw [List.getD_eq_getElem?_getD, List.getElem?_eq_getElem (by omega)]; rfl
          rw [← hgd2] at hd2
          rw [hd2] at hqq
          simp only at hqq
          have hyb := byte_getD_lt s (a + 1)
          rw [show a + 1 + 1 = pn by omega, List.length_drop, hsl] at hqq
          (try rw [hpn] at hqq)
          generalize (s.getD (a + 1) 0).toNat = zn at *
          clear hd2 hgd2 Q1
          have g1 : decide ((n : Int) ≤ (a : Int) + 1) = false := decide_eq_false (by omega)
          have hin : (a : Int) + 1 < n := by omega
          have kb := Box.new wr [.int .i64 (idn : Int), .int .i64 (pn : Int), .int .i64 (zn : Int)] 43
          have hBx := below1 wr (.cells #[.int .i64 (idn : Int), .int .i64 (pn : Int), .int .i64 (zn : Int)] 43)
          have hBg := hB.trans (hBx.mono hB.size)
          have kz := Box.new wr [.int .i64 (idn : Int), .int .i64 (pn : Int), .int .i64 0] 43
          obtain ⟨z0, z1, z2, _⟩ := kb.three
          have q1' : (wr.alloc (.cells #[.int .i64 (idn : Int), .int .i64 (pn : Int), .int .i64 0] 43)).cell? ⟨b, o + (a + 1), none⟩ = some (.int .u8 (zn : Int)) := (World.cell?_alloc_lt wr _ ⟨b, o + (a + 1), none⟩ hlt).trans q1
          by_cases hsh : n - pn < zn
          · have hr2 := Lib.hid (hqq.trans (if_pos hsh))
            have g5 : decide ((n : Int) < (pn : Int) + zn) = true := decide_eq_true (by omega)
            clear hqq
            go_wp2_with fail
            go_ret2
            refine ⟨none, 0, 0, ?_, ?_, hBg⟩
            · rw [hr2.out]; rfl
            · rw [hr2.out]; exact Sps.nil _
          · rw [if_neg hsh] at hqq
            have hfit : pn + zn ≤ n := by omega
            have hdup : Hid (out.any (fun s => s.id == idn) = true → R = (6, [])) := Lib.hid (fun h => hqq.trans (if_pos h))
            have hcont : Hid (out.any (fun s => s.id == idn) = false → R = spotsG false (n - (pn + zn)) (pn + zn) (s.drop (pn + zn)) (out ++ [⟨idn, pn, zn⟩])) := Lib.hid (fun h => by
              rw [hqq, if_neg (by rw [h]; simp), List.drop_drop]
              exact spotsG_fuel _ _ _ _ _ _ (by rw [List.length_drop, hsl]; omega) (by rw [List.length_drop, hsl]; omega))
            clear hqq hsh hrl hpn
            have hplen : (pn + zn : Nat) ≤ n := hfit
            have g5 : decide ((n : Int) < (pn : Int) + zn) = false := decide_eq_false (by omega)
            have hown2 := hown.below hBx
            have hfB := hfarB _ rfl
            have hgw : w.heap.size ≤ wr.heap.size := hB.size
            go_wp2_with fail
            clear z0 z1 z2
            clear hfarB q0 q1 q1' kz hlt hB
            generalize hgb : wr.heap.size = gb at *
            go_loopw [11] (fun i W => ∃ j : Nat, j ≤ m ∧ i = .int .i64 j ∧ Hid ((out.take j).any (fun s => s.id == idn) = false) ∧ OwnSp W w.heap.size B m d out ∧ Box W gb [.int .i64 idn, .int .i64 (pn : Int), .int .i64 (zn : Int)] ∧ Below w.heap.size w W) (fun i _ => m - (intOf i).toNat)
            case atStart => exact ⟨0, Nat.zero_le _, rfl, Lib.hid rfl, hown2, kb, hBg⟩
            case round =>
              clear hown2 kb hBg hBx
              obtain ⟨j, hj, rfl, hany, hownj, kb, hBj⟩ := hrel
              have c0 := kb.field 0 rfl
              by_cases hjm : j < m
              · obtain ⟨b2, o2, rfl, hlt2, hc2⟩ := hownj.sps.at_ (by omega)
                have p0 := (hc2 j (by rw [hol]; exact hjm)).1
                have htk := Lib.hid (List.take_succ_eq_append_getElem (l := out) (i := j) (by omega))
                have hjm2 : Hid (out[j]'(by omega) ∈ out) := Lib.hid (List.getElem_mem _)
                have hjm3 : (j : Int) < m := by omega
                clear hc2
                generalize out[j]'(by omega) = y at *
                obtain ⟨yid, ya, ys⟩ := y
                (try simp only at p0)
                by_cases hy : yid = idn
                · subst hy
                  have hR := Lib.hid (hdup.out (by rw [List.any_eq_true]; exact ⟨_, hjm2.out, by simp⟩))
                  go_wp2_with fail
                  go_quiet (fail)
                  go_wp2_with fail
                  go_ret2
                  refine ⟨none, 0, 0, ?_, ?_, below_drewN hBj _⟩
                  · rw [hR.out]; rfl
                  · rw [hR.out]; exact Sps.nil _
                · have hne : ((yid : Int) == (idn : Int)) = false := by rw [beq_eq_false_iff_ne]; omega
                  have hne2 : (yid == idn) = false := by rw [beq_eq_false_iff_ne]; exact hy
                  have hany2 : Hid ((out.take (j + 1)).any (fun s => s.id == idn) = false) := Lib.hid (by rw [htk.out, List.any_append, hany.out]; simp [hy])
                  clear hany htk hjm2 hy
                  go_wp2_with fail
                  go_quiet (fail)
                  go_wp2_with fail
                  go_roundw
                  case rel => exact ⟨j + 1, by omega, by go_num, hany2, hownj.drewN _, kb.drewN _, below_drewN hBj _⟩
                  case measure => simp [intOf]; omega
              · obtain rfl : j = m := by omega
                have hjm3 : ¬ (j : Int) < j := by omega
                have hR := Lib.hid (hcont.out (by have := hany.out; rwa [List.take_of_length_le (by omega)] at this))
                have c1 := kb.field 1 rfl
                have c2 := kb.field 2 rfl
                have w1 : IntKind.i64.wrap ((pn : Int) + zn) = (pn : Int) + zn := IntWalk.i64_in _ (by omega)
                have hlb := kb.2.2
                have hbj := hBj.size
                go_wp2_with (at_builtin; go_loud (refine wpList_appK rfl (.tmp 90) (.tmp 92) 36 rfl w.heap.size 43 _ 3 24 Try.underlying36 info_sp rfl (by omega) B j d _ rfl (rowK_alloc hownj _) _ 1 1 (spC ⟨idn, pn, zn⟩) rfl rfl (newSp _ ⟨idn, pn, zn⟩ _) (spC_one1 _) (by simp only [maxLen]; omega) (by omega) (by simp; omega) ?_; intro A9 c9 w9 hown9 hgrow hat; have kg := (kb.alloc (.cells #[.int .i64 idn, .int .i64 (pn : Int), .int .i64 (zn : Int)] 43)).grown hgrow (fun e => hfB e.symm); have d1 := kg.field 1 rfl; have d2 := kg.field 2 rfl))
                have hBg2 : Below w.heap.size w w9 := (hBj.alloc hBj.size (.cells #[.int .i64 idn, .int .i64 (pn : Int), .int .i64 (zn : Int)] 43)).grown hgrow (by simp; omega) (fun q hq => rowV_ge hownj q hq)
                go_roundw
                case rel => exact ⟨pn + zn, hfit, by go_num, j + 1, A9, c9, _, rfl, by omega, OwnSp.app hown9, hR, hBg2⟩
                case measure => simp [intOf]; omega
        · have hd2 : s.drop (a + 1) = [] := List.drop_of_length_le (by omega)
          rw [hd2] at hqq
          have hr2 := Lib.hid hqq
          have g1 : decide ((n : Int) ≤ (a : Int) + 1) = true := decide_eq_true (by omega)
          have kb := Box.new wr [.int .i64 (idn : Int), .int .i64 (pn : Int), .int .i64 0] 43
          have hBx := below1 wr (.cells #[.int .i64 (idn : Int), .int .i64 (pn : Int), .int .i64 0] 43)
          have hBg := hB.trans (hBx.mono hB.size)
          clear hqq hd2 Q1
          go_wp2_with fail
          go_ret2
          refine ⟨none, 0, 0, ?_, ?_, hBg⟩
          · rw [hr2.out]; rfl
          · rw [hr2.out]; exact Sps.nil _
    · obtain rfl : a = n := by omega
      have han2 : ¬ (a : Int) < a := by omega
      have hr2 : Hid (R = (0, out)) := Lib.hid (by have := hq.out; rwa [List.drop_of_length_le (by omega), spotsG_nil] at this)
      go_wp2_with fail
      go_ret2
      refine ⟨B, m, d, ?_, ?_, hB⟩
      · rw [hr2.out]; rfl
      · rw [hr2.out]; exact hown.sps

theorem rspots_any (p : Nat) (A : Option Addr) (n c : Nat) (s : List UInt8) (w : World) (hs : Bs w A n c s) (hn : n ≤ 1000000) (hp : p < 65536) :
    Calls Try.prog 15 #[.int .u16 (p : Int), .slice A n c] w (GivesSp w (spotsL p s) (spotsE p s)) := by
  cases h : isProf p
  · exact rspots_no p A n c s w hs hp h
  · have e1 : spotsL p s = (spotsG (isNarrow p) n 0 s []).2 := by unfold spotsL; rw [if_pos h, hs.len]
    have e2 : spotsE p s = (spotsG (isNarrow p) n 0 s []).1 := by unfold spotsE; rw [if_pos h, hs.len]
    rw [e1, e2]
    by_cases h1 : p = 48862
    · have e3 : isNarrow p = true := decide_eq_true h1
      rw [e3]
      exact rspots_narrow A n c s (p : Int) w hs hn (by omega)
    · have e3 : isNarrow p = false := decide_eq_false h1
      rw [e3]
      unfold isProf at h
      rw [decide_eq_true_eq] at h
      exact rspots_wide A n c s (p : Int) w hs hn p rfl (by omega)

end Go.Proofs.Ytpkbikimpjmkgaa
