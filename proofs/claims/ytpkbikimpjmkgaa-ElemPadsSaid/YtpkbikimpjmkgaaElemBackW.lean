/-
  ElemBack, walked under the contracts of package elem's calls. (Written by gen_ElemBackW.py.)
-/
import Derived.Test.YtpkbikimpjmkgaaElemL
namespace Go.Proofs.Ytpkbikimpjmkgaa
open Go.RowKit
set_option linter.unusedVariables false
set_option linter.unusedSimpArgs false

theorem writeL_small {l : List El} (h : rightL l = true) : (writeL l).length ≤ 257 * l.length + 3 := by
  have := body_small (nw := narrowL l) l (fun e he => ((rightL_iff l).1 h).1 e he)
  unfold writeL
  rw [fillB_length]
  unfold bodyL
  have h2 := miss_lt (l.flatMap (elB (narrowL l))).length
  omega
theorem wf_i64 {x : Int} (h1 : -9223372036854775808 ≤ x) (h2 : x ≤ 9223372036854775807) : (Lit.int .i64 x).wf = true := by
  have e1 : IntKind.i64.min = -9223372036854775808 := rfl
  have e2 : IntKind.i64.max = 9223372036854775807 := rfl
  simp only [Lit.wf, Bool.and_eq_true, decide_eq_true_eq]
  omega
theorem profL_lt (l : List El) : profL l < 65536 := by
  unfold profL
  split
  · split <;> omega
  · omega
section
variable (KC : ElemCalls)
include KC
set_option maxRecDepth 100000 in
set_option maxHeartbeats 2000000 in
theorem elemBack_big (A : Option Addr) (n c : Nat) (l : List El) (A2 : Option Addr) (n2 c2 : Nat) (l2 : List El) (p : Nat) (B : Option Addr) (nd cd : Nat) (s : List UInt8) (w : World) (hl : Els w A n c l) (hl2 : Els w A2 n2 c2 l2) (hnd : (nd : Int) ≤ 9223372036854775807) (hb : shortL l = false ∨ shortL l2 = false ∨ 3000 < nd) :
    Calls Try.prog 4 #[.slice A n c, .slice A2 n2 c2, .int .u16 (p : Int), .slice B nd cd] w fun e w' => e = .returned (.bool true) ∧ Below w.heap.size w w' := by
  obtain ⟨b, hsb⟩ : ∃ b, shortL l = b := ⟨_, rfl⟩
  obtain ⟨b2, hsb2⟩ : ∃ b, shortL l2 = b := ⟨_, rfl⟩
  have HS := Lib.hid (rshortL_any A n c l)
  have HSb := Lib.hid (rshortL_any A2 n2 c2 l2)
  rw [hsb] at hb HS
  rw [hsb2] at hb HSb
  have Hb := Lib.hid hb
  clear hb hsb hsb2
  go_enter Try.func4, Try.ntmps4
  go_wp2_with fail
  refine (awake_any KC _).mono ?_
  rintro e w2 ⟨rfl, hB⟩
  replace hl := hl.below hB
  replace hl2 := hl2.below hB
  go_wp2_with fail
  refine (HS.out _ hl).mono ?_
  rintro e w3 ⟨rfl, hb⟩
  replace hB := hB.trans (hb.mono hB.size)
  replace hl2 := hl2.below hb
  cases b with
  | false =>
    go_wp2_with fail
    go_ret
    exact ⟨rfl, hB⟩
  | true =>
    go_wp2_with fail
    refine (HSb.out _ hl2).mono ?_
    rintro e w4 ⟨rfl, hb⟩
    replace hB := hB.trans (hb.mono hB.size)
    cases b2 with
    | false =>
      go_wp2_with fail
      go_ret
      exact ⟨rfl, hB⟩
    | true =>
      have h7 : (3000 : Int) < nd := by rcases Hb.out with h | h | h <;> first | omega | cases h
      go_wp2_with fail
      go_ret
      exact ⟨rfl, hB⟩

set_option maxRecDepth 100000 in
set_option maxHeartbeats 4000000 in
theorem elemBack_no (A : Option Addr) (n c : Nat) (l : List El) (A2 : Option Addr) (n2 c2 : Nat) (l2 : List El) (p : Nat) (B : Option Addr) (nd cd : Nat) (s : List UInt8) (w : World) (hl : Els w A n c l) (hl2 : Els w A2 n2 c2 l2) (hs : Bs w B nd cd s) (hid : ∀ e ∈ l, (Lit.int .i64 e.id).wf = true) (hid2 : ∀ e ∈ l2, (Lit.int .i64 e.id).wf = true) (hsz : ∀ e ∈ l, e.data.length ≤ 1000000) (hsz2 : ∀ e ∈ l2, e.data.length ≤ 1000000) (hsh : shortL l = true) (hsh2 : shortL l2 = true) (hn : n ≤ 300) (hn2 : n2 ≤ 300) (hnd : nd ≤ 3000) (hp : p < 65536) (hr : rightL l = false) :
    Calls Try.prog 4 #[.slice A n c, .slice A2 n2 c2, .int .u16 (p : Int), .slice B nd cd] w fun e w' => e = .returned (.bool true) ∧ Below w.heap.size w w' := by
  have okl := Lib.hid (fun (W : World) (h : Els W A n c l) => (⟨h, by omega, hid, hsz⟩ : ElOk W A n c l))
  have okl2 := Lib.hid (fun (W : World) (h : Els W A2 n2 c2 l2) => (⟨h, by omega, hid2, hsz2⟩ : ElOk W A2 n2 c2 l2))
  have HS := Lib.hid (rshortL_any A n c l)
  have HSb := Lib.hid (rshortL_any A2 n2 c2 l2)
  have HW1 := Lib.hid (fun W h => KC.write A n c l W (okl.out W h))
  have HW2 := Lib.hid (fun W h => KC.write A2 n2 c2 l2 W (okl2.out W h))
  have HR := Lib.hid (fun W h => KC.read p B nd cd s W h (by omega) hp)
  have HC := Lib.hid (fun W h => KC.canon p B nd cd s W h (by omega) hp)
  have hLn : Hid ((readL p s).length ≤ 3000) := Lib.hid (by
    have := spotsL_len p s
    rw [hs.len] at this
    unfold readL
    rw [List.length_map]
    omega)
  have hrd : Hid (spotsE p s = 0 → rightL (readL p s) = true ∧ ∀ e ∈ readL p s, 1 ≤ e.id ∧ e.id ≤ 255 ∧ e.data.length ≤ 255) := Lib.hid (fun h => ⟨read_right h, fun e he => (okEl_iff e).1 (((rightL_iff _).1 (read_right h)).1 e he)⟩)
  have hcan : Hid (spotsE p s = 0 → canonL p s = decide (profL (readL p s) = p ∧ writeL (readL p s) = s)) := Lib.hid (fun h => by unfold canonL; simp [h])
  have hne : Hid (¬ spotsE p s = 0 → readL p s = [] ∧ canonL p s = false) := Lib.hid (fun h => ⟨by unfold readL; rw [(spots_ok p s).2.1 h]; rfl, decide_eq_false fun e => h e.1⟩)
  generalize readL p s = L at *
  generalize spotsE p s = er at *
  generalize canonL p s = cn at *
  rw [hsh] at HS
  rw [hsh2] at HSb
  have k30 : ¬ (3000 : Int) < nd := by omega
  have e1 : writeEB l = [] := by unfold writeEB; rw [hr]; rfl
  have e2 : writeEE l = 1 := by unfold writeEE; rw [hr]; rfl
  rw [e1, e2] at HW1
  clear e1 e2 hr okl okl2 hid hid2 hsz hsz2 hsh hsh2
  go_enter Try.func4, Try.ntmps4
  go_wp2_with fail
  refine (awake_any KC _).mono ?_
  rintro e w2 ⟨rfl, hB⟩
  replace hs := hs.below hB
  replace hl := hl.below hB
  replace hl2 := hl2.below hB
  go_wp2_with fail
  refine (HS.out _ hl).mono ?_
  rintro e w3 ⟨rfl, hb⟩
  replace hB := hB.trans (hb.mono hB.size)
  replace hl := hl.below hb
  replace hl2 := hl2.below hb
  replace hs := hs.below hb
  clear hb
  go_wp2_with fail
  refine (HSb.out _ hl2).mono ?_
  rintro e w4 ⟨rfl, hb⟩
  replace hB := hB.trans (hb.mono hB.size)
  replace hl := hl.below hb
  replace hl2 := hl2.below hb
  replace hs := hs.below hb
  clear hb
  go_wp2_with fail
  refine (HW1.out _ hl).mono ?_
  rintro e w5 ⟨A5, c5, rfl, hx, hb⟩
  replace hB := hB.trans (hb.mono hB.size)
  replace hl := hl.below hb
  replace hl2 := hl2.below hb
  replace hs := hs.below hb
  clear hb
  go_wp2_with fail
  refine (HW2.out _ hl2).mono ?_
  rintro e w6 ⟨A6, c6, rfl, hy, hb⟩
  replace hB := hB.trans (hb.mono hB.size)
  replace hl := hl.below hb
  replace hl2 := hl2.below hb
  replace hs := hs.below hb
  replace hx := hx.below hb
  clear hb
  go_wp2_with fail
  clear hx hy hl hl2
  refine (HR.out _ hs).mono ?_
  rintro e w20 ⟨A20, m20, c20, rfl, hx20, hb⟩
  replace hB := hB.trans (hb.mono hB.size)
  replace hs := hs.below hb
  clear hb
  have hm20 := hx20.len
  by_cases he : er = 0
  · subst he
    have hxr := hrd.out rfl
    have okx := Lib.hid (fun (W : World) (h : Els W A20 m20 c20 L) => (⟨h, by have := hLn.out; omega, fun e he => wf_i64 (by have := hxr.2 e he; omega) (by have := hxr.2 e he; omega), fun e he => by have := hxr.2 e he; omega⟩ : ElOk W A20 m20 c20 L))
    have hW1 := Lib.hid (fun W h => KC.write A20 m20 c20 L W (okx.out W h))
    have hRr := Lib.hid (fun W h => KC.right A20 m20 c20 L W (okx.out W h))
    rw [hxr.1] at hRr
    have e1 : writeEB L = writeL L := by unfold writeEB; rw [hxr.1]; rfl
    have e2 : writeEE L = 0 := by unfold writeEE; rw [hxr.1]; rfl
    rw [e1, e2] at hW1
    have hrw := Lib.hid (read_write hxr.1)
    have hwl := Lib.hid (writeL_small hxr.1)
    have hpl := profL_lt L
    have hR2 := Lib.hid (fun W A c h => KC.read (profL L) A (writeL L).length c (writeL L) W h (by have := hwl.out; have := hLn.out; omega) hpl)
    rw [hrw.out.1, hrw.out.2.2] at hR2
    have hcn := hcan.out rfl
    clear e1 e2 hxr hrw hrd hcan hwl okx
    generalize writeL L = X at *
    generalize profL L = q at *
    clear hm20
    go_wp2_with fail
    refine (hW1.out _ hx20).mono ?_
    rintro e w21 ⟨A21, c21, rfl, hx, hb⟩
    replace hB := hB.trans (hb.mono hB.size)
    replace hs := hs.below hb
    replace hx20 := hx20.below hb
    clear hb
    go_wp2_with fail
    refine (hR2.out _ A21 c21 hx).mono ?_
    rintro e w22 ⟨A22, m22, c22, rfl, hy, hb⟩
    replace hB := hB.trans (hb.mono hB.size)
    replace hs := hs.below hb
    replace hx20 := hx20.below hb
    replace hx := hx.below hb
    clear hb
    go_wp2_with fail
    refine (hRr.out _ hx20).mono ?_
    rintro e w23 ⟨rfl, hb⟩
    replace hB := hB.trans (hb.mono hB.size)
    replace hs := hs.below hb
    replace hx20 := hx20.below hb
    replace hx := hx.below hb
    replace hy := hy.below hb
    clear hb
    go_wp2_with fail
    refine (rsameL_any _ _ _ _ _ _ _ _ _ hx20 hy).mono ?_
    rintro e w24 ⟨rfl, hb⟩
    rw [decide_eq_true (rfl : L = L)]
    replace hB := hB.trans (hb.mono hB.size)
    replace hs := hs.below hb
    replace hx := hx.below hb
    clear hb hx20 hy
    go_wp2_with fail
    refine (HC.out _ hs).mono ?_
    rintro e w25 ⟨rfl, hb⟩
    replace hB := hB.trans (hb.mono hB.size)
    replace hs := hs.below hb
    replace hx := hx.below hb
    clear hb
    have t1 : (convert 24 9 (.slice A21 X.length c21)).run Try.prog w25 = .ok (.string ⟨X.toArray⟩) w25 := str_of hx
    have t2 : (convert 24 9 (.slice B nd cd)).run Try.prog w25 = .ok (.string ⟨s.toArray⟩) w25 := str_of hs
    by_cases hqp : q = p
    · subst hqp
      have hcn2 : cn = (X == s) := by rw [hcn]; simp; rw [Bool.eq_iff_iff, decide_eq_true_eq, beq_iff_eq]
      subst hcn2
      clear hcn
      go_wp2_with fail
      go_ret
      exact ⟨by first | rfl | (simp; done), hB⟩
    · have hqf : ((q : Int) == (p : Int)) = false := by rw [beq_eq_false_iff_ne]; omega
      have hcn2 : cn = false := by rw [hcn]; exact decide_eq_false fun h => hqp h.1
      subst hcn2
      clear hcn
      go_wp2_with fail
      go_ret
      exact ⟨by first | rfl | (simp; done), hB⟩
  · have hz : ((er : Int) != 0) = true := by rw [bne_iff_ne]; omega
    obtain ⟨hL0, hcn⟩ := hne.out he
    subst hL0 hcn
    obtain rfl : m20 = 0 := by rw [← hm20]; rfl
    clear he hm20
    go_wp2_with fail
    refine (HC.out _ hs).mono ?_
    rintro e w21 ⟨rfl, hb⟩
    go_wp2_with fail
    go_ret
    exact ⟨rfl, hB.trans (hb.mono hB.size)⟩

set_option maxRecDepth 100000 in
set_option maxHeartbeats 8000000 in
theorem elemBack_yes (A : Option Addr) (n c : Nat) (l : List El) (A2 : Option Addr) (n2 c2 : Nat) (l2 : List El) (p : Nat) (B : Option Addr) (nd cd : Nat) (s : List UInt8) (w : World) (hl : Els w A n c l) (hl2 : Els w A2 n2 c2 l2) (hs : Bs w B nd cd s) (hid : ∀ e ∈ l, (Lit.int .i64 e.id).wf = true) (hid2 : ∀ e ∈ l2, (Lit.int .i64 e.id).wf = true) (hsz : ∀ e ∈ l, e.data.length ≤ 1000000) (hsz2 : ∀ e ∈ l2, e.data.length ≤ 1000000) (hsh : shortL l = true) (hsh2 : shortL l2 = true) (hn : n ≤ 300) (hn2 : n2 ≤ 300) (hnd : nd ≤ 3000) (hp : p < 65536) (hr : rightL l = true) :
    Calls Try.prog 4 #[.slice A n c, .slice A2 n2 c2, .int .u16 (p : Int), .slice B nd cd] w fun e w' => e = .returned (.bool true) ∧ Below w.heap.size w w' := by
  have okl := Lib.hid (fun (W : World) (h : Els W A n c l) => (⟨h, by omega, hid, hsz⟩ : ElOk W A n c l))
  have okl2 := Lib.hid (fun (W : World) (h : Els W A2 n2 c2 l2) => (⟨h, by omega, hid2, hsz2⟩ : ElOk W A2 n2 c2 l2))
  have HS := Lib.hid (rshortL_any A n c l)
  have HSb := Lib.hid (rshortL_any A2 n2 c2 l2)
  have HW1 := Lib.hid (fun W h => KC.write A n c l W (okl.out W h))
  have HW2 := Lib.hid (fun W h => KC.write A2 n2 c2 l2 W (okl2.out W h))
  have HR := Lib.hid (fun W h => KC.read p B nd cd s W h (by omega) hp)
  have HC := Lib.hid (fun W h => KC.canon p B nd cd s W h (by omega) hp)
  have hLn : Hid ((readL p s).length ≤ 3000) := Lib.hid (by
    have := spotsL_len p s
    rw [hs.len] at this
    unfold readL
    rw [List.length_map]
    omega)
  have hrd : Hid (spotsE p s = 0 → rightL (readL p s) = true ∧ ∀ e ∈ readL p s, 1 ≤ e.id ∧ e.id ≤ 255 ∧ e.data.length ≤ 255) := Lib.hid (fun h => ⟨read_right h, fun e he => (okEl_iff e).1 (((rightL_iff _).1 (read_right h)).1 e he)⟩)
  have hcan : Hid (spotsE p s = 0 → canonL p s = decide (profL (readL p s) = p ∧ writeL (readL p s) = s)) := Lib.hid (fun h => by unfold canonL; simp [h])
  have hne : Hid (¬ spotsE p s = 0 → readL p s = [] ∧ canonL p s = false) := Lib.hid (fun h => ⟨by unfold readL; rw [(spots_ok p s).2.1 h]; rfl, decide_eq_false fun e => h e.1⟩)
  generalize readL p s = L at *
  generalize spotsE p s = er at *
  generalize canonL p s = cn at *
  rw [hsh] at HS
  rw [hsh2] at HSb
  have k30 : ¬ (3000 : Int) < nd := by omega
  have e1 : writeEB l = writeL l := by unfold writeEB; rw [hr]; rfl
  have e2 : writeEE l = 0 := by unfold writeEE; rw [hr]; rfl
  have hrw := read_write hr
  have hcw := canon_write hr
  have hwl := writeL_small hr
  rw [hl.len] at hwl
  have hpl := profL_lt l
  have hww := write_whole l
  rw [e1, e2] at HW1
  have HRb := Lib.hid (fun W A c h => KC.read (profL l) A (writeL l).length c (writeL l) W h (by omega) hpl)
  have HCb := Lib.hid (fun W A c h => KC.canon (profL l) A (writeL l).length c (writeL l) W h (by omega) hpl)
  rw [hrw.1, hrw.2.2] at HRb
  rw [hcw] at HCb
  have hinj : Hid (rightL l2 = true → ((profL l = profL l2 ∧ writeEB l2 = writeL l2 ∧ writeL l = writeEB l2) ↔ l = l2)) := Lib.hid (fun k => by
    have : writeEB l2 = writeL l2 := by unfold writeEB; rw [k]; rfl
    rw [this, ← write_inj hr k]
    exact ⟨fun h => ⟨h.1, h.2.2⟩, fun h => ⟨h.1, rfl, h.2⟩⟩)
  replace hinj : Hid (rightL l2 = true → ((profL l = profL l2 ∧ writeL l = writeEB l2) ↔ l = l2)) := Lib.hid (fun k => by
    have : writeEB l2 = writeL l2 := by unfold writeEB; rw [k]; rfl
    rw [this]
    exact write_inj hr k)
  have her2 : Hid (rightL l2 = true → writeEE l2 = 0 ∧ True) := Lib.hid (fun k => ⟨by unfold writeEE; rw [k]; rfl, trivial⟩)
  have her3 : Hid (¬ rightL l2 = true → writeEE l2 = 1) := Lib.hid (fun k => by unfold writeEE; rw [if_neg k])
  have HSM := Lib.hid (fun W h1 h2 => rsameL_any A n c l A2 n2 c2 l2 W h1 h2)
  clear e1 e2 hr okl okl2 hid hid2 hsz hsz2 hsh hsh2 hrw hcw
  generalize writeEB l2 = Y at *
  generalize writeEE l2 = er2 at *
  generalize profL l2 = pr2 at *
  generalize writeL l = X at *
  generalize profL l = pr at *
  have hmod : ((X.length : Int)).tmod 4 = 0 := by rw [Int.tmod_eq_emod_of_nonneg (by omega)]; omega
  have hxl : (X.length : Int) ≤ 100000 := by omega
  clear hww hwl
  go_enter Try.func4, Try.ntmps4
  go_wp2_with fail
  refine (awake_any KC _).mono ?_
  rintro e w2 ⟨rfl, hB⟩
  replace hs := hs.below hB
  replace hl := hl.below hB
  replace hl2 := hl2.below hB
  go_wp2_with fail
  refine (HS.out _ hl).mono ?_
  rintro e w3 ⟨rfl, hb⟩
  replace hB := hB.trans (hb.mono hB.size)
  replace hl := hl.below hb
  replace hl2 := hl2.below hb
  replace hs := hs.below hb
  clear hb
  go_wp2_with fail
  refine (HSb.out _ hl2).mono ?_
  rintro e w4 ⟨rfl, hb⟩
  replace hB := hB.trans (hb.mono hB.size)
  replace hl := hl.below hb
  replace hl2 := hl2.below hb
  replace hs := hs.below hb
  clear hb
  go_wp2_with fail
  refine (HW1.out _ hl).mono ?_
  rintro e w5 ⟨A5, c5, rfl, hx, hb⟩
  replace hB := hB.trans (hb.mono hB.size)
  replace hl := hl.below hb
  replace hl2 := hl2.below hb
  replace hs := hs.below hb
  clear hb
  go_wp2_with fail
  refine (HW2.out _ hl2).mono ?_
  rintro e w6 ⟨A6, c6, rfl, hy, hb⟩
  replace hB := hB.trans (hb.mono hB.size)
  replace hl := hl.below hb
  replace hl2 := hl2.below hb
  replace hs := hs.below hb
  replace hx := hx.below hb
  clear hb
  go_wp2_with fail
  refine (HRb.out _ A5 c5 hx).mono ?_
  rintro e w7 ⟨A7, m7, c7, rfl, hz7, hb⟩
  replace hB := hB.trans (hb.mono hB.size)
  replace hl := hl.below hb
  replace hl2 := hl2.below hb
  replace hs := hs.below hb
  replace hx := hx.below hb
  replace hy := hy.below hb
  clear hb
  go_wp2_with fail
  refine (rsameL_any _ _ _ _ _ _ _ _ _ hz7 hl).mono ?_
  rintro e w8 ⟨rfl, hb⟩
  rw [decide_eq_true (rfl : l = l)]
  clear hz7
  replace hB := hB.trans (hb.mono hB.size)
  replace hl := hl.below hb
  replace hl2 := hl2.below hb
  replace hs := hs.below hb
  replace hx := hx.below hb
  replace hy := hy.below hb
  clear hb
  go_wp2_with fail
  refine (HCb.out _ A5 c5 hx).mono ?_
  rintro e w9 ⟨rfl, hb⟩
  replace hB := hB.trans (hb.mono hB.size)
  replace hl := hl.below hb
  replace hl2 := hl2.below hb
  replace hs := hs.below hb
  replace hx := hx.below hb
  replace hy := hy.below hb
  clear hb
  go_upto_region 11 with fail
  go_cut [96] (fun q W => q = .bool false ∧ Below w9.heap.size w9 W)
  case first =>
    by_cases hm : rightL l2 = true
    · have e0 : (er2 : Int) = 0 := by have := (her2.out hm).1; omega
      by_cases hpq : pr = pr2
      · have hX : (X == Y) = decide (l = l2) := by
          have := hinj.out hm
          rw [Bool.eq_iff_iff, beq_iff_eq, decide_eq_true_eq, ← this]
          exact ⟨fun h => ⟨hpq, h⟩, fun h => h.2⟩
        have hpq2 : ((pr : Int) == (pr2 : Int)) = true := by rw [beq_iff_eq]; omega
        have g1 : ((er2 : Int) == 0) = true := by rw [beq_iff_eq]; exact e0
        clear e0 hpq
        obtain ⟨dl, hdl⟩ : ∃ dl, decide (l = l2) = dl := ⟨_, rfl⟩
        rw [hdl] at hX HSM
        clear hdl
        refine wp_region_held_drew (S := (fun W => (convert 24 9 (.slice A5 X.length c5)).run Try.prog W = .ok (.string ⟨X.toArray⟩) W ∧ (convert 24 9 (.slice A6 Y.length c6)).run Try.prog W = .ok (.string ⟨Y.toArray⟩) W)) (by kernel_rfl) ⟨str_of hx.drew, str_of hy.drew⟩ (fun hHeld => ?_)
        refine wpAnyH_take (i := 0) (v := ?vG0) rfl (by kernel_rfl) (by kernel_rfl) (by kernel_rfl) (fun _ _ _ h => h) (Or.inl ⟨by rfl, ?hG0⟩) (by assumption) ?rG0
        case hG0 => (intro w hSw; (try dsimp only at hSw); go_simp; try with_reducible rfl)
        change wpAnyH _ _ _ _ _ _ _ (Act.put _ (some 79) _) _
        simp only [Act.put, List.setIfInBounds_toArray, List.set_cons_zero, List.set_cons_succ]
        refine wpAnyH_take (i := 1) (v := ?vG1) rfl (by kernel_rfl) (by kernel_rfl) (by kernel_rfl) (fun _ _ _ h => h) (Or.inl ⟨by rfl, ?hG1⟩) (by assumption) ?rG1
        case hG1 => (intro w hSw; (try dsimp only at hSw); go_simp; try with_reducible rfl)
        change wpAnyH _ _ _ _ _ _ _ (Act.put _ (some 80) _) _
        simp only [Act.put, List.setIfInBounds_toArray, List.set_cons_zero, List.set_cons_succ]
        refine wpAnyH_take (i := 2) (v := ?vG2) rfl (by kernel_rfl) (by kernel_rfl) (by kernel_rfl) (fun _ _ _ h => h) (Or.inl ⟨by rfl, ?hG2⟩) (by assumption) ?rG2
        case hG2 => (intro w hSw; (try dsimp only at hSw); go_simp; try with_reducible rfl)
        change wpAnyH _ _ _ _ _ _ _ (Act.put _ (some 81) _) _
        simp only [Act.put, List.setIfInBounds_toArray, List.set_cons_zero, List.set_cons_succ]
        refine wpAnyH_take (i := 3) (v := ?vG3) rfl (by kernel_rfl) (by kernel_rfl) (by kernel_rfl) (fun _ _ _ h => h) (Or.inl ⟨by rfl, ?hG3⟩) (by assumption) ?rG3
        case hG3 => (intro w hSw; (try dsimp only at hSw); go_simp; try with_reducible rfl)
        change wpAnyH _ _ _ _ _ _ _ (Act.put _ (some 82) _) _
        simp only [Act.put, List.setIfInBounds_toArray, List.set_cons_zero, List.set_cons_succ]
        refine wpAnyH_take (i := 4) (v := ?vG4) rfl (by kernel_rfl) (by kernel_rfl) (by kernel_rfl) (fun _ _ _ h => h) (Or.inl ⟨by rfl, ?hG4⟩) (by assumption) ?rG4
        case hG4 => (intro w hSw; (try dsimp only at hSw); go_simp; try with_reducible rfl)
        change wpAnyH _ _ _ _ _ _ _ (Act.put _ (some 83) _) _
        simp only [Act.put, List.setIfInBounds_toArray, List.set_cons_zero, List.set_cons_succ]
        refine wpAnyH_take (i := 5) (v := ?vG5) rfl (by kernel_rfl) (by kernel_rfl) (by kernel_rfl) (fun _ _ _ h => h) (Or.inl ⟨by rfl, ?hG5⟩) (by assumption) ?rG5
        case hG5 => (intro w hSw; (try dsimp only at hSw); go_simp; try with_reducible rfl)
        change wpAnyH _ _ _ _ _ _ _ (Act.put _ (some 84) _) _
        simp only [Act.put, List.setIfInBounds_toArray, List.set_cons_zero, List.set_cons_succ]
        refine wpAnyH_take (i := 6) (v := ?vG6) rfl (by kernel_rfl) (by kernel_rfl) (by kernel_rfl) (fun _ _ _ h => h) (Or.inl ⟨by rfl, ?hG6⟩) (by assumption) ?rG6
        case hG6 => (intro w hSw; (try dsimp only at hSw); go_simp; try with_reducible rfl)
        change wpAnyH _ _ _ _ _ _ _ (Act.put _ (some 85) _) _
        simp only [Act.put, List.setIfInBounds_toArray, List.set_cons_zero, List.set_cons_succ]
        refine wpAnyH_take (i := 7) (v := ?vG7) rfl (by kernel_rfl) (by kernel_rfl) (by kernel_rfl) (fun _ _ _ h => h) (Or.inl ⟨by rfl, ?hG7⟩) (by assumption) ?rG7
        case hG7 => (intro w hSw; (try dsimp only at hSw); go_simp; try with_reducible rfl)
        change wpAnyH _ _ _ _ _ _ _ (Act.put _ (some 86) _) _
        simp only [Act.put, List.setIfInBounds_toArray, List.set_cons_zero, List.set_cons_succ]
        refine wpAnyH_take (i := 8) (v := ?vG8) rfl (by kernel_rfl) (by kernel_rfl) (by kernel_rfl) (fun _ _ _ h => h) (Or.inl ⟨by rfl, ?hG8⟩) (by assumption) ?rG8
        case hG8 => (intro w hSw; (try dsimp only at hSw); go_simp; try with_reducible rfl)
        change wpAnyH _ _ _ _ _ _ _ (Act.put _ (some 87) _) _
        simp only [Act.put, List.setIfInBounds_toArray, List.set_cons_zero, List.set_cons_succ]
        refine wpAnyH_take (i := 9) (v := ?vG9) rfl (by kernel_rfl) (by kernel_rfl) (by kernel_rfl) (fun _ _ _ h => h) (Or.inl ⟨by rfl, ?hG9⟩) (by assumption) ?rG9
        case hG9 => (intro w hSw; (try dsimp only at hSw); go_simp; try with_reducible rfl)
        change wpAnyH _ _ _ _ _ _ _ (Act.put _ (some 88) _) _
        simp only [Act.put, List.setIfInBounds_toArray, List.set_cons_zero, List.set_cons_succ]
        refine wpAnyH_take (i := 10) (v := ?vG10) rfl (by kernel_rfl) (by kernel_rfl) (by kernel_rfl) (fun _ _ _ h => h) (Or.inl ⟨by rfl, ?hG10⟩) (by assumption) ?rG10
        case hG10 => (intro w hSw; (try dsimp only at hSw); go_simp; try with_reducible rfl)
        change wpAnyH _ _ _ _ _ _ _ (Act.put _ (some 89) _) _
        simp only [Act.put, List.setIfInBounds_toArray, List.set_cons_zero, List.set_cons_succ]
        refine wpAnyH_take (i := 11) (v := ?vG11) rfl (by kernel_rfl) (by kernel_rfl) (by kernel_rfl) (fun _ _ _ h => h) (Or.inl ⟨by rfl, ?hG11⟩) (by assumption) ?rG11
        case hG11 => (intro w hSw; (try dsimp only at hSw); go_simp; try with_reducible rfl)
        change wpAnyH _ _ _ _ _ _ _ (Act.put _ (some 90) _) _
        simp only [Act.put, List.setIfInBounds_toArray, List.set_cons_zero, List.set_cons_succ]
        refine wpAnyH_take (i := 12) (v := ?vG12) rfl (by kernel_rfl) (by kernel_rfl) (by kernel_rfl) (fun _ _ _ h => h) (Or.inl ⟨by rfl, ?hG12⟩) (by assumption) ?rG12
        case hG12 => (intro w hSw; (try dsimp only at hSw); go_simp; try with_reducible rfl)
        change wpAnyH _ _ _ _ _ _ _ (Act.put _ (some 91) _) _
        simp only [Act.put, List.setIfInBounds_toArray, List.set_cons_zero, List.set_cons_succ]
        refine wpAnyH_take (i := 13) (v := ?vG13) rfl (by kernel_rfl) (by kernel_rfl) (by kernel_rfl) (fun _ _ _ h => h) (Or.inl ⟨by rfl, ?hG13⟩) (by assumption) ?rG13
        case hG13 => (intro w hSw; (try dsimp only at hSw); go_simp; try with_reducible rfl)
        change wpAnyH _ _ _ _ _ _ _ (Act.put _ (some 92) _) _
        simp only [Act.put, List.setIfInBounds_toArray, List.set_cons_zero, List.set_cons_succ]
        refine wpAnyH_take (i := 14) (v := ?vG14) rfl (by kernel_rfl) (by kernel_rfl) (by kernel_rfl) (fun _ _ _ h => h) (Or.inl ⟨by rfl, ?hG14⟩) (by assumption) ?rG14
        case hG14 => (intro w hSw; (try dsimp only at hSw); go_simp; try with_reducible rfl)
        change wpAnyH _ _ _ _ _ _ _ (Act.put _ (some 93) _) _
        simp only [Act.put, List.setIfInBounds_toArray, List.set_cons_zero, List.set_cons_succ]
        refine wpAnyH_ready (rs := [15]) (by kernel_rfl) (by simp) ?_
        refine AllReadyH.cons rfl (fun K hK => ?_) AllReadyH.nil
        go_simp
        refine (HSM.out _ hl.drew hl2.drew).mono ?_
        rintro e wa ⟨rfl, hba⟩
        go_wp2_with fail
        refine hK.out _ _ ?_ (fun hHeld => ?_)
        · exact ⟨str_of (Bs.below (w := w9.drew) hx.drew hba), str_of (Bs.below (w := w9.drew) hy.drew hba)⟩
        clear hK K
        try simp only [Act.put, List.setIfInBounds_toArray, List.set_cons_zero, List.set_cons_succ]
        refine wpAnyH_take (i := 16) (v := ?vG16) rfl (by kernel_rfl) (by kernel_rfl) (by kernel_rfl) (fun _ _ _ h => h) (Or.inl ⟨by rfl, ?hG16⟩) (by assumption) ?rG16
        case hG16 => (intro w hSw; (try dsimp only at hSw); go_simp; try with_reducible rfl)
        change wpAnyH _ _ _ _ _ _ _ (Act.put _ (some 95) _) _
        simp only [Act.put, List.setIfInBounds_toArray, List.set_cons_zero, List.set_cons_succ]
        refine wpAnyH_take (i := 17) (v := ?vG17) rfl (by kernel_rfl) (by kernel_rfl) (by kernel_rfl) (fun _ _ _ h => h) (Or.inl ⟨by rfl, ?hG17⟩) (by assumption) ?rG17
        case hG17 => (intro w hSw; (try dsimp only at hSw); go_simp; try with_reducible rfl)
        change wpAnyH _ _ _ _ _ _ _ (Act.put _ (some 96) _) _
        simp only [Act.put, List.setIfInBounds_toArray, List.set_cons_zero, List.set_cons_succ]
        refine wpAnyH_done (by kernel_rfl) ?_ _
        go_wp2_with fail
        go_meet
        exact ⟨by first | rfl | (simp; done) | (simp [hX]; done), (Below.refl _ w9).drew.trans hba⟩
      · have hX : decide (l = l2) = false := decide_eq_false fun e => hpq ((hinj.out hm).2 e).1
        have hpq2 : ((pr : Int) == (pr2 : Int)) = false := by rw [beq_eq_false_iff_ne]; omega
        have g1 : ((er2 : Int) == 0) = true := by rw [beq_iff_eq]; exact e0
        rw [hX] at HSM
        clear e0
        refine wp_region_held_drew (S := fun _ => True) (by kernel_rfl) trivial (fun hHeld => ?_)
        refine wpAnyH_take (i := 0) (v := ?vH0) rfl (by kernel_rfl) (by kernel_rfl) (by kernel_rfl) (fun _ _ _ h => h) (Or.inl ⟨by rfl, ?hH0⟩) (by assumption) ?rH0
        case hH0 => (intro w hSw; (try dsimp only at hSw); go_simp; try with_reducible rfl)
        change wpAnyH _ _ _ _ _ _ _ (Act.put _ (some 79) _) _
        simp only [Act.put, List.setIfInBounds_toArray, List.set_cons_zero, List.set_cons_succ]
        refine wpAnyH_take (i := 1) (v := ?vH1) rfl (by kernel_rfl) (by kernel_rfl) (by kernel_rfl) (fun _ _ _ h => h) (Or.inl ⟨by rfl, ?hH1⟩) (by assumption) ?rH1
        case hH1 => (intro w hSw; (try dsimp only at hSw); go_simp; try with_reducible rfl)
        change wpAnyH _ _ _ _ _ _ _ (Act.put _ (some 80) _) _
        simp only [Act.put, List.setIfInBounds_toArray, List.set_cons_zero, List.set_cons_succ]
        refine wpAnyH_take (i := 2) (v := ?vH2) rfl (by kernel_rfl) (by kernel_rfl) (by kernel_rfl) (fun _ _ _ h => h) (Or.inl ⟨by rfl, ?hH2⟩) (by assumption) ?rH2
        case hH2 => (intro w hSw; (try dsimp only at hSw); go_simp; try with_reducible rfl)
        change wpAnyH _ _ _ _ _ _ _ (Act.put _ (some 81) _) _
        simp only [Act.put, List.setIfInBounds_toArray, List.set_cons_zero, List.set_cons_succ]
        refine wpAnyH_take (i := 3) (v := ?vH3) rfl (by kernel_rfl) (by kernel_rfl) (by kernel_rfl) (fun _ _ _ h => h) (Or.inl ⟨by rfl, ?hH3⟩) (by assumption) ?rH3
        case hH3 => (intro w hSw; (try dsimp only at hSw); go_simp; try with_reducible rfl)
        change wpAnyH _ _ _ _ _ _ _ (Act.put _ (some 82) _) _
        simp only [Act.put, List.setIfInBounds_toArray, List.set_cons_zero, List.set_cons_succ]
        refine wpAnyH_take (i := 4) (v := ?vH4) rfl (by kernel_rfl) (by kernel_rfl) (by kernel_rfl) (fun _ _ _ h => h) (Or.inl ⟨by rfl, ?hH4⟩) (by assumption) ?rH4
        case hH4 => (intro w hSw; (try dsimp only at hSw); go_simp; try with_reducible rfl)
        change wpAnyH _ _ _ _ _ _ _ (Act.put _ (some 83) _) _
        simp only [Act.put, List.setIfInBounds_toArray, List.set_cons_zero, List.set_cons_succ]
        refine wpAnyH_take (i := 5) (v := ?vH5) rfl (by kernel_rfl) (by kernel_rfl) (by kernel_rfl) (fun _ _ _ h => h) (Or.inl ⟨by rfl, ?hH5⟩) (by assumption) ?rH5
        case hH5 => (intro w hSw; (try dsimp only at hSw); go_simp; try with_reducible rfl)
        change wpAnyH _ _ _ _ _ _ _ (Act.put _ (some 84) _) _
        simp only [Act.put, List.setIfInBounds_toArray, List.set_cons_zero, List.set_cons_succ]
        refine wpAnyH_take (i := 6) (v := ?vH6) rfl (by kernel_rfl) (by kernel_rfl) (by kernel_rfl) (fun _ _ _ h => h) (Or.inl ⟨by rfl, ?hH6⟩) (by assumption) ?rH6
        case hH6 => (intro w hSw; (try dsimp only at hSw); go_simp; try with_reducible rfl)
        change wpAnyH _ _ _ _ _ _ _ (Act.put _ (some 85) _) _
        simp only [Act.put, List.setIfInBounds_toArray, List.set_cons_zero, List.set_cons_succ]
        refine wpAnyH_take (i := 7) (v := undef) rfl (by kernel_rfl) (by kernel_rfl) (by kernel_rfl) (fun _ _ _ h => h) (Or.inr ⟨by rfl, rfl⟩) (by assumption) ?_
        change wpAnyH _ _ _ _ _ _ _ (Act.put _ (some 86) _) _
        simp only [Act.put, List.setIfInBounds_toArray, List.set_cons_zero, List.set_cons_succ]
        refine wpAnyH_take (i := 8) (v := undef) rfl (by kernel_rfl) (by kernel_rfl) (by kernel_rfl) (fun _ _ _ h => h) (Or.inr ⟨by rfl, rfl⟩) (by assumption) ?_
        change wpAnyH _ _ _ _ _ _ _ (Act.put _ (some 87) _) _
        simp only [Act.put, List.setIfInBounds_toArray, List.set_cons_zero, List.set_cons_succ]
        refine wpAnyH_take (i := 9) (v := undef) rfl (by kernel_rfl) (by kernel_rfl) (by kernel_rfl) (fun _ _ _ h => h) (Or.inr ⟨by rfl, rfl⟩) (by assumption) ?_
        change wpAnyH _ _ _ _ _ _ _ (Act.put _ (some 88) _) _
        simp only [Act.put, List.setIfInBounds_toArray, List.set_cons_zero, List.set_cons_succ]
        refine wpAnyH_take (i := 10) (v := undef) rfl (by kernel_rfl) (by kernel_rfl) (by kernel_rfl) (fun _ _ _ h => h) (Or.inr ⟨by rfl, rfl⟩) (by assumption) ?_
        change wpAnyH _ _ _ _ _ _ _ (Act.put _ (some 89) _) _
        simp only [Act.put, List.setIfInBounds_toArray, List.set_cons_zero, List.set_cons_succ]
        refine wpAnyH_take (i := 11) (v := undef) rfl (by kernel_rfl) (by kernel_rfl) (by kernel_rfl) (fun _ _ _ h => h) (Or.inr ⟨by rfl, rfl⟩) (by assumption) ?_
        change wpAnyH _ _ _ _ _ _ _ (Act.put _ (some 90) _) _
        simp only [Act.put, List.setIfInBounds_toArray, List.set_cons_zero, List.set_cons_succ]
        refine wpAnyH_take (i := 12) (v := ?vH12) rfl (by kernel_rfl) (by kernel_rfl) (by kernel_rfl) (fun _ _ _ h => h) (Or.inl ⟨by rfl, ?hH12⟩) (by assumption) ?rH12
        case hH12 => (intro w hSw; (try dsimp only at hSw); go_simp; try with_reducible rfl)
        change wpAnyH _ _ _ _ _ _ _ (Act.put _ (some 91) _) _
        simp only [Act.put, List.setIfInBounds_toArray, List.set_cons_zero, List.set_cons_succ]
        refine wpAnyH_take (i := 13) (v := ?vH13) rfl (by kernel_rfl) (by kernel_rfl) (by kernel_rfl) (fun _ _ _ h => h) (Or.inl ⟨by rfl, ?hH13⟩) (by assumption) ?rH13
        case hH13 => (intro w hSw; (try dsimp only at hSw); go_simp; try with_reducible rfl)
        change wpAnyH _ _ _ _ _ _ _ (Act.put _ (some 92) _) _
        simp only [Act.put, List.setIfInBounds_toArray, List.set_cons_zero, List.set_cons_succ]
        refine wpAnyH_take (i := 14) (v := ?vH14) rfl (by kernel_rfl) (by kernel_rfl) (by kernel_rfl) (fun _ _ _ h => h) (Or.inl ⟨by rfl, ?hH14⟩) (by assumption) ?rH14
        case hH14 => (intro w hSw; (try dsimp only at hSw); go_simp; try with_reducible rfl)
        change wpAnyH _ _ _ _ _ _ _ (Act.put _ (some 93) _) _
        simp only [Act.put, List.setIfInBounds_toArray, List.set_cons_zero, List.set_cons_succ]
        refine wpAnyH_ready (rs := [15]) (by kernel_rfl) (by simp) ?_
        refine AllReadyH.cons rfl (fun K hK => ?_) AllReadyH.nil
        go_simp
        refine (HSM.out _ hl.drew hl2.drew).mono ?_
        rintro e wa ⟨rfl, hba⟩
        go_wp2_with fail
        refine hK.out _ _ ?_ (fun hHeld => ?_)
        · trivial
        clear hK K
        try simp only [Act.put, List.setIfInBounds_toArray, List.set_cons_zero, List.set_cons_succ]
        refine wpAnyH_take (i := 16) (v := ?vH16) rfl (by kernel_rfl) (by kernel_rfl) (by kernel_rfl) (fun _ _ _ h => h) (Or.inl ⟨by rfl, ?hH16⟩) (by assumption) ?rH16
        case hH16 => (intro w hSw; (try dsimp only at hSw); go_simp; try with_reducible rfl)
        change wpAnyH _ _ _ _ _ _ _ (Act.put _ (some 95) _) _
        simp only [Act.put, List.setIfInBounds_toArray, List.set_cons_zero, List.set_cons_succ]
        refine wpAnyH_take (i := 17) (v := ?vH17) rfl (by kernel_rfl) (by kernel_rfl) (by kernel_rfl) (fun _ _ _ h => h) (Or.inl ⟨by rfl, ?hH17⟩) (by assumption) ?rH17
        case hH17 => (intro w hSw; (try dsimp only at hSw); go_simp; try with_reducible rfl)
        change wpAnyH _ _ _ _ _ _ _ (Act.put _ (some 96) _) _
        simp only [Act.put, List.setIfInBounds_toArray, List.set_cons_zero, List.set_cons_succ]
        refine wpAnyH_done (by kernel_rfl) ?_ _
        go_wp2_with fail
        go_meet
        exact ⟨by first | rfl | (simp; done), (Below.refl _ w9).drew.trans hba⟩
    · have g1 : ((er2 : Int) == 0) = false := by rw [beq_eq_false_iff_ne]; have := (her3.out hm); omega
      go_quiet (fail)
      go_wp2_with fail
      go_meet
      exact ⟨rfl, below_drewN (Below.refl _ _) _⟩
  case rest =>
    obtain ⟨rfl, hb⟩ := hcut
    replace hB := hB.trans (hb.mono hB.size)
    replace hl := hl.below hb
    replace hl2 := hl2.below hb
    replace hs := hs.below hb
    clear hb hx hy
    go_wp2_with fail
    refine (HR.out _ hs).mono ?_
    rintro e w20 ⟨A20, m20, c20, rfl, hx20, hb⟩
    replace hB := hB.trans (hb.mono hB.size)
    replace hs := hs.below hb
    clear hb
    have hm20 := hx20.len
    by_cases he : er = 0
    · subst he
      have hxr := hrd.out rfl
      have okx := Lib.hid (fun (W : World) (h : Els W A20 m20 c20 L) => (⟨h, by have := hLn.out; omega, fun e he => wf_i64 (by have := hxr.2 e he; omega) (by have := hxr.2 e he; omega), fun e he => by have := hxr.2 e he; omega⟩ : ElOk W A20 m20 c20 L))
      have hW1 := Lib.hid (fun W h => KC.write A20 m20 c20 L W (okx.out W h))
      have hRr := Lib.hid (fun W h => KC.right A20 m20 c20 L W (okx.out W h))
      rw [hxr.1] at hRr
      have e1 : writeEB L = writeL L := by unfold writeEB; rw [hxr.1]; rfl
      have e2 : writeEE L = 0 := by unfold writeEE; rw [hxr.1]; rfl
      rw [e1, e2] at hW1
      have hrw := Lib.hid (read_write hxr.1)
      have hwl := Lib.hid (writeL_small hxr.1)
      have hpl := profL_lt L
      have hR2 := Lib.hid (fun W A c h => KC.read (profL L) A (writeL L).length c (writeL L) W h (by have := hwl.out; have := hLn.out; omega) hpl)
      rw [hrw.out.1, hrw.out.2.2] at hR2
      have hcn := hcan.out rfl
      clear e1 e2 hxr hrw hrd hcan hwl okx
      generalize writeL L = X at *
      generalize profL L = q at *
      clear hm20
      go_wp2_with fail
      refine (hW1.out _ hx20).mono ?_
      rintro e w21 ⟨A21, c21, rfl, hx, hb⟩
      replace hB := hB.trans (hb.mono hB.size)
      replace hs := hs.below hb
      replace hx20 := hx20.below hb
      clear hb
      go_wp2_with fail
      refine (hR2.out _ A21 c21 hx).mono ?_
      rintro e w22 ⟨A22, m22, c22, rfl, hy, hb⟩
      replace hB := hB.trans (hb.mono hB.size)
      replace hs := hs.below hb
      replace hx20 := hx20.below hb
      replace hx := hx.below hb
      clear hb
      go_wp2_with fail
      refine (hRr.out _ hx20).mono ?_
      rintro e w23 ⟨rfl, hb⟩
      replace hB := hB.trans (hb.mono hB.size)
      replace hs := hs.below hb
      replace hx20 := hx20.below hb
      replace hx := hx.below hb
      replace hy := hy.below hb
      clear hb
      go_wp2_with fail
      refine (rsameL_any _ _ _ _ _ _ _ _ _ hx20 hy).mono ?_
      rintro e w24 ⟨rfl, hb⟩
      rw [decide_eq_true (rfl : L = L)]
      replace hB := hB.trans (hb.mono hB.size)
      replace hs := hs.below hb
      replace hx := hx.below hb
      clear hb hx20 hy
      go_wp2_with fail
      refine (HC.out _ hs).mono ?_
      rintro e w25 ⟨rfl, hb⟩
      replace hB := hB.trans (hb.mono hB.size)
      replace hs := hs.below hb
      replace hx := hx.below hb
      clear hb
      have t1 : (convert 24 9 (.slice A21 X.length c21)).run Try.prog w25 = .ok (.string ⟨X.toArray⟩) w25 := str_of hx
      have t2 : (convert 24 9 (.slice B nd cd)).run Try.prog w25 = .ok (.string ⟨s.toArray⟩) w25 := str_of hs
      by_cases hqp : q = p
      · subst hqp
        have hcn2 : cn = (X == s) := by rw [hcn]; simp; rw [Bool.eq_iff_iff, decide_eq_true_eq, beq_iff_eq]
        subst hcn2
        clear hcn
        go_wp2_with fail
        go_ret
        exact ⟨by first | rfl | (simp; done), hB⟩
      · have hqf : ((q : Int) == (p : Int)) = false := by rw [beq_eq_false_iff_ne]; omega
        have hcn2 : cn = false := by rw [hcn]; exact decide_eq_false fun h => hqp h.1
        subst hcn2
        clear hcn
        go_wp2_with fail
        go_ret
        exact ⟨by first | rfl | (simp; done), hB⟩
    · have hz : ((er : Int) != 0) = true := by rw [bne_iff_ne]; omega
      obtain ⟨hL0, hcn⟩ := hne.out he
      subst hL0 hcn
      obtain rfl : m20 = 0 := by rw [← hm20]; rfl
      clear he hm20
      go_wp2_with fail
      refine (HC.out _ hs).mono ?_
      rintro e w21 ⟨rfl, hb⟩
      go_wp2_with fail
      go_ret
      exact ⟨rfl, hB.trans (hb.mono hB.size)⟩

theorem elemBack_all (A : Option Addr) (n c : Nat) (l : List El) (A2 : Option Addr) (n2 c2 : Nat) (l2 : List El) (p : Nat) (B : Option Addr) (nd cd : Nat) (s : List UInt8) (w : World) (hl : Els w A n c l) (hl2 : Els w A2 n2 c2 l2) (hs : Bs w B nd cd s) (hid : ∀ e ∈ l, (Lit.int .i64 e.id).wf = true) (hid2 : ∀ e ∈ l2, (Lit.int .i64 e.id).wf = true) (hp : p < 65536) :
    Calls Try.prog 4 #[.slice A n c, .slice A2 n2 c2, .int .u16 (p : Int), .slice B nd cd] w fun e w' => e = .returned (.bool true) ∧ Below w.heap.size w w' := by
  have hln := hl.len
  have hln2 := hl2.len
  by_cases hb : shortL l = false ∨ shortL l2 = false ∨ 3000 < nd
  · have := hs.le
    have := hs.cap
    unfold maxLen at this
    exact elemBack_big KC A n c l A2 n2 c2 l2 p B nd cd s w hl hl2 (by omega) hb
  · have hsh : shortL l = true := by
      cases hq : shortL l
      · exact absurd (.inl hq) hb
      · rfl
    have hsh2 : shortL l2 = true := by
      cases hq : shortL l2
      · exact absurd (.inr (.inl hq)) hb
      · rfl
    have big : ∀ l : List El, shortL l = true → (∀ e ∈ l, e.data.length ≤ 1000000) ∧ l.length ≤ 300 := fun l hsh => by
      unfold shortL at hsh
      rw [Bool.and_eq_true, List.all_eq_true, decide_eq_true_eq] at hsh
      refine ⟨fun e he => ?_, hsh.2⟩
      have := hsh.1 e he
      rw [decide_eq_true_eq] at this
      omega
    have b1 := big l hsh
    have b2 := big l2 hsh2
    cases hr : rightL l
    · exact elemBack_no KC A n c l A2 n2 c2 l2 p B nd cd s w hl hl2 hs hid hid2 b1.1 b2.1 hsh hsh2 (by omega) (by omega) (by omega) hp hr
    · exact elemBack_yes KC A n c l A2 n2 c2 l2 p B nd cd s w hl hl2 hs hid hid2 b1.1 b2.1 hsh hsh2 (by omega) (by omega) (by omega) hp hr
end

end Go.Proofs.Ytpkbikimpjmkgaa
