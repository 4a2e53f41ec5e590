/-
  ElemRight, walked under the contracts of package elem's calls. (Written by gen_ElemRightW.py.)
-/
import Derived.Test.YtpkbikimpjmkgaaElemL
namespace Go.Proofs.Ytpkbikimpjmkgaa
open Go.RowKit
set_option linter.unusedVariables false
set_option linter.unusedSimpArgs false

section
variable (KC : ElemCalls)
include KC
set_option maxRecDepth 100000 in
set_option maxHeartbeats 2000000 in
theorem elemRight_big (p : Nat) (A : Option Addr) (n c : Nat) (l : List El) (B : Option Addr) (nd cd : Nat) (s : List UInt8) (w : World) (hl : Els w A n c l) (hnd : (nd : Int) ≤ 9223372036854775807) (hb : shortL l = false ∨ 3000 < nd) :
    Calls Try.prog 3 #[.slice A n c, .int .u16 (p : Int), .slice B nd cd] w fun e w' => e = .returned (.bool true) ∧ Below w.heap.size w w' := by
  obtain ⟨b, hsb⟩ : ∃ b, shortL l = b := ⟨_, rfl⟩
  have HS := Lib.hid (rshortL_any A n c l)
  rw [hsb] at hb HS
  have Hb := Lib.hid hb
  clear hb hsb
  go_enter Try.func3, Try.ntmps3
  go_wp2_with fail
  refine (awake_any KC _).mono ?_
  rintro e w2 ⟨rfl, hB⟩
  replace hl := hl.below hB
  go_wp2_with fail
  refine (HS.out _ hl).mono ?_
  rintro e w3 ⟨rfl, hb⟩
  replace hB := hB.trans (hb.mono hB.size)
  cases b with
  | false =>
    go_wp2_with fail
    go_ret
    exact ⟨rfl, hB⟩
  | true =>
    have h7 : (3000 : Int) < nd := by rcases Hb.out with h | h <;> first | omega | cases h
    go_wp2_with fail
    go_ret
    exact ⟨rfl, hB⟩

set_option maxRecDepth 100000 in
set_option maxHeartbeats 4000000 in
theorem elemRight_no (p : Nat) (A : Option Addr) (n c : Nat) (l : List El) (B : Option Addr) (nd cd : Nat) (s : List UInt8) (w : World) (hl : Els w A n c l) (hs : Bs w B nd cd s) (hid : ∀ e ∈ l, (Lit.int .i64 e.id).wf = true) (hsz : ∀ e ∈ l, e.data.length ≤ 1000000) (hsh : shortL l = true) (hn : n ≤ 300) (hnd : nd ≤ 3000) (hp : p < 65536) (hr : rightL l = false) :
    Calls Try.prog 3 #[.slice A n c, .int .u16 (p : Int), .slice B nd cd] w fun e w' => e = .returned (.bool true) ∧ Below w.heap.size w w' := by
  have okl := Lib.hid (fun (W : World) (h : Els W A n c l) => (⟨h, by omega, hid, hsz⟩ : ElOk W A n c l))
  have HS := Lib.hid (rshortL_any A n c l)
  have HW1 := Lib.hid (fun W h => KC.write A n c l W (okl.out W h))
  have HB1 := Lib.hid (fun W h => KC.right A n c l W (okl.out W h))
  have HB2 := Lib.hid (rrightL_any A n c l)
  have HP1 := Lib.hid (fun W h => KC.profile A n c l W (okl.out W h))
  have HP2 := Lib.hid (rprofL_any A n c l)
  have HR1 := Lib.hid (fun W h => KC.read p B nd cd s W h (by omega) hp)
  have HR2 := Lib.hid (fun W h => rreadL_any p B nd cd s W h (by omega) hp)
  have HS1 := Lib.hid (fun W h => KC.spots p B nd cd s W h (by omega) hp)
  have HS2 := Lib.hid (fun W h => rspots_any p B nd cd s W h (by omega) hp)
  have HC1 := Lib.hid (fun W h => KC.canon p B nd cd s W h (by omega) hp)
  have HC2 := Lib.hid (fun W h => rcanonL_any p B nd cd s W h (by omega) hp)
  have e1 : writeEB l = [] := by unfold writeEB; rw [hr]; rfl
  have e2 : writeEE l = 1 := by unfold writeEE; rw [hr]; rfl
  have e3 : profL l = 0 := by unfold profL; rw [hr]; rfl
  rw [e1, e2, e3] at HW1
  rw [hr] at HB1 HB2
  rw [e3] at HP1 HP2
  clear e1 e2 e3 hr
  rw [hsh] at HS
  generalize readL p s = L at *
  generalize spotsE p s = er at *
  generalize spotsL p s = T at *
  generalize canonL p s = cn at *
  generalize profL l = pr at *
  clear hsh hid hsz okl
  have k30 : ¬ (3000 : Int) < nd := by omega
  go_enter Try.func3, Try.ntmps3
  go_wp2_with fail
  refine (awake_any KC _).mono ?_
  rintro e w2 ⟨rfl, hB⟩
  replace hs := hs.below hB
  replace hl := hl.below hB
  go_wp2_with fail
  refine (HS.out _ hl).mono ?_
  rintro e w3 ⟨rfl, hb⟩
  replace hB := hB.trans (hb.mono hB.size)
  replace hs := hs.below hb
  replace hl := hl.below hb
  clear hb
  go_wp2_with fail
  refine (HW1.out _ hl).mono ?_
  rintro e w5 ⟨A5, c5, rfl, hx, hb⟩
  replace hB := hB.trans (hb.mono hB.size)
  replace hs := hs.below hb
  replace hl := hl.below hb
  clear hb
  go_wp2_with fail
  refine (HB2.out _ hl).mono ?_
  rintro e w6 ⟨rfl, hb⟩
  replace hB := hB.trans (hb.mono hB.size)
  replace hs := hs.below hb
  replace hl := hl.below hb
  replace hx := hx.below hb
  clear hb
  clear hx
  go_wp2_with fail
  refine (HR1.out _ hs).mono ?_
  rintro e w8 ⟨A8, m8, c8, rfl, he8, hb⟩
  have hB2 := hB.trans (hb.mono hB.size)
  have hs2 := hs.below hb
  have hl2 := hl.below hb
  clear hB hs hl hb
  go_wp2_with fail
  refine (HR2.out _ hs2).mono ?_
  rintro e w9 ⟨A9, m9, c9, rfl, he9, hb⟩
  obtain rfl : m8 = m9 := by rw [← he8.len, ← he9.len]
  replace hB2 := hB2.trans (hb.mono hB2.size)
  replace hs2 := hs2.below hb
  replace hl2 := hl2.below hb
  replace he8 := he8.below hb
  clear hb
  go_wp2_with fail
  refine (HS1.out _ hs2).mono ?_
  rintro e w10 ⟨A10, m10, c10, rfl, ht10, hb⟩
  replace hB2 := hB2.trans (hb.mono hB2.size)
  replace hs2 := hs2.below hb
  replace hl2 := hl2.below hb
  replace he8 := he8.below hb
  replace he9 := he9.below hb
  clear hb
  go_wp2_with fail
  refine (HS2.out _ hs2).mono ?_
  rintro e w11 ⟨A11, m11, c11, rfl, ht11, hb⟩
  obtain rfl : m10 = m11 := by rw [← ht10.len, ← ht11.len]
  replace hB2 := hB2.trans (hb.mono hB2.size)
  replace hs2 := hs2.below hb
  replace hl2 := hl2.below hb
  replace he8 := he8.below hb
  replace he9 := he9.below hb
  replace ht10 := ht10.below hb
  clear hb
  go_wp2_with fail
  refine (rsameL_any _ _ _ _ _ _ _ _ _ he8 he9).mono ?_
  rintro e w12 ⟨rfl, hb⟩
  rw [decide_eq_true (rfl : L = L)]
  replace hB2 := hB2.trans (hb.mono hB2.size)
  replace hs2 := hs2.below hb
  replace hl2 := hl2.below hb
  replace ht10 := ht10.below hb
  replace ht11 := ht11.below hb
  clear hb he8 he9
  have htl := ht10.len
  have hbt := ht10.bounds
  have hbu := ht11.bounds
  go_wp2_with fail
  go_loopw [18] (fun i W => ∃ k : Nat, k ≤ m10 ∧ i = .int .i64 k ∧ Below w12.heap.size w12 W) (fun i _ => m10 - (intOf i).toNat)
  case atStart => exact ⟨0, Nat.zero_le _, rfl, Below.refl _ _⟩
  case round =>
    obtain ⟨k, hk, rfl, hBk⟩ := hrel
    by_cases hkn : k < m10
    · obtain ⟨b1, o1, rfl, hlt1, hc1⟩ := (ht10.below hBk).at_ (by omega)
      obtain ⟨b2, o2, rfl, hlt2, hc2⟩ := (ht11.below hBk).at_ (by omega)
      have hk1 := hc1 k (by omega)
      have hk2 := hc2 k (by omega)
      clear hc1 hc2
      have hkn2 : (k : Int) < m10 := by omega
      generalize T[k]'(by omega) = x at *
      obtain ⟨xi, xa, xs⟩ := x
      (try simp only at hk1 hk2)
      go_wp2_with fail
      go_quiet (fail)
      go_wp2_with fail
      go_roundw
      case rel => exact ⟨k + 1, by omega, by go_num, below_drewN hBk _⟩
      case measure => simp [intOf]; omega
    · obtain rfl : k = m10 := by omega
      have hkn2 : ¬ (k : Int) < k := by omega
      replace hB2 := hB2.trans (hBk.mono hB2.size)
      replace hs2 := hs2.below hBk
      replace hl2 := hl2.below hBk
      clear hBk ht10 ht11
      go_wp2_with fail
      refine (HB1.out _ hl2).mono ?_
      rintro e w13 ⟨rfl, hb⟩
      replace hB2 := hB2.trans (hb.mono hB2.size)
      replace hs2 := hs2.below hb
      replace hl2 := hl2.below hb
      clear hb
      go_wp2_with fail
      refine (HB2.out _ hl2).mono ?_
      rintro e w14 ⟨rfl, hb⟩
      replace hB2 := hB2.trans (hb.mono hB2.size)
      replace hs2 := hs2.below hb
      replace hl2 := hl2.below hb
      clear hb
      go_wp2_with fail
      refine (HP1.out _ hl2).mono ?_
      rintro e w15 ⟨rfl, hb⟩
      replace hB2 := hB2.trans (hb.mono hB2.size)
      replace hs2 := hs2.below hb
      replace hl2 := hl2.below hb
      clear hb
      go_wp2_with fail
      refine (HP2.out _ hl2).mono ?_
      rintro e w16 ⟨rfl, hb⟩
      replace hB2 := hB2.trans (hb.mono hB2.size)
      replace hs2 := hs2.below hb
      clear hb hl2
      go_wp2_with fail
      refine (HC1.out _ hs2).mono ?_
      rintro e w17 ⟨rfl, hb⟩
      replace hB2 := hB2.trans (hb.mono hB2.size)
      replace hs2 := hs2.below hb
      clear hb
      go_wp2_with fail
      refine (HC2.out _ hs2).mono ?_
      rintro e w18 ⟨rfl, hb⟩
      replace hB2 := hB2.trans (hb.mono hB2.size)
      go_wp2_with fail
      go_ret
      exact ⟨by first | rfl | (simp; done), hB2⟩

set_option maxRecDepth 100000 in
set_option maxHeartbeats 4000000 in
theorem elemRight_yes (p : Nat) (A : Option Addr) (n c : Nat) (l : List El) (B : Option Addr) (nd cd : Nat) (s : List UInt8) (w : World) (hl : Els w A n c l) (hs : Bs w B nd cd s) (hid : ∀ e ∈ l, (Lit.int .i64 e.id).wf = true) (hsz : ∀ e ∈ l, e.data.length ≤ 1000000) (hsh : shortL l = true) (hn : n ≤ 300) (hnd : nd ≤ 3000) (hp : p < 65536) (hr : rightL l = true) :
    Calls Try.prog 3 #[.slice A n c, .int .u16 (p : Int), .slice B nd cd] w fun e w' => e = .returned (.bool true) ∧ Below w.heap.size w w' := by
  have okl := Lib.hid (fun (W : World) (h : Els W A n c l) => (⟨h, by omega, hid, hsz⟩ : ElOk W A n c l))
  have HS := Lib.hid (rshortL_any A n c l)
  have HW1 := Lib.hid (fun W h => KC.write A n c l W (okl.out W h))
  have HB1 := Lib.hid (fun W h => KC.right A n c l W (okl.out W h))
  have HB2 := Lib.hid (rrightL_any A n c l)
  have HP1 := Lib.hid (fun W h => KC.profile A n c l W (okl.out W h))
  have HP2 := Lib.hid (rprofL_any A n c l)
  have HR1 := Lib.hid (fun W h => KC.read p B nd cd s W h (by omega) hp)
  have HR2 := Lib.hid (fun W h => rreadL_any p B nd cd s W h (by omega) hp)
  have HS1 := Lib.hid (fun W h => KC.spots p B nd cd s W h (by omega) hp)
  have HS2 := Lib.hid (fun W h => rspots_any p B nd cd s W h (by omega) hp)
  have HC1 := Lib.hid (fun W h => KC.canon p B nd cd s W h (by omega) hp)
  have HC2 := Lib.hid (fun W h => rcanonL_any p B nd cd s W h (by omega) hp)
  have HW2 := Lib.hid (fun W h => rwriteL_any A n c l W h hr (by omega))
  have e1 : writeEB l = writeL l := by unfold writeEB; rw [hr]; rfl
  have e2 : writeEE l = 0 := by unfold writeEE; rw [hr]; rfl
  rw [e1, e2] at HW1
  rw [hr] at HB1 HB2
  clear e1 e2 hr
  generalize writeL l = X at *
  rw [hsh] at HS
  generalize readL p s = L at *
  generalize spotsE p s = er at *
  generalize spotsL p s = T at *
  generalize canonL p s = cn at *
  generalize profL l = pr at *
  clear hsh hid hsz okl
  have k30 : ¬ (3000 : Int) < nd := by omega
  go_enter Try.func3, Try.ntmps3
  go_wp2_with fail
  refine (awake_any KC _).mono ?_
  rintro e w2 ⟨rfl, hB⟩
  replace hs := hs.below hB
  replace hl := hl.below hB
  go_wp2_with fail
  refine (HS.out _ hl).mono ?_
  rintro e w3 ⟨rfl, hb⟩
  replace hB := hB.trans (hb.mono hB.size)
  replace hs := hs.below hb
  replace hl := hl.below hb
  clear hb
  go_wp2_with fail
  refine (HW1.out _ hl).mono ?_
  rintro e w5 ⟨A5, c5, rfl, hx, hb⟩
  replace hB := hB.trans (hb.mono hB.size)
  replace hs := hs.below hb
  replace hl := hl.below hb
  clear hb
  go_wp2_with fail
  refine (HB2.out _ hl).mono ?_
  rintro e w6 ⟨rfl, hb⟩
  replace hB := hB.trans (hb.mono hB.size)
  replace hs := hs.below hb
  replace hl := hl.below hb
  replace hx := hx.below hb
  clear hb
  go_upto_region 7 with fail
  go_cut [52] (fun q W => q = .bool false ∧ Below w6.heap.size w6 W)
  case first =>
    refine wp_region_held_drew (S := (fun W => (convert 24 9 (.slice A5 X.length c5)).run Try.prog W = .ok (.string ⟨X.toArray⟩) W)) (by kernel_rfl) (str_of hx.drew) (fun hHeld => ?_)
    refine wpAnyH_take (i := 0) (v := ?vE0) rfl (by kernel_rfl) (by kernel_rfl) (by kernel_rfl) (fun _ _ _ h => h) (Or.inl ⟨by rfl, ?hE0⟩) (by assumption) ?rE0
    case hE0 => (intro w hSw; (try dsimp only at hSw); go_simp; try with_reducible rfl)
    change wpAnyH _ _ _ _ _ _ _ (Act.put _ (some 37) _) _
    simp only [Act.put, List.setIfInBounds_toArray, List.set_cons_zero, List.set_cons_succ]
    refine wpAnyH_take (i := 1) (v := ?vE1) rfl (by kernel_rfl) (by kernel_rfl) (by kernel_rfl) (fun _ _ _ h => h) (Or.inl ⟨by rfl, ?hE1⟩) (by assumption) ?rE1
    case hE1 => (intro w hSw; (try dsimp only at hSw); go_simp; try with_reducible rfl)
    change wpAnyH _ _ _ _ _ _ _ (Act.put _ (some 38) _) _
    simp only [Act.put, List.setIfInBounds_toArray, List.set_cons_zero, List.set_cons_succ]
    refine wpAnyH_take (i := 2) (v := ?vE2) rfl (by kernel_rfl) (by kernel_rfl) (by kernel_rfl) (fun _ _ _ h => h) (Or.inl ⟨by rfl, ?hE2⟩) (by assumption) ?rE2
    case hE2 => (intro w hSw; (try dsimp only at hSw); go_simp; try with_reducible rfl)
    change wpAnyH _ _ _ _ _ _ _ (Act.put _ (some 39) _) _
    simp only [Act.put, List.setIfInBounds_toArray, List.set_cons_zero, List.set_cons_succ]
    refine wpAnyH_take (i := 3) (v := ?vE3) rfl (by kernel_rfl) (by kernel_rfl) (by kernel_rfl) (fun _ _ _ h => h) (Or.inl ⟨by rfl, ?hE3⟩) (by assumption) ?rE3
    case hE3 => (intro w hSw; (try dsimp only at hSw); go_simp; try with_reducible rfl)
    change wpAnyH _ _ _ _ _ _ _ (Act.put _ (some 40) _) _
    simp only [Act.put, List.setIfInBounds_toArray, List.set_cons_zero, List.set_cons_succ]
    refine wpAnyH_take (i := 4) (v := ?vE4) rfl (by kernel_rfl) (by kernel_rfl) (by kernel_rfl) (fun _ _ _ h => h) (Or.inl ⟨by rfl, ?hE4⟩) (by assumption) ?rE4
    case hE4 => (intro w hSw; (try dsimp only at hSw); go_simp; try with_reducible rfl)
    change wpAnyH _ _ _ _ _ _ _ (Act.put _ (some 41) _) _
    simp only [Act.put, List.setIfInBounds_toArray, List.set_cons_zero, List.set_cons_succ]
    refine wpAnyH_ready (rs := [5]) (by kernel_rfl) (by simp) ?_
    refine AllReadyH.cons rfl (fun K hK => ?_) AllReadyH.nil
    go_simp
    refine (HP2.out _ (hl.drew)).mono ?_
    rintro e wa ⟨rfl, hba⟩
    go_wp2_with fail
    have hxa := Bs.below (w := w6.drew) hx.drew hba
    have hla := Els.below (w := w6.drew) hl.drew hba
    refine hK.out _ _ ?_ (fun hHeld => ?_)
    · exact str_of hxa
    clear hK K
    try simp only [Act.put, List.setIfInBounds_toArray, List.set_cons_zero, List.set_cons_succ]
    refine wpAnyH_take (i := 6) (v := ?vE6) rfl (by kernel_rfl) (by kernel_rfl) (by kernel_rfl) (fun _ _ _ h => h) (Or.inl ⟨by rfl, ?hE6⟩) (by assumption) ?rE6
    case hE6 => (intro w hSw; (try dsimp only at hSw); go_simp; try with_reducible rfl)
    change wpAnyH _ _ _ _ _ _ _ (Act.put _ (some 43) _) _
    simp only [Act.put, List.setIfInBounds_toArray, List.set_cons_zero, List.set_cons_succ]
    refine wpAnyH_take (i := 7) (v := ?vE7) rfl (by kernel_rfl) (by kernel_rfl) (by kernel_rfl) (fun _ _ _ h => h) (Or.inl ⟨by rfl, ?hE7⟩) (by assumption) ?rE7
    case hE7 => (intro w hSw; (try dsimp only at hSw); go_simp; try with_reducible rfl)
    change wpAnyH _ _ _ _ _ _ _ (Act.put _ (some 44) _) _
    simp only [Act.put, List.setIfInBounds_toArray, List.set_cons_zero, List.set_cons_succ]
    refine wpAnyH_take (i := 8) (v := ?vE8) rfl (by kernel_rfl) (by kernel_rfl) (by kernel_rfl) (fun _ _ _ h => h) (Or.inl ⟨by rfl, ?hE8⟩) (by assumption) ?rE8
    case hE8 => (intro w hSw; (try dsimp only at hSw); go_simp; try with_reducible rfl)
    change wpAnyH _ _ _ _ _ _ _ (Act.put _ (some 45) _) _
    simp only [Act.put, List.setIfInBounds_toArray, List.set_cons_zero, List.set_cons_succ]
    refine wpAnyH_take (i := 9) (v := ?vE9) rfl (by kernel_rfl) (by kernel_rfl) (by kernel_rfl) (fun _ _ _ h => h) (Or.inl ⟨by rfl, ?hE9⟩) (by assumption) ?rE9
    case hE9 => (intro w hSw; (try dsimp only at hSw); go_simp; try with_reducible rfl)
    change wpAnyH _ _ _ _ _ _ _ (Act.put _ (some 46) _) _
    simp only [Act.put, List.setIfInBounds_toArray, List.set_cons_zero, List.set_cons_succ]
    refine wpAnyH_take (i := 10) (v := ?vE10) rfl (by kernel_rfl) (by kernel_rfl) (by kernel_rfl) (fun _ _ _ h => h) (Or.inl ⟨by rfl, ?hE10⟩) (by assumption) ?rE10
    case hE10 => (intro w hSw; (try dsimp only at hSw); go_simp; try with_reducible rfl)
    change wpAnyH _ _ _ _ _ _ _ (Act.put _ (some 47) _) _
    simp only [Act.put, List.setIfInBounds_toArray, List.set_cons_zero, List.set_cons_succ]
    refine wpAnyH_take (i := 11) (v := ?vE11) rfl (by kernel_rfl) (by kernel_rfl) (by kernel_rfl) (fun _ _ _ h => h) (Or.inl ⟨by rfl, ?hE11⟩) (by assumption) ?rE11
    case hE11 => (intro w hSw; (try dsimp only at hSw); go_simp; try with_reducible rfl)
    change wpAnyH _ _ _ _ _ _ _ (Act.put _ (some 48) _) _
    simp only [Act.put, List.setIfInBounds_toArray, List.set_cons_zero, List.set_cons_succ]
    refine wpAnyH_ready (rs := [12]) (by kernel_rfl) (by simp) ?_
    refine AllReadyH.cons rfl (fun K hK => ?_) AllReadyH.nil
    go_simp
    refine (HW2.out _ hla).mono ?_
    rintro e wb ⟨A7, c7, rfl, ho7, hbb⟩
    go_wp2_with fail
    have t3 := str_of (Bs.below hxa hbb)
    have t4 := str_of ho7.bs
    refine hK.out _ _ ?_ (fun hHeld => ?_)
    · exact t3
    clear hK K
    try simp only [Act.put, List.setIfInBounds_toArray, List.set_cons_zero, List.set_cons_succ]
    have hHeld2 : (fun W => (convert 24 9 (.slice A7 X.length c7)).run Try.prog W = .ok (.string ⟨X.toArray⟩) W ∧ (convert 24 9 (.slice A5 X.length c5)).run Try.prog W = .ok (.string ⟨X.toArray⟩) W) wb := ⟨t4, t3⟩
    refine wpAnyH_mono (S2 := (fun W => (convert 24 9 (.slice A7 X.length c7)).run Try.prog W = .ok (.string ⟨X.toArray⟩) W ∧ (convert 24 9 (.slice A5 X.length c5)).run Try.prog W = .ok (.string ⟨X.toArray⟩) W)) (fun _ h => h.2) ?_
    refine wpAnyH_take (i := 13) (v := ?vE13) rfl (by kernel_rfl) (by kernel_rfl) (by kernel_rfl) (fun _ _ _ h => h) (Or.inl ⟨by rfl, ?hE13⟩) (by assumption) ?rE13
    case hE13 => (intro w hSw; (try dsimp only at hSw); go_simp; try with_reducible rfl)
    change wpAnyH _ _ _ _ _ _ _ (Act.put _ (some 50) _) _
    simp only [Act.put, List.setIfInBounds_toArray, List.set_cons_zero, List.set_cons_succ]
    refine wpAnyH_take (i := 14) (v := ?vE14) rfl (by kernel_rfl) (by kernel_rfl) (by kernel_rfl) (fun _ _ _ h => h) (Or.inl ⟨by rfl, ?hE14⟩) (by assumption) ?rE14
    case hE14 => (intro w hSw; (try dsimp only at hSw); go_simp; try with_reducible rfl)
    change wpAnyH _ _ _ _ _ _ _ (Act.put _ (some 51) _) _
    simp only [Act.put, List.setIfInBounds_toArray, List.set_cons_zero, List.set_cons_succ]
    refine wpAnyH_take (i := 15) (v := ?vE15) rfl (by kernel_rfl) (by kernel_rfl) (by kernel_rfl) (fun _ _ _ h => h) (Or.inl ⟨by rfl, ?hE15⟩) (by assumption) ?rE15
    case hE15 => (intro w hSw; (try dsimp only at hSw); go_simp; try with_reducible rfl)
    change wpAnyH _ _ _ _ _ _ _ (Act.put _ (some 52) _) _
    simp only [Act.put, List.setIfInBounds_toArray, List.set_cons_zero, List.set_cons_succ]
    refine wpAnyH_done (by kernel_rfl) ?_ _
    go_wp2_with fail
    go_meet
    exact ⟨by first | rfl | (simp; done), (Below.refl _ w6).drew.trans (hba.trans (hbb.mono hba.size))⟩
  case rest =>
    obtain ⟨rfl, hb⟩ := hcut
    replace hB := hB.trans (hb.mono hB.size)
    replace hs := hs.below hb
    replace hl := hl.below hb
    clear hb hx
    go_wp2_with fail
    refine (HR1.out _ hs).mono ?_
    rintro e w8 ⟨A8, m8, c8, rfl, he8, hb⟩
    have hB2 := hB.trans (hb.mono hB.size)
    have hs2 := hs.below hb
    have hl2 := hl.below hb
    clear hB hs hl hb
    go_wp2_with fail
    refine (HR2.out _ hs2).mono ?_
    rintro e w9 ⟨A9, m9, c9, rfl, he9, hb⟩
    obtain rfl : m8 = m9 := by rw [← he8.len, ← he9.len]
    replace hB2 := hB2.trans (hb.mono hB2.size)
    replace hs2 := hs2.below hb
    replace hl2 := hl2.below hb
    replace he8 := he8.below hb
    clear hb
    go_wp2_with fail
    refine (HS1.out _ hs2).mono ?_
    rintro e w10 ⟨A10, m10, c10, rfl, ht10, hb⟩
    replace hB2 := hB2.trans (hb.mono hB2.size)
    replace hs2 := hs2.below hb
    replace hl2 := hl2.below hb
    replace he8 := he8.below hb
    replace he9 := he9.below hb
    clear hb
    go_wp2_with fail
    refine (HS2.out _ hs2).mono ?_
    rintro e w11 ⟨A11, m11, c11, rfl, ht11, hb⟩
    obtain rfl : m10 = m11 := by rw [← ht10.len, ← ht11.len]
    replace hB2 := hB2.trans (hb.mono hB2.size)
    replace hs2 := hs2.below hb
    replace hl2 := hl2.below hb
    replace he8 := he8.below hb
    replace he9 := he9.below hb
    replace ht10 := ht10.below hb
    clear hb
    go_wp2_with fail
    refine (rsameL_any _ _ _ _ _ _ _ _ _ he8 he9).mono ?_
    rintro e w12 ⟨rfl, hb⟩
    rw [decide_eq_true (rfl : L = L)]
    replace hB2 := hB2.trans (hb.mono hB2.size)
    replace hs2 := hs2.below hb
    replace hl2 := hl2.below hb
    replace ht10 := ht10.below hb
    replace ht11 := ht11.below hb
    clear hb he8 he9
    have htl := ht10.len
    have hbt := ht10.bounds
    have hbu := ht11.bounds
    go_wp2_with fail
    go_loopw [18] (fun i W => ∃ k : Nat, k ≤ m10 ∧ i = .int .i64 k ∧ Below w12.heap.size w12 W) (fun i _ => m10 - (intOf i).toNat)
    case atStart => exact ⟨0, Nat.zero_le _, rfl, Below.refl _ _⟩
    case round =>
      obtain ⟨k, hk, rfl, hBk⟩ := hrel
      by_cases hkn : k < m10
      · obtain ⟨b1, o1, rfl, hlt1, hc1⟩ := (ht10.below hBk).at_ (by omega)
        obtain ⟨b2, o2, rfl, hlt2, hc2⟩ := (ht11.below hBk).at_ (by omega)
        have hk1 := hc1 k (by omega)
        have hk2 := hc2 k (by omega)
        clear hc1 hc2
        have hkn2 : (k : Int) < m10 := by omega
        generalize T[k]'(by omega) = x at *
        obtain ⟨xi, xa, xs⟩ := x
        (try simp only at hk1 hk2)
        go_wp2_with fail
        go_quiet (fail)
        go_wp2_with fail
        go_roundw
        case rel => exact ⟨k + 1, by omega, by go_num, below_drewN hBk _⟩
        case measure => simp [intOf]; omega
      · obtain rfl : k = m10 := by omega
        have hkn2 : ¬ (k : Int) < k := by omega
        replace hB2 := hB2.trans (hBk.mono hB2.size)
        replace hs2 := hs2.below hBk
        replace hl2 := hl2.below hBk
        clear hBk ht10 ht11
        go_wp2_with fail
        refine (HB1.out _ hl2).mono ?_
        rintro e w13 ⟨rfl, hb⟩
        replace hB2 := hB2.trans (hb.mono hB2.size)
        replace hs2 := hs2.below hb
        replace hl2 := hl2.below hb
        clear hb
        go_wp2_with fail
        refine (HB2.out _ hl2).mono ?_
        rintro e w14 ⟨rfl, hb⟩
        replace hB2 := hB2.trans (hb.mono hB2.size)
        replace hs2 := hs2.below hb
        replace hl2 := hl2.below hb
        clear hb
        go_wp2_with fail
        refine (HP1.out _ hl2).mono ?_
        rintro e w15 ⟨rfl, hb⟩
        replace hB2 := hB2.trans (hb.mono hB2.size)
        replace hs2 := hs2.below hb
        replace hl2 := hl2.below hb
        clear hb
        go_wp2_with fail
        refine (HP2.out _ hl2).mono ?_
        rintro e w16 ⟨rfl, hb⟩
        replace hB2 := hB2.trans (hb.mono hB2.size)
        replace hs2 := hs2.below hb
        clear hb hl2
        go_wp2_with fail
        refine (HC1.out _ hs2).mono ?_
        rintro e w17 ⟨rfl, hb⟩
        replace hB2 := hB2.trans (hb.mono hB2.size)
        replace hs2 := hs2.below hb
        clear hb
        go_wp2_with fail
        refine (HC2.out _ hs2).mono ?_
        rintro e w18 ⟨rfl, hb⟩
        replace hB2 := hB2.trans (hb.mono hB2.size)
        go_wp2_with fail
        go_ret
        exact ⟨by first | rfl | (simp; done), hB2⟩
theorem elemRight_all (p : Nat) (A : Option Addr) (n c : Nat) (l : List El) (B : Option Addr) (nd cd : Nat) (s : List UInt8) (w : World) (hl : Els w A n c l) (hs : Bs w B nd cd s) (hid : ∀ e ∈ l, (Lit.int .i64 e.id).wf = true) (hp : p < 65536) :
    Calls Try.prog 3 #[.slice A n c, .int .u16 (p : Int), .slice B nd cd] w fun e w' => e = .returned (.bool true) ∧ Below w.heap.size w w' := by
  have hln := hl.len
  by_cases hb : shortL l = false ∨ 3000 < nd
  · have := hs.le
    have := hs.cap
    unfold maxLen at this
    exact elemRight_big KC p A n c l B nd cd s w hl (by omega) hb
  · have hsh : shortL l = true := by
      cases hq : shortL l
      · exact absurd (.inl hq) hb
      · rfl
    have h2 := hsh
    unfold shortL at h2
    rw [Bool.and_eq_true, List.all_eq_true, decide_eq_true_eq] at h2
    have hsz : ∀ e ∈ l, e.data.length ≤ 1000000 := fun e he => by
      have := h2.1 e he
      rw [decide_eq_true_eq] at this
      omega
    cases hr : rightL l
    · exact elemRight_no KC p A n c l B nd cd s w hl hs hid hsz hsh (by omega) (by omega) hp hr
    · exact elemRight_yes KC p A n c l B nd cd s w hl hs hid hsz hsh (by omega) (by omega) hp hr
end

end Go.Proofs.Ytpkbikimpjmkgaa
