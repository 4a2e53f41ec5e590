/-
  What the functions of package elem come to: Profile, Write.
-/
import Derived.Test.YtpkbikimpjmkgaaElemG2
import Derived.Test.YtpkbikimpjmkgaaPadH
import Derived.Test.YtpkbikimpjmkgaaElemK
namespace Go.Proofs.Ytpkbikimpjmkgaa
open Go.RowKit
set_option linter.unusedVariables false
set_option linter.unusedSimpArgs false

set_option maxHeartbeats 2000000 in
theorem elprofile_any (A : Option Addr) (n c : Nat) (l : List El) (w : World) (hl : Els w A n c l) (hn : n ≤ 1000000) :
    Calls Try.prog 18 #[.slice A n c] w (Says w (.int .u16 (profL l))) := by
  have HR := Lib.hid (elright_any A n c l w hl hn)
  have HF := Lib.hid (fun W h => walkerFor_any A n c l W h)
  obtain ⟨z, hz⟩ : ∃ z, profL l = z := ⟨_, rfl⟩
  rw [hz]
  unfold profL at hz
  cases hr : rightL l
  · rw [hr] at HR hz
    have hz0 : z = 0 := by rw [← hz]; simp
    subst hz0
    clear hz hr
    go_enter Try.func18, Try.ntmps18
    go_wp2_with fail
    refine HR.out.mono ?_
    rintro x w2 ⟨rfl, hB⟩
    go_wp2_with fail
    go_ret
    exact ⟨rfl, hB⟩
  · rw [hr, if_pos rfl] at hz
    rw [hr] at HR
    cases hnw : narrowL l
    · rw [hnw] at hz HF
      have hz0 : z = 4096 := by rw [← hz]; simp
      subst hz0
      clear hz hr hnw
      go_enter Try.func18, Try.ntmps18
      go_wp2_with fail
      refine HR.out.mono ?_
      rintro x w2 ⟨rfl, hB⟩
      replace hl := hl.below hB
      go_wp2_with fail
      refine (HF.out _ hl).mono ?_
      rintro x w3 ⟨rfl, hB3⟩
      simp only [walkV, Bool.false_eq_true, if_false]
      go_wp2_with fail
      refine (profileOf_wide _).mono ?_
      rintro x w4 ⟨rfl, hB4⟩
      have hB5 := (hB.trans (hB3.mono hB.size)).trans (hB4.mono (Nat.le_trans hB.size hB3.size))
      go_wp2_with fail
      go_ret
      exact ⟨rfl, hB5⟩
    · rw [hnw] at hz HF
      have hz0 : z = 48862 := by rw [← hz]; simp
      subst hz0
      clear hz hr hnw
      go_enter Try.func18, Try.ntmps18
      go_wp2_with fail
      refine HR.out.mono ?_
      rintro x w2 ⟨rfl, hB⟩
      replace hl := hl.below hB
      go_wp2_with fail
      refine (HF.out _ hl).mono ?_
      rintro x w3 ⟨rfl, hB3⟩
      simp only [walkV, if_true]
      go_wp2_with fail
      refine (profileOf_narrow _).mono ?_
      rintro x w4 ⟨rfl, hB4⟩
      have hB5 := (hB.trans (hB3.mono hB.size)).trans (hB4.mono (Nat.le_trans hB.size hB3.size))
      go_wp2_with fail
      go_ret
      exact ⟨rfl, hB5⟩

theorem met_narrow_lead (fuel : Nat) (w : World) : (method (fuel + 1) 64 (.agg #[]) "crossbar/elem.lead").run Try.prog w = .ok (49, .agg #[]) w := by kernel_rfl
theorem met_wide_lead (fuel : Nat) (w : World) : (method (fuel + 1) 63 (.agg #[]) "crossbar/elem.lead").run Try.prog w = .ok (46, .agg #[]) w := by kernel_rfl

set_option maxHeartbeats 4000000 in
theorem elwrite_narrow (A : Option Addr) (n c : Nat) (l : List El) (w : World) (hl : Els w A n c l) (hn : n ≤ 1000000) (hr : rightL l = true) (hnw : narrowL l = true) :
    Calls Try.prog 8 #[.slice A n c] w (GivesPE w 48862 (writeL l) 0) := by
  have hln := hl.len
  obtain ⟨hb1, hb2⟩ := hl.bounds
  have hok := ((rightL_iff l).1 hr).1
  have HR := Lib.hid (elright_any A n c l w hl hn)
  have HF := Lib.hid (fun W h => walkerFor_any A n c l W h)
  rw [hr] at HR
  rw [hnw] at HF
  have hwl : writeL l = fillB (l.flatMap (elB true)) := by unfold writeL bodyL; rw [hnw]
  rw [hwl]
  have hbs0 := Lib.hid (fun k => body_small (nw := true) (l.take k) (fun e he => hok e (List.mem_of_mem_take he)))
  have hnwE := Lib.hid (fun e (he : e ∈ l) (hq : narrowL l = true) => (by unfold narrowL at hq; rw [List.all_eq_true] at hq; exact hq e he : narrowE e = true))
  rw [hnw] at hnwE
  clear hwl hr hnw
  have hm1 := met_narrow_lead
  go_enter Try.func8, Try.ntmps8
  go_wp2_with fail
  refine HR.out.mono ?_
  rintro x w2 ⟨rfl, hB2⟩
  go_wp2_with fail
  refine (HF.out _ (hl.below hB2)).mono ?_
  rintro x w3 ⟨rfl, hB3⟩
  simp only [walkV, if_true]
  have hB0 := hB2.trans (hB3.mono hB2.size)
  go_wp2_with fail
  go_loopw [6, 16] (fun v i W => ∃ (k m : Nat) (B : Option Addr) (d : Nat), k ≤ n ∧ i = .int .i64 k ∧ v = .slice B m d ∧ Own W w.heap.size 5 B m d ((l.take k).flatMap (elB true)) ∧ Below w.heap.size w W) (fun _ i _ => n - (intOf i).toNat)
  case atStart => exact ⟨0, 0, none, 0, Nat.zero_le _, rfl, rfl, Own.nil _ _ _, hB0⟩
  case round =>
    obtain ⟨k, m, B, d, hk, rfl, rfl, hown, hB⟩ := hrel
    have hml : m ≤ 257 * 1000000 := by
      have h1 := hbs0.out k
      have h2 := hown.len
      rw [List.length_take] at h1
      omega
    by_cases hkn : k < n
    · obtain ⟨b, o, rfl, hlt, hc⟩ := hl.at_ (by omega)
      obtain ⟨Ai, ni, ci, p0, p1, hbs⟩ := hc k (by omega)
      have q0 := (hB.cell (p := ⟨b, o + k * 2, none⟩) hlt).trans p0
      have q1 := (hB.cell (p := ⟨b, o + k * 2 + 1, none⟩) hlt).trans p1
      clear p0 p1
      have hoke := hok _ (List.getElem_mem (show k < l.length by omega))
      have hne := Lib.hid (hnwE.out _ (List.getElem_mem (show k < l.length by omega)))
      have hs := Lib.hid (List.take_succ_eq_append_getElem (l := l) (i := k) (by omega))
      have hkn2 : (k : Int) < n := by omega
      have hdl := hbs.len
      clear hc
      generalize l[k]'(by omega) = e at *
      obtain ⟨id, data⟩ := e
      (try simp only at q0 q1 hbs hdl)
      rw [okEl_iff] at hoke
      obtain ⟨i1, i2, i3⟩ := hoke
      simp only at i1 i2 i3
      rw [hdl] at i3
      obtain ⟨n1, n2, n3⟩ := (narrowE_iff _).1 (hne.out trivial)
      simp only at n1 n2 n3
      rw [hdl] at n2 n3
      clear hne
      have Hdl := Lib.hid hdl
      clear hdl
      obtain ⟨idn, rfl⟩ := Int.eq_ofNat_of_zero_le (show 0 ≤ id by omega)
      have hsn : Hid ((l.take (k + 1)).flatMap (elB true) = ((l.take k).flatMap (elB true) ++ [UInt8.ofNat (16 * idn + ni - 1)]) ++ data) := Lib.hid (by
        rw [hs.out, List.flatMap_append, List.flatMap_cons, List.flatMap_nil, List.append_nil]
        unfold elB
        simp only [if_true, Int.toNat_natCast]
        rw [Hdl.out, List.append_assoc])
      clear hs
      generalize (l.take k).flatMap (elB true) = S at *
      have kb := Box.new wr [.int .i64 (idn : Int), .slice Ai ni ci] 49
      obtain ⟨z0, z1, _⟩ := kb.two
      have hBa := hB.alloc hB.size (.cells #[.int .i64 (idn : Int), .slice Ai ni ci] 49)
      have hsz := hB.size
      have hfar : some wr.heap.size ≠ rowOf B := fun e => by
        have := hown.row_lt _ e.symm
        omega
      go_wp2_with fail
      refine (lead_narrow idn ni Ai ci _ (by omega) (by omega) n2 n3).mono ?_
      rintro x w4 ⟨A4, c4, rfl, hown4, hb4⟩
      simp only [List.length_cons, List.length_nil, Nat.zero_add, Nat.reduceAdd] at hown4 ⊢
      have hB4 := hBa.trans (hb4.mono hBa.size)
      have k4 := kb.call hb4
      have h0w4 := (hown.below (below1 wr (.cells #[.int .i64 (idn : Int), .slice Ai ni ci] 49))).below hb4
      have hs4 := hB4.size
      clear kb z0 z1 hb4
      go_wp2_with (at_builtin; first
        | (refine wpList_app2 rfl (.tmp 20) (.tmp 23) 24 rfl w.heap.size 5 Try.underlying24 byte_info B m d S rfl h0w4 A4 1 c4 [UInt8.ofNat (16 * idn + ni - 1)] rfl hown4.bs (by omega) hs4 ?_; intro A5 c5 w5 hown5 hg5 hat5; have k5 := k4.grown hg5 hfar; have y1 := k5.field 1 rfl; have hB5 := hB4.grown hg5 hs4 (fun q hq => hown.row_ge q hq); have hs5 := hB5.size)
        | go_loud (refine wpList_app2 rfl (.tmp 25) (.tmp 27) 24 rfl w.heap.size 5 Try.underlying24 byte_info A5 (m + 1) c5 (S ++ [UInt8.ofNat (16 * idn + ni - 1)]) rfl hown5 Ai ni ci data rfl (hbs.below hB5) (by omega) hs5 ?_; intro A6 c6 w6 hown6 hg6 hat6; have hB6 := hB5.grown hg6 hs5 (fun q hq => hown5.row_ge q hq)))
      go_roundw
      case rel => exact ⟨k + 1, m + 1 + ni, A6, c6, by omega, by go_num, rfl, by rw [hsn.out]; exact hown6, hB6⟩
      case measure => simp [intOf]; omega
    · obtain rfl : k = n := by omega
      have hkn2 : ¬ (k : Int) < k := by omega
      have hS : Hid ((l.take k).flatMap (elB true) = l.flatMap (elB true)) := Lib.hid (by rw [List.take_of_length_le (by omega)])
      rw [hS.out] at hown
      go_wp2_with fail
      refine (profileOf_narrow _).mono ?_
      rintro x w4 ⟨rfl, hb4⟩
      have hB4 := hB.trans (hb4.mono hB.size)
      replace hown := hown.below hb4
      go_wp2_with fail
      refine (fill_any B m d _ _ hown.bs (by omega)).mono ?_
      rintro x w5 ⟨A5, c5, rfl, ho5, hb5⟩
      go_wp2_with fail
      refine bodyPost_ret (v := .tuple #[.int .u16 48862, .slice A5 _ c5, .int .i64 0]) (by simp [results, Try.results8, go_sem]) rfl ⟨A5, c5, rfl, ho5.bs, hB4.trans (hb5.mono hB4.size)⟩


set_option maxHeartbeats 4000000 in
theorem elwrite_wide (A : Option Addr) (n c : Nat) (l : List El) (w : World) (hl : Els w A n c l) (hn : n ≤ 1000000) (hr : rightL l = true) (hnw : narrowL l = false) :
    Calls Try.prog 8 #[.slice A n c] w (GivesPE w 4096 (writeL l) 0) := by
  have hln := hl.len
  obtain ⟨hb1, hb2⟩ := hl.bounds
  have hok := ((rightL_iff l).1 hr).1
  have HR := Lib.hid (elright_any A n c l w hl hn)
  have HF := Lib.hid (fun W h => walkerFor_any A n c l W h)
  rw [hr] at HR
  rw [hnw] at HF
  have hwl : writeL l = fillB (l.flatMap (elB false)) := by unfold writeL bodyL; rw [hnw]
  rw [hwl]
  have hbs0 := Lib.hid (fun k => body_small (nw := false) (l.take k) (fun e he => hok e (List.mem_of_mem_take he)))
  have hnwE := Lib.hid (fun e (he : e ∈ l) (hq : narrowL l = true) => (by unfold narrowL at hq; rw [List.all_eq_true] at hq; exact hq e he : narrowE e = true))
  rw [hnw] at hnwE
  clear hwl hr hnw
  have hm1 := met_wide_lead
  go_enter Try.func8, Try.ntmps8
  go_wp2_with fail
  refine HR.out.mono ?_
  rintro x w2 ⟨rfl, hB2⟩
  go_wp2_with fail
  refine (HF.out _ (hl.below hB2)).mono ?_
  rintro x w3 ⟨rfl, hB3⟩
  simp only [walkV, Bool.false_eq_true, if_false]
  have hB0 := hB2.trans (hB3.mono hB2.size)
  go_wp2_with fail
  go_loopw [6, 16] (fun v i W => ∃ (k m : Nat) (B : Option Addr) (d : Nat), k ≤ n ∧ i = .int .i64 k ∧ v = .slice B m d ∧ Own W w.heap.size 5 B m d ((l.take k).flatMap (elB false)) ∧ Below w.heap.size w W) (fun _ i _ => n - (intOf i).toNat)
  case atStart => exact ⟨0, 0, none, 0, Nat.zero_le _, rfl, rfl, Own.nil _ _ _, hB0⟩
  case round =>
    obtain ⟨k, m, B, d, hk, rfl, rfl, hown, hB⟩ := hrel
    have hml : m ≤ 257 * 1000000 := by
      have h1 := hbs0.out k
      have h2 := hown.len
      rw [List.length_take] at h1
      omega
    by_cases hkn : k < n
    · obtain ⟨b, o, rfl, hlt, hc⟩ := hl.at_ (by omega)
      obtain ⟨Ai, ni, ci, p0, p1, hbs⟩ := hc k (by omega)
      have q0 := (hB.cell (p := ⟨b, o + k * 2, none⟩) hlt).trans p0
      have q1 := (hB.cell (p := ⟨b, o + k * 2 + 1, none⟩) hlt).trans p1
      clear p0 p1
      have hoke := hok _ (List.getElem_mem (show k < l.length by omega))
      have hne := Lib.hid (hnwE.out _ (List.getElem_mem (show k < l.length by omega)))
      have hs := Lib.hid (List.take_succ_eq_append_getElem (l := l) (i := k) (by omega))
      have hkn2 : (k : Int) < n := by omega
      have hdl := hbs.len
      clear hc
      generalize l[k]'(by omega) = e at *
      obtain ⟨id, data⟩ := e
      (try simp only at q0 q1 hbs hdl)
      rw [okEl_iff] at hoke
      obtain ⟨i1, i2, i3⟩ := hoke
      simp only at i1 i2 i3
      rw [hdl] at i3
      clear hne
      have Hdl := Lib.hid hdl
      clear hdl
      obtain ⟨idn, rfl⟩ := Int.eq_ofNat_of_zero_le (show 0 ≤ id by omega)
      have hsn : Hid ((l.take (k + 1)).flatMap (elB false) = ((l.take k).flatMap (elB false) ++ [UInt8.ofNat idn, UInt8.ofNat ni]) ++ data) := Lib.hid (by
        rw [hs.out, List.flatMap_append, List.flatMap_cons, List.flatMap_nil, List.append_nil]
        unfold elB
        simp only [Bool.false_eq_true, if_false, Int.toNat_natCast]
        rw [Hdl.out, List.append_assoc])
      clear hs
      generalize (l.take k).flatMap (elB false) = S at *
      have kb := Box.new wr [.int .i64 (idn : Int), .slice Ai ni ci] 49
      obtain ⟨z0, z1, _⟩ := kb.two
      have hBa := hB.alloc hB.size (.cells #[.int .i64 (idn : Int), .slice Ai ni ci] 49)
      have hsz := hB.size
      have hfar : some wr.heap.size ≠ rowOf B := fun e => by
        have := hown.row_lt _ e.symm
        omega
      go_wp2_with fail
      refine (lead_wide idn ni Ai ci _ (by omega) i3).mono ?_
      rintro x w4 ⟨A4, c4, rfl, hown4, hb4⟩
      simp only [List.length_cons, List.length_nil, Nat.zero_add, Nat.reduceAdd] at hown4 ⊢
      have hB4 := hBa.trans (hb4.mono hBa.size)
      have k4 := kb.call hb4
      have h0w4 := (hown.below (below1 wr (.cells #[.int .i64 (idn : Int), .slice Ai ni ci] 49))).below hb4
      have hs4 := hB4.size
      clear kb z0 z1 hb4
      go_wp2_with (at_builtin; first
        | (refine wpList_app2 rfl (.tmp 20) (.tmp 23) 24 rfl w.heap.size 5 Try.underlying24 byte_info B m d S rfl h0w4 A4 2 c4 [UInt8.ofNat idn, UInt8.ofNat ni] rfl hown4.bs (by omega) hs4 ?_; intro A5 c5 w5 hown5 hg5 hat5; have k5 := k4.grown hg5 hfar; have y1 := k5.field 1 rfl; have hB5 := hB4.grown hg5 hs4 (fun q hq => hown.row_ge q hq); have hs5 := hB5.size)
        | go_loud (refine wpList_app2 rfl (.tmp 25) (.tmp 27) 24 rfl w.heap.size 5 Try.underlying24 byte_info A5 (m + 2) c5 (S ++ [UInt8.ofNat idn, UInt8.ofNat ni]) rfl hown5 Ai ni ci data rfl (hbs.below hB5) (by omega) hs5 ?_; intro A6 c6 w6 hown6 hg6 hat6; have hB6 := hB5.grown hg6 hs5 (fun q hq => hown5.row_ge q hq)))
      go_roundw
      case rel => exact ⟨k + 1, m + 2 + ni, A6, c6, by omega, by go_num, rfl, by rw [hsn.out]; exact hown6, hB6⟩
      case measure => simp [intOf]; omega
    · obtain rfl : k = n := by omega
      have hkn2 : ¬ (k : Int) < k := by omega
      have hS : Hid ((l.take k).flatMap (elB false) = l.flatMap (elB false)) := Lib.hid (by rw [List.take_of_length_le (by omega)])
      rw [hS.out] at hown
      go_wp2_with fail
      refine (profileOf_wide _).mono ?_
      rintro x w4 ⟨rfl, hb4⟩
      have hB4 := hB.trans (hb4.mono hB.size)
      replace hown := hown.below hb4
      go_wp2_with fail
      refine (fill_any B m d _ _ hown.bs (by omega)).mono ?_
      rintro x w5 ⟨A5, c5, rfl, ho5, hb5⟩
      go_wp2_with fail
      refine bodyPost_ret (v := .tuple #[.int .u16 4096, .slice A5 _ c5, .int .i64 0]) (by simp [results, Try.results8, go_sem]) rfl ⟨A5, c5, rfl, ho5.bs, hB4.trans (hb5.mono hB4.size)⟩

set_option maxHeartbeats 2000000 in
theorem elwrite_any (A : Option Addr) (n c : Nat) (l : List El) (w : World) (hl : Els w A n c l) (hn : n ≤ 1000000) :
    Calls Try.prog 8 #[.slice A n c] w (GivesPE w (profL l) (writeEB l) (writeEE l)) := by
  cases hr : rightL l
  · have HR := Lib.hid (elright_any A n c l w hl hn)
    rw [hr] at HR
    have e1 : profL l = 0 := by unfold profL; rw [hr]; simp
    have e2 : writeEB l = [] := by unfold writeEB; rw [hr]; simp
    have e3 : writeEE l = 1 := by unfold writeEE; rw [hr]; simp
    rw [e1, e2, e3]
    clear e1 e2 e3 hr
    go_enter Try.func8, Try.ntmps8
    go_wp2_with fail
    refine HR.out.mono ?_
    rintro x w2 ⟨rfl, hB⟩
    go_wp2_with fail
    refine bodyPost_ret (v := .tuple #[.int .u16 0, .slice none 0 0, .int .i64 1]) (by simp [results, Try.results8, go_sem]) rfl ⟨none, 0, rfl, Bs.nil _, hB⟩
  · have e2 : writeEB l = writeL l := by unfold writeEB; rw [if_pos hr]
    have e3 : writeEE l = 0 := by unfold writeEE; rw [if_pos hr]
    rw [e2, e3]
    cases hnw : narrowL l
    · have e1 : profL l = 4096 := by unfold profL; rw [if_pos hr, hnw]; simp
      rw [e1]
      exact elwrite_wide A n c l w hl hn hr hnw
    · have e1 : profL l = 48862 := by unfold profL; rw [if_pos hr, hnw]; simp
      rw [e1]
      exact elwrite_narrow A n c l w hl hn hr hnw

end Go.Proofs.Ytpkbikimpjmkgaa
