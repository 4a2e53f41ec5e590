/-
  What the document's own answers for layer 8 come to: Write.
-/
import Derived.Test.YtpkbikimpjmkgaaElemR
import Derived.Test.YtpkbikimpjmkgaaPadT
import Derived.Test.YtpkbikimpjmkgaaBase
namespace Go.Proofs.Ytpkbikimpjmkgaa
open Go.RowKit
set_option linter.unusedVariables false
set_option linter.unusedSimpArgs false

theorem elB_small {nw : Bool} {e : El} (h : okEl e = true) : (elB nw e).length ≤ 257 := by
  rw [okEl_iff] at h
  rw [elB_length]
  split <;> omega
theorem body_small {nw : Bool} : ∀ (l : List El), (∀ e ∈ l, okEl e = true) → (l.flatMap (elB nw)).length ≤ 257 * l.length := by
  intro l
  induction l with
  | nil => intro _; simp
  | cons e l ih =>
    intro h
    have h1 := elB_small (nw := nw) (h e (by simp))
    have h2 := ih (fun x hx => h x (by simp [hx]))
    rw [List.flatMap_cons, List.length_append, List.length_cons]
    omega

set_option maxRecDepth 100000 in
set_option maxHeartbeats 4000000 in
theorem rwriteL_any (A : Option Addr) (n c : Nat) (l : List El) (w : World) (hl : Els w A n c l) (hr : rightL l = true) (hn : n ≤ 10000) :
    Calls Try.prog 11 #[.slice A n c] w (GivesB w 5 (writeL l)) := by
  have hln := hl.len
  obtain ⟨hb1, hb2⟩ := hl.bounds
  have hok := ((rightL_iff l).1 hr).1
  have HP := Lib.hid (fun W hl => rprofL_any A n c l W hl)
  have hpv : profL l = if narrowL l = true then 48862 else 4096 := by unfold profL; rw [if_pos hr]
  rw [hpv] at HP
  have hwl : writeL l = fillB (l.flatMap (elB (narrowL l))) := rfl
  rw [hwl]
  have hbs0 := Lib.hid (fun k => body_small (nw := narrowL l) (l.take k) (fun e he => hok e (List.mem_of_mem_take he)))
  have hnw := Lib.hid (fun e (he : e ∈ l) (h : narrowL l = true) => (by unfold narrowL at h; rw [List.all_eq_true] at h; exact h e he : narrowE e = true))
  generalize narrowL l = nw at *
  clear hpv hwl hr
  go_enter Try.func11, Try.ntmps11
  go_wp2_with fail
  go_loopw [3, 4] (fun v i W => ∃ (k m : Nat) (B : Option Addr) (d : Nat), k ≤ n ∧ i = .int .i64 k ∧ v = .slice B m d ∧ Own W w.heap.size 5 B m d ((l.take k).flatMap (elB nw)) ∧ Below w.heap.size w W) (fun _ i _ => n - (intOf i).toNat)
  case atStart => exact ⟨0, 0, none, 0, Nat.zero_le _, rfl, rfl, Own.nil _ _ _, Below.refl _ _⟩
  case round =>
    obtain ⟨k, m, B, d, hk, rfl, rfl, hown, hB⟩ := hrel
    have hml : m ≤ 257 * 10000 := by
      have h1 := hbs0.out k
      have h2 := hown.len
      rw [List.length_take] at h1
      omega
    by_cases hkn : k < n
    · obtain ⟨b, o, rfl, hlt, hc⟩ := hl.at_ (by omega)
      obtain ⟨Ai, ni, ci, q0, q1, hbs⟩ := hc k (by omega)
      have hoke := hok _ (List.getElem_mem (show k < l.length by omega))
      have hne := Lib.hid (hnw.out _ (List.getElem_mem (show k < l.length by omega)))
      have hs := Lib.hid (List.take_succ_eq_append_getElem (l := l) (i := k) (by omega))
      have hkn2 : (k : Int) < n := by omega
      have hdl := hbs.len
      clear hc
      generalize l[k]'(by omega) = e at *
      obtain ⟨id, data⟩ := e
      (try simp only at q0 hbs hdl)
      rw [okEl_iff] at hoke
      obtain ⟨i1, i2, i3⟩ := hoke
      simp only at i1 i2 i3
      rw [hdl] at i3
      have Hdl := Lib.hid hdl
      clear hdl
      obtain ⟨idn, rfl⟩ := Int.eq_ofNat_of_zero_le (show 0 ≤ id by omega)
      have q0' := (hB.cell (p := ⟨b, o + k * 2, none⟩) hlt).trans q0
      have q1' := (hB.cell (p := ⟨b, o + k * 2 + 1, none⟩) hlt).trans q1
      have hsn : Hid ((l.take (k + 1)).flatMap (elB nw) = (l.take k).flatMap (elB nw) ++ elB nw ⟨idn, data⟩) := Lib.hid (by rw [hs.out, List.flatMap_append, List.flatMap_cons, List.flatMap_nil, List.append_nil])
      clear hs
      generalize (l.take k).flatMap (elB nw) = S at *
      have hlw := hl.below hB
      have hsz := hB.size
      go_wp2_with fail
      refine (HP.out _ hlw).mono ?_
      rintro x w3 ⟨rfl, hb3⟩
      have hB3 := hB.trans (hb3.mono hsz)
      have hsz3 := hB3.size
      replace hown := hown.below hb3
      have r0 := (hB3.cell (p := ⟨b, o + k * 2, none⟩) hlt).trans q0
      have r1 := (hB3.cell (p := ⟨b, o + k * 2 + 1, none⟩) hlt).trans q1
      clear q0' q1' hlw hb3
      cases nw with
      | true =>
        obtain ⟨n1, n2, n3⟩ := (narrowE_iff _).1 (hne.out rfl)
        simp only at n1 n2 n3
        rw [Hdl.out] at n2 n3
        have hwv : IntKind.u8.wrap (16 * (idn : Int) + (ni : Int) - 1) = ((16 * idn + ni - 1 : Nat) : Int) := by rw [IntKind.wrap_u8]; omega
        have hel : Hid (S ++ elB true ⟨(idn : Int), data⟩ = (S ++ [UInt8.ofNat (16 * idn + ni - 1)]) ++ data) := Lib.hid (by
          unfold elB
          simp only [if_true, Int.toNat_natCast]
          rw [Hdl.out, List.append_assoc])
        have hvs : Hid ((#[.int .u8 ((16 * idn + ni - 1 : Nat) : Int)] : Array Value) = ([UInt8.ofNat (16 * idn + ni - 1)].map byteV).toArray) := Lib.hid (by
          simp only [List.map_cons, List.map_nil, byteV, toNat_ofNat (show 16 * idn + ni - 1 < 256 by omega)])
        have hwi : IntKind.i64.wrap (16 * (idn : Int) + (ni : Int)) = 16 * (idn : Int) + (ni : Int) := IntWalk.i64_in _ (by omega)
        have hwj : IntKind.i64.wrap (16 * (idn : Int) + (ni : Int) - 1) = 16 * (idn : Int) + (ni : Int) - 1 := IntWalk.i64_in _ (by omega)
        have hwk : IntKind.i64.wrap (16 * (idn : Int)) = 16 * (idn : Int) := IntWalk.i64_in _ (by omega)
        have hmd : (16 * (idn : Int) + (ni : Int) - 1) % 256 = ((16 * idn + ni - 1 : Nat) : Int) := by omega
        go_wp2_with (at_builtin; first
          | (refine wpList_app _ rfl (.tmp 21) (.tmp 32) 24 rfl w.heap.size 5 Try.underlying24 byte_info B m d S rfl (hown.alloc _) (some ⟨w3.heap.size, 0, none⟩) 1 1 [UInt8.ofNat (16 * idn + ni - 1)] rfl (bs_lit w3 [UInt8.ofNat (16 * idn + ni - 1)] #[.int .u8 ((16 * idn + ni - 1 : Nat) : Int)] 5 hvs.out (by simp [maxLen])) (by omega) (by simp; omega) ?_; intro A5 c5 w5 hown5 hb5; have hB5 := (hB3.alloc hB3.size (.cells #[.int .u8 ((16 * idn + ni - 1 : Nat) : Int)] 5)).trans hb5; have s1 := (hB5.cell (p := ⟨b, o + k * 2 + 1, none⟩) hlt).trans q1; have hsz5 := hB5.size)
          | go_loud (refine wpList_app _ rfl (.tmp 45) (.tmp 50) 24 rfl w.heap.size 5 Try.underlying24 byte_info A5 (m + 1) c5 (S ++ [UInt8.ofNat (16 * idn + ni - 1)]) rfl hown5 Ai ni ci data rfl (hbs.below hB5) (by omega) hsz5 ?_; intro A6 c6 w6 hown6 hb6; have hB6 := hB5.trans hb6))
        go_roundw
        case rel => exact ⟨k + 1, m + 1 + ni, A6, c6, by omega, by go_num, rfl, by rw [hsn.out, hel.out]; exact hown6, hB6⟩
        case measure => simp [intOf]; omega
      | false =>
        have hel : Hid (S ++ elB false ⟨(idn : Int), data⟩ = (S ++ [UInt8.ofNat idn, UInt8.ofNat ni]) ++ data) := Lib.hid (by
          unfold elB
          simp only [Bool.false_eq_true, if_false, Int.toNat_natCast]
          rw [Hdl.out, List.append_assoc])
        have hvs : Hid ((#[.int .u8 (idn : Int), .int .u8 (ni : Int)] : Array Value) = ([UInt8.ofNat idn, UInt8.ofNat ni].map byteV).toArray) := Lib.hid (by
          simp only [List.map_cons, List.map_nil, byteV, toNat_ofNat (show idn < 256 by omega), toNat_ofNat (show ni < 256 by omega)])
        have hwi : IntKind.u8.wrap (idn : Int) = (idn : Int) := by rw [IntKind.wrap_u8]; omega
        have hwj : IntKind.u8.wrap (ni : Int) = (ni : Int) := by rw [IntKind.wrap_u8]; omega
        have hm1 : (idn : Int) % 256 = (idn : Int) := by omega
        have hm2 : (ni : Int) % 256 = (ni : Int) := by omega
        go_wp2_with (at_builtin; first
          | (refine wpList_app _ rfl (.tmp 34) (.tmp 43) 24 rfl w.heap.size 5 Try.underlying24 byte_info B m d S rfl (hown.alloc _) (some ⟨w3.heap.size, 0, none⟩) 2 2 [UInt8.ofNat idn, UInt8.ofNat ni] rfl (bs_lit w3 [UInt8.ofNat idn, UInt8.ofNat ni] #[.int .u8 (idn : Int), .int .u8 (ni : Int)] 5 hvs.out (by simp [maxLen])) (by omega) (by simp; omega) ?_; intro A5 c5 w5 hown5 hb5; have hB5 := (hB3.alloc hB3.size (.cells #[.int .u8 (idn : Int), .int .u8 (ni : Int)] 5)).trans hb5; have s1 := (hB5.cell (p := ⟨b, o + k * 2 + 1, none⟩) hlt).trans q1; have hsz5 := hB5.size)
          | go_loud (refine wpList_app _ rfl (.tmp 45) (.tmp 50) 24 rfl w.heap.size 5 Try.underlying24 byte_info A5 (m + 2) c5 (S ++ [UInt8.ofNat idn, UInt8.ofNat ni]) rfl hown5 Ai ni ci data rfl (hbs.below hB5) (by omega) hsz5 ?_; intro A6 c6 w6 hown6 hb6; have hB6 := hB5.trans hb6))
        go_roundw
        case rel => exact ⟨k + 1, m + 2 + ni, A6, c6, by omega, by go_num, rfl, by rw [hsn.out, hel.out]; exact hown6, hB6⟩
        case measure => simp [intOf]; omega
    · obtain rfl : k = n := by omega
      have hkn2 : ¬ (k : Int) < k := by omega
      have hS : Hid ((l.take k).flatMap (elB nw) = l.flatMap (elB nw)) := Lib.hid (by rw [List.take_of_length_le (by omega)])
      rw [hS.out] at hown
      go_wp2_with fail
      refine (rfill_any B m d _ _ hown.bs (by omega)).mono ?_
      rintro x w4 ⟨A4, c4, rfl, ho4, hb4⟩
      go_wp2_with fail
      go_ret
      exact ⟨A4, c4, rfl, ho4.mono hB.size, hB.trans (hb4.mono hB.size)⟩

end Go.Proofs.Ytpkbikimpjmkgaa
