/-
  The walk of the statement BitsBack.
-/
import Derived.Test.YtpalhllphnfpmaaBitBackR
import Derived.Test.YtpalhllphnfpmaaBitO
import Derived.Test.YtpalhllphnfpmaaBitParts0
import Derived.Test.YtpalhllphnfpmaaRow
namespace Go.Proofs.Ytpalhllphnfpmaa
open Go.RowKit
set_option linter.unusedVariables false

theorem info_u64 : (Try.prog.info? 28).map (fun i => (i.zero, i.size, i.bytes)) = some (some (.int .u64 0), 1, 8) := by kernel_rfl
theorem info_u8 : (Try.prog.info? 5).map (fun i => (i.zero, i.size, i.bytes)) = some (some (.int .u8 0), 1, 1) := by kernel_rfl
theorem u8_size (w : World) : (Go.sizeOf 5).run Try.prog w = .ok 1 w := run_size_one info_u8 w
theorem row_form {w : World} {base n : Nat} {e : TypeId} {v : Value} {xs : List Value} (h : w.ownsRow base e 1 v n xs) : ∃ A c, v = .slice A n c := by
  obtain ⟨h1, h2⟩ := h
  rcases h2 with ⟨rfl, h3⟩ | ⟨g, cap, cur, rfl, r⟩
  · subst h3
    exact ⟨none, 0, rfl⟩
  · exact ⟨_, _, rfl⟩
theorem row_below {w w' : World} {base size n : Nat} {e : TypeId} {v : Value} {xs : List Value} (h : w.ownsRow base e size v n xs) (hb : Below w.heap.size w w') : w'.ownsRow base e size v n xs := by
  obtain ⟨h1, h2⟩ := h
  refine ⟨h1, ?_⟩
  rcases h2 with h2 | ⟨g, cap, cur, hv, hg, hh, r⟩
  · exact .inl h2
  · exact .inr ⟨g, cap, cur, hv, hg, (hb.block g (lt_of_block hh)).trans hh, r⟩
theorem row_other {w : World} {base size n : Nat} {e : TypeId} {v : Value} {xs : List Value} {p : Addr} (h : w.ownsRow base e size v n xs) (u : Value) (hp : p.block < base) : (w.setCell p u).ownsRow base e size v n xs := ownsRow_setCell_below h hp u
theorem row_place {w : World} {base size n m c : Nat} {e : TypeId} {A : Option Addr} {xs : List Value} (h : w.ownsRow base e size (.slice A m c) n xs) : ∀ k, rowOf A = some k → base ≤ k ∧ k < w.heap.size := by
  intro k hk
  obtain ⟨_, h2⟩ := h
  rcases h2 with ⟨h3, _⟩ | ⟨g, cap, cur, hv, hb, hh, _⟩
  · injection h3 with e1
    subst e1
    cases hk
  · injection hv with e1
    subst e1
    injection hk with hk
    subst hk
    exact ⟨hb, lt_of_block hh⟩

section
variable {B : Nat → Bool} {d z : Nat → Nat}
theorem back_add (i : Nat) (hb : B i = false) (hd : d i ≤ 255) (hz : z i < 18446744073709551616) (hM : stM B d z i ≤ 4000) (w : World) (A : Option Addr) (c : Nat) (hs : Bs w A (stS B d z i).length c (stS B d z i)) :
    Calls Try.prog 15 #[.agg #[.slice A (stS B d z i).length c, .int .i64 ((stM B d z i : Nat) : Int)], .int .u64 (valOf (B i) (d i) (z i)), .int .i64 ((d i % 65 : Nat) : Int)] w (GivesO w (stS B d z (i + 1)).length (stS B d z (i + 1)) ((stM B d z (i + 1) : Nat) : Int)) := by
  have hne : ¬ (B i = true) := by rw [hb]; decide
  have hc : cntOf (B i) (d i) (z i) = d i % 65 := if_neg hne
  have hr : rawOf (B i) (d i) (z i) = valOf (B i) (d i) (z i) := if_neg hne
  have hlt := raw_lt (B i) (d i) (z i) hz
  rw [hc, hr] at hlt
  have hl := stS_length (B := B) (d := d) (z := z) i
  have hp : (2 : Nat) ^ (d i % 65) ≤ 18446744073709551616 := Nat.pow_le_pow_right (n := 2) (j := 64) (by omega) (by omega)
  have := badd_own A _ c (stS B d z i) (stM B d z i) (d i % 65) (valOf (B i) (d i) (z i)) w hs (by omega) (stS_right i) (by omega) hlt (by omega)
  have e1 : stM B d z (i + 1) = stM B d z i + d i % 65 := by simp only [stM]; rw [hc]
  have e2 : stS B d z (i + 1) = addS (stS B d z i) (stM B d z i) (valOf (B i) (d i) (z i)) (d i % 65) := by simp only [stS]; rw [hc, hr]
  rw [e2, addS_length, e1, Int.natCast_add]
  exact this
theorem back_addr (i : Nat) (hb : B i = true) (hd : d i ≤ 255) (hM : stM B d z i ≤ 4000) (w : World) (A : Option Addr) (c : Nat) (hs : Bs w A (stS B d z i).length c (stS B d z i)) :
    Calls Try.prog 20 #[.agg #[.slice A (stS B d z i).length c, .int .i64 ((stM B d z i : Nat) : Int)], .int .u64 (valOf (B i) (d i) (z i)), .int .u64 ((d i : Int) + 1)] w (GivesO w (stS B d z (i + 1)).length (stS B d z (i + 1)) ((stM B d z (i + 1) : Nat) : Int)) := by
  have hc : cntOf (B i) (d i) (z i) = rngN (valOf (B i) (d i) (z i)) (d i + 1) := if_pos hb
  have hr : rawOf (B i) (d i) (z i) = rngV (valOf (B i) (d i) (z i)) (d i + 1) := if_pos hb
  have hl := stS_length (B := B) (d := d) (z := z) i
  have hv : valOf (B i) (d i) (z i) < d i + 1 := by unfold valOf; rw [if_pos hb]; exact Nat.mod_lt _ (by omega)
  have := baddr_own A _ c (stS B d z i) (stM B d z i) (valOf (B i) (d i) (z i)) (d i + 1) w hs (by omega) (stS_right i) (by omega) (by omega) hv
  have e1 : stM B d z (i + 1) = stM B d z i + rngN (valOf (B i) (d i) (z i)) (d i + 1) := by simp only [stM]; rw [hc]
  have e2 : stS B d z (i + 1) = addS (stS B d z i) (stM B d z i) (rngV (valOf (B i) (d i) (z i)) (d i + 1)) (rngN (valOf (B i) (d i) (z i)) (d i + 1)) := by simp only [stS]; rw [hc, hr]
  rw [e2, addS_length, e1, Int.natCast_add]
  rw [Int.natCast_add, show ((1 : Nat) : Int) = 1 from rfl] at this
  exact this
end

/-- What holds while the numbers are written: i of them are. -/
def BackInv (w1 : World) (N : Nat) (B : Nat → Bool) (d z : Nat → Nat) (s8 s9 : Value) (W : World) : Prop :=
  ∃ i Ak ck Ap cp, i ≤ N ∧ s9 = .int .i64 (i : Int) ∧ s8 = .slice Ap i cp ∧ Box W w1.heap.size [.slice Ak (stS B d z i).length ck, .int .i64 ((stM B d z i : Nat) : Int)] ∧ Bs W Ak (stS B d z i).length ck (stS B d z i) ∧
    W.ownsRow (w1.heap.size + 1) 28 1 (.slice Ap i cp) i ((List.range i).map fun k => u64V (valOf (B k) (d k) (z k))) ∧ Below w1.heap.size w1 W
/-- A number was written. -/
def UInv (w1 : World) (r q : Nat) (S : List UInt8) (M : Int) (Ap : Option Addr) (cp i : Nat) (xs : List Value) (e : Value) (W : World) : Prop :=
  ∃ Ak ck, e = .int .i64 0 ∧ Box W w1.heap.size [.slice Ak q ck, .int .i64 M] ∧ Own W r 5 Ak q ck S ∧ W.ownsRow (w1.heap.size + 1) 28 1 (.slice Ap i cp) i xs ∧ Below w1.heap.size w1 W ∧ r ≤ W.heap.size
theorem uinv_mk {w1 wr wQ : World} {q0 q i ck0 ck cp : Nat} {S : List UInt8} {M0 M : Int} {Ap Ak0 Ak : Option Addr} {xs : List Value} (hk : Box wr w1.heap.size [.slice Ak0 q0 ck0, .int .i64 M0])
    (hrow : wr.ownsRow (w1.heap.size + 1) 28 1 (.slice Ap i cp) i xs) (hbel : Below w1.heap.size w1 wr) (hq : Own wQ wr.heap.size 5 Ak q ck S) (hb : Below wr.heap.size wr wQ) :
    UInv w1 wr.heap.size q S M Ap cp i xs (.int .i64 0) ((wQ.setCell ⟨w1.heap.size, 0, none⟩ (.slice Ak q ck)).setCell ⟨w1.heap.size, 1, none⟩ (.int .i64 M)) := by
  have hlt : w1.heap.size < wr.heap.size := hk.2.2
  have hne := hq.row_ne hlt
  have hbs := hb.size
  exact ⟨Ak, ck, rfl, (hk.call hb).put2 _ _, (hq.other2 _ hne).other2 _ hne, row_other (row_other (row_below hrow hb) _ (by show w1.heap.size < _; omega)) _ (by show w1.heap.size < _; omega), below_put2 (hbel.trans (hb.mono hbel.size)) (Nat.le_refl _) _ _, by simpa using hbs⟩

set_option maxRecDepth 100000 in
set_option maxHeartbeats 400000 in
theorem bitsBack_big (P D R : Option Addr) (N cp0 ld cd lr cr : Nat) (w : World) (hN : N ≤ maxLen) (hD : ld ≤ maxLen) (hR : lr ≤ maxLen) (hbig : 60 < N ∨ ld < N ∨ lr < N) :
    Calls Try.prog 4 #[.slice P N cp0, .slice D ld cd, .slice R lr cr] w fun e w' => e = .returned (.bool true) ∧ Below w.heap.size w w' := by
  unfold maxLen at hN hD hR
  rcases (show 60 < (N : Int) ∨ ((N : Int) ≤ 60 ∧ ld < N) ∨ ((N : Int) ≤ 60 ∧ N ≤ ld ∧ lr < N) by omega) with h | ⟨h0, h⟩ | ⟨h0, h1, h⟩
  all_goals
    clear hbig
    go_enter Try.func4, Try.ntmps4
    go_wp2_with fail
    refine (awake_any _).mono ?_
    rintro e w1 ⟨rfl, hb⟩
    go_wp2
    go_ret
    exact ⟨rfl, hb⟩

set_option maxRecDepth 100000 in
set_option maxHeartbeats 4000000 in
theorem bitsBack_main (P D R : Option Addr) (N cp0 ld cd lr cr : Nat) (ds : List UInt8) (bs : List Value) (B : Nat → Bool) (d z : Nat → Nat) (w : World)
    (hP : Sl w P N cp0 ((List.range N).map fun i => u64V (z i))) (hD : Bs w D ld cd ds) (hR : Sl w R lr cr bs) (hN : N ≤ 60) (hld : N ≤ ld) (hlr : N ≤ lr)
    (hd : ∀ i, i < N → (ds.getD i 0).toNat = d i) (hB : ∀ i, i < N → bs[i]? = some (.bool (B i))) (hz : ∀ i, i < N → z i < 18446744073709551616) :
    Calls Try.prog 4 #[.slice P N cp0, .slice D ld cd, .slice R lr cr] w fun e w' => e = .returned (.bool true) ∧ Below w.heap.size w w' := by
  have hd255 : ∀ i, i < N → d i ≤ 255 := fun i hi => by rw [← hd i hi]; have := byte_lt ds i; omega
  have hMle : ∀ i, i ≤ N → stM B d z i ≤ 4000 := fun i hi => by have := stM_le (B := B) (d := d) (z := z) (i := i) (fun k hk => hd255 k (by omega)); omega
  have Hd := Lib.hid hd
  have HB := Lib.hid hB
  have Hz := Lib.hid hz
  have Hd255 := Lib.hid hd255
  have HMle := Lib.hid hMle
  clear hd hB hz hd255 hMle
  go_enter Try.func4, Try.ntmps4
  go_wp2_with fail
  refine (awake_any _).mono ?_
  rintro e w1 ⟨rfl, hB1⟩
  have hI : BackInv w1 N B d z (.slice none 0 0) (.int .i64 0) (w1.alloc (.cells #[.slice none 0 0, .int .i64 0] 27)) :=
    ⟨0, none, 0, none, 0, Nat.zero_le _, rfl, rfl, Box.new w1 _ _, Bs.nil _, World.ownsRow_nil _ _ _ _, below1 _ _⟩
  go_wp2_with fail
  clear ‹(((N : Nat) : Int) ≤ 60 ∧ ¬ ld < N) ∧ ¬ lr < N›
  go_loopw [8, 9] (fun s8 s9 W => BackInv w1 N B d z s8 s9 W) (fun _ s9 _ => N - (intOf s9).toNat)
  case atStart => exact hI
  case round =>
    obtain ⟨i, Ak, ck, Ap, cp, hi, rfl, rfl, hk, hbk, hrow, hbel⟩ := hrel
    clear hI
    by_cases hiN : i < N
    · have hB2 := hB1.trans (hbel.mono hB1.size)
      obtain ⟨db, dO, rfl, _, hdc⟩ := (hD.below hB2).at_ (by omega)
      have hdc1 := hdc i (by omega)
      rw [Hd.out i hiN] at hdc1
      obtain ⟨rb, rO, rfl, _, hrc⟩ := (Sl.below hR hB2).at_ (by omega)
      have hrc1 := hrc i _ (HB.out i hiN)
      obtain ⟨pb, pO, rfl, _, hpc⟩ := (Sl.below hP hB2).at_ (by omega)
      have hpc1 : wr.cell? ⟨pb, pO + i, none⟩ = some (.int .u64 ((z i : Nat) : Int)) := hpc i (u64V (z i)) (by rw [List.getElem?_map, List.getElem?_range hiN]; rfl)
      have hd1 := Hd255.out i hiN
      have hz1 := Hz.out i hiN
      have hM1 := HMle.out i hi
      have hi0 : (0 : Int) ≤ (i : Int) := by omega
      have hi1 : (i : Int) < (ld : Int) := by omega
      have hi2 : (i : Int) < (lr : Int) := by omega
      have hi3 : (i : Int) < (N : Int) := by omega
      have hxs : (List.range (i + 1)).map (fun k => u64V (valOf (B k) (d k) (z k))) = (List.range i).map (fun k => u64V (valOf (B k) (d k) (z k))) ++ [u64V (valOf (B i) (d i) (z i))] := by rw [List.range_succ, List.map_append]; rfl
      have HXS := Lib.hid hxs
      have HR1 := Lib.hid (stS_right (B := B) (d := d) (z := z) (i + 1))
      have HL1 := Lib.hid (stS_length (B := B) (d := d) (z := z) (i + 1))
      have HM1 := Lib.hid (HMle.out (i + 1) hiN)
      clear hdc hrc hpc hxs
      obtain ⟨nn, hnn⟩ : ∃ nn : Nat, d i % 65 = nn := ⟨_, rfl⟩
      have hnn64 : nn ≤ 64 := by omega
      have G0 : B i = false → ∀ w' A' c', Bs w' A' (stS B d z i).length c' (stS B d z i) → Calls Try.prog 15 #[.agg #[.slice A' (stS B d z i).length c', .int .i64 ((stM B d z i : Nat) : Int)], .int .u64 (valOf (B i) (d i) (z i)), .int .i64 (nn : Int)] w' (GivesO w' (stS B d z (i + 1)).length (stS B d z (i + 1)) ((stM B d z (i + 1) : Nat) : Int)) := fun hb w' A' c' h => by
        have := back_add i hb hd1 hz1 hM1 w' A' c' h
        rwa [hnn] at this
      have G1 : B i = true → ∀ w' A' c', Bs w' A' (stS B d z i).length c' (stS B d z i) → Calls Try.prog 20 #[.agg #[.slice A' (stS B d z i).length c', .int .i64 ((stM B d z i : Nat) : Int)], .int .u64 (valOf (B i) (d i) (z i)), .int .u64 ((d i : Int) + 1)] w' (GivesO w' (stS B d z (i + 1)).length (stS B d z (i + 1)) ((stM B d z (i + 1) : Nat) : Int)) := fun hb => back_addr i hb hd1 hM1
      have hv0 : B i = false → nn < 64 → valOf (B i) (d i) (z i) = z i % 2 ^ nn := fun hb h => by unfold valOf; rw [if_neg (by rw [hb]; decide), hnn, if_pos h]
      have hv1 : B i = false → ¬ nn < 64 → valOf (B i) (d i) (z i) = z i := fun hb h => by unfold valOf; rw [if_neg (by rw [hb]; decide), hnn, if_neg h]
      have hv2 : B i = true → valOf (B i) (d i) (z i) = z i % (d i + 1) := fun hb => by unfold valOf; rw [if_pos hb]
      have hn2 : (d i : Int) % 65 = (nn : Int) := by omega
      generalize hM : ((stM B d z i : Nat) : Int) = M0 at *
      generalize hMn : ((stM B d z (i + 1) : Nat) : Int) = M1 at *
      generalize hS0 : stS B d z i = S0 at *
      generalize hS1 : stS B d z (i + 1) = S1 at *
      generalize hvv : valOf (B i) (d i) (z i) = vv at *
      generalize hxv : (List.range i).map (fun k => u64V (valOf (B k) (d k) (z k))) = xs at *
      generalize hdd : d i = dd at *
      generalize hzz : z i = zz at *
      generalize hL0 : S0.length = L0 at *
      generalize hL1 : S1.length = L1 at *
      have HS1 := Lib.hid hS1
      have HMn := Lib.hid hMn
      have HL1' := Lib.hid hL1
      clear hM hMn hS0 hS1 hvv hxv hdd hzz hL0 hL1 hnn
      have hm1 : M1 ≤ 4000 := by have := HMn.out; have := HM1.out; omega
      have hl1 : L1 ≤ 501 := by have := HL1.out; have := HM1.out; omega
      obtain ⟨c0, c1, f0, f1, l1⟩ := hk.two
      by_cases h64 : nn < 64
      · by_cases hb : B i = true
        · rw [hb] at hrc1
          have G := Lib.hid (G1 hb)
          have hmod : (zz : Int) % ((dd : Int) + 1) = (vv : Int) := by rw [hv2 hb]; simp
          have hmod2 : Int.tmod (zz : Int) ((dd : Int) + 1) = (vv : Int) := by rw [Int.tmod_eq_emod_of_nonneg (by omega)]; exact hmod
          have hw1 : IntKind.u64.wrap (dd : Int) = dd := by rw [IntKind.wrap_u64]; omega
          have hw2 : IntKind.u64.wrap ((dd : Int) + 1) = (dd : Int) + 1 := by rw [IntKind.wrap_u64]; omega
          have hw3 : IntKind.u64.wrap (vv : Int) = vv := by rw [IntKind.wrap_u64, ← hmod]; have := Int.emod_lt_of_pos (zz : Int) (show 0 < (dd : Int) + 1 by omega); have := Int.emod_nonneg (zz : Int) (show (dd : Int) + 1 ≠ 0 by omega); omega
          have hne0 : ((dd : Int) + 1 == 0) = false := by simp; omega
          clear hb G0 G1 hv0 hv1 hv2
          go_wp2_with fail
          go_quiet (fail)
          go_upto_region 17 with fail
          rw [hn2]
          clear hn2
          go_cut [12] (fun e W => UInv w1 wr.heap.size L1 S1 M1 Ap cp i xs e W)
          case first =>
            go_region_with (go_at_call 20; refine (G.out (wr.drewN nq).drew Ak ck hbk).mono ?_; rintro e wQ ⟨Aq, cq, rfl, hq, hb⟩; have z1 : Box wQ w1.heap.size [.slice Ak L0 ck, .int .i64 M0] := Box.call (w := (wr.drewN nq).drew) hk hb; obtain ⟨y0, y1, y2, y3, _⟩ := z1.two)
            all_goals
              go_wp2_with fail
              go_meet
              exact uinv_mk hk hrow hbel hq ((below_drewN (Below.refl _ wr) nq).drew.trans hb)
          case rest =>
            have hrp := row_place hrow
            have HRP := Lib.hid hrp
            clear hrp
            clear hmod hmod2 hw1 hw2 hw3 hne0 hdc1 hrc1 hpc1 c0 c1 f0 f1 l1 hk hbk hrow hbel hB2
            obtain ⟨Aq, cq, rfl, hk, hown, hrow, hbel, hr⟩ := hcut
            obtain ⟨c0, c1, f0, f1, l1⟩ := hk.two
            have R := Lib.hid (bright_is Aq L1 cq S1 M1 wc hown.bs (by omega) (by omega) true HR1.out)
            go_wp2_with fail
            refine R.out.mono ?_
            rintro e w5 ⟨rfl, hb⟩
            have hge := hown.row_ge
            replace hk := hk.call hb
            replace hown := hown.below hb
            replace hrow := row_below hrow hb
            replace hbel := hbel.trans (hb.mono hbel.size)
            have hs5 := hb.size
            clear hb c0 c1 f0 f1 l1 R
            obtain ⟨i0, hi0', hz0', hz1', hz2'⟩ := info_parts info_u64
            have hnews := cell_one_new w5 (.int .u64 (vv : Int)) 28
            go_wp2_with (at_builtin; go_loud (refine wpList_append_own_at _ rfl (.tmp 98) (.tmp 100) 45 rfl (w1.heap.size + 1) 28 i0 (.int .u64 0) 1 8 Try.underlying45 hi0' hz0' hz1' hz2' rfl (by omega) (.slice Ap i cp) i xs rfl (World.ownsRow.alloc hrow _) ⟨w5.heap.size, 0, none⟩ 1 1 [.int .u64 (vv : Int)] rfl rfl hnews (by simp [Value.oneCell']) (by simp only [maxLen]; omega) (by omega) (by have := hk.2.2; simp; omega) ?_); intro v' w6 hown6 hgrow _ hat)
            obtain ⟨A6, c6, rfl⟩ := row_form hown6
            have hneR : some w1.heap.size ≠ rowOf Ap := fun e => by have := (HRP.out _ e.symm).1; omega
            rw [ownBlock_slice] at hgrow
            have hk6 := (hk.alloc _).grown hgrow hneR
            have hb6 := (hown.bs.alloc _).grown hgrow (fun hn e => by
              cases hA : rowOf Aq with
              | none =>
                obtain ⟨b8, o8, hA8, _⟩ := hown.bs.at_ hn
                rw [hA8] at hA
                cases hA
              | some k =>
                have h1 := hge k hA
                have h3 := (HRP.out k (by rw [← e]; exact hA)).2
                omega)
            have hbel6 := (hbel.alloc hbel.size _).grown hgrow (by have := hbel.size; simp; omega) (fun k hk => by have := (HRP.out k hk).1; omega)
            go_roundw
            case rel =>
              refine ⟨i + 1, Aq, cq, A6, c6, hiN, by go_num, rfl, ?_, ?_, ?_, hbel6⟩
              · rw [HS1.out, HMn.out, HL1'.out]; exact hk6
              · rw [HS1.out, HL1'.out]; exact hb6
              · rw [HXS.out]; exact hown6
            case measure => simp [intOf]; omega
        · have hb : B i = false := by simpa using hb
          rw [hb] at hrc1
          have G := Lib.hid (G0 hb)
          have hmask := mask_low zz nn hz1 (by omega)
          rw [← hv0 hb h64] at hmask
          clear hb G0 G1 hv0 hv1 hv2
          go_upto_region 18 with fail
          rw [hn2]
          clear hn2
          go_cut [12] (fun e W => UInv w1 wr.heap.size L1 S1 M1 Ap cp i xs e W)
          case first =>
            go_wp2_with fail
            refine (G.out wr Ak ck hbk).mono ?_
            rintro e wQ ⟨Aq, cq, rfl, hq, hb⟩
            have z1 := hk.call hb
            clear c0 c1 f0 f1 l1
            obtain ⟨y0, y1, y2, y3, _⟩ := z1.two
            go_wp2_with fail
            go_meet
            exact uinv_mk hk hrow hbel hq hb
          case rest =>
            have hrp := row_place hrow
            have HRP := Lib.hid hrp
            clear hrp
            clear hdc1 hrc1 hpc1 c0 c1 f0 f1 l1 hk hbk hrow hbel hB2
            obtain ⟨Aq, cq, rfl, hk, hown, hrow, hbel, hr⟩ := hcut
            obtain ⟨c0, c1, f0, f1, l1⟩ := hk.two
            have R := Lib.hid (bright_is Aq L1 cq S1 M1 wc hown.bs (by omega) (by omega) true HR1.out)
            go_wp2_with fail
            refine R.out.mono ?_
            rintro e w5 ⟨rfl, hb⟩
            have hge := hown.row_ge
            replace hk := hk.call hb
            replace hown := hown.below hb
            replace hrow := row_below hrow hb
            replace hbel := hbel.trans (hb.mono hbel.size)
            have hs5 := hb.size
            clear hb c0 c1 f0 f1 l1 R
            obtain ⟨i0, hi0', hz0', hz1', hz2'⟩ := info_parts info_u64
            have hnews := cell_one_new w5 (.int .u64 (vv : Int)) 28
            go_wp2_with (at_builtin; go_loud (refine wpList_append_own_at _ rfl (.tmp 98) (.tmp 100) 45 rfl (w1.heap.size + 1) 28 i0 (.int .u64 0) 1 8 Try.underlying45 hi0' hz0' hz1' hz2' rfl (by omega) (.slice Ap i cp) i xs rfl (World.ownsRow.alloc hrow _) ⟨w5.heap.size, 0, none⟩ 1 1 [.int .u64 (vv : Int)] rfl rfl hnews (by simp [Value.oneCell']) (by simp only [maxLen]; omega) (by omega) (by have := hk.2.2; simp; omega) ?_); intro v' w6 hown6 hgrow _ hat)
            obtain ⟨A6, c6, rfl⟩ := row_form hown6
            have hneR : some w1.heap.size ≠ rowOf Ap := fun e => by have := (HRP.out _ e.symm).1; omega
            rw [ownBlock_slice] at hgrow
            have hk6 := (hk.alloc _).grown hgrow hneR
            have hb6 := (hown.bs.alloc _).grown hgrow (fun hn e => by
              cases hA : rowOf Aq with
              | none =>
                obtain ⟨b8, o8, hA8, _⟩ := hown.bs.at_ hn
                rw [hA8] at hA
                cases hA
              | some k =>
                have h1 := hge k hA
                have h3 := (HRP.out k (by rw [← e]; exact hA)).2
                omega)
            have hbel6 := (hbel.alloc hbel.size _).grown hgrow (by have := hbel.size; simp; omega) (fun k hk => by have := (HRP.out k hk).1; omega)
            go_roundw
            case rel =>
              refine ⟨i + 1, Aq, cq, A6, c6, hiN, by go_num, rfl, ?_, ?_, ?_, hbel6⟩
              · rw [HS1.out, HMn.out, HL1'.out]; exact hk6
              · rw [HS1.out, HL1'.out]; exact hb6
              · rw [HXS.out]; exact hown6
            case measure => simp [intOf]; omega
      · by_cases hb : B i = true
        · rw [hb] at hrc1
          have G := Lib.hid (G1 hb)
          have hmod : (zz : Int) % ((dd : Int) + 1) = (vv : Int) := by rw [hv2 hb]; simp
          have hmod2 : Int.tmod (zz : Int) ((dd : Int) + 1) = (vv : Int) := by rw [Int.tmod_eq_emod_of_nonneg (by omega)]; exact hmod
          have hw1 : IntKind.u64.wrap (dd : Int) = dd := by rw [IntKind.wrap_u64]; omega
          have hw2 : IntKind.u64.wrap ((dd : Int) + 1) = (dd : Int) + 1 := by rw [IntKind.wrap_u64]; omega
          have hw3 : IntKind.u64.wrap (vv : Int) = vv := by rw [IntKind.wrap_u64, ← hmod]; have := Int.emod_lt_of_pos (zz : Int) (show 0 < (dd : Int) + 1 by omega); have := Int.emod_nonneg (zz : Int) (show (dd : Int) + 1 ≠ 0 by omega); omega
          have hne0 : ((dd : Int) + 1 == 0) = false := by simp; omega
          clear hb G0 G1 hv0 hv1 hv2
          go_wp2_with fail
          go_quiet (fail)
          go_upto_region 17 with fail
          rw [hn2]
          clear hn2
          go_cut [12] (fun e W => UInv w1 wr.heap.size L1 S1 M1 Ap cp i xs e W)
          case first =>
            go_region_with (go_at_call 20; refine (G.out (wr.drewN nq).drew Ak ck hbk).mono ?_; rintro e wQ ⟨Aq, cq, rfl, hq, hb⟩; have z1 : Box wQ w1.heap.size [.slice Ak L0 ck, .int .i64 M0] := Box.call (w := (wr.drewN nq).drew) hk hb; obtain ⟨y0, y1, y2, y3, _⟩ := z1.two)
            all_goals
              go_wp2_with fail
              go_meet
              exact uinv_mk hk hrow hbel hq ((below_drewN (Below.refl _ wr) nq).drew.trans hb)
          case rest =>
            have hrp := row_place hrow
            have HRP := Lib.hid hrp
            clear hrp
            clear hmod hmod2 hw1 hw2 hw3 hne0 hdc1 hrc1 hpc1 c0 c1 f0 f1 l1 hk hbk hrow hbel hB2
            obtain ⟨Aq, cq, rfl, hk, hown, hrow, hbel, hr⟩ := hcut
            obtain ⟨c0, c1, f0, f1, l1⟩ := hk.two
            have R := Lib.hid (bright_is Aq L1 cq S1 M1 wc hown.bs (by omega) (by omega) true HR1.out)
            go_wp2_with fail
            refine R.out.mono ?_
            rintro e w5 ⟨rfl, hb⟩
            have hge := hown.row_ge
            replace hk := hk.call hb
            replace hown := hown.below hb
            replace hrow := row_below hrow hb
            replace hbel := hbel.trans (hb.mono hbel.size)
            have hs5 := hb.size
            clear hb c0 c1 f0 f1 l1 R
            obtain ⟨i0, hi0', hz0', hz1', hz2'⟩ := info_parts info_u64
            have hnews := cell_one_new w5 (.int .u64 (vv : Int)) 28
            go_wp2_with (at_builtin; go_loud (refine wpList_append_own_at _ rfl (.tmp 98) (.tmp 100) 45 rfl (w1.heap.size + 1) 28 i0 (.int .u64 0) 1 8 Try.underlying45 hi0' hz0' hz1' hz2' rfl (by omega) (.slice Ap i cp) i xs rfl (World.ownsRow.alloc hrow _) ⟨w5.heap.size, 0, none⟩ 1 1 [.int .u64 (vv : Int)] rfl rfl hnews (by simp [Value.oneCell']) (by simp only [maxLen]; omega) (by omega) (by have := hk.2.2; simp; omega) ?_); intro v' w6 hown6 hgrow _ hat)
            obtain ⟨A6, c6, rfl⟩ := row_form hown6
            have hneR : some w1.heap.size ≠ rowOf Ap := fun e => by have := (HRP.out _ e.symm).1; omega
            rw [ownBlock_slice] at hgrow
            have hk6 := (hk.alloc _).grown hgrow hneR
            have hb6 := (hown.bs.alloc _).grown hgrow (fun hn e => by
              cases hA : rowOf Aq with
              | none =>
                obtain ⟨b8, o8, hA8, _⟩ := hown.bs.at_ hn
                rw [hA8] at hA
                cases hA
              | some k =>
                have h1 := hge k hA
                have h3 := (HRP.out k (by rw [← e]; exact hA)).2
                omega)
            have hbel6 := (hbel.alloc hbel.size _).grown hgrow (by have := hbel.size; simp; omega) (fun k hk => by have := (HRP.out k hk).1; omega)
            go_roundw
            case rel =>
              refine ⟨i + 1, Aq, cq, A6, c6, hiN, by go_num, rfl, ?_, ?_, ?_, hbel6⟩
              · rw [HS1.out, HMn.out, HL1'.out]; exact hk6
              · rw [HS1.out, HL1'.out]; exact hb6
              · rw [HXS.out]; exact hown6
            case measure => simp [intOf]; omega
        · have hb : B i = false := by simpa using hb
          rw [hb] at hrc1
          have G := Lib.hid (G0 hb)
          have hvz := hv1 hb h64
          subst hvz
          clear hb G0 G1 hv0 hv1 hv2
          go_upto_region 18 with fail
          rw [hn2]
          clear hn2
          go_cut [12] (fun e W => UInv w1 wr.heap.size L1 S1 M1 Ap cp i xs e W)
          case first =>
            go_wp2_with fail
            refine (G.out wr Ak ck hbk).mono ?_
            rintro e wQ ⟨Aq, cq, rfl, hq, hb⟩
            have z1 := hk.call hb
            clear c0 c1 f0 f1 l1
            obtain ⟨y0, y1, y2, y3, _⟩ := z1.two
            go_wp2_with fail
            go_meet
            exact uinv_mk hk hrow hbel hq hb
          case rest =>
            have hrp := row_place hrow
            have HRP := Lib.hid hrp
            clear hrp
            clear hdc1 hrc1 hpc1 c0 c1 f0 f1 l1 hk hbk hrow hbel hB2
            obtain ⟨Aq, cq, rfl, hk, hown, hrow, hbel, hr⟩ := hcut
            obtain ⟨c0, c1, f0, f1, l1⟩ := hk.two
            have R := Lib.hid (bright_is Aq L1 cq S1 M1 wc hown.bs (by omega) (by omega) true HR1.out)
            go_wp2_with fail
            refine R.out.mono ?_
            rintro e w5 ⟨rfl, hb⟩
            have hge := hown.row_ge
            replace hk := hk.call hb
            replace hown := hown.below hb
            replace hrow := row_below hrow hb
            replace hbel := hbel.trans (hb.mono hbel.size)
            have hs5 := hb.size
            clear hb c0 c1 f0 f1 l1 R
            obtain ⟨i0, hi0', hz0', hz1', hz2'⟩ := info_parts info_u64
            have hnews := cell_one_new w5 (.int .u64 (vv : Int)) 28
            go_wp2_with (at_builtin; go_loud (refine wpList_append_own_at _ rfl (.tmp 98) (.tmp 100) 45 rfl (w1.heap.size + 1) 28 i0 (.int .u64 0) 1 8 Try.underlying45 hi0' hz0' hz1' hz2' rfl (by omega) (.slice Ap i cp) i xs rfl (World.ownsRow.alloc hrow _) ⟨w5.heap.size, 0, none⟩ 1 1 [.int .u64 (vv : Int)] rfl rfl hnews (by simp [Value.oneCell']) (by simp only [maxLen]; omega) (by omega) (by have := hk.2.2; simp; omega) ?_); intro v' w6 hown6 hgrow _ hat)
            obtain ⟨A6, c6, rfl⟩ := row_form hown6
            have hneR : some w1.heap.size ≠ rowOf Ap := fun e => by have := (HRP.out _ e.symm).1; omega
            rw [ownBlock_slice] at hgrow
            have hk6 := (hk.alloc _).grown hgrow hneR
            have hb6 := (hown.bs.alloc _).grown hgrow (fun hn e => by
              cases hA : rowOf Aq with
              | none =>
                obtain ⟨b8, o8, hA8, _⟩ := hown.bs.at_ hn
                rw [hA8] at hA
                cases hA
              | some k =>
                have h1 := hge k hA
                have h3 := (HRP.out k (by rw [← e]; exact hA)).2
                omega)
            have hbel6 := (hbel.alloc hbel.size _).grown hgrow (by have := hbel.size; simp; omega) (fun k hk => by have := (HRP.out k hk).1; omega)
            go_roundw
            case rel =>
              refine ⟨i + 1, Aq, cq, A6, c6, hiN, by go_num, rfl, ?_, ?_, ?_, hbel6⟩
              · rw [HS1.out, HMn.out, HL1'.out]; exact hk6
              · rw [HS1.out, HL1'.out]; exact hb6
              · rw [HXS.out]; exact hown6
            case measure => simp [intOf]; omega
    · have hNi : N = i := by omega
      subst hNi
      clear hi hiN
      have hB2 := hB1.trans (hbel.mono hB1.size)
      have hput : Sl wr Ap N cp ((List.range N).map fun k => u64V (valOf (B k) (d k) (z k))) := Sl.of_own hrow
      have hw8 := stS_whole (B := B) (d := d) (z := z) N
      have hM1 := HMle.out N (Nat.le_refl _)
      have Hcut := Lib.hid (stS_cut (B := B) (d := d) (z := z) (N := N))
      clear hrow hbel
      obtain ⟨c0, c1, f0, f1, l1⟩ := hk.two
      go_wp2_with fail
      refine (start_any _ _ _ _).mono ?_
      rintro e w3 ⟨rfl, hb⟩
      replace hk := hk.call hb
      replace hbk := hbk.below hb
      replace hput := Sl.below hput hb
      replace hB2 := hB2.trans (hb.mono hB2.size)
      clear hb c0 c1 f0 f1 l1
      go_wp2_with fail
      refine (read_any Ak _ ck (stS B d z N) Ap cp N D ld cd ds R lr cr bs B d z w3 hbk hput (hD.below hB2) (Sl.below hR hB2) hN hld hlr (by omega) Hd.out HB.out Hz.out (fun _ _ => rfl)).mono ?_
      rintro e w4 ⟨a, er, rfl, hcase, hb⟩
      obtain ⟨rfl, rfl⟩ : er = 0 ∧ a = ((stM B d z N : Nat) : Int) := by
        rcases hcase with ⟨h1, h2, _⟩ | ⟨_, h2⟩
        · exact ⟨h1, h2⟩
        · omega
      clear hcase
      replace hk := hk.call hb
      replace hbk := hbk.below hb
      replace hput := Sl.below hput hb
      replace hB2 := hB2.trans (hb.mono hB2.size)
      clear hb
      have hsz4 := hB2.size
      have k13 := Box.new w4 [.slice Ak (stS B d z N).length ck, .int .i64 ((stM B d z N : Nat) : Int), .int .i64 0] 25
      replace hk := hk.alloc (.cells #[.slice Ak (stS B d z N).length ck, .int .i64 ((stM B d z N : Nat) : Int), .int .i64 0] 25)
      replace hbk := hbk.alloc (.cells #[.slice Ak (stS B d z N).length ck, .int .i64 ((stM B d z N : Nat) : Int), .int .i64 0] 25)
      replace hput := Sl.alloc hput (.cells #[.slice Ak (stS B d z N).length ck, .int .i64 ((stM B d z N : Nat) : Int), .int .i64 0] 25)
      replace hB2 := hB2.alloc hB2.size (.cells #[.slice Ak (stS B d z N).length ck, .int .i64 ((stM B d z N : Nat) : Int), .int .i64 0] 25)
      obtain ⟨c0, c1, f0, f1, l1⟩ := hk.two
      obtain ⟨c2, c3, c4, f2, f3, f4, l2⟩ := k13.three
      go_wp2_with fail
      obtain ⟨lv, hlv, hlv8⟩ : ∃ x : Int, (if readerB (stS B d z N).length ((stM B d z N : Nat) : Int) 0 = true then 8 * (((stS B d z N).length : Nat) : Int) - ((stM B d z N : Nat) : Int) else 0) = x ∧ x < 8 := ⟨_, rfl, by split <;> omega⟩
      refine (left_told Ak _ ck _ 0 _ lv (by omega) hlv).mono ?_
      rintro e w5 ⟨rfl, hb⟩
      clear hlv c0 c1 f0 f1 l1 c2 c3 c4 f2 f3 f4 l2
      replace hk := hk.call hb
      replace k13 := k13.call hb
      replace hbk := hbk.below hb
      replace hput := Sl.below hput hb
      replace hB2 := hB2.trans (hb.mono hB2.size)
      clear hb
      have hcut := Hcut.out
      clear Hcut
      have hlen := hbk.len
      generalize hM : stM B d z N = M at *
      have HM := Lib.hid hM
      clear hM
      generalize hL : (stS B d z N).length = L0 at *
      clear hL hlen
      have hn8 : ¬ (8 ≤ lv) := by omega
      obtain ⟨c0, c1, f0, f1, l1⟩ := hk.two
      obtain ⟨c2, c3, c4, f2, f3, f4, l2⟩ := k13.three
      by_cases h0 : L0 = 0
      · subst h0
        go_wp2_with fail
        go_ret
        exact ⟨rfl, hB2⟩
      · have h0' : ¬ ((L0 : Int) = 0) := by omega
        have hcut1 := hcut h0
        clear hcut
        have Hcut1 := Lib.hid hcut1
        obtain ⟨A2, d2, hsl, hb2⟩ := hbk.slice_r Try.underlying22 u8_size (show L0 - 1 ≤ L0 by omega)
        have hsl2 := fun W => hsl W ((L0 : Int) - 1) (by omega)
        have hwr : IntKind.i64.wrap ((L0 : Int) - 1) = (L0 : Int) - 1 := IntWalk.i64_in _ (by omega)
        clear hsl hcut1
        go_wp2_with fail
        clear c0 c1 f0 f1 l1 c2 c3 c4 f2 f3 f4 l2 hsl2 hk
        refine (start_any _ _ _ _).mono ?_
        rintro e w6 ⟨rfl, hb⟩
        replace k13 := k13.call hb
        replace hb2 := hb2.below hb
        replace hput := Sl.below hput hb
        replace hB2 := hB2.trans (hb.mono hB2.size)
        clear hb
        go_wp2_with fail
        refine (read_any A2 (L0 - 1) d2 ((stS B d z N).take (L0 - 1)) Ap cp N D ld cd ds R lr cr bs B d z w6 hb2 hput (hD.below hB2) (Sl.below hR hB2) hN hld hlr (by omega) Hd.out HB.out Hz.out (fun p hp => bitAt_take _ _ _ (by rw [hb2.len] at hp; omega))).mono ?_
        rintro e w7 ⟨a, er, rfl, hcase, hb⟩
        obtain rfl : er = 2 := by
          rcases hcase with ⟨_, _, h2⟩ | ⟨h1, _⟩
          · have := Hcut1.out
            rw [HM.out] at h2
            omega
          · exact h1
        clear hcase
        replace k13 := k13.call hb
        replace hB2 := hB2.trans (hb.mono hB2.size)
        clear hb
        have k14 := k13.put3 (.slice A2 (L0 - 1) d2) (.int .i64 a) (.int .i64 2)
        have hB3 := below_put3 hB2 hsz4 (.slice A2 (L0 - 1) d2) (.int .i64 a) (.int .i64 2)
        obtain ⟨c2, c3, c4, f2, f3, f4, l2⟩ := k13.three
        obtain ⟨c5, c6, c7, f5, f6, f7, l3⟩ := k14.three
        go_wp2_with fail
        go_ret
        exact ⟨rfl, hB3⟩

theorem sl_of_u64 {w : World} {a : Option Addr} {len cap : Nat} {zs : List Int} (h : IsRow .u64 w a len cap zs) :
    Sl w a len cap ((List.range len).map fun i => u64V (zs.getD i 0).toNat) ∧ ∀ i, i < len → (zs.getD i 0).toNat < 18446744073709551616 := by
  rcases h with ⟨rfl, rfl, rfl, rfl⟩ | ⟨x, rfl, hl, hm, hz, hcell, hwz⟩
  · exact ⟨Sl.nil w, fun i hi => absurd hi (by omega)⟩
  · have hb : ∀ i, i < len → 0 ≤ zs.getD i 0 ∧ (zs.getD i 0).toNat < 18446744073709551616 := fun i hi => by
      have h1 := bound_u64 (hwz _ (List.getElem_mem (show i < zs.length by omega)))
      have h2 : zs.getD i 0 = zs[i]'(by omega) := by simp only [List.getD, List.getElem?_eq_getElem (show i < zs.length by omega), Option.getD_some]
      rw [h2]
      omega
    refine ⟨⟨by simp, hl, hm, (fun h => by cases h), fun hn => ?_⟩, fun i hi => (hb i hi).2⟩
    obtain ⟨b, off, spot⟩ := x
    have hspot : spot = none := by
      have := World.cell?_spot (hcell 0 (by omega))
      simpa [Addr.add] using this
    subst hspot
    refine ⟨b, off, rfl, fun i y hy => ?_⟩
    have hi : i < len := by
      rcases Nat.lt_or_ge i len with h | h
      · exact h
      · rw [List.getElem?_eq_none (by simp; omega)] at hy; cases hy
    have hc := hcell i (by omega)
    rw [add_plain'] at hc
    rw [hc]
    rw [List.getElem?_map, List.getElem?_range hi] at hy
    simp only [Option.map_some, Option.some.injEq] at hy
    rw [← hy, u64V, Int.toNat_of_nonneg (hb i hi).1]
theorem sl_of_bools {w : World} {a : Option Addr} {len cap : Nat} {B : Nat → Bool} (h : IsBools w a len cap B) : Sl w a len cap ((List.range len).map fun i => .bool (B i)) := by
  rcases h with ⟨rfl, rfl, rfl⟩ | ⟨x, rfl, hl, hm, hcell⟩
  · exact Sl.nil w
  · refine ⟨by simp, hl, hm, (fun h => by cases h), fun hn => ?_⟩
    obtain ⟨b, off, spot⟩ := x
    have hspot : spot = none := by
      have := World.cell?_spot (hcell 0 (by omega))
      simpa [Addr.add] using this
    subst hspot
    refine ⟨b, off, rfl, fun i y hy => ?_⟩
    have hi : i < len := by
      rcases Nat.lt_or_ge i len with h | h
      · exact h
      · rw [List.getElem?_eq_none (by simp; omega)] at hy; cases hy
    have hc := hcell i (by omega)
    rw [add_plain'] at hc
    rw [hc]
    rw [List.getElem?_map, List.getElem?_range hi] at hy
    simpa using hy

theorem bitsBack_all (P D R : Option Addr) (N cp ld cd lr cr : Nat) (zs : List Int) (ds : List UInt8) (B : Nat → Bool) (w : World) (hP : IsRow .u64 w P N cp zs) (hD : Bs w D ld cd ds) (hR : IsBools w R lr cr B) :
    Calls Try.prog 4 #[.slice P N cp, .slice D ld cd, .slice R lr cr] w fun e w' => e = .returned (.bool true) ∧ Below w.heap.size w w' := by
  obtain ⟨hP1, hz⟩ := sl_of_u64 hP
  have hR1 := sl_of_bools hR
  by_cases hbig : 60 < N ∨ ld < N ∨ lr < N
  · exact bitsBack_big P D R N cp ld cd lr cr w (Nat.le_trans hP1.le hP1.cap) (Nat.le_trans hD.le hD.cap) (Nat.le_trans hR1.le hR1.cap) hbig
  · exact bitsBack_main P D R N cp ld cd lr cr ds _ B (fun i => (ds.getD i 0).toNat) (fun i => (zs.getD i 0).toNat) w hP1 hD hR1 (by omega) (by omega) (by omega) (fun _ _ => rfl)
      (fun i hi => by rw [List.getElem?_map, List.getElem?_range (by omega)]; rfl) hz

end Go.Proofs.Ytpalhllphnfpmaa
