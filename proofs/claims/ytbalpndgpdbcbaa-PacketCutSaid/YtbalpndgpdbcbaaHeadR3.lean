/-
  What the document's own answers for layer 5 come to: the header that bytes begin with.
-/
import Derived.Test.YtbalpndgpdbcbaaHeadR2
import Derived.Test.YtbalpndgpdbcbaaBox8
import Derived.Deep.RegionHeld3
import Derived.Deep.RegionLaw
import Derived.RegionTactic
import Derived.BigRegion
import Derived.ChangeAlike
namespace Go.Proofs.Ytbalpndgpdbcbaa
open Go.RowKit

theorem num_lt4 (s : List UInt8) (a : Nat) : num ((s.drop a).take 4) < 4294967296 :=
  Nat.lt_of_lt_of_le (num_lt _) (Nat.pow_le_pow_right (n := 256) (i := ((s.drop a).take 4).length) (j := 4) (by omega) (by simp; omega))
theorem num_lt2 (s : List UInt8) (a : Nat) : num ((s.drop a).take 2) < 65536 :=
  Nat.lt_of_lt_of_le (num_lt _) (Nat.pow_le_pow_right (n := 256) (i := ((s.drop a).take 2).length) (j := 2) (by omega) (by simp; omega))
/-- A number of two or four bytes that are there. -/
theorem rnum_any (A : Option Addr) (l c : Nat) (s : List UInt8) (a : Int) (b n : Nat) (m : Int) (w : World) (hs : Bs w A l c s) (ha : a = (b : Int)) (h1 : n = 2 ∨ n = 4) (h3 : b + n ≤ l) (hm : m = (n : Int)) :
    Calls Try.prog 32 #[.slice A l c, .int .i64 a, .int .i64 m] w fun e w' => e = .returned (.int .u32 (num ((s.drop b).take n))) ∧ w' = w := by
  subst ha hm
  have R := Lib.hid (rget_yes A l c s b n w hs (by omega) (by omega) h3)
  have hv : num ((s.drop b).take n) < 4294967296 := by
    rcases h1 with rfl | rfl
    · have := num_lt2 s b; omega
    · exact num_lt4 s b
  generalize num ((s.drop b).take n) = v at *
  go_enter Try.func32, Try.ntmps32
  go_wp2_with fail
  refine (R.out).mono ?_
  rintro e w' ⟨rfl, rfl⟩
  go_wp2
  go_ret
  exact ⟨by first | rfl | (simp <;> omega), rfl⟩
/-- A header as a value. -/
def hdV (h : Hd) (B : Option Addr) (d : Nat) : Value := .agg #[.bool h.pad, .bool h.ext, .bool h.mark, .int .i64 h.typ, .int .u16 h.seq, .int .u32 h.time, .int .u32 h.ssrc, .slice B h.csrc.length d]
/-- What a call hands back: a header, how many bytes it has, and the number of an error. -/
def GivesH (w : World) (h : Hd) (n : Nat) (err : Nat) (e : Ending) (w' : World) : Prop :=
  ∃ B d, e = .returned (.tuple #[hdV h B d, .int .i64 n, .int .i64 err]) ∧ Us w' B h.csrc.length d h.csrc ∧ Below w.heap.size w w'

theorem g8_at {w : World} {A : Option Addr} {n c : Nat} {s : List UInt8} (h : Bs w A n c s) (hn : 0 < n) : ∃ b o, A = some ⟨b, o, none⟩ ∧ b < w.heap.size ∧ ∀ i, i < n → w.cell? ⟨b, o + i, none⟩ = some (.int .u8 ((g8 s i : Nat) : Int)) := h.at_ hn

theorem info_u32 : (Try.prog.info? 23).map (fun i => (i.zero, i.size, i.bytes)) = some (some (.int .u32 0), 1, 4) := by kernel_rfl
/-- The slice value is a row of the call's own of numbers of four bytes. -/
def OwnU (w : World) (base : Nat) (A : Option Addr) (n c : Nat) (l : List Nat) : Prop := w.ownsRow base 23 1 (.slice A n c) n (l.map u32V)
theorem OwnU.us {w : World} {base n c : Nat} {A : Option Addr} {l : List Nat} (h : OwnU w base A n c l) : Us w A n c l := Sl.of_own h
def ReadI (w : World) (nn : Nat) (s : List UInt8) (hd : List Value) (i : Value) (W : World) : Prop :=
  ∃ (k : Nat) (B : Option Addr) (d : Nat), k ≤ nn ∧ i = .int .i64 k ∧ Box W w.heap.size [.bool false, .bool false, .bool false, .int .i64 0, .int .u16 0, .int .u32 0, .int .u32 0, .slice none 0 0] ∧
    Box W (w.heap.size + 1) (hd ++ [.slice B k d]) ∧ OwnU W (w.heap.size + 2) B k d (nums4 k (s.drop 12)) ∧ Below w.heap.size w W

/-- The same, its numbers in memory of the call's own. -/
def GivesHO (w : World) (h : Hd) (n : Nat) (err : Nat) (e : Ending) (w' : World) : Prop :=
  ∃ B d, e = .returned (.tuple #[hdV h B d, .int .i64 n, .int .i64 err]) ∧ OwnU w' w.heap.size B h.csrc.length d h.csrc ∧ Below w.heap.size w w'

set_option maxRecDepth 100000 in
set_option maxHeartbeats 4000000 in
theorem rhread_own (A : Option Addr) (l c : Nat) (s : List UInt8) (w : World) (hs : Bs w A l c s) (hl : l ≤ 140737488355328) :
    Calls Try.prog 31 #[.slice A l c] w (GivesHO w (readH s) (readN s) (hErr s)) := by
  have hsl := hs.len
  unfold readH readN
  by_cases h12 : l < 12
  · rw [show hErr s = 2 from if_pos (by omega)]
    clear hsl
    go_enter Try.func31, Try.ntmps31
    go_wp2_with fail
    exact bodyPost_ret (v := .tuple #[hdV zeroH none 0, .int .i64 ((0 : Nat) : Int), .int .i64 ((2 : Nat) : Int)]) (by simp [results, Try.results31, go_sem, hdV, zeroH]) rfl ⟨none, 0, rfl, World.ownsRow_nil _ _ _ _, below1 w _⟩
  · obtain ⟨b, o, rfl, hlt, hcell⟩ := g8_at hs (by omega)
    have c0 := hcell 0 (by omega)
    have c1 := hcell 1 (by omega)
    have b0 := g8_lt s 0
    have b1 := g8_lt s 1
    rw [Nat.add_zero] at c0
    have hn := fun i => nums4_snoc i (s.drop 12)
    by_cases hv : g8 s 0 / 64 = 2
    · by_cases hfew : l < 12 + 4 * (g8 s 0 % 16)
      · rw [show hErr s = 2 from by unfold hErr; rw [if_neg (by omega), if_neg (by omega), if_pos (by omega)]]
        generalize g8 s 0 = x0 at *
        have hv2 : ((x0 : Int) / 64 != 2) = false := by rw [bne_eq_false_iff_eq]; omega
        have hx : (x0 : Int) % 16 < 16 := by omega
        have hfew2 : (l : Int) < 12 + 4 * ((x0 : Int) % 16) := by omega
        clear hsl hcell hfew hv hn
        go_enter Try.func31, Try.ntmps31
        go_wp2_with fail
        exact bodyPost_ret (v := .tuple #[hdV zeroH none 0, .int .i64 ((0 : Nat) : Int), .int .i64 ((2 : Nat) : Int)]) (by simp [results, Try.results31, go_sem, hdV, zeroH]) rfl ⟨none, 0, rfl, World.ownsRow_nil _ _ _ _, below1 w _⟩
      · have he : hErr s = 0 := by unfold hErr; rw [if_neg (by omega), if_neg (by omega), if_neg (by omega)]
        rw [he, if_pos rfl, if_pos rfl]
        have hof : hOf s = ⟨decide (g8 s 0 / 32 % 2 = 1), decide (g8 s 0 / 16 % 2 = 1), decide (128 ≤ g8 s 1), ((g8 s 1 % 128 : Nat) : Int), num ((s.drop 2).take 2), num ((s.drop 4).take 4), num ((s.drop 8).take 4), nums4 (g8 s 0 % 16) (s.drop 12)⟩ := rfl
        have Hof := Lib.hid hof
        have N2 := Lib.hid (fun W hs => rnum_any (some ⟨b, o, none⟩) l c s 2 2 2 2 W hs rfl (.inl rfl) (by omega) rfl)
        have N4 := Lib.hid (fun W hs => rnum_any (some ⟨b, o, none⟩) l c s 4 4 4 4 W hs rfl (.inr rfl) (by omega) rfl)
        have N8 := Lib.hid (fun W hs => rnum_any (some ⟨b, o, none⟩) l c s 8 8 4 4 W hs rfl (.inr rfl) (by omega) rfl)
        have q2 := num_lt2 s 2
        have q4 := num_lt4 s 4
        have q8 := num_lt4 s 8
        clear hof he
        generalize num ((s.drop 2).take 2) = v2 at *
        generalize num ((s.drop 4).take 4) = v4 at *
        generalize num ((s.drop 8).take 4) = v8 at *
        have hv2 : ((g8 s 0 : Int) / 64 != 2) = false := by rw [bne_eq_false_iff_eq]; omega
        obtain ⟨nn, hnn⟩ : ∃ nn, nn = g8 s 0 % 16 := ⟨_, rfl⟩
        have hx : (g8 s 0 : Int) % 16 = (nn : Int) := by omega
        have hnn16 : nn < 16 := by omega
        have hfew2 : 12 + 4 * (nn : Int) ≤ (l : Int) := by omega
        rw [← hnn] at Hof ⊢
        generalize g8 s 0 = x0 at *
        generalize g8 s 1 = x1 at *
        clear hcell hfew hv hnn
        go_enter Try.func31, Try.ntmps31
        go_wp2_with fail
        go_region
        have hz1 : ((x0 : Int) / 32 % 2 == 1) = decide (x0 / 32 % 2 = 1) := by rw [Bool.eq_iff_iff, beq_iff_eq, decide_eq_true_eq]; omega
        have hz2 : ((x0 : Int) / 16 % 2 == 1) = decide (x0 / 16 % 2 = 1) := by rw [Bool.eq_iff_iff, beq_iff_eq, decide_eq_true_eq]; omega
        have hz3 : decide ((128 : Int) ≤ (x1 : Int)) = decide (128 ≤ x1) := by rw [decide_eq_decide]; omega
        have hz4 : (x1 : Int) % 128 = ((x1 % 128 : Nat) : Int) := by omega
        generalize decide (x0 / 32 % 2 = 1) = vp at *
        generalize decide (x0 / 16 % 2 = 1) = ve at *
        generalize decide (128 ≤ x1) = vm at *
        generalize x1 % 128 = vt at *
        go_wp2_with fail
        refine (N2.out _ ((hs.alloc _).alloc _).drew).mono ?_
        rintro e w' ⟨rfl, rfl⟩
        go_wp2_with fail
        refine (N4.out _ ((hs.alloc _).alloc _).drew).mono ?_
        rintro e w' ⟨rfl, rfl⟩
        go_wp2_with fail
        refine (N8.out _ ((hs.alloc _).alloc _).drew).mono ?_
        rintro e w' ⟨rfl, rfl⟩
        go_wp2_with fail
        have kr := ((Box.new w [.bool false, .bool false, .bool false, .int .i64 0, .int .u16 0, .int .u32 0, .int .u32 0, .slice none 0 0] 26).alloc (.cells #[.bool vp, .bool ve, .bool vm, .int .i64 vt, .int .u16 v2, .int .u32 v4, .int .u32 v8, .slice none 0 0] 26)).drewN 1
        have kh := (Box.new (w.alloc (.cells #[.bool false, .bool false, .bool false, .int .i64 0, .int .u16 0, .int .u32 0, .int .u32 0, .slice none 0 0] 26)) [.bool vp, .bool ve, .bool vm, .int .i64 vt, .int .u16 v2, .int .u32 v4, .int .u32 v8, .slice none 0 0] 26).drewN 1
        rw [World.size_alloc] at kh
        have hB := below_drewN (below2 w (.cells #[.bool false, .bool false, .bool false, .int .i64 0, .int .u16 0, .int .u32 0, .int .u32 0, .slice none 0 0] 26) (.cells #[.bool vp, .bool ve, .bool vm, .int .i64 vt, .int .u16 v2, .int .u32 v4, .int .u32 v8, .slice none 0 0] 26)) 1
        go_loopw [7] (fun i W => ReadI w nn s [.bool vp, .bool ve, .bool vm, .int .i64 vt, .int .u16 v2, .int .u32 v4, .int .u32 v8] i W) (fun i _ => nn - (intOf i).toNat)
        case atStart => exact ⟨0, none, 0, Nat.zero_le _, rfl, kr, kh, World.ownsRow_nil _ _ _ _, hB⟩
        case round =>
          obtain ⟨k, B, d, hk, rfl, kr1, kh1, hown, hBk⟩ := hrel
          clear kr kh hB
          have hsw := hs.below hBk
          by_cases hkn : k < nn
          · have hkn2 : (k : Int) < nn := by omega
            have h7 : wr.cell? ⟨w.heap.size + 1, 7, none⟩ = some (.slice B k d) := kh1.field 7 rfl
            have h8 := Lib.hid (hn k)
            have h9 : Hid (((s.drop 12).drop (4 * k)).take 4 = (s.drop (12 + 4 * k)).take 4) := Lib.hid (by rw [List.drop_drop])
            have NK := Lib.hid (fun W hs => rnum_any (some ⟨b, o, none⟩) l c s (12 + 4 * (k : Int)) (12 + 4 * k) 4 4 W hs (by omega) (.inr rfl) (by omega) rfl)
            have hxl := num_lt4 s (12 + 4 * k)
            rw [h9.out] at h8
            generalize num ((s.drop (12 + 4 * k)).take 4) = x at *
            have hfar : some (w.heap.size + 1) ≠ rowOf B := fun e => by have := rowV_ge hown _ e.symm; omega
            have hlt7 := kh1.2.2
            have hnew : wr.heap.size ≠ w.heap.size + 1 := by omega
            have hf7 : (wr.alloc (.cells #[.int .u32 x] 23)).frozen? ⟨w.heap.size + 1, 7, none⟩ = false := (kh1.alloc _).2.1 7
            replace h7 := h7
            have h7a : (wr.alloc (.cells #[.int .u32 x] 23)).cell? ⟨w.heap.size + 1, 7, none⟩ = some (.slice B k d) := (kh1.alloc _).field 7 rfl
            have hw1 : IntKind.i64.wrap (4 * (k : Int)) = 4 * (k : Int) := IntWalk.i64_in _ (by omega)
            have hw2 : IntKind.i64.wrap (12 + 4 * (k : Int)) = 12 + 4 * (k : Int) := IntWalk.i64_in _ (by omega)
            go_wp2_with fail
            go_region_law (first
                | (refine step_appV rfl (.tmp 70) (.tmp 76) 24 rfl (w.heap.size + 2) 23 (.int .u32 0) 4 Try.underlying24 info_u32 rfl B k d _ rfl (World.ownsRow.alloc hown _) _ 1 1 [.int .u32 x] rfl rfl (cell_one_new wr _ _) (by simp [Value.oneCell']) (by simp only [maxLen]; omega) (by omega) (by have := kh1.2.2; simp; omega) ?_; intro A9 c9 w2 hown2 hgrow hat; have q0 : w2.cell? ⟨w.heap.size + 1, 7, none⟩ = some (.slice B k d) := (by rw [hgrow.cell_far _ (by simp; omega) hfar]; exact h7a); have q1 : w2.frozen? ⟨w.heap.size + 1, 7, none⟩ = false := (by rw [hgrow.frozen_far _ (by simp; omega) hfar]; exact hf7))
                | (go_simp; go_at_call 32; refine (NK.out _ hsw.drew).mono ?_; rintro e w' ⟨rfl, rfl⟩))
            go_wp2_with fail
            all_goals
              refine ⟨?_, by simp [intOf]; omega⟩
              have hfar2 : some (w.heap.size + 1) ≠ rowOf A9 := fun e => by have := rowV_ge hown2 _ e.symm; omega
              have hfar0 : some w.heap.size ≠ rowOf B := fun e => by have := rowV_ge hown _ e.symm; omega
              have e1 : OwnU w2 (w.heap.size + 2) A9 (k + 1) c9 (nums4 (k + 1) (s.drop 12)) := by
                unfold OwnU
                rw [h8.out, List.map_append]
                exact hown2
              have hgr : wr.heap.size + 1 ≤ w2.heap.size := by simpa using hgrow.size
              have hBg : Below w.heap.size w w2 := ((hBk.alloc hBk.size (.cells #[.int .u32 x] 23)).drew).grown hgrow (by have := hBk.size; simp; omega) (fun q hq => by have := rowV_ge hown q hq; omega)
              refine ⟨k + 1, A9, c9, by omega, by go_num, ?_, ?_, rowV_other e1 _ hfar2, hBg.setCell (by simp) _⟩
              · exact (Box.grown (w := (wr.alloc (.cells #[.int .u32 x] 23)).drew) (kr1.alloc _) hgrow hfar0).other _ (by simp)
              · exact (Box.grown (w := (wr.alloc (.cells #[.int .u32 x] 23)).drew) (kh1.alloc _) hgrow hfar).set 7 _ (by simp)
          · obtain rfl : k = nn := by omega
            have hkn2 : ¬ (k : Int) < k := by omega
            have hfar0 : some w.heap.size ≠ rowOf B := fun e => by have := rowV_ge hown _ e.symm; omega
            have kq := kr1.put8 (.bool vp) (.bool ve) (.bool vm) (.int .i64 vt) (.int .u16 v2) (.int .u32 v4) (.int .u32 v8) (.slice B k d)
            have hoq := rowV_put8 hown hfar0 (.bool vp) (.bool ve) (.bool vm) (.int .i64 vt) (.int .u16 v2) (.int .u32 v4) (.int .u32 v8) (.slice B k d)
            have hBq := below_put8 hBk (Nat.le_refl w.heap.size) (.bool vp) (.bool ve) (.bool vm) (.int .i64 vt) (.int .u16 v2) (.int .u32 v4) (.int .u32 v8) (.slice B k d)
            obtain ⟨⟨m0, m1, m2, m3, m4, m5, m6, m7⟩, _⟩ := Box.eight (w := wr) kh1
            obtain ⟨⟨t0, t1, t2, t3, t4, t5, t6, t7⟩, _⟩ := kr1.eight
            obtain ⟨f0, f1, f2, f3, f4, f5, f6, f7⟩ := kr1.free8
            have KQ := Lib.hid kq
            clear h12 hsl hn kq
            go_wp2_with fail
            clear m0 m1 m2 m3 m4 m5 m6 m7 t0 t1 t2 t3 t4 t5 t6 t7 f0 f1 f2 f3 f4 f5 f6 f7
            change bodyPost _ _ _ _ _ (put8 wr w.heap.size (.bool vp) (.bool ve) (.bool vm) (.int .i64 vt) (.int .u16 v2) (.int .u32 v4) (.int .u32 v8) (.slice B k d))
            obtain ⟨⟨z0, z1, z2, z3, z4, z5, z6, z7⟩, _⟩ := KQ.out.eight
            generalize put8 wr w.heap.size (.bool vp) (.bool ve) (.bool vm) (.int .i64 vt) (.int .u16 v2) (.int .u32 v4) (.int .u32 v8) (.slice B k d) = wq at *
            have hcl : (hOf s).csrc = nums4 k (s.drop 12) := by rw [Hof.out]
            have hln : (hOf s).csrc.length = k := by rw [hcl, nums4_length]
            refine bodyPost_ret (v := .tuple #[.agg #[.bool vp, .bool ve, .bool vm, .int .i64 vt, .int .u16 v2, .int .u32 v4, .int .u32 v8, .slice B k d], .int .i64 (12 + 4 * (k : Int)), .int .i64 0]) (by simp [results, Try.results31, go_sem, *]) rfl ⟨B, d, ?_, ?_, hBq⟩
            · unfold hdV
              rw [hln, Hof.out]
              rfl
            · rw [hln, hcl]
              exact rowV_mono hoq (by omega)
    · rw [show hErr s = 3 from by unfold hErr; rw [if_neg (by omega), if_pos hv]]
      generalize g8 s 0 = x0 at *
      have hv2 : ((x0 : Int) / 64 != 2) = true := by rw [bne_iff_ne]; omega
      clear hsl hcell hv hn
      go_enter Try.func31, Try.ntmps31
      go_wp2_with fail
      exact bodyPost_ret (v := .tuple #[hdV zeroH none 0, .int .i64 ((0 : Nat) : Int), .int .i64 ((3 : Nat) : Int)]) (by simp [results, Try.results31, go_sem, hdV, zeroH]) rfl ⟨none, 0, rfl, World.ownsRow_nil _ _ _ _, below1 w _⟩

theorem rhread_any (A : Option Addr) (l c : Nat) (s : List UInt8) (w : World) (hs : Bs w A l c s) (hl : l ≤ 140737488355328) :
    Calls Try.prog 31 #[.slice A l c] w (GivesH w (readH s) (readN s) (hErr s)) :=
  (rhread_own A l c s w hs hl).mono fun _ _ ⟨B, d, h1, h2, h3⟩ => ⟨B, d, h1, h2.us, h3⟩

end Go.Proofs.Ytbalpndgpdbcbaa
