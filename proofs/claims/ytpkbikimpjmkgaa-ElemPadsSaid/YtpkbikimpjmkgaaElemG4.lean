/-
  What the functions of package elem come to: Spots. (Its walks are written by gen_ElemG4.py.)
-/
import Derived.Test.YtpkbikimpjmkgaaElemG3
namespace Go.Proofs.Ytpkbikimpjmkgaa
open Go.RowKit
set_option linter.unusedVariables false
set_option linter.unusedSimpArgs false

theorem rowK_grown {w w' : World} {k n c base : Nat} {e : TypeId} {A : Option Addr} {xs : List Value} {row : Option Nat} (h : w.ownsRow base e k (.slice A n c) n xs) (hg : w.grownBy w' row) (hne : ∀ g, rowOf A = some g → some g ≠ row) : w'.ownsRow base e k (.slice A n c) n xs := by
  obtain ⟨h1, h2⟩ := h
  refine ⟨h1, ?_⟩
  rcases h2 with h2 | ⟨g', cap', cur, hv, hb, hh, r⟩
  · exact .inl h2
  · injection hv with e1 e2 e3
    subst e1 e3
    exact .inr ⟨g', c, cur, rfl, hb, (hg.block g' (lt_of_block hh) (hne g' rfl)).trans hh, r⟩
theorem spots_at {s : List UInt8} {n a : Nat} (hsl : s.length = n) (han : a < n) : s.drop a = s.getD a 0 :: s.drop (a + 1) := by
  rw [List.drop_eq_getElem_cons (by omega), List.getD_eq_getElem?_getD, List.getElem?_eq_getElem (by omega)]
  rfl
/-- What comes of one byte: nothing is there; the end; an element. -/
theorem spots_zero {nw : Bool} {s : List UInt8} {n a : Nat} {out : List Sp} (hsl : s.length = n) (han : a < n) (hx : (s.getD a 0).toNat = 0) : spotsG nw (n - a) a (s.drop a) out = spotsG nw (n - (a + 1)) (a + 1) (s.drop (a + 1)) out := by
  rw [spots_at hsl han, show n - a = (n - (a + 1)) + 1 by omega, spotsG_cons, if_pos hx]
theorem spots_end {s : List UInt8} {n a : Nat} {out : List Sp} (hsl : s.length = n) (han : a < n) (hx : (s.getD a 0).toNat ≠ 0) (he : (s.getD a 0).toNat / 16 = 0 ∨ (s.getD a 0).toNat / 16 = 15) : spotsG true (n - a) a (s.drop a) out = (0, out) := by
  rw [spots_at hsl han, show n - a = (n - (a + 1)) + 1 by omega, spotsG_cons, if_neg hx, if_pos rfl, if_pos he]
/-- What comes of an element. -/
structure SpStep (nw : Bool) (s : List UInt8) (n a : Nat) (out : List Sp) (idn pn zn : Nat) : Prop where
  short : n < pn + zn → spotsG nw (n - a) a (s.drop a) out = (4, [])
  dup : pn + zn ≤ n → (out.map (fun x => (x.id : Int))).contains (idn : Int) = true → spotsG nw (n - a) a (s.drop a) out = (6, [])
  more : pn + zn ≤ n → (out.map (fun x => (x.id : Int))).contains (idn : Int) = false → spotsG nw (n - a) a (s.drop a) out = spotsG nw (n - (pn + zn)) (pn + zn) (s.drop (pn + zn)) (out ++ [⟨idn, pn, zn⟩])
theorem ids_any (out : List Sp) (idn : Nat) : (out.map (fun x => (x.id : Int))).contains (idn : Int) = out.any (fun s => s.id == idn) := by
  rw [Bool.eq_iff_iff]
  simp only [List.contains_iff_mem, List.mem_map, List.any_eq_true, beq_iff_eq]
  constructor
  · rintro ⟨x, hx, h⟩; exact ⟨x, hx, by omega⟩
  · rintro ⟨x, hx, h⟩; exact ⟨x, hx, by omega⟩
theorem step_narrow {s : List UInt8} {n a : Nat} (out : List Sp) (hsl : s.length = n) (han : a < n) (hx : (s.getD a 0).toNat ≠ 0) (he : ¬ ((s.getD a 0).toNat / 16 = 0 ∨ (s.getD a 0).toNat / 16 = 15)) : SpStep true s n a out ((s.getD a 0).toNat / 16) (a + 1) ((s.getD a 0).toNat % 16 + 1) := by
  have h0 := spotsG_cons true (n - (a + 1)) a (s.getD a 0) (s.drop (a + 1)) out
  rw [if_neg hx, if_pos rfl, if_neg he, ← spots_at hsl han, show n - (a + 1) + 1 = n - a by omega, List.length_drop, hsl] at h0
  refine ⟨fun h => ?_, fun h hd => ?_, fun h hd => ?_⟩
  · rw [h0, if_pos (by omega)]
  · rw [ids_any] at hd
    rw [h0, if_neg (by omega), if_pos hd]
  · rw [ids_any] at hd
    rw [h0, if_neg (by omega), if_neg (by rw [hd]; simp), List.drop_drop]
    exact spotsG_fuel _ _ _ _ _ _ (by rw [List.length_drop, hsl]; omega) (by rw [List.length_drop, hsl]; omega)
theorem step_wide {s : List UInt8} {n a : Nat} (out : List Sp) (hsl : s.length = n) (han : a < n) (hx : (s.getD a 0).toNat ≠ 0) : SpStep false s n a out (s.getD a 0).toNat (a + 2) (if a + 1 < n then (s.getD (a + 1) 0).toNat else 0) := by
  have h0 := spotsG_cons false (n - (a + 1)) a (s.getD a 0) (s.drop (a + 1)) out
  rw [if_neg hx, if_neg (by simp), ← spots_at hsl han, show n - (a + 1) + 1 = n - a by omega] at h0
  by_cases h1 : a + 1 < n
  · rw [spots_at hsl h1] at h0
    simp only at h0
    rw [List.length_drop, hsl] at h0
    rw [if_pos h1]
    refine ⟨fun h => ?_, fun h hd => ?_, fun h hd => ?_⟩
    · rw [h0, if_pos (by omega)]
    · rw [ids_any] at hd
      rw [h0, if_neg (by omega), if_pos hd]
    · rw [ids_any] at hd
      rw [h0, if_neg (by omega), if_neg (by rw [hd]; simp), List.drop_drop]
      rw [show a + 1 + 1 + (s.getD (a + 1) 0).toNat = a + 2 + (s.getD (a + 1) 0).toNat by omega]
      exact spotsG_fuel _ _ _ _ _ _ (by rw [List.length_drop, hsl]; omega) (by rw [List.length_drop, hsl]; omega)
  · rw [List.drop_of_length_le (show s.length ≤ a + 1 by omega)] at h0
    rw [if_neg h1]
    exact ⟨fun _ => h0, fun h => absurd h (by omega), fun h => absurd h (by omega)⟩
theorem met_narrow_ends (fuel : Nat) (w : World) : (method (fuel + 1) 64 (.agg #[]) "crossbar/elem.ends").run Try.prog w = .ok (48, .agg #[]) w := by kernel_rfl
theorem met_wide_ends (fuel : Nat) (w : World) : (method (fuel + 1) 63 (.agg #[]) "crossbar/elem.ends").run Try.prog w = .ok (45, .agg #[]) w := by kernel_rfl
theorem met_narrow_spot (fuel : Nat) (w : World) : (method (fuel + 1) 64 (.agg #[]) "crossbar/elem.spot").run Try.prog w = .ok (50, .agg #[]) w := by kernel_rfl
theorem met_wide_spot (fuel : Nat) (w : World) : (method (fuel + 1) 63 (.agg #[]) "crossbar/elem.spot").run Try.prog w = .ok (47, .agg #[]) w := by kernel_rfl
theorem ahead_narrow (fuel : Nat) (w : World) : (nilAhead (fuel + 1) 64 (.agg #[]) "crossbar/elem.ends").run Try.prog w = .ok (some false) w := by kernel_rfl
theorem ahead_wide (fuel : Nat) (w : World) : (nilAhead (fuel + 1) 63 (.agg #[]) "crossbar/elem.ends").run Try.prog w = .ok (some false) w := by kernel_rfl

-- CUT
set_option maxHeartbeats 4000000 in
theorem elspots_narrow (A : Option Addr) (n c : Nat) (s : List UInt8) (p : Nat) (w : World) (hs : Bs w A n c s) (hn : n ≤ 1000000) (hp : p < 65536) (hpw : p = 48862) :
    Calls Try.prog 14 #[.int .u16 (p : Int), .slice A n c] w (GivesSp w (spotsG true n 0 s []).2 (spotsG true n 0 s []).1) := by
  have hsl := hs.len
  have hlc := hs.le
  have hcm := hs.cap
  unfold maxLen at hcm
  have HW := Lib.hid (fun W => walkerOf_any p W hp)
  rw [if_pos hpw] at HW
  obtain ⟨R, hR⟩ : ∃ R, spotsG true n 0 s [] = R := ⟨_, rfl⟩
  rw [hR]
  have HR := Lib.hid hR
  clear hR hpw
  have hmm := @run_makeMap Try.prog
  have hmf : ∀ (fn : Fn) (first cap : Array Value) (w : World), (Instr.makeFunc fn first cap).run Try.prog w = .ok (.func fn first cap) w := fun _ _ _ _ => rfl
  have hm1 := met_narrow_ends
  have hm2 := met_narrow_spot
  have hm3 := ahead_narrow
  go_enter Try.func14, Try.ntmps14
  go_wp2_with fail
  refine (HW.out _).mono ?_
  rintro x w2 ⟨rfl, rfl⟩
  go_wp2_with fail
  go_loopw [8, 10] (fun o i W => ∃ a : Nat, a ≤ n ∧ i = .int .i64 a ∧ ∃ (m : Nat) (B : Option Addr) (d : Nat) (out : List Sp), o = .slice B m d ∧ m ≤ a ∧ OwnSp W (w.heap.size + 1) B m d out ∧ MapB W w.heap.size (out.map (fun x => (x.id : Int))) ∧ Hid (R = spotsG true (n - a) a (s.drop a) out) ∧ Below w.heap.size w W) (fun _ i _ => n - (intOf i).toNat)
  case atStart => exact ⟨0, Nat.zero_le _, rfl, 0, none, 0, [], rfl, Nat.le_refl _, OwnSp.nil _ _, MapI.made _ _ _ _, Lib.hid (by rw [Nat.sub_zero, List.drop_zero]; exact HR.out.symm), below1 _ _⟩
  case round =>
    obtain ⟨a, ha, rfl, m, B, d, out, rfl, hma, hown, hmap, hq, hB⟩ := hrel
    have hsz := hB.size
    have hol := hown.len
    have hmlt := hmap.lt
    have hmapl : (out.map (fun x => (x.id : Int))).length ≤ 1000000 := by rw [List.length_map]; omega
    by_cases han : a < n
    · have hsw := hs.below hB
      obtain ⟨b, o, rfl, hlt, hc⟩ := hs.at_ (by omega)
      have q0 := (hB.cell (p := ⟨b, o + a, none⟩) hlt).trans (hc a han)
      clear hc
      have hxb := byte_getD_lt s a
      have han2 : (a : Int) < n := by omega
      by_cases hx0 : (s.getD a 0).toNat = 0
      · have hr2 := Lib.hid (hq.out.trans (spots_zero hsl han hx0))
        rw [hx0] at q0
        go_wp2_with fail
        go_roundw
        case rel => exact ⟨a + 1, by omega, by go_num, m, B, d, out, rfl, by omega, hown, hmap, hr2, hB⟩
        case measure => simp [intOf]; omega
      · have hx1 : ((((s.getD a 0).toNat : Nat) : Int) == 0) = false := by rw [beq_eq_false_iff_ne]; omega
        have hx2 : ((s.getD a 0).toNat == 0) = false := by rw [beq_eq_false_iff_ne]; omega
        by_cases he : (s.getD a 0).toNat / 16 = 0 ∨ (s.getD a 0).toNat / 16 = 15
        · have hr2 := Lib.hid (hq.out.trans (spots_end hsl han hx0 he))
          have he2 : decide ((s.getD a 0).toNat / 16 = 0 ∨ (s.getD a 0).toNat / 16 = 15) = true := decide_eq_true he
          have HE := Lib.hid (fun W => ends_narrow _ W hxb true he2)
          clear he he2 hq
          generalize (s.getD a 0).toNat = x at *
          go_wp2_with fail
          go_region_held3 (fun W => W.cell? ⟨b, o + a, none⟩ = some (.int .u8 (x : Int))) (go_keep) (first | (go_at_call 48; refine (HE.out _).mono ?_; rintro e w4 ⟨rfl, hb4⟩; have q4 := (Below.cell (w := wr.drew) hb4 (p := ⟨b, o + a, none⟩) (Nat.lt_of_lt_of_le hlt hsz)).trans q0))
          all_goals
            have hB4 := hB.drew.trans (hb4.mono (by first | exact hsz | simpa using hsz))
            have hown4 := hown.below (Below.trans (Below.refl _ wr).drew hb4)
            go_wp2_with fail
            go_ret2
            refine ⟨B, m, d, ?_, ?_, hB4⟩
            · rw [hr2.out]; rfl
            · rw [hr2.out]; exact hown4.sps
        · have he2 : decide ((s.getD a 0).toNat / 16 = 0 ∨ (s.getD a 0).toNat / 16 = 15) = false := decide_eq_false he
          have HE := Lib.hid (fun W => ends_narrow _ W hxb false he2)
          have HS := Lib.hid (fun W h => spot_narrow (some ⟨b, o, none⟩) n c s a _ W h han rfl hn)
          have HT := Lib.hid (step_narrow out hsl han hx0 he)
          have hid : (s.getD a 0).toNat / 16 ≤ 255 := by omega
          have hz : (s.getD a 0).toNat % 16 + 1 ≤ 255 := by omega
          obtain ⟨pn, hpn⟩ : ∃ pn, a + 1 = pn := ⟨_, rfl⟩
          obtain ⟨zn, hzn⟩ : ∃ zn, (s.getD a 0).toNat % 16 + 1 = zn := ⟨_, rfl⟩
          have hcz : ((((s.getD a 0).toNat % 16 : Nat) : Int) + 1) = (zn : Int) := by omega
          have hcp : (a : Int) + 1 = (pn : Int) := by omega
          rw [hcz, hcp] at HS
          rw [hzn, hpn] at HT
          rw [hzn] at hz
          have hap : a < pn := by omega
          have hpa : pn ≤ n + 2 := by omega
          clear hcz hcp hzn hpn he he2
          generalize (s.getD a 0).toNat / 16 = idn at *
          generalize (s.getD a 0).toNat = x at *
          go_wp2_with fail
          go_region_held3 (fun W => W.cell? ⟨b, o + a, none⟩ = some (.int .u8 (x : Int))) (go_keep) (first | (go_at_call 48; refine (HE.out _).mono ?_; rintro e w4 ⟨rfl, hb4⟩; have q4 := (Below.cell (w := wr.drew) hb4 (p := ⟨b, o + a, none⟩) (Nat.lt_of_lt_of_le hlt hsz)).trans q0))
          all_goals
            have hB4 := hB.drew.trans (hb4.mono (by first | exact hsz | simpa using hsz))
            have hs4 := hs.below hB4
            have hown4 := hown.below (Below.trans (Below.refl _ wr).drew hb4)
            have hmap4 := MapI.below hmap (Below.trans (Below.refl _ wr).drew hb4)
            have hsz4 := hB4.size
            clear hb4 hown hmap q0 q4 hB hsw hmlt
            go_wp2_with fail
            refine (HS.out _ hs4).mono ?_
            rintro e w5 ⟨rfl, hb5⟩
            have hB5 := hB4.trans (hb5.mono hsz4)
            have hown5 := (hown4.below hb5).below (below1 w5 (.cells #[.int .i64 (idn : Int), .int .i64 (pn : Int), .int .i64 (zn : Int)] 43))
            have hmap5 := (MapI.below hmap4 hb5).alloc (.cells #[.int .i64 (idn : Int), .int .i64 (pn : Int), .int .i64 (zn : Int)] 43)
            have hB5a := hB5.alloc hB5.size (.cells #[.int .i64 (idn : Int), .int .i64 (pn : Int), .int .i64 (zn : Int)] 43)
            have hsz5 := hB5.size
            have hml5 := (MapI.below hmap4 hb5).lt
            have hrow5 := fun q hq => rowV_lt (hown4.below hb5) q hq
            clear hb5 hown4 hmap4 hs4
            have kb := Box.new w5 [.int .i64 (idn : Int), .int .i64 (pn : Int), .int .i64 (zn : Int)] 43
            obtain ⟨z0, z1, z2, _⟩ := kb.three
            have hw1 : IntKind.i64.wrap ((pn : Int) + (zn : Int)) = (pn : Int) + (zn : Int) := IntWalk.i64_in _ (by omega)
            by_cases hsh : n < pn + zn
            · have hr2 := Lib.hid (hq.out.trans (HT.out.short hsh))
              have g5 : decide ((n : Int) < (pn : Int) + zn) = true := decide_eq_true (by omega)
              clear hq HT HS
              go_wp2_with fail
              go_ret2
              refine ⟨none, 0, 0, ?_, ?_, hB5a⟩
              · rw [hr2.out]; rfl
              · rw [hr2.out]; exact Sps.nil _
            · have g5 : decide ((n : Int) < (pn : Int) + zn) = false := decide_eq_false (by omega)
              have hfit : pn + zn ≤ n := by omega
              have hwf : (Lit.int .i64 (idn : Int)).wf = true := WalkArith.wf_i64 (by omega)
              have hlk := MapB.look hmap5 hwf
              cases hcn : (out.map (fun x => (x.id : Int))).contains (idn : Int)
              · rw [hcn] at hlk
                have hr2 := Lib.hid (hq.out.trans (HT.out.more hfit hcn))
                clear hq HT HS hcn hsh
                go_wp2_with (first
                  | (at_mapUpdate; refine wpList_mapI rfl _ _ _ 58 rfl 3 4 Try.underlying3 Try.underlying4 Try.underlying58 w.heap.size _ rfl hmap5 (by unfold maxLen; omega) (idn : Int) rfl hwf rfl ?_; intro w6 hmap6 hg6; have k6 := kb.grown hg6 (by simp; omega); have y0 := k6.field 0 rfl; have y1 := k6.field 1 rfl; have y2 := k6.field 2 rfl; have hown6 := rowK_grown hown5 hg6 (fun g hg => by have := rowV_ge hown5 g hg; simp; omega); have hs6 := hg6.size; have hs5a := hB5a.size; have hz5a : (w5.alloc (.cells #[.int .i64 (idn : Int), .int .i64 (pn : Int), .int .i64 (zn : Int)] 43)).heap.size = w5.heap.size + 1 := World.size_alloc _ _)
                  | (at_builtin; go_loud (refine wpList_appK rfl (.tmp 60) (.tmp 62) 36 rfl (w.heap.size + 1) 43 _ 3 24 Try.underlying36 info_sp rfl (by omega) B m d _ rfl (rowK_alloc hown6 _) _ 1 1 (spC ⟨idn, pn, zn⟩) rfl rfl (newSp _ ⟨idn, pn, zn⟩ _) (spC_one1 _) (by simp only [maxLen]; omega) (by omega) (by rw [World.size_alloc]; omega) ?_; intro A9 c9 w9 hown9 hg9 hat9)))
                have hmap9 := MapI.grown (hmap6.alloc (.cells #[.int .i64 (idn : Int), .int .i64 (pn : Int), .int .i64 (zn : Int)] 43)) hg9 (fun e => by have := rowV_ge hown6 _ e.symm; omega)
                have hB6 := hB5a.grown hg6 (by omega) (fun q hq => by cases hq; exact Nat.le_refl _)
                have hB9 := (hB6.alloc (by omega) (.cells #[.int .i64 (idn : Int), .int .i64 (pn : Int), .int .i64 (zn : Int)] 43)).grown hg9 (by simp; omega) (fun q hq => by have := rowV_ge hown6 q hq; omega)
                exact ⟨⟨pn + zn, hfit, by go_num, m + 1, A9, c9, _, rfl, by omega, OwnSp.app hown9, by rw [List.map_append]; exact hmap9, hr2, hB9⟩, by simp [intOf]; omega⟩
              · rw [hcn] at hlk
                have hr2 := Lib.hid (hq.out.trans (HT.out.dup hfit hcn))
                clear hq HT HS hcn hsh
                go_wp2_with fail
                go_ret2
                refine ⟨none, 0, 0, ?_, ?_, hB5a⟩
                · rw [hr2.out]; rfl
                · rw [hr2.out]; exact Sps.nil _

    · obtain rfl : a = n := by omega
      have han2 : ¬ (a : Int) < a := by omega
      have hr2 : Hid (R = (0, out)) := Lib.hid (by have := hq.out; rwa [List.drop_of_length_le (by omega), spotsG_nil] at this)
      clear hq
      go_wp2_with fail
      go_ret2
      refine ⟨B, m, d, ?_, ?_, hB⟩
      · rw [hr2.out]; rfl
      · rw [hr2.out]; exact hown.sps

set_option maxHeartbeats 4000000 in
theorem elspots_wide (A : Option Addr) (n c : Nat) (s : List UInt8) (p : Nat) (w : World) (hs : Bs w A n c s) (hn : n ≤ 1000000) (hp : p < 65536) (hpw : p / 16 = 256) :
    Calls Try.prog 14 #[.int .u16 (p : Int), .slice A n c] w (GivesSp w (spotsG false n 0 s []).2 (spotsG false n 0 s []).1) := by
  have hsl := hs.len
  have hlc := hs.le
  have hcm := hs.cap
  unfold maxLen at hcm
  have HW := Lib.hid (fun W => walkerOf_any p W hp)
  rw [if_neg (by omega), if_pos hpw] at HW
  obtain ⟨R, hR⟩ : ∃ R, spotsG false n 0 s [] = R := ⟨_, rfl⟩
  rw [hR]
  have HR := Lib.hid hR
  clear hR hpw
  have hmm := @run_makeMap Try.prog
  have hmf : ∀ (fn : Fn) (first cap : Array Value) (w : World), (Instr.makeFunc fn first cap).run Try.prog w = .ok (.func fn first cap) w := fun _ _ _ _ => rfl
  have hm1 := met_wide_ends
  have hm2 := met_wide_spot
  have hm3 := ahead_wide
  go_enter Try.func14, Try.ntmps14
  go_wp2_with fail
  refine (HW.out _).mono ?_
  rintro x w2 ⟨rfl, rfl⟩
  go_wp2_with fail
  go_loopw [8, 10] (fun o i W => ∃ a : Nat, a ≤ n ∧ i = .int .i64 a ∧ ∃ (m : Nat) (B : Option Addr) (d : Nat) (out : List Sp), o = .slice B m d ∧ m ≤ a ∧ OwnSp W (w.heap.size + 1) B m d out ∧ MapB W w.heap.size (out.map (fun x => (x.id : Int))) ∧ Hid (R = spotsG false (n - a) a (s.drop a) out) ∧ Below w.heap.size w W) (fun _ i _ => n - (intOf i).toNat)
  case atStart => exact ⟨0, Nat.zero_le _, rfl, 0, none, 0, [], rfl, Nat.le_refl _, OwnSp.nil _ _, MapI.made _ _ _ _, Lib.hid (by rw [Nat.sub_zero, List.drop_zero]; exact HR.out.symm), below1 _ _⟩
  case round =>
    obtain ⟨a, ha, rfl, m, B, d, out, rfl, hma, hown, hmap, hq, hB⟩ := hrel
    have hsz := hB.size
    have hol := hown.len
    have hmlt := hmap.lt
    have hmapl : (out.map (fun x => (x.id : Int))).length ≤ 1000000 := by rw [List.length_map]; omega
    by_cases han : a < n
    · have hsw := hs.below hB
      obtain ⟨b, o, rfl, hlt, hc⟩ := hs.at_ (by omega)
      have q0 := (hB.cell (p := ⟨b, o + a, none⟩) hlt).trans (hc a han)
      clear hc
      have hxb := byte_getD_lt s a
      have han2 : (a : Int) < n := by omega
      by_cases hx0 : (s.getD a 0).toNat = 0
      · have hr2 := Lib.hid (hq.out.trans (spots_zero hsl han hx0))
        rw [hx0] at q0
        go_wp2_with fail
        go_roundw
        case rel => exact ⟨a + 1, by omega, by go_num, m, B, d, out, rfl, by omega, hown, hmap, hr2, hB⟩
        case measure => simp [intOf]; omega
      · have hx1 : ((((s.getD a 0).toNat : Nat) : Int) == 0) = false := by rw [beq_eq_false_iff_ne]; omega
        have hx2 : ((s.getD a 0).toNat == 0) = false := by rw [beq_eq_false_iff_ne]; omega
        have HE := Lib.hid (fun W => ends_wide (s.getD a 0).toNat W)
        have HS := Lib.hid (fun W h => spot_wide (some ⟨b, o, none⟩) n c s a _ _ W h han rfl rfl hn)
        have HT := Lib.hid (step_wide out hsl han hx0)
        have hid : (s.getD a 0).toNat ≤ 255 := by omega
        have hz : (if a + 1 < n then (s.getD (a + 1) 0).toNat else 0) ≤ 255 := by
          have := byte_getD_lt s (a + 1)
          split <;> omega
        obtain ⟨pn, hpn⟩ : ∃ pn, a + 2 = pn := ⟨_, rfl⟩
        obtain ⟨zn, hzn⟩ : ∃ zn, (if a + 1 < n then (s.getD (a + 1) 0).toNat else 0) = zn := ⟨_, rfl⟩
        have hcp : (a : Int) + 2 = (pn : Int) := by omega
        rw [hzn, hcp] at HS
        rw [hzn, hpn] at HT
        rw [hzn] at hz
        have hap : a < pn := by omega
        have hpa : pn ≤ n + 2 := by omega
        clear hcp hzn hpn
        generalize (s.getD a 0).toNat = idn at *
        go_wp2_with fail
        go_region_held3 (fun W => W.cell? ⟨b, o + a, none⟩ = some (.int .u8 (idn : Int))) (go_keep) (first | (go_at_call 45; refine (HE.out _).mono ?_; rintro e w4 ⟨rfl, hb4⟩; have q4 := (Below.cell (w := wr.drew) hb4 (p := ⟨b, o + a, none⟩) (Nat.lt_of_lt_of_le hlt hsz)).trans q0))
        all_goals
          have hB4 := hB.drew.trans (hb4.mono (by first | exact hsz | simpa using hsz))
          have hs4 := hs.below hB4
          have hown4 := hown.below (Below.trans (Below.refl _ wr).drew hb4)
          have hmap4 := MapI.below hmap (Below.trans (Below.refl _ wr).drew hb4)
          have hsz4 := hB4.size
          clear hb4 hown hmap q0 q4 hB hsw hmlt
          go_wp2_with fail
          refine (HS.out _ hs4).mono ?_
          rintro e w5 ⟨rfl, hb5⟩
          have hB5 := hB4.trans (hb5.mono hsz4)
          have hown5 := (hown4.below hb5).below (below1 w5 (.cells #[.int .i64 (idn : Int), .int .i64 (pn : Int), .int .i64 (zn : Int)] 43))
          have hmap5 := (MapI.below hmap4 hb5).alloc (.cells #[.int .i64 (idn : Int), .int .i64 (pn : Int), .int .i64 (zn : Int)] 43)
          have hB5a := hB5.alloc hB5.size (.cells #[.int .i64 (idn : Int), .int .i64 (pn : Int), .int .i64 (zn : Int)] 43)
          have hsz5 := hB5.size
          have hml5 := (MapI.below hmap4 hb5).lt
          have hrow5 := fun q hq => rowV_lt (hown4.below hb5) q hq
          clear hb5 hown4 hmap4 hs4
          have kb := Box.new w5 [.int .i64 (idn : Int), .int .i64 (pn : Int), .int .i64 (zn : Int)] 43
          obtain ⟨z0, z1, z2, _⟩ := kb.three
          have hw1 : IntKind.i64.wrap ((pn : Int) + (zn : Int)) = (pn : Int) + (zn : Int) := IntWalk.i64_in _ (by omega)
          by_cases hsh : n < pn + zn
          · have hr2 := Lib.hid (hq.out.trans (HT.out.short hsh))
            have g5 : decide ((n : Int) < (pn : Int) + zn) = true := decide_eq_true (by omega)
            clear hq HT HS
            go_wp2_with fail
            go_ret2
            refine ⟨none, 0, 0, ?_, ?_, hB5a⟩
            · rw [hr2.out]; rfl
            · rw [hr2.out]; exact Sps.nil _
          · have g5 : decide ((n : Int) < (pn : Int) + zn) = false := decide_eq_false (by omega)
            have hfit : pn + zn ≤ n := by omega
            have hwf : (Lit.int .i64 (idn : Int)).wf = true := WalkArith.wf_i64 (by omega)
            have hlk := MapB.look hmap5 hwf
            cases hcn : (out.map (fun x => (x.id : Int))).contains (idn : Int)
            · rw [hcn] at hlk
              have hr2 := Lib.hid (hq.out.trans (HT.out.more hfit hcn))
              clear hq HT HS hcn hsh
              go_wp2_with (first
                | (at_mapUpdate; refine wpList_mapI rfl _ _ _ 58 rfl 3 4 Try.underlying3 Try.underlying4 Try.underlying58 w.heap.size _ rfl hmap5 (by unfold maxLen; omega) (idn : Int) rfl hwf rfl ?_; intro w6 hmap6 hg6; have k6 := kb.grown hg6 (by simp; omega); have y0 := k6.field 0 rfl; have y1 := k6.field 1 rfl; have y2 := k6.field 2 rfl; have hown6 := rowK_grown hown5 hg6 (fun g hg => by have := rowV_ge hown5 g hg; simp; omega); have hs6 := hg6.size; have hs5a := hB5a.size; have hz5a : (w5.alloc (.cells #[.int .i64 (idn : Int), .int .i64 (pn : Int), .int .i64 (zn : Int)] 43)).heap.size = w5.heap.size + 1 := World.size_alloc _ _)
                | (at_builtin; go_loud (refine wpList_appK rfl (.tmp 60) (.tmp 62) 36 rfl (w.heap.size + 1) 43 _ 3 24 Try.underlying36 info_sp rfl (by omega) B m d _ rfl (rowK_alloc hown6 _) _ 1 1 (spC ⟨idn, pn, zn⟩) rfl rfl (newSp _ ⟨idn, pn, zn⟩ _) (spC_one1 _) (by simp only [maxLen]; omega) (by omega) (by rw [World.size_alloc]; omega) ?_; intro A9 c9 w9 hown9 hg9 hat9)))
              have hmap9 := MapI.grown (hmap6.alloc (.cells #[.int .i64 (idn : Int), .int .i64 (pn : Int), .int .i64 (zn : Int)] 43)) hg9 (fun e => by have := rowV_ge hown6 _ e.symm; omega)
              have hB6 := hB5a.grown hg6 (by omega) (fun q hq => by cases hq; exact Nat.le_refl _)
              have hB9 := (hB6.alloc (by omega) (.cells #[.int .i64 (idn : Int), .int .i64 (pn : Int), .int .i64 (zn : Int)] 43)).grown hg9 (by simp; omega) (fun q hq => by have := rowV_ge hown6 q hq; omega)
              exact ⟨⟨pn + zn, hfit, by go_num, m + 1, A9, c9, _, rfl, by omega, OwnSp.app hown9, by rw [List.map_append]; exact hmap9, hr2, hB9⟩, by simp [intOf]; omega⟩
            · rw [hcn] at hlk
              have hr2 := Lib.hid (hq.out.trans (HT.out.dup hfit hcn))
              clear hq HT HS hcn hsh
              go_wp2_with fail
              go_ret2
              refine ⟨none, 0, 0, ?_, ?_, hB5a⟩
              · rw [hr2.out]; rfl
              · rw [hr2.out]; exact Sps.nil _

    · obtain rfl : a = n := by omega
      have han2 : ¬ (a : Int) < a := by omega
      have hr2 : Hid (R = (0, out)) := Lib.hid (by have := hq.out; rwa [List.drop_of_length_le (by omega), spotsG_nil] at this)
      clear hq
      go_wp2_with fail
      go_ret2
      refine ⟨B, m, d, ?_, ?_, hB⟩
      · rw [hr2.out]; rfl
      · rw [hr2.out]; exact hown.sps

theorem elspots_any (p : Nat) (A : Option Addr) (n c : Nat) (s : List UInt8) (w : World) (hs : Bs w A n c s) (hn : n ≤ 1000000) (hp : p < 65536) :
    Calls Try.prog 14 #[.int .u16 (p : Int), .slice A n c] w (GivesSp w (spotsL p s) (spotsE p s)) := by
  have hsl := hs.len
  by_cases h1 : p = 48862
  · have e1 : spotsL p s = (spotsG true n 0 s []).2 := by unfold spotsL isProf isNarrow; simp [h1, hsl]
    have e2 : spotsE p s = (spotsG true n 0 s []).1 := by unfold spotsE isProf isNarrow; simp [h1, hsl]
    rw [e1, e2]
    exact elspots_narrow A n c s p w hs hn hp h1
  · by_cases h2 : p / 16 = 256
    · have e1 : spotsL p s = (spotsG false n 0 s []).2 := by unfold spotsL isProf isNarrow; simp [h1, h2, hsl]
      have e2 : spotsE p s = (spotsG false n 0 s []).1 := by unfold spotsE isProf isNarrow; simp [h1, h2, hsl]
      rw [e1, e2]
      exact elspots_wide A n c s p w hs hn hp h2
    · have e1 : spotsL p s = [] := by unfold spotsL isProf; simp [h1, h2]
      have e2 : spotsE p s = 6 := by unfold spotsE isProf; simp [h1, h2]
      rw [e1, e2]
      have HW := Lib.hid (fun W => walkerOf_any p W hp)
      rw [if_neg h1, if_neg h2] at HW
      clear e1 e2 h1 h2
      go_enter Try.func14, Try.ntmps14
      go_wp2_with fail
      refine (HW.out _).mono ?_
      rintro x w2 ⟨rfl, rfl⟩
      go_wp2_with fail
      go_ret2
      exact ⟨none, 0, 0, rfl, Sps.nil _, Below.refl _ _⟩

end Go.Proofs.Ytpkbikimpjmkgaa
