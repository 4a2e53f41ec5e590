/-
  PlaceTurns, walked under the contracts of package place's calls, and by what packet.Read comes to. (Written by gen_PlaceTurnsW.py.)
-/
import Derived.Test.YtogjkkhboaflcaaPlaceCoversW
import Derived.Test.YtogjkkhboaflcaaPlaceT
namespace Go.Proofs.Ytogjkkhboaflcaa
open Go.RowKit
set_option linter.unusedVariables false
set_option linter.unusedSimpArgs false

theorem rsameP_told2 (p : Pk) (A : Option Addr) (n c : Nat) (B : Option Addr) (lb cb : Nat) (C : Option Addr) (lc cc : Nat) (q : Pk) (A' : Option Addr) (n' c' : Nat) (B' : Option Addr) (lb' cb' : Nat) (C' : Option Addr) (lc' cc' : Nat) (w : World) (h : PkIn w p A n c B lb cb C lc cc) (k : PkIn w q A' n' c' B' lb' cb' C' lc' cc') (b : Bool) (hb : decide (p = q) = b) :
    Calls Try.prog 15 #[pkV p A n c B lb cb C lc cc, pkV q A' n' c' B' lb' cb' C' lc' cc'] w (Says w (.bool b)) := by
  subst hb
  exact rsameP_any p q A n c B lb cb C lc cc A' n' c' B' lb' cb' C' lc' cc' w h k
def TurnI (w0 wb : World) (n : Nat) (s y : List UInt8) (a m : Nat) (g c : Nat) (v : Value) (W : World) : Prop :=
  ∃ k : Nat, k ≤ m ∧ v = .int .i64 k ∧ Own W (w0.heap.size) 5 (some ⟨g, 0, none⟩) n c (splice s a (y.take k)) ∧ Below w0.heap.size w0 W

section
variable (KC : PlaceCalls)
include KC
set_option maxRecDepth 100000 in
set_option maxHeartbeats 1000000 in
theorem placeTurns_big (A : Option Addr) (n c : Nat) (nth : Nat) (B : Option Addr) (m d : Nat) (w : World) (h1 : (n : Int) ≤ 9223372036854775807) (h2 : (m : Int) ≤ 9223372036854775807) (hb : 3000 < n ∨ 3000 < m) :
    Calls Try.prog 5 #[.slice A n c, .int .u8 nth, .slice B m d] w fun e w' => e = .returned (.bool true) ∧ Below w.heap.size w w' := by
  go_enter Try.func5, Try.ntmps5
  go_wp2_with fail
  refine (awake_any KC _).mono ?_
  rintro e w2 ⟨rfl, hB⟩
  rcases Nat.lt_or_ge 3000 n with g | g
  · have g1 : (3000 : Int) < n := by omega
    go_wp2_with fail
    go_ret
    exact ⟨rfl, hB⟩
  · have g1 : ¬ (3000 : Int) < n := by omega
    have g2 : (3000 : Int) < m := by omega
    have e2 : decide (3000 < m) = true := decide_eq_true (by omega)
    go_wp2_with fail
    all_goals
      go_ret
      exact ⟨by first | rfl | simp, hB⟩
set_option maxRecDepth 100000 in
set_option maxHeartbeats 1000000 in
theorem placeTurns_none (A : Option Addr) (n c : Nat) (s : List UInt8) (nth : Nat) (B : Option Addr) (m d : Nat) (w : World) (hs : Bs w A n c s) (hn : n ≤ 3000) (hm : m ≤ 3000) (h : pErr s ≠ 0) :
    Calls Try.prog 5 #[.slice A n c, .int .u8 nth, .slice B m d] w fun e w' => e = .returned (.bool true) ∧ Below w.heap.size w w' := by
  have hL : placesS s = [] := if_neg h
  have HO := Lib.hid (fun W hs => of_told KC A n c s W hs (by omega) [] 0 _ hL rfl rfl)
  have hz : ((pErr s : Int) != 0) = true := by rw [bne_iff_ne]; omega
  generalize pErr s = er at *
  have g1 : ¬ (3000 : Int) < n := by omega
  have g2 : ¬ (3000 : Int) < m := by omega
  clear hL h
  go_enter Try.func5, Try.ntmps5
  go_wp2_with fail
  refine (awake_any KC _).mono ?_
  rintro e w2 ⟨rfl, hB⟩
  go_wp2_with fail
  refine (HO.out _ (hs.below hB)).mono ?_
  rintro e w3 ⟨B3, d3, rfl, hp3, hb⟩
  replace hB := hB.trans (hb.mono hB.size)
  clear hb hp3
  go_wp2_with fail
  go_ret
  exact ⟨by first | rfl | simp, hB⟩

set_option maxRecDepth 100000 in
set_option maxHeartbeats 1000000 in
theorem placeTurns_stay (A : Option Addr) (n c : Nat) (s : List UInt8) (nth : Nat) (B : Option Addr) (m d : Nat) (w : World) (hs : Bs w A n c s) (hn : n ≤ 3000) (hm : m ≤ 3000) (hnth : nth < 256) (h : pErr s = 0) (hk : nth % (placesS s).length < (placesS s).length)
    (hst : (placesS s)[nth % (placesS s).length].f = 1 ∨ (placesS s)[nth % (placesS s).length].f = 8 ∨ (placesS s)[nth % (placesS s).length].f = 12) :
    Calls Try.prog 5 #[.slice A n c, .int .u8 nth, .slice B m d] w fun e w' => e = .returned (.bool true) ∧ Below w.heap.size w w' := by
  obtain ⟨hch, htot⟩ := places_cover h
  rw [hs.len] at htot
  obtain ⟨L, hL⟩ : ∃ L, placesS s = L := ⟨_, rfl⟩
  have HO := Lib.hid (fun W hs => of_told KC A n c s W hs (by omega) L L.length 0 hL rfl (by rw [h]; rfl))
  simp only [hL] at hch htot hk hst
  obtain ⟨g1, g2, g3, g4⟩ := chain_at hch hk
  have g0 := chain_take hch (nth % L.length)
  have hlL := chain_len hch
  rw [htot] at g3 hlL
  obtain ⟨ln, hln⟩ : ∃ ln, L.length = ln := ⟨_, rfl⟩
  have HLN := Lib.hid hln
  simp only [hln] at HO hk hst g0 g1 g2 g3
  obtain ⟨q, hq⟩ : ∃ q, L[nth % ln]'(by rw [HLN.out]; exact hk) = q := ⟨_, rfl⟩
  rw [hq] at g1 g2 g3 hst
  have HQ := Lib.hid hq
  obtain ⟨f, a, z⟩ := q
  simp only at g1 g2 g3 hst
  have ha : 0 ≤ a ∧ 1 ≤ z ∧ a + z ≤ n := by omega
  obtain ⟨a0, a1, a2⟩ := ha
  rw [hln] at hlL
  have hrm : Int.tmod (nth : Int) (ln : Int) = ((nth % ln : Nat) : Int) := by rw [Int.tmod_eq_emod_of_nonneg (by omega)]; omega
  obtain ⟨kk, hkk⟩ : ∃ kk, nth % ln = kk := ⟨_, rfl⟩
  rw [hkk] at hk hrm
  have HKK := Lib.hid hkk
  clear g0 g1 g2 g3 g4 hL h hch htot hq hln hkk
  have z1 : decide (z < 0) = false := decide_eq_false (by omega)
  have b1 : ¬ (3000 : Int) < n := by omega
  have b2 : ¬ (3000 : Int) < m := by omega
  have lp : 0 < ln := by omega
  go_enter Try.func5, Try.ntmps5
  go_wp2_with fail
  refine (awake_any KC _).mono ?_
  rintro e w2 ⟨rfl, hB⟩
  go_wp2_with fail
  refine (HO.out _ (hs.below hB)).mono ?_
  rintro e w3 ⟨B3, d3, rfl, hp3, hb⟩
  replace hB := hB.trans (hb.mono hB.size)
  clear hb
  obtain ⟨b, o, rfl, hlt, hc⟩ := hp3.at_ lp
  have hck := hc kk (by rw [HLN.out]; exact hk)
  have hLk : L[kk]'(by rw [HLN.out]; exact hk) = ⟨f, a, z⟩ := by
    have := HQ.out
    simpa only [HKK.out] using this
  rw [hLk] at hck
  clear hLk hc HQ HKK hp3
  (try simp only at hck)
  have k1 := Box.new w3 [.int .i64 f, .int .i64 a, .int .i64 z] 32
  replace hB := hB.alloc hB.size (.cells #[.int .i64 f, .int .i64 a, .int .i64 z] 32)
  obtain ⟨c0, c1, c2, _⟩ := k1.three
  rcases hst with rfl | rfl | rfl
  all_goals
    go_wp2_with fail
    go_ret
    exact ⟨by first | rfl | (simp <;> omega), hB⟩

set_option maxRecDepth 100000 in
set_option maxHeartbeats 16000000 in
theorem placeTurns_turn (A : Option Addr) (n c : Nat) (s : List UInt8) (nth : Nat) (B : Option Addr) (m d : Nat) (y : List UInt8) (w : World) (hs : Bs w A n c s) (hy : Bs w B m d y) (hn : n ≤ 3000) (hm : m ≤ 3000) (hnth : nth < 256) (h : pErr s = 0) (hk : nth % (placesS s).length < (placesS s).length)
    (h1 : (placesS s)[nth % (placesS s).length].f ≠ 1) (h8 : (placesS s)[nth % (placesS s).length].f ≠ 8) (h12 : (placesS s)[nth % (placesS s).length].f ≠ 12) :
    Calls Try.prog 5 #[.slice A n c, .int .u8 nth, .slice B m d] w fun e w' => e = .returned (.bool true) ∧ Below w.heap.size w w' := by
  obtain ⟨hch, htot⟩ := places_cover h
  rw [hs.len] at htot
  have hfd := placesS_field h _ (List.getElem_mem hk)
  have htn := fun y hy => turn_ok h (List.getElem_mem hk) h1 h8 h12 y hy
  have HRS := Lib.hid (fun W hs => pread_any A n c s W hs (by omega))
  obtain ⟨L, hL⟩ : ∃ L, placesS s = L := ⟨_, rfl⟩
  have HO := Lib.hid (fun W hs => of_told KC A n c s W hs (by omega) L L.length 0 hL rfl (by rw [h]; rfl))
  rw [readP_of h, h] at HRS
  simp only [hL] at hch htot hk h1 h8 h12 hfd htn
  obtain ⟨g1, g2, g3, g4⟩ := chain_at hch hk
  have g0 := chain_take hch (nth % L.length)
  have hlL := chain_len hch
  rw [htot] at g3 hlL
  obtain ⟨ln, hln⟩ : ∃ ln, L.length = ln := ⟨_, rfl⟩
  have HLN := Lib.hid hln
  simp only [hln] at HO hk h1 h8 h12 hfd htn g0 g1 g2 g3
  obtain ⟨q, hq⟩ : ∃ q, L[nth % ln]'(by rw [HLN.out]; exact hk) = q := ⟨_, rfl⟩
  rw [hq] at g1 g2 g3 h1 h8 h12 hfd
  simp only [hq] at htn
  have HQ := Lib.hid hq
  obtain ⟨f, a, z⟩ := q
  simp only at g1 g2 g3 h1 h8 h12 hfd htn
  have ha : 0 ≤ a ∧ 1 ≤ z ∧ a + z ≤ n := by omega
  obtain ⟨a0, a1, a2⟩ := ha
  rw [hln] at hlL
  have hrm : Int.tmod (nth : Int) (ln : Int) = ((nth % ln : Nat) : Int) := by rw [Int.tmod_eq_emod_of_nonneg (by omega)]; omega
  obtain ⟨kk, hkk⟩ : ∃ kk, nth % ln = kk := ⟨_, rfl⟩
  rw [hkk] at hk hrm
  have HKK := Lib.hid hkk
  clear g0 g1 g2 g3 g4 h hch htot hq hln hkk
  obtain ⟨a, rfl⟩ := Int.eq_ofNat_of_zero_le a0
  obtain ⟨z, rfl⟩ := Int.eq_ofNat_of_zero_le (show 0 ≤ z by omega)
  simp only [Int.toNat_natCast] at htn
  -- how many bytes are written
  obtain ⟨mm, hmm⟩ : ∃ mm, mm = min z m := ⟨_, rfl⟩
  have hyl := hy.len
  have hm1 : mm ≤ z ∧ mm ≤ m ∧ (mm < z → mm = m) := by omega
  have htl : (y.take mm).length = mm := by rw [List.length_take]; omega
  obtain ⟨t1, t2, t3⟩ := htn (y.take mm) (by rw [htl]; omega)
  have hspl : (splice s a (y.take mm)).length = n := by rw [splice_length _ _ _ (by rw [htl, hs.len]; omega), hs.len]
  have HST : Hid (∀ k, k < mm → (splice s a (y.take k)).set (a + k) (y.getD k 0) = splice s a (y.take (k + 1))) := Lib.hid (by
    intro k hk
    have := splice_step s (y.take mm) a k (by rw [htl]; exact hk) (by rw [htl, hs.len]; omega)
    rw [List.take_take, List.take_take, Nat.min_eq_left (by omega), Nat.min_eq_left (by omega)] at this
    have e : (y.take mm).getD k 0 = y.getD k 0 := by
      rw [List.getD_eq_getElem?_getD, List.getD_eq_getElem?_getD, List.getElem?_take_of_lt hk]
    rw [e] at this
    exact this)
  have HGD := Lib.hid hyl
  have HT := Lib.hid (And.intro t1 (And.intro t2 t3))
  clear t1 t2 t3 htn hmm hL
  generalize packOf s = p at *
  have z0 : decide ((a : Int) < 0) = false := decide_eq_false (by omega)
  have z1 : decide ((z : Int) < 0) = false := decide_eq_false (by omega)
  have z2 : decide ((n : Int) < z) = false := decide_eq_false (by omega)
  have z3 : decide ((n : Int) - z < a) = false := decide_eq_false (by omega)
  have z4 : decide (n < z) = false := decide_eq_false (by omega)
  have f1 : (f == 1) = false := by rw [beq_eq_false_iff_ne]; exact h1
  have f8 : (f == 8) = false := by rw [beq_eq_false_iff_ne]; exact h8
  have f12 : (f == 12) = false := by rw [beq_eq_false_iff_ne]; exact h12
  have b1 : ¬ (3000 : Int) < n := by omega
  have b2 : ¬ (3000 : Int) < m := by omega
  have lp : 0 < ln := by omega
  go_enter Try.func5, Try.ntmps5
  go_wp2_with fail
  refine (awake_any KC _).mono ?_
  rintro e w2 ⟨rfl, hB⟩
  go_wp2_with fail
  refine (HO.out _ (hs.below hB)).mono ?_
  rintro e w3 ⟨B3, d3, rfl, hp3, hb⟩
  replace hB := hB.trans (hb.mono hB.size)
  clear hb
  obtain ⟨b, o, rfl, hlt, hc⟩ := hp3.at_ lp
  have hck := hc kk (by rw [HLN.out]; exact hk)
  have hLk : L[kk]'(by rw [HLN.out]; exact hk) = ⟨f, a, z⟩ := by
    have := HQ.out
    simpa only [HKK.out] using this
  rw [hLk] at hck
  clear hLk hc HQ HKK
  (try simp only at hck)
  have k1 := Box.new w3 [.int .i64 f, .int .i64 a, .int .i64 z] 32
  have k1a := k1.alloc (.cells #[] 5)
  have hB3 := hB.alloc hB.size (.cells #[.int .i64 f, .int .i64 a, .int .i64 z] 32)
  obtain ⟨c0, c1, c2, _⟩ := k1.three
  go_wp2_with (at_builtin; go_loud (refine wpList_app2 rfl (.tmp 106) (.tmp 107) 22 rfl (w3.heap.size + 1) 5 Try.underlying22 byte_info (some ⟨w3.heap.size + 1, 0, none⟩) 0 0 [] rfl (by have := own_empty (w3.alloc (.cells #[.int .i64 f, .int .i64 a, .int .i64 z] 32)) 5 (w3.heap.size + 1) (by simp); simpa using this) A n c s rfl ((hs.below hB3).alloc _) (by omega) (by simp) ?_); intro A4 c4 w4 hown4 hgr4 hat4; rw [Nat.zero_add] at hown4; rw [List.nil_append] at hown4; rw [Nat.zero_add])
  obtain ⟨g, rfl, hg1, hg2⟩ := hown4.form (by omega)
  have hfar0 : some w3.heap.size ≠ rowOf (some ⟨w3.heap.size + 1, 0, none⟩ : Option Addr) := by simp [rowOf]
  have k4 := k1a.grown hgr4 hfar0
  have hB34 : Below w3.heap.size w3 w4 := (below2 w3 (.cells #[.int .i64 f, .int .i64 a, .int .i64 z] 32) (.cells #[] 5)).grown hgr4 (by simp; omega) (fun q hq => by simp [rowOf] at hq; omega)
  clear c0 c1 c2 k1 k1a hB3 hgr4 hat4
  have c2 := k4.field 2 rfl
  have hlt4 := k4.2.2
  go_wp2_with fail
  clear c2
  go_loopw [11] (fun v W => ∃ k : Nat, k ≤ mm ∧ v = .int .i64 k ∧ Own W (w3.heap.size + 1) 5 (some ⟨g, 0, none⟩) n c4 (splice s a (y.take k)) ∧ Box W w3.heap.size [.int .i64 f, .int .i64 a, .int .i64 z] ∧ Below w3.heap.size w3 W) (fun i _ => mm - (intOf i).toNat)
  case atStart => exact ⟨0, Nat.zero_le _, rfl, by rw [List.take_zero, splice_nil]; exact hown4, k4, hB34⟩
  case round =>
    clear hown4 k4 hB34
    obtain ⟨k, hkm, rfl, hown, kb, hBW⟩ := hrel
    have hBc := hB.trans (hBW.mono hB.size)
    have hbs := hB.size
    have q1 := kb.field 1 rfl
    have q2 := kb.field 2 rfl
    have hlt := kb.2.2
    by_cases hkk : k < mm
    · obtain ⟨b2', o2, rfl, hlt2, hc2⟩ := hy.at_ (by omega)
      have hx := (hBc.cell (p := ⟨b2', o2 + k, none⟩) hlt2).trans (hc2 k (by omega))
      have hsp := Lib.hid (HST.out k (by omega))
      have hbx := byte_getD_lt y k
      generalize y.getD k 0 = x0 at *
      obtain ⟨⟨u0, hcl⟩, hfz, hst⟩ := Own.store (x := x0) hown (show a + k < n by omega)
      rw [hsp.out] at hst
      have kz : (k : Int) < z := by omega
      have km : (k : Int) < m := by omega
      have kz2 : k < z := by omega
      have km2 : k < m := by omega
      have dz : decide (k < z) = true := decide_eq_true kz2
      have dm : decide (k < m) = true := decide_eq_true km2
      have hw : IntKind.i64.wrap ((a : Int) + (k : Int)) = (a : Int) + (k : Int) := IntWalk.i64_in _ (by omega)
      have hin : (a : Int) + (k : Int) < n := by omega
      have hin2 : a + k < n := by omega
      have hne : g ≠ b2' := by omega
      have hne2 : b2' ≠ g := fun e => hne e.symm
      have hgp : w3.heap.size ≠ g := by omega
      have hgp2 : g ≠ w3.heap.size := by omega
      have HK1 : Hid (k + 1 ≤ mm) := Lib.hid hkk
      have HME : Hid (mm - (k + 1) < mm - k) := Lib.hid (by omega)
      clear hc2 hown hkm hkk
      unfold byteV at hst
      generalize x0.toNat = xn at *
      go_wp2_with fail
      go_region
      have kb2 := kb.other (p := ⟨g, a + k, none⟩) (.int .u8 (xn : Int)) hgp2
      have hBW2 := (hBW.setCell (p := ⟨g, a + k, none⟩) (by simp; omega) (.int .u8 (xn : Int))).drew
      go_wp2_with fail
      go_roundw
      case rel =>
        exact ⟨k + 1, HK1.out, by go_num, hst, kb2, hBW2⟩
      case measure =>
        have := HME.out
        simp [intOf]; omega
    · obtain rfl : k = mm := by omega
      generalize hX : splice s a (y.take k) = X at *
      have hXl := hspl
      obtain ⟨e1, e2, e3⟩ := HT.out
      have HO2 := Lib.hid (fun W hs => of_told KC (some ⟨g, 0, none⟩) n c4 X W hs (by omega) L ln 0 e2 HLN.out (by rw [e1]; rfl))
      have HR2 := Lib.hid (fun W hs => pread_any (some ⟨g, 0, none⟩) n c4 X W hs (by omega))
      rw [readP_of e1, e1] at HR2
      have HBK := Lib.hid e3
      clear HT HST HGD HO e1 e2 e3 hspl hX
      generalize packOf X = r at *
      have hfs : f = 2 ∨ f = 3 ∨ f = 4 ∨ f = 5 ∨ f = 6 ∨ f = 7 ∨ f = 9 ∨ f = 10 ∨ f = 11 := by omega
      have hbw := hB.size
      have hss := hs.below hBc
      clear h1 h8 h12 hfd htl
      rcases (show z ≤ k ∨ (k < z ∧ m ≤ k) by omega) with kz | ⟨kz, km⟩
      all_goals
        have kz0 : decide (k < z) = decide (k < z) := rfl
        go_wp2_with fail
        refine (HO2.out _ hown.bs).mono ?_
        rintro e w4a ⟨B7, d7, rfl, hp7, hb⟩
        replace kb := kb.call hb
        replace hBW := hBW.trans (hb.mono hBW.size)
        replace hown := hown.below hb
        replace hss := hss.below hb
        clear hb q1 q2
        go_wp2_with fail
        refine (HRS.out _ hss).mono ?_
        rintro e w5 ⟨A5, a5, B5, b5, C5, c5, rfl, hin5, hb⟩
        dsimp only [pkV]
        replace kb := kb.call hb
        replace hBW := hBW.trans (hb.mono hBW.size)
        replace hown := hown.below hb
        replace hp7 := hp7.below hb
        have hs35 := hBW.size
        clear hb hss
        have k5 := Box.new w5 [.bool p.hd.pad, .bool p.hd.ext, .bool p.hd.mark, .int .i64 p.hd.typ, .int .u16 p.hd.seq, .int .u32 p.hd.time, .int .u32 p.hd.ssrc, .slice A5 p.hd.csrc.length a5, .int .u16 p.prof, .slice B5 p.ext.length b5, .slice C5 p.pay.length c5, .int .i64 p.pad] 45
        have hQ5 := below1 w5 (.cells #[.bool p.hd.pad, .bool p.hd.ext, .bool p.hd.mark, .int .i64 p.hd.typ, .int .u16 p.hd.seq, .int .u32 p.hd.time, .int .u32 p.hd.ssrc, .slice A5 p.hd.csrc.length a5, .int .u16 p.prof, .slice B5 p.ext.length b5, .slice C5 p.pay.length c5, .int .i64 p.pad] 45)
        replace kb := kb.alloc (.cells #[.bool p.hd.pad, .bool p.hd.ext, .bool p.hd.mark, .int .i64 p.hd.typ, .int .u16 p.hd.seq, .int .u32 p.hd.time, .int .u32 p.hd.ssrc, .slice A5 p.hd.csrc.length a5, .int .u16 p.prof, .slice B5 p.ext.length b5, .slice C5 p.pay.length c5, .int .i64 p.pad] 45)
        replace hBW := hBW.alloc hBW.size (.cells #[.bool p.hd.pad, .bool p.hd.ext, .bool p.hd.mark, .int .i64 p.hd.typ, .int .u16 p.hd.seq, .int .u32 p.hd.time, .int .u32 p.hd.ssrc, .slice A5 p.hd.csrc.length a5, .int .u16 p.prof, .slice B5 p.ext.length b5, .slice C5 p.pay.length c5, .int .i64 p.pad] 45)
        replace hown := hown.below (below1 w5 (.cells #[.bool p.hd.pad, .bool p.hd.ext, .bool p.hd.mark, .int .i64 p.hd.typ, .int .u16 p.hd.seq, .int .u32 p.hd.time, .int .u32 p.hd.ssrc, .slice A5 p.hd.csrc.length a5, .int .u16 p.prof, .slice B5 p.ext.length b5, .slice C5 p.pay.length c5, .int .i64 p.pad] 45))
        replace hp7 := hp7.alloc (.cells #[.bool p.hd.pad, .bool p.hd.ext, .bool p.hd.mark, .int .i64 p.hd.typ, .int .u16 p.hd.seq, .int .u32 p.hd.time, .int .u32 p.hd.ssrc, .slice A5 p.hd.csrc.length a5, .int .u16 p.prof, .slice B5 p.ext.length b5, .slice C5 p.pay.length c5, .int .i64 p.pad] 45)
        go_wp2_with fail
        refine (HR2.out _ hown.bs).mono ?_
        rintro e w6 ⟨A6, a6, B6, b6, C6, c6, rfl, hin6, hb⟩
        dsimp only [pkV]
        replace kb := kb.call hb
        replace k5 := k5.call hb
        replace hBW := hBW.trans (hb.mono hBW.size)
        replace hQ5 := hQ5.trans (hb.mono hQ5.size)
        replace hp7 := hp7.below hb
        clear hb hown
        have hs56 : w5.heap.size < w6.heap.size := k5.2.2
        have k6 := Box.new w6 [.bool r.hd.pad, .bool r.hd.ext, .bool r.hd.mark, .int .i64 r.hd.typ, .int .u16 r.hd.seq, .int .u32 r.hd.time, .int .u32 r.hd.ssrc, .slice A6 r.hd.csrc.length a6, .int .u16 r.prof, .slice B6 r.ext.length b6, .slice C6 r.pay.length c6, .int .i64 r.pad] 45
        have hQ6 := below1 w6 (.cells #[.bool r.hd.pad, .bool r.hd.ext, .bool r.hd.mark, .int .i64 r.hd.typ, .int .u16 r.hd.seq, .int .u32 r.hd.time, .int .u32 r.hd.ssrc, .slice A6 r.hd.csrc.length a6, .int .u16 r.prof, .slice B6 r.ext.length b6, .slice C6 r.pay.length c6, .int .i64 r.pad] 45)
        replace kb := kb.alloc (.cells #[.bool r.hd.pad, .bool r.hd.ext, .bool r.hd.mark, .int .i64 r.hd.typ, .int .u16 r.hd.seq, .int .u32 r.hd.time, .int .u32 r.hd.ssrc, .slice A6 r.hd.csrc.length a6, .int .u16 r.prof, .slice B6 r.ext.length b6, .slice C6 r.pay.length c6, .int .i64 r.pad] 45)
        replace k5 := k5.alloc (.cells #[.bool r.hd.pad, .bool r.hd.ext, .bool r.hd.mark, .int .i64 r.hd.typ, .int .u16 r.hd.seq, .int .u32 r.hd.time, .int .u32 r.hd.ssrc, .slice A6 r.hd.csrc.length a6, .int .u16 r.prof, .slice B6 r.ext.length b6, .slice C6 r.pay.length c6, .int .i64 r.pad] 45)
        replace hBW := hBW.alloc hBW.size (.cells #[.bool r.hd.pad, .bool r.hd.ext, .bool r.hd.mark, .int .i64 r.hd.typ, .int .u16 r.hd.seq, .int .u32 r.hd.time, .int .u32 r.hd.ssrc, .slice A6 r.hd.csrc.length a6, .int .u16 r.prof, .slice B6 r.ext.length b6, .slice C6 r.pay.length c6, .int .i64 r.pad] 45)
        replace hQ5 := hQ5.alloc hQ5.size (.cells #[.bool r.hd.pad, .bool r.hd.ext, .bool r.hd.mark, .int .i64 r.hd.typ, .int .u16 r.hd.seq, .int .u32 r.hd.time, .int .u32 r.hd.ssrc, .slice A6 r.hd.csrc.length a6, .int .u16 r.prof, .slice B6 r.ext.length b6, .slice C6 r.pay.length c6, .int .i64 r.pad] 45)
        replace hp7 := hp7.alloc (.cells #[.bool r.hd.pad, .bool r.hd.ext, .bool r.hd.mark, .int .i64 r.hd.typ, .int .u16 r.hd.seq, .int .u32 r.hd.time, .int .u32 r.hd.ssrc, .slice A6 r.hd.csrc.length a6, .int .u16 r.prof, .slice B6 r.ext.length b6, .slice C6 r.pay.length c6, .int .i64 r.pad] 45)
        have hp3c := hp3.below hBW
        go_wp2_with fail
        refine (rsamePl_any (some ⟨b, o, none⟩) ln d3 L B7 ln d7 L _ hp3c hp7).mono ?_
        rintro e w8 ⟨rfl, hb⟩
        rw [decide_eq_true (rfl : L = L)]
        replace kb := kb.call hb
        replace k5 := k5.call hb
        replace k6 := k6.call hb
        replace hBW := hBW.trans (hb.mono hBW.size)
        replace hQ5 := hQ5.trans (hb.mono hQ5.size)
        replace hQ6 := hQ6.trans (hb.mono hQ6.size)
        clear hb hp3c hp7
        have q0 := kb.field 0 rfl
        replace hB := hB.trans (hBW.mono hB.size)
        rcases hfs with rfl | rfl | rfl | rfl | rfl | rfl | rfl | rfl | rfl
        · have hbk : Hid ((⟨⟨r.hd.pad, r.hd.ext, p.hd.mark, p.hd.typ, r.hd.seq, r.hd.time, r.hd.ssrc, r.hd.csrc⟩, r.prof, r.ext, r.pay, r.pad⟩ : Pk) = p) := Lib.hid (by have := HBK.out; simpa [backF] using this)
          have kn : Box (((w8.setCell ⟨w6.heap.size, 3, none⟩ (.int .i64 p.hd.typ)).setCell ⟨w6.heap.size, 2, none⟩ (.bool p.hd.mark)).drew) w6.heap.size [.bool r.hd.pad, .bool r.hd.ext, .bool p.hd.mark, .int .i64 p.hd.typ, .int .u16 r.hd.seq, .int .u32 r.hd.time, .int .u32 r.hd.ssrc, .slice A6 r.hd.csrc.length a6, .int .u16 r.prof, .slice B6 r.ext.length b6, .slice C6 r.pay.length c6, .int .i64 r.pad] := ((k6.set 3 (.int .i64 p.hd.typ) (by simp)).set 2 (.bool p.hd.mark) (by simp))
          have kp : Box (((w8.setCell ⟨w6.heap.size, 3, none⟩ (.int .i64 p.hd.typ)).setCell ⟨w6.heap.size, 2, none⟩ (.bool p.hd.mark)).drew) w5.heap.size [.bool p.hd.pad, .bool p.hd.ext, .bool p.hd.mark, .int .i64 p.hd.typ, .int .u16 p.hd.seq, .int .u32 p.hd.time, .int .u32 p.hd.ssrc, .slice A5 p.hd.csrc.length a5, .int .u16 p.prof, .slice B5 p.ext.length b5, .slice C5 p.pay.length c5, .int .i64 p.pad] := ((k5.other (p := ⟨w6.heap.size, 3, none⟩) (.int .i64 p.hd.typ) (by simp; omega)).other (p := ⟨w6.heap.size, 2, none⟩) (.bool p.hd.mark) (by simp; omega))
          have hB9 := ((hB.setCell (p := ⟨w6.heap.size, 3, none⟩) (by simp; omega) (.int .i64 p.hd.typ)).setCell (p := ⟨w6.heap.size, 2, none⟩) (by simp; omega) (.bool p.hd.mark)).drew
          have hp9 := hin5.below ((hQ5.setCell (p := ⟨w6.heap.size, 3, none⟩) (by simp; omega) (.int .i64 p.hd.typ)).setCell (p := ⟨w6.heap.size, 2, none⟩) (by simp; omega) (.bool p.hd.mark)).drew
          have hr9 := hin6.below ((hQ6.setCell (p := ⟨w6.heap.size, 3, none⟩) (by simp) (.int .i64 p.hd.typ)).setCell (p := ⟨w6.heap.size, 2, none⟩) (by simp) (.bool p.hd.mark)).drew
          have g5 := k5.all12.1
          have g6 := k6.all12.1
          have e6 := k6.free12
          have g5n := kp.all12.1
          have g6n := kn.all12.1
          go_wp2_with fail
          go_region
          go_wp2_with fail
          refine (rsameP_told2 p A5 p.hd.csrc.length a5 B5 p.ext.length b5 C5 p.pay.length c5 ⟨⟨r.hd.pad, r.hd.ext, p.hd.mark, p.hd.typ, r.hd.seq, r.hd.time, r.hd.ssrc, r.hd.csrc⟩, r.prof, r.ext, r.pay, r.pad⟩ A6 r.hd.csrc.length a6 B6 r.ext.length b6 C6 r.pay.length c6 _ hp9 ⟨hr9.us, hr9.ext, hr9.pay⟩ true (decide_eq_true hbk.out.symm)).mono ?_
          rintro x w11 ⟨rfl, hb⟩
          clear g5 g6 e6 g5n g6n
          go_wp2_with fail
          go_ret
          exact ⟨rfl, hB9.trans (hb.mono hB9.size)⟩
        · have hbk : Hid ((⟨⟨r.hd.pad, r.hd.ext, r.hd.mark, r.hd.typ, p.hd.seq, r.hd.time, r.hd.ssrc, r.hd.csrc⟩, r.prof, r.ext, r.pay, r.pad⟩ : Pk) = p) := Lib.hid (by have := HBK.out; simpa [backF] using this)
          have kn := k6.set 4 (.int .u16 p.hd.seq) (by simp)
          have kp := k5.other (p := ⟨w6.heap.size, 4, none⟩) (.int .u16 p.hd.seq) (by simp; omega)
          have hB9 := hB.setCell (p := ⟨w6.heap.size, 4, none⟩) (by simp; omega) (.int .u16 p.hd.seq)
          have hp9 := hin5.below (hQ5.setCell (p := ⟨w6.heap.size, 4, none⟩) (by simp; omega) (.int .u16 p.hd.seq))
          have hr9 := hin6.below (hQ6.setCell (p := ⟨w6.heap.size, 4, none⟩) (by simp) (.int .u16 p.hd.seq))
          have g5 := k5.all12.1
          have g6 := k6.all12.1
          have e6 := k6.free12
          have g5n := kp.all12.1
          have g6n := kn.all12.1
          go_wp2_with fail
          refine (rsameP_told2 p A5 p.hd.csrc.length a5 B5 p.ext.length b5 C5 p.pay.length c5 ⟨⟨r.hd.pad, r.hd.ext, r.hd.mark, r.hd.typ, p.hd.seq, r.hd.time, r.hd.ssrc, r.hd.csrc⟩, r.prof, r.ext, r.pay, r.pad⟩ A6 r.hd.csrc.length a6 B6 r.ext.length b6 C6 r.pay.length c6 _ hp9 ⟨hr9.us, hr9.ext, hr9.pay⟩ true (decide_eq_true hbk.out.symm)).mono ?_
          rintro x w11 ⟨rfl, hb⟩
          clear g5 g6 e6 g5n g6n
          go_wp2_with fail
          go_ret
          exact ⟨rfl, hB9.trans (hb.mono hB9.size)⟩
        · have hbk : Hid ((⟨⟨r.hd.pad, r.hd.ext, r.hd.mark, r.hd.typ, r.hd.seq, p.hd.time, r.hd.ssrc, r.hd.csrc⟩, r.prof, r.ext, r.pay, r.pad⟩ : Pk) = p) := Lib.hid (by have := HBK.out; simpa [backF] using this)
          have kn := k6.set 5 (.int .u32 p.hd.time) (by simp)
          have kp := k5.other (p := ⟨w6.heap.size, 5, none⟩) (.int .u32 p.hd.time) (by simp; omega)
          have hB9 := hB.setCell (p := ⟨w6.heap.size, 5, none⟩) (by simp; omega) (.int .u32 p.hd.time)
          have hp9 := hin5.below (hQ5.setCell (p := ⟨w6.heap.size, 5, none⟩) (by simp; omega) (.int .u32 p.hd.time))
          have hr9 := hin6.below (hQ6.setCell (p := ⟨w6.heap.size, 5, none⟩) (by simp) (.int .u32 p.hd.time))
          have g5 := k5.all12.1
          have g6 := k6.all12.1
          have e6 := k6.free12
          have g5n := kp.all12.1
          have g6n := kn.all12.1
          go_wp2_with fail
          refine (rsameP_told2 p A5 p.hd.csrc.length a5 B5 p.ext.length b5 C5 p.pay.length c5 ⟨⟨r.hd.pad, r.hd.ext, r.hd.mark, r.hd.typ, r.hd.seq, p.hd.time, r.hd.ssrc, r.hd.csrc⟩, r.prof, r.ext, r.pay, r.pad⟩ A6 r.hd.csrc.length a6 B6 r.ext.length b6 C6 r.pay.length c6 _ hp9 ⟨hr9.us, hr9.ext, hr9.pay⟩ true (decide_eq_true hbk.out.symm)).mono ?_
          rintro x w11 ⟨rfl, hb⟩
          clear g5 g6 e6 g5n g6n
          go_wp2_with fail
          go_ret
          exact ⟨rfl, hB9.trans (hb.mono hB9.size)⟩
        · have hbk : Hid ((⟨⟨r.hd.pad, r.hd.ext, r.hd.mark, r.hd.typ, r.hd.seq, r.hd.time, p.hd.ssrc, r.hd.csrc⟩, r.prof, r.ext, r.pay, r.pad⟩ : Pk) = p) := Lib.hid (by have := HBK.out; simpa [backF] using this)
          have kn := k6.set 6 (.int .u32 p.hd.ssrc) (by simp)
          have kp := k5.other (p := ⟨w6.heap.size, 6, none⟩) (.int .u32 p.hd.ssrc) (by simp; omega)
          have hB9 := hB.setCell (p := ⟨w6.heap.size, 6, none⟩) (by simp; omega) (.int .u32 p.hd.ssrc)
          have hp9 := hin5.below (hQ5.setCell (p := ⟨w6.heap.size, 6, none⟩) (by simp; omega) (.int .u32 p.hd.ssrc))
          have hr9 := hin6.below (hQ6.setCell (p := ⟨w6.heap.size, 6, none⟩) (by simp) (.int .u32 p.hd.ssrc))
          have g5 := k5.all12.1
          have g6 := k6.all12.1
          have e6 := k6.free12
          have g5n := kp.all12.1
          have g6n := kn.all12.1
          go_wp2_with fail
          refine (rsameP_told2 p A5 p.hd.csrc.length a5 B5 p.ext.length b5 C5 p.pay.length c5 ⟨⟨r.hd.pad, r.hd.ext, r.hd.mark, r.hd.typ, r.hd.seq, r.hd.time, p.hd.ssrc, r.hd.csrc⟩, r.prof, r.ext, r.pay, r.pad⟩ A6 r.hd.csrc.length a6 B6 r.ext.length b6 C6 r.pay.length c6 _ hp9 ⟨hr9.us, hr9.ext, hr9.pay⟩ true (decide_eq_true hbk.out.symm)).mono ?_
          rintro x w11 ⟨rfl, hb⟩
          clear g5 g6 e6 g5n g6n
          go_wp2_with fail
          go_ret
          exact ⟨rfl, hB9.trans (hb.mono hB9.size)⟩
        · have hbk : Hid ((⟨⟨r.hd.pad, r.hd.ext, r.hd.mark, r.hd.typ, r.hd.seq, r.hd.time, r.hd.ssrc, p.hd.csrc⟩, r.prof, r.ext, r.pay, r.pad⟩ : Pk) = p) := Lib.hid (by have := HBK.out; simpa [backF] using this)
          have kn := k6.set 7 (.slice A5 p.hd.csrc.length a5) (by simp)
          have kp := k5.other (p := ⟨w6.heap.size, 7, none⟩) (.slice A5 p.hd.csrc.length a5) (by simp; omega)
          have hB9 := hB.setCell (p := ⟨w6.heap.size, 7, none⟩) (by simp; omega) (.slice A5 p.hd.csrc.length a5)
          have hp9 := hin5.below (hQ5.setCell (p := ⟨w6.heap.size, 7, none⟩) (by simp; omega) (.slice A5 p.hd.csrc.length a5))
          have hr9 := hin6.below (hQ6.setCell (p := ⟨w6.heap.size, 7, none⟩) (by simp) (.slice A5 p.hd.csrc.length a5))
          have g5 := k5.all12.1
          have g6 := k6.all12.1
          have e6 := k6.free12
          have g5n := kp.all12.1
          have g6n := kn.all12.1
          go_wp2_with fail
          refine (rsameP_told2 p A5 p.hd.csrc.length a5 B5 p.ext.length b5 C5 p.pay.length c5 ⟨⟨r.hd.pad, r.hd.ext, r.hd.mark, r.hd.typ, r.hd.seq, r.hd.time, r.hd.ssrc, p.hd.csrc⟩, r.prof, r.ext, r.pay, r.pad⟩ A5 p.hd.csrc.length a5 B6 r.ext.length b6 C6 r.pay.length c6 _ hp9 ⟨hp9.us, hr9.ext, hr9.pay⟩ true (decide_eq_true hbk.out.symm)).mono ?_
          rintro x w11 ⟨rfl, hb⟩
          clear g5 g6 e6 g5n g6n
          go_wp2_with fail
          go_ret
          exact ⟨rfl, hB9.trans (hb.mono hB9.size)⟩
        · have hbk : Hid ((⟨r.hd, p.prof, r.ext, r.pay, r.pad⟩ : Pk) = p) := Lib.hid (by have := HBK.out; simpa [backF] using this)
          have kn := k6.set 8 (.int .u16 p.prof) (by simp)
          have kp := k5.other (p := ⟨w6.heap.size, 8, none⟩) (.int .u16 p.prof) (by simp; omega)
          have hB9 := hB.setCell (p := ⟨w6.heap.size, 8, none⟩) (by simp; omega) (.int .u16 p.prof)
          have hp9 := hin5.below (hQ5.setCell (p := ⟨w6.heap.size, 8, none⟩) (by simp; omega) (.int .u16 p.prof))
          have hr9 := hin6.below (hQ6.setCell (p := ⟨w6.heap.size, 8, none⟩) (by simp) (.int .u16 p.prof))
          have g5 := k5.all12.1
          have g6 := k6.all12.1
          have e6 := k6.free12
          have g5n := kp.all12.1
          have g6n := kn.all12.1
          go_wp2_with fail
          refine (rsameP_told2 p A5 p.hd.csrc.length a5 B5 p.ext.length b5 C5 p.pay.length c5 ⟨r.hd, p.prof, r.ext, r.pay, r.pad⟩ A6 r.hd.csrc.length a6 B6 r.ext.length b6 C6 r.pay.length c6 _ hp9 ⟨hr9.us, hr9.ext, hr9.pay⟩ true (decide_eq_true hbk.out.symm)).mono ?_
          rintro x w11 ⟨rfl, hb⟩
          clear g5 g6 e6 g5n g6n
          go_wp2_with fail
          go_ret
          exact ⟨rfl, hB9.trans (hb.mono hB9.size)⟩
        · have hbk : Hid ((⟨r.hd, r.prof, p.ext, r.pay, r.pad⟩ : Pk) = p) := Lib.hid (by have := HBK.out; simpa [backF] using this)
          have kn := k6.set 9 (.slice B5 p.ext.length b5) (by simp)
          have kp := k5.other (p := ⟨w6.heap.size, 9, none⟩) (.slice B5 p.ext.length b5) (by simp; omega)
          have hB9 := hB.setCell (p := ⟨w6.heap.size, 9, none⟩) (by simp; omega) (.slice B5 p.ext.length b5)
          have hp9 := hin5.below (hQ5.setCell (p := ⟨w6.heap.size, 9, none⟩) (by simp; omega) (.slice B5 p.ext.length b5))
          have hr9 := hin6.below (hQ6.setCell (p := ⟨w6.heap.size, 9, none⟩) (by simp) (.slice B5 p.ext.length b5))
          have g5 := k5.all12.1
          have g6 := k6.all12.1
          have e6 := k6.free12
          have g5n := kp.all12.1
          have g6n := kn.all12.1
          go_wp2_with fail
          refine (rsameP_told2 p A5 p.hd.csrc.length a5 B5 p.ext.length b5 C5 p.pay.length c5 ⟨r.hd, r.prof, p.ext, r.pay, r.pad⟩ A6 r.hd.csrc.length a6 B5 p.ext.length b5 C6 r.pay.length c6 _ hp9 ⟨hr9.us, hp9.ext, hr9.pay⟩ true (decide_eq_true hbk.out.symm)).mono ?_
          rintro x w11 ⟨rfl, hb⟩
          clear g5 g6 e6 g5n g6n
          go_wp2_with fail
          go_ret
          exact ⟨rfl, hB9.trans (hb.mono hB9.size)⟩
        · have hbk : Hid ((⟨r.hd, r.prof, r.ext, p.pay, r.pad⟩ : Pk) = p) := Lib.hid (by have := HBK.out; simpa [backF] using this)
          have kn := k6.set 10 (.slice C5 p.pay.length c5) (by simp)
          have kp := k5.other (p := ⟨w6.heap.size, 10, none⟩) (.slice C5 p.pay.length c5) (by simp; omega)
          have hB9 := hB.setCell (p := ⟨w6.heap.size, 10, none⟩) (by simp; omega) (.slice C5 p.pay.length c5)
          have hp9 := hin5.below (hQ5.setCell (p := ⟨w6.heap.size, 10, none⟩) (by simp; omega) (.slice C5 p.pay.length c5))
          have hr9 := hin6.below (hQ6.setCell (p := ⟨w6.heap.size, 10, none⟩) (by simp) (.slice C5 p.pay.length c5))
          have g5 := k5.all12.1
          have g6 := k6.all12.1
          have e6 := k6.free12
          have g5n := kp.all12.1
          have g6n := kn.all12.1
          go_wp2_with fail
          refine (rsameP_told2 p A5 p.hd.csrc.length a5 B5 p.ext.length b5 C5 p.pay.length c5 ⟨r.hd, r.prof, r.ext, p.pay, r.pad⟩ A6 r.hd.csrc.length a6 B6 r.ext.length b6 C5 p.pay.length c5 _ hp9 ⟨hr9.us, hr9.ext, hp9.pay⟩ true (decide_eq_true hbk.out.symm)).mono ?_
          rintro x w11 ⟨rfl, hb⟩
          clear g5 g6 e6 g5n g6n
          go_wp2_with fail
          go_ret
          exact ⟨rfl, hB9.trans (hb.mono hB9.size)⟩
        · have hbk : Hid ((r : Pk) = p) := Lib.hid (by have := HBK.out; simpa [backF] using this)
          have kn := k6
          have kp := k5
          have hB9 := hB
          have hp9 := hin5.below hQ5
          have hr9 := hin6.below hQ6
          have g5 := k5.all12.1
          have g6 := k6.all12.1
          have e6 := k6.free12
          go_wp2_with fail
          refine (rsameP_told2 p A5 p.hd.csrc.length a5 B5 p.ext.length b5 C5 p.pay.length c5 r A6 r.hd.csrc.length a6 B6 r.ext.length b6 C6 r.pay.length c6 _ hp9 ⟨hr9.us, hr9.ext, hr9.pay⟩ true (decide_eq_true hbk.out.symm)).mono ?_
          rintro x w11 ⟨rfl, hb⟩
          clear g5 g6 e6
          go_wp2_with fail
          go_ret
          exact ⟨rfl, hB9.trans (hb.mono hB9.size)⟩

theorem placeTurns_all (A : Option Addr) (n c : Nat) (s : List UInt8) (nth : Nat) (B : Option Addr) (m d : Nat) (y : List UInt8) (w : World) (hs : Bs w A n c s) (hy : Bs w B m d y) (hnth : nth < 256) :
    Calls Try.prog 5 #[.slice A n c, .int .u8 nth, .slice B m d] w fun e w' => e = .returned (.bool true) ∧ Below w.heap.size w w' := by
  by_cases hb : 3000 < n ∨ 3000 < m
  · have b1 := Nat.le_trans hs.le hs.cap
    have b2 := Nat.le_trans hy.le hy.cap
    unfold maxLen at b1 b2
    exact placeTurns_big KC A n c nth B m d w (by omega) (by omega) hb
  · by_cases h : pErr s = 0
    · obtain ⟨h1, h2⟩ := places_cover h
      have h12 : 12 ≤ s.length := by
        have := (readH_right (pErr_zero h).2.1).2.2.2
        omega
      have hpos : 0 < (placesS s).length := by
        rcases Nat.eq_zero_or_pos (placesS s).length with e | e
        · rw [List.eq_nil_of_length_eq_zero e, totP_nil] at h2
          omega
        · exact e
      have hk := Nat.mod_lt nth hpos
      by_cases hst : (placesS s)[nth % (placesS s).length].f = 1 ∨ (placesS s)[nth % (placesS s).length].f = 8 ∨ (placesS s)[nth % (placesS s).length].f = 12
      · exact placeTurns_stay KC A n c s nth B m d w hs (by omega) (by omega) hnth h hk hst
      · exact placeTurns_turn KC A n c s nth B m d y w hs hy (by omega) (by omega) hnth h hk (fun e => hst (.inl e)) (fun e => hst (.inr (.inl e))) (fun e => hst (.inr (.inr e)))
    · exact placeTurns_none KC A n c s nth B m d w hs (by omega) (by omega) h
end

end Go.Proofs.Ytogjkkhboaflcaa
