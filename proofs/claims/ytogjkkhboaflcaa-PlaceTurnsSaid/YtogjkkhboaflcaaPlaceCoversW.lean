/-
  PlaceCovers, walked under the contracts of package place's calls, and by what packet.Read comes to.
-/
import Derived.Test.YtogjkkhboaflcaaPlaceK
import Derived.Test.YtogjkkhboaflcaaPlaceQ
import Derived.Test.YtogjkkhboaflcaaPackG
namespace Go.Proofs.Ytogjkkhboaflcaa
open Go.RowKit
set_option linter.unusedVariables false
set_option linter.unusedSimpArgs false

theorem placesS_field {s : List UInt8} (h : pErr s = 0) : ∀ p ∈ placesS s, 1 ≤ p.f ∧ p.f ≤ 12 := by
  unfold placesS
  rw [if_pos h]
  unfold placesP
  simp only [List.forall_mem_append]
  refine ⟨by decide, ?_, ?_, ?_, ?_, ?_⟩
  · intro p hp
    unfold csrcPl at hp
    rw [List.mem_map] at hp
    obtain ⟨i, _, rfl⟩ := hp
    exact ⟨by simp, by simp⟩
  · unfold extPl
    split
    · split <;> simp
    · simp
  · unfold payPl
    split <;> simp
  · unfold fillPl
    split <;> simp
  · unfold countPl
    split <;> simp
theorem placesS_fits {s : List UInt8} (hl : s.length ≤ 70000) (h : pErr s = 0) : ∀ p ∈ placesS s, fitsPl p := by
  obtain ⟨h1, h2⟩ := places_cover h
  intro p hp
  obtain ⟨k, hk, rfl⟩ := List.mem_iff_getElem.1 hp
  obtain ⟨g1, g2, g3, g4⟩ := chain_at h1 hk
  have g5 : 0 ≤ totP ((placesS s).take k) := by
    have e : placesS s = (placesS s).take k ++ (placesS s).drop k := (List.take_append_drop k _).symm
    rw [e, chainP_append] at h1
    exact chainP_tot h1.1
  refine ⟨?_, ?_, ?_⟩
  · have this := placesS_field h
    have := this _ (List.getElem_mem hk)
    unfold fitsI; omega
  · unfold fitsI; omega
  · unfold fitsI; omega

section
variable (KC : PlaceCalls)
include KC
set_option maxRecDepth 100000 in
set_option maxHeartbeats 2000000 in
theorem placeCovers_none (A : Option Addr) (n c : Nat) (s : List UInt8) (w : World) (hs : Bs w A n c s) (hn : n ≤ 70000) (h : pErr s ≠ 0) :
    Calls Try.prog 4 #[.slice A n c] w fun e w' => e = .returned (.bool true) ∧ Below w.heap.size w w' := by
  have hL : placesS s = [] := if_neg h
  have hrd : readP s = zeroP := if_neg h
  have HO := Lib.hid (fun W hs => of_told KC A n c s W hs (by omega) [] 0 _ hL rfl rfl)
  have HR := Lib.hid (fun W hs => pread_any A n c s W hs (by omega))
  rw [hrd] at HR
  have hz : ((pErr s : Int) != 0) = true := by rw [bne_iff_ne]; omega
  generalize pErr s = er at *
  have k70 : ¬ (70000 : Int) < n := by omega
  clear hL hrd h
  go_enter Try.func4, Try.ntmps4
  go_wp2_with fail
  refine (awake_any KC _).mono ?_
  rintro e w2 ⟨rfl, hB⟩
  go_wp2_with fail
  refine (HO.out _ (hs.below hB)).mono ?_
  rintro e w3 ⟨B3, d3, rfl, hp3, hb⟩
  replace hB := hB.trans (hb.mono hB.size)
  clear hb hp3
  go_wp2_with fail
  refine (HR.out _ (hs.below hB)).mono ?_
  rintro e w4 ⟨A1, c1, B1, cb1, C1, cc1, rfl, hin, hb⟩
  dsimp only [pkV, zeroP, zeroH, List.length_nil] at hin ⊢
  replace hB := hB.trans (hb.mono hB.size)
  replace hB := hB.alloc hB.size (.cells #[.bool false, .bool false, .bool false, .int .i64 0, .int .u16 0, .int .u32 0, .int .u32 0, .slice A1 0 c1, .int .u16 0, .slice B1 0 cb1, .slice C1 0 cc1, .int .i64 0] 45)
  clear hb hin
  go_wp2_with fail
  go_ret
  exact ⟨by first | rfl | simp, hB⟩

set_option maxRecDepth 100000 in
set_option maxHeartbeats 4000000 in
theorem placeCovers_yes (A : Option Addr) (n c : Nat) (s : List UInt8) (w : World) (hs : Bs w A n c s) (hn : n ≤ 70000) (h : pErr s = 0) :
    Calls Try.prog 4 #[.slice A n c] w fun e w' => e = .returned (.bool true) ∧ Below w.heap.size w w' := by
  have hfit := placesS_fits (by rw [hs.len]; exact hn) h
  obtain ⟨hch, htot⟩ := places_cover h
  rw [hs.len] at htot
  obtain ⟨L, hL⟩ : ∃ L, placesS s = L := ⟨_, rfl⟩
  rw [hL] at hfit hch htot
  have HO := Lib.hid (fun W hs => of_told KC A n c s W hs (by omega) L L.length 0 hL rfl (by rw [h]; rfl))
  have HR := Lib.hid (fun W hs => pread_any A n c s W hs (by omega))
  rw [h] at HR
  have HB := Lib.hid (fun (x : Int) => owner_behind (x := x) hch)
  have HL := Lib.hid (fun (x : Int) => owner_below (x := x) hch)
  have HA := Lib.hid (fun k => chain_at (k := k) hch)
  have HS := Lib.hid (fun k => totP_succ (l := L) (k := k))
  have HTK := Lib.hid (fun k => chain_take hch k)
  have HT := Lib.hid htot
  have k70 : ¬ (70000 : Int) < n := by omega
  have HOW := Lib.hid (fun B ln d x W hp hl hx z hz => owner_told KC B ln d L x W hp hl hfit hx z hz)
  have hlnb := chain_len hch
  rw [htot] at hlnb
  obtain ⟨ln, hln⟩ : ∃ ln, L.length = ln := ⟨_, rfl⟩
  rw [hln] at HO hlnb
  have HLN := Lib.hid hln
  clear hL h hch htot hfit hln
  go_enter Try.func4, Try.ntmps4
  go_wp2_with fail
  refine (awake_any KC _).mono ?_
  rintro e w2 ⟨rfl, hB⟩
  go_wp2_with fail
  refine (HO.out _ (hs.below hB)).mono ?_
  rintro e w3 ⟨B3, d3, rfl, hp, hb⟩
  replace hB := hB.trans (hb.mono hB.size)
  clear hb
  go_wp2_with fail
  refine (HR.out _ (hs.below hB)).mono ?_
  rintro e w4 ⟨A1, c1, B1, cb1, C1, cc1, rfl, hin, hb⟩
  generalize readP s = r at *
  dsimp only [pkV] at hin ⊢
  replace hp := (hp.below hb).alloc (.cells #[.bool r.hd.pad, .bool r.hd.ext, .bool r.hd.mark, .int .i64 r.hd.typ, .int .u16 r.hd.seq, .int .u32 r.hd.time, .int .u32 r.hd.ssrc, .slice A1 r.hd.csrc.length c1, .int .u16 r.prof, .slice B1 r.ext.length cb1, .slice C1 r.pay.length cc1, .int .i64 r.pad] 45)
  replace hB := hB.trans (hb.mono hB.size)
  replace hB := hB.alloc hB.size (.cells #[.bool r.hd.pad, .bool r.hd.ext, .bool r.hd.mark, .int .i64 r.hd.typ, .int .u16 r.hd.seq, .int .u32 r.hd.time, .int .u32 r.hd.ssrc, .slice A1 r.hd.csrc.length c1, .int .u16 r.prof, .slice B1 r.ext.length cb1, .slice C1 r.pay.length cc1, .int .i64 r.pad] 45)
  clear hb hin HO HR
  go_wp2_with fail
  go_loopw [7, 8] (fun a i W => ∃ k : Nat, k ≤ ln ∧ a = .int .i64 (totP (L.take k)) ∧ i = .int .i64 k ∧ Pls W B3 ln d3 L ∧ Below w.heap.size w W) (fun _ i _ => ln - (intOf i).toNat)
  case atStart => exact ⟨0, Nat.zero_le _, by simp [totP_nil], rfl, hp, hB⟩
  case round =>
    clear hp hB
    obtain ⟨k, hk, rfl, rfl, hp, hB⟩ := hrel
    have hTk := HTK.out k
    by_cases hkn : k < ln
    · obtain ⟨b, o, rfl, hlt, hc⟩ := hp.at_ (by omega)
      have hkL : k < L.length := by rw [HLN.out]; exact hkn
      obtain ⟨q0, q1, q2⟩ := hc k hkL
      obtain ⟨g1, g2, g3, g4⟩ := HA.out k hkL
      have hsu := Lib.hid (HS.out k hkL)
      have hkn2 : (k : Int) < ln := by omega
      rw [HT.out] at g3
      rw [g1] at q1
      rw [Int.zero_add] at g3 g4 q1
      clear hc g1
      obtain ⟨t, ht⟩ : ∃ t, totP (L.take k) = t := ⟨_, rfl⟩
      rw [ht] at g3 g4 q1 hsu hTk
      rw [ht]
      clear ht
      have hfi : fitsI t := by unfold fitsI; omega
      have HO2 := Lib.hid (fun W hp => HOW.out (some ⟨b, o, none⟩) ln d3 t W hp (by omega) hfi _ g4)
      generalize L[k]'hkL = p at *
      obtain ⟨f, a, z⟩ := p
      (try simp only at q0 q1 q2 hsu g2 g3 HO2)
      clear g4 hfi
      have d1 : decide (z < 1) = false := decide_eq_false (by omega)
      have d2 : decide ((n : Int) - t < z) = false := decide_eq_false (by omega)
      have w1 : IntKind.i64.wrap ((n : Int) - t) = (n : Int) - t := IntWalk.i64_in _ (by omega)
      have w2' : IntKind.i64.wrap (t + z) = t + z := IntWalk.i64_in _ (by omega)
      go_wp2_with fail
      go_region_held3 (fun W => W.cell? ⟨b, o + k * 3, none⟩ = some (.int .i64 f) ∧ W.cell? ⟨b, o + k * 3 + 1, none⟩ = some (.int .i64 t) ∧ W.cell? ⟨b, o + k * 3 + 2, none⟩ = some (.int .i64 z))
        (go_keep)
        (first
          | (go_at_call 12; refine (HO2.out _ hp.drew).mono ?_; rintro x wO ⟨rfl, hbO⟩; have y0 := (hbO.cell (p := ⟨b, o + k * 3, none⟩) hlt).trans q0; have y1 := (hbO.cell (p := ⟨b, o + k * 3 + 1, none⟩) hlt).trans q1; have y2 := (hbO.cell (p := ⟨b, o + k * 3 + 2, none⟩) hlt).trans q2; have hpO := Pls.below hp.drew hbO))
      all_goals
        go_wp2_with fail
        go_roundw
        case rel =>
          (repeat apply Exists.intro)
          exact ⟨⟨k + 1, by omega, by rw [hsu.out], by go_num, hpO, hB.trans (((Below.refl _ _).drew.trans hbO).mono hB.size)⟩, rfl⟩
        case measure => simp [intOf]; omega
    · obtain rfl : k = ln := by omega
      have hkn2 : ¬ (k : Int) < k := by omega
      have e1 : totP (L.take k) = n := by rw [List.take_of_length_le (by rw [HLN.out]; omega)]; exact HT.out
      rw [e1]
      have z1 : ownerP L (n : Int) = -1 := HB.out _ (by rw [HT.out]; omega)
      have z2 : ownerP L (-1) = -1 := HL.out _ (by omega)
      have HO2 := Lib.hid (fun W hp => HOW.out B3 k d3 (n : Int) W hp (by omega) (by unfold fitsI; omega) _ z1)
      have HO3 := Lib.hid (fun W hp => HOW.out B3 k d3 (-1) W hp (by omega) (by unfold fitsI; omega) _ z2)
      clear e1 z1 z2 hTk hkn
      go_wp2_with fail
      refine (HO2.out _ hp).mono ?_
      rintro e w5 ⟨rfl, hb⟩
      replace hB := hB.trans (hb.mono hB.size)
      replace hp := hp.below hb
      clear hb
      go_wp2_with fail
      refine (HO3.out _ hp).mono ?_
      rintro e w6 ⟨rfl, hb⟩
      replace hB := hB.trans (hb.mono hB.size)
      go_wp2_with fail
      go_ret
      exact ⟨by first | rfl | simp, hB⟩

theorem placeCovers_big (A : Option Addr) (n c : Nat) (w : World) (h1 : (n : Int) ≤ 9223372036854775807) (h : 70000 < n) :
    Calls Try.prog 4 #[.slice A n c] w fun e w' => e = .returned (.bool true) ∧ Below w.heap.size w w' := by
  have g1 : (70000 : Int) < n := by omega
  go_enter Try.func4, Try.ntmps4
  go_wp2_with fail
  refine (awake_any KC _).mono ?_
  rintro e w2 ⟨rfl, hB⟩
  go_wp2_with fail
  go_ret
  exact ⟨rfl, hB⟩
theorem placeCovers_all (A : Option Addr) (n c : Nat) (s : List UInt8) (w : World) (hs : Bs w A n c s) :
    Calls Try.prog 4 #[.slice A n c] w fun e w' => e = .returned (.bool true) ∧ Below w.heap.size w w' := by
  rcases Nat.lt_or_ge 70000 n with g | g
  · have b1 := Nat.le_trans hs.le hs.cap
    unfold maxLen at b1
    exact placeCovers_big KC A n c w (by omega) g
  · by_cases h : pErr s = 0
    · exact placeCovers_yes KC A n c s w hs g h
    · exact placeCovers_none KC A n c s w hs g h
end

end Go.Proofs.Ytogjkkhboaflcaa
