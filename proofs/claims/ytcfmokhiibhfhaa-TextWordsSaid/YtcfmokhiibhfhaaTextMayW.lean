/-
  The walk of the statement TextMay, by the contracts of package text's calls.
-/
import Derived.Test.YtcfmokhiibhfhaaTextK
import Derived.Deep.DeepCutAuto
namespace Go.Proofs.Ytcfmokhiibhfhaa
open Go.RowKit

theorem tokenB_all {S : List UInt8} (h : tokenB S = true) : ∀ c ∈ S, tokC' c.toNat := by
  unfold tokenB at h
  rw [Bool.and_eq_true, List.all_eq_true] at h
  intro c hc
  have := h.1 c hc
  unfold tokC at this
  rw [decide_eq_true_eq] at this
  exact this
theorem tokenB_blank (S : List UInt8) : tokenB (S ++ [32]) = false := by
  refine tokenB_no (k := S.length) (by simp) ?_
  have : bt (S ++ [32]) S.length = 32 := by simp [bt, List.getD]
  rw [this]; rfl

set_option maxRecDepth 100000 in
set_option maxHeartbeats 400000 in
theorem textMay_big (K : TextCalls) (a b : ByteArray) (w : World) (hl : 1000 < a.size ∨ 1000 < b.size) (ha : a.size ≤ maxLen) (hb : b.size ≤ maxLen) :
    Calls Try.prog 6 #[.string a, .string b] w fun e w' => e = .returned (.bool true) ∧ Below w.heap.size w w' := by
  unfold maxLen at ha hb
  rcases (show 1000 < a.size ∨ (a.size ≤ 1000 ∧ 1000 < b.size) by omega) with h | ⟨h, h'⟩
  all_goals
    clear hl
    go_enter Try.func6, Try.ntmps6
    go_wp2_with fail
    refine (awake_any K _).mono ?_
    rintro e w1 ⟨rfl, hb1⟩
    go_wp2
    go_ret
    exact ⟨rfl, hb1⟩

set_option maxRecDepth 100000 in
set_option maxHeartbeats 2000000 in
theorem textMay_main (K : TextCalls) (a b : ByteArray) (w : World) (ha : a.size ≤ 1000) (hb : b.size ≤ 1000) :
    Calls Try.prog 6 #[.string a, .string b] w fun e w' => e = .returned (.bool true) ∧ Below w.heap.size w w' := by
  have hab : (a ++ b).size ≤ 2000 := by rw [ByteArray.size_append]; omega
  have MA := Lib.hid (fun w => K.may a w (by omega))
  have MB := Lib.hid (fun w => K.may b w (by omega))
  have MAB := K.may (a ++ b)
  rw [wd_add] at MAB
  replace MAB := Lib.hid (fun w => MAB w (by omega))
  have RA := Lib.hid (fun w => K.runes a w (by omega))
  have RB := Lib.hid (fun w => K.runes b w (by omega))
  have RAB := K.runes (a ++ b)
  rw [wd_add] at RAB
  replace RAB := Lib.hid (fun w => RAB w (by omega))
  have TA := Lib.hid (fun w => K.tok a w (by omega))
  have TX : Hid (∀ w, Calls Try.prog 8 #[.string (a ++ ⟨#[32]⟩)] w (Says w (.bool false))) := Lib.hid (fun w => by
    have := K.tok (a ++ ⟨#[32]⟩) w (by rw [ByteArray.size_append]; show a.size + 1 ≤ _; omega)
    rw [wd_add, show (⟨#[32]⟩ : ByteArray).data.toList = [32] from rfl, tokenB_blank] at this
    exact this)
  have MX : Hid (∀ w, Calls Try.prog 10 #[.string (⟨#[255]⟩ ++ b)] w (Says w (.bool false))) := Lib.hid (fun w => by
    have := K.may (⟨#[255]⟩ ++ b) w (by rw [ByteArray.size_append]; show 1 + b.size ≤ _; omega)
    rw [wd_add, show (⟨#[255]⟩ : ByteArray).data.toList = [255] from rfl, show [255] ++ b.data.toList = 255 :: b.data.toList from rfl, may_ff] at this
    exact this)
  have hAB := may_append a.data.toList b.data.toList
  have hTok := fun h => token_may (tokenB_all (S := a.data.toList) h)
  rw [size_list] at hTok
  have hrl := runesN_le a.data.toList
  rw [size_list] at hrl
  have hrz := runesN_zero a.data.toList
  have hrb := runesN_le b.data.toList
  rw [size_list] at hrb
  generalize mayB (a.data.toList ++ b.data.toList) = mab at *
  generalize runesN (a.data.toList ++ b.data.toList) = rab at *
  generalize mayB a.data.toList = ma at *
  generalize mayB b.data.toList = mb at *
  generalize runesN a.data.toList = ra at *
  generalize runesN b.data.toList = rb at *
  generalize tokenB a.data.toList = ta at *
  have HAB := Lib.hid hAB
  have HTok := Lib.hid hTok
  have Hrz := Lib.hid hrz
  have HK := Lib.hid K
  clear hAB hTok hrz K hab
  go_enter Try.func6, Try.ntmps6
  go_wp2_with fail
  refine (awake_any HK.out _).mono ?_
  rintro e w1 ⟨rfl, hB⟩
  go_upto_region 5 with fail
  go_cut [39] (fun v W => v = .bool false ∧ Below w.heap.size w W)
  case first =>
    cases ma
    · go_wp2_with fail
      refine (MA.out _).mono ?_
      rintro e w' ⟨rfl, hb⟩
      replace hB := hB.trans (hb.mono hB.size)
      clear hb
      go_wp2_with fail
      go_meet
      exact ⟨rfl, hB⟩
    · cases mb
      · go_wp2_with fail
        refine (MA.out _).mono ?_
        rintro e w' ⟨rfl, hb⟩
        replace hB := hB.trans (hb.mono hB.size)
        clear hb
        go_wp2_with fail
        refine (MB.out _).mono ?_
        rintro e w' ⟨rfl, hb⟩
        replace hB := hB.trans (hb.mono hB.size)
        clear hb
        go_wp2_with fail
        go_meet
        exact ⟨rfl, hB⟩
      · obtain ⟨rfl, hr⟩ := HAB.out rfl rfl
        have hr1 : IntKind.i64.wrap ((ra : Int) + rb) = (ra : Int) + rb := IntWalk.i64_in _ (by omega)
        subst hr
        go_wp2_with fail
        refine (MA.out _).mono ?_
        rintro e w' ⟨rfl, hb⟩
        replace hB := hB.trans (hb.mono hB.size)
        clear hb
        go_wp2_with fail
        refine (MB.out _).mono ?_
        rintro e w' ⟨rfl, hb⟩
        replace hB := hB.trans (hb.mono hB.size)
        clear hb
        go_wp2_with fail
        refine (MAB.out _).mono ?_
        rintro e w' ⟨rfl, hb⟩
        replace hB := hB.trans (hb.mono hB.size)
        clear hb
        go_wp2_with fail
        refine (RAB.out _).mono ?_
        rintro e w' ⟨rfl, hb⟩
        replace hB := hB.trans (hb.mono hB.size)
        clear hb
        go_wp2_with fail
        refine (RA.out _).mono ?_
        rintro e w' ⟨rfl, hb⟩
        replace hB := hB.trans (hb.mono hB.size)
        clear hb
        go_wp2_with fail
        refine (RB.out _).mono ?_
        rintro e w' ⟨rfl, hb⟩
        replace hB := hB.trans (hb.mono hB.size)
        clear hb
        go_wp2_with fail
        go_meet
        exact ⟨rfl, hB⟩
  case rest =>
    obtain ⟨rfl, hB⟩ := hcut
    go_upto_region 7 with fail
    go_cut [58] (fun v W => v = .bool false ∧ Below w.heap.size w W)
    case first =>
      cases ta
      · go_wp2_with fail
        refine (TA.out _).mono ?_
        rintro e w' ⟨rfl, hb⟩
        replace hB := hB.trans (hb.mono hB.size)
        clear hb
        go_wp2_with fail
        go_meet
        exact ⟨rfl, hB⟩
      · obtain ⟨rfl, rfl⟩ := HTok.out rfl
        go_wp2_with fail
        refine (TA.out _).mono ?_
        rintro e w' ⟨rfl, hb⟩
        replace hB := hB.trans (hb.mono hB.size)
        clear hb
        go_wp2_with fail
        refine (MA.out _).mono ?_
        rintro e w' ⟨rfl, hb⟩
        replace hB := hB.trans (hb.mono hB.size)
        clear hb
        go_wp2_with fail
        refine (RA.out _).mono ?_
        rintro e w' ⟨rfl, hb⟩
        replace hB := hB.trans (hb.mono hB.size)
        clear hb
        go_wp2_with fail
        refine (TX.out _).mono ?_
        rintro e w' ⟨rfl, hb⟩
        replace hB := hB.trans (hb.mono hB.size)
        clear hb
        go_wp2_with fail
        go_meet
        exact ⟨rfl, hB⟩
    case rest =>
      obtain ⟨rfl, hB⟩ := hcut
      by_cases hz : a.data.toList = []
      · have h0 : ra = 0 := Hrz.out.2 hz
        subst h0
        have e1 : a.toList = [] := by rw [Go.ByteArray.toList_eq]; exact hz
        have e2 : (a.toList == []) = true := by rw [e1]; rfl
        clear hz Hrz
        go_wp2_with fail
        refine (MX.out _).mono ?_
        rintro e w' ⟨rfl, hb⟩
        replace hB := hB.trans (hb.mono hB.size)
        clear hb
        go_wp2_with fail
        refine (RA.out _).mono ?_
        rintro e w' ⟨rfl, hb⟩
        replace hB := hB.trans (hb.mono hB.size)
        clear hb
        go_wp2_with fail
        refine (RA.out _).mono ?_
        rintro e w' ⟨rfl, hb⟩
        replace hB := hB.trans (hb.mono hB.size)
        clear hb
        go_wp2
        go_ret
        exact ⟨rfl, hB⟩
      · have h0 : ((ra : Int) == 0) = false := by rw [beq_eq_false_iff_ne]; exact fun h => hz (Hrz.out.1 (by omega))
        have e1 : ¬ a.toList = [] := by rw [Go.ByteArray.toList_eq]; exact hz
        have e2 : (a.toList == []) = false := by rw [beq_eq_false_iff_ne]; exact e1
        clear hz Hrz
        go_wp2_with fail
        refine (MX.out _).mono ?_
        rintro e w' ⟨rfl, hb⟩
        replace hB := hB.trans (hb.mono hB.size)
        clear hb
        go_wp2_with fail
        refine (RA.out _).mono ?_
        rintro e w' ⟨rfl, hb⟩
        replace hB := hB.trans (hb.mono hB.size)
        clear hb
        go_wp2_with fail
        refine (RA.out _).mono ?_
        rintro e w' ⟨rfl, hb⟩
        replace hB := hB.trans (hb.mono hB.size)
        clear hb
        go_wp2
        go_ret
        exact ⟨rfl, hB⟩

theorem textMay_all (K : TextCalls) (a b : ByteArray) (w : World) (ha : a.size ≤ maxLen) (hb : b.size ≤ maxLen) :
    Calls Try.prog 6 #[.string a, .string b] w fun e w' => e = .returned (.bool true) ∧ Below w.heap.size w w' := by
  by_cases h : 1000 < a.size ∨ 1000 < b.size
  · exact textMay_big K a b w h ha hb
  · exact textMay_main K a b w (by omega) (by omega)

end Go.Proofs.Ytcfmokhiibhfhaa
