/-
  What the functions of package place come to: Of; and all of the contracts that layer 7 leans on.
-/
import Derived.Test.YtogjkkhboaflcaaPlaceG
import Derived.Test.YtogjkkhboaflcaaPlaceI
import Derived.Test.YtogjkkhboaflcaaPlaceK
import Derived.Test.YtogjkkhboaflcaaPackG
namespace Go.Proofs.Ytogjkkhboaflcaa
open Go.RowKit
set_option linter.unusedVariables false
set_option linter.unusedSimpArgs false

theorem endP_csrc (j : Nat) : endP (basePl ++ csrcPl j) = 12 + 4 * (j : Int) := by
  cases j with
  | zero => rfl
  | succ j =>
    rw [csrcPl_succ, ← List.append_assoc, endP_snoc]
    show 12 + 4 * (j : Int) + 4 = 12 + 4 * ((j + 1 : Nat) : Int)
    omega
theorem endP_ext (ex : Bool) (n e : Nat) : endP ((basePl ++ csrcPl n) ++ extPl ex n e) = atX ex n e := by
  unfold extPl atX
  cases ex
  · simp [endP_csrc]
  · by_cases h : 0 < e
    · rw [if_pos rfl, if_pos h, if_pos rfl, ← List.append_assoc, endP_snoc]
      show 12 + 4 * (n : Int) + 4 + e = _
      omega
    · rw [if_pos rfl, if_neg h, if_pos rfl, List.append_nil, show ∀ (L : List Pl) (p q : Pl), L ++ [p, q] = (L ++ [p]) ++ [q] from fun L p q => by simp, endP_snoc]
      show 12 + 4 * (n : Int) + 2 + 2 = _
      omega
theorem endP_pay (L : List Pl) (y : Nat) : endP (L ++ payPl (endP L) y) = endP L + y := by
  unfold payPl
  split
  · rw [endP_snoc]
  · rw [List.append_nil]; omega
theorem beh_csrc (j : Nat) : behP (basePl ++ csrcPl j) 6 [4] = basePl ++ csrcPl (j + 1) := by
  show addP (basePl ++ csrcPl j) 6 4 = _
  unfold addP
  rw [if_pos (by omega), endP_csrc, csrcPl_succ, List.append_assoc]
theorem beh_ext (n e : Nat) : behP (basePl ++ csrcPl n) 7 [2, 2, (e : Int)] = (basePl ++ csrcPl n) ++ extPl true n e := by
  show addP (addP (addP (basePl ++ csrcPl n) 7 2) (7 + 1) 2) (7 + 1 + 1) (e : Int) = _
  have h1 : addP (basePl ++ csrcPl n) 7 2 = (basePl ++ csrcPl n) ++ [⟨7, 12 + 4 * (n : Int), 2⟩] := by unfold addP; rw [if_pos (by omega), endP_csrc]
  have h2 : addP ((basePl ++ csrcPl n) ++ [⟨7, 12 + 4 * (n : Int), 2⟩]) (7 + 1) 2 = (basePl ++ csrcPl n) ++ [⟨7, 12 + 4 * (n : Int), 2⟩, ⟨8, 12 + 4 * (n : Int) + 2, 2⟩] := by
    unfold addP
    rw [if_pos (by omega), endP_snoc, List.append_assoc]
    rfl
  rw [h1, h2]
  unfold addP extPl
  rw [if_pos rfl]
  by_cases h : 0 < e
  · rw [if_pos (by omega), if_pos h, show ∀ (L : List Pl) (p q : Pl), L ++ [p, q] = (L ++ [p]) ++ [q] from fun L p q => by simp, endP_snoc]
    simp only [List.append_assoc, List.cons_append, List.nil_append]
    show _ ++ _ = _ ++ _
    congr 1
  · rw [if_neg (by omega), if_neg h, List.append_nil]
theorem beh_pay (L : List Pl) (y : Nat) : behP L 10 [(y : Int)] = L ++ payPl (endP L) y := by
  show addP L 10 (y : Int) = _
  unfold addP payPl
  by_cases h : 0 < y
  · rw [if_pos (by omega), if_pos h]
  · rw [if_neg (by omega), if_neg h, List.append_nil]
theorem beh_fill (L : List Pl) (k : Int) (l : Nat) (hk : 1 ≤ k) (hl : endP L + k = l) : behP L 11 [k - 1, 1] = L ++ (fillPl (endP L) k ++ countPl l k) := by
  show addP (addP L 11 (k - 1)) (11 + 1) 1 = _
  have e : endP (addP L 11 (k - 1)) = (l : Int) - 1 := by
    rw [endP_addP]
    split <;> omega
  have h2 : addP (addP L 11 (k - 1)) (11 + 1) 1 = addP L 11 (k - 1) ++ countPl l k := by
    rw [show ∀ (X : List Pl), addP X (11 + 1) 1 = X ++ [⟨12, endP X, 1⟩] from fun X => by unfold addP; rw [if_pos (by omega)]; rfl, e]
    unfold countPl
    rw [if_pos (by omega)]
  rw [h2, ← List.append_assoc]
  congr 1
  unfold addP fillPl
  by_cases h : 1 < k
  · rw [if_pos (by omega), if_pos h]
  · rw [if_neg (by omega), if_neg h, List.append_nil]

theorem sl_ints (W : World) (zs : List Int) (n b : Nat) (hn : zs.length = n) (h : n ≤ 8) (hb : W.heap.size = b) : Sl (W.alloc (.cells (zs.map (Value.int .i64)).toArray 3)) (some ⟨b, 0, none⟩) n n (zs.map (Value.int .i64)) := by
  have := Sl.lit W (zs.map (Value.int .i64)) 3 (by simp [maxLen]; omega)
  rwa [List.length_map, hn, hb] at this

def OfE (w2 : World) (bx : List Value) (M : Nat) (L : List Pl) (v : Value) (W : World) : Prop :=
  ∃ (m : Nat) (B : Option Addr) (d : Nat), m ≤ M ∧ v = .slice B m d ∧ OwnPl W (w2.heap.size + 1) B m d L ∧ Box W w2.heap.size bx ∧ Below w2.heap.size w2 W
def OfL (w2 : World) (bx : List Value) (N : Nat) (v i : Value) (W : World) : Prop :=
  ∃ j : Nat, j ≤ N ∧ i = .int .i64 j ∧ OfE w2 bx (5 + j) (basePl ++ csrcPl j) v W

theorem plof_no (A : Option Addr) (l c : Nat) (s : List UInt8) (w : World) (hs : Bs w A l c s) (hl : l ≤ 140737488355328) (h : pErr s ≠ 0) :
    Calls Try.prog 7 #[.slice A l c] w (GivesPl w [] (pErr s)) := by
  have HR := Lib.hid (fun W hs => pread_any A l c s W hs hl)
  have hz : ((pErr s : Int) != 0) = true := by rw [bne_iff_ne]; omega
  generalize pErr s = er at *
  clear h
  go_enter Try.func7, Try.ntmps7
  go_wp2_with fail
  refine (HR.out _ hs).mono ?_
  rintro x w2 ⟨A1, c1, B1, cb1, C1, cc1, rfl, hin, hb⟩
  dsimp only [pkV] at hin ⊢
  go_wp2_with fail
  go_ret2
  exact ⟨none, 0, 0, rfl, Pls.nil _, hb.alloc hb.size _⟩

/-- One call of behind: what stood is as it was, the list is longer. -/
theorem beh_step {w2 W : World} {bx : List Value} {M : Nat} {L : List Pl} {m d : Nat} {B : Option Addr} (hown : OwnPl W (w2.heap.size + 1) B m d L) (kb : Box W w2.heap.size bx) (hB : Below w2.heap.size w2 W) (zs : List Int) (n b : Nat) (f : Int)
    (hn : zs.length = n) (h8 : n ≤ 8) (hb : W.heap.size = b) (hm : m ≤ 1000) (h0 : 0 ≤ endP L) (h1 : endP L ≤ 10000000) (hzs : ∀ z ∈ zs, -10 ≤ z ∧ z ≤ 1000000) (hf : 0 ≤ f ∧ f ≤ 100) (L2 : List Pl) (hL : behP L f zs = L2) (hM : m + n ≤ M) :
    Calls Try.prog 16 #[.slice B m d, .int .i64 f, .slice (some ⟨b, 0, none⟩) n n] (W.alloc (.cells (zs.map (Value.int .i64)).toArray 3)) fun x w' => ∃ v, x = .returned v ∧ OfE w2 bx M L2 v w' := by
  subst hL
  have hks := kb.2.2
  have hsz := hB.size
  refine (behind_any (w2.heap.size + 1) m d n n B _ L f zs _ (rowK_alloc hown _) (by simp; omega) (sl_ints W zs n b hn h8 hb) (fun _ e => by
    have := rowV_lt hown b e.symm
    omega) hm h8 h0 h1 hzs hf).mono ?_
  rintro x w' ⟨B', q, e, rfl, hq, ho, hb2⟩
  exact ⟨_, rfl, q, B', e, by omega, rfl, ho, (kb.alloc _).below hb2 (by omega), (hB.alloc hB.size _).trans (hb2.mono (by omega))⟩

set_option maxRecDepth 100000 in
set_option maxHeartbeats 4000000 in
theorem plof_yes (A : Option Addr) (l c : Nat) (s : List UInt8) (w : World) (hs : Bs w A l c s) (hl : l ≤ 65535) (h : pErr s = 0) :
    Calls Try.prog 7 #[.slice A l c] w (GivesPl w (placesP (packOf s) s.length) 0) := by
  have HR := Lib.hid (fun W hs => pread_any A l c s W hs (by omega))
  have hb := packOf_size h
  have hpr := packOf_rightC h
  have hcl : (packOf s).hd.csrc.length < 16 := by
    have q := (rightP_parts hpr.1).1
    unfold rightH at q
    rw [decide_eq_true_eq] at q
    exact q.2.2
  have hel : (packOf s).ext.length ≤ 262140 ∧ (packOf s).pay.length ≤ 65535 := by
    obtain ⟨_, q2, q3, _⟩ := rightP_parts hpr.1
    exact ⟨q3, q2⟩
  have hk1 : (packOf s).hd.pad = true → 1 ≤ (packOf s).pad ∧ (packOf s).pad ≤ 255 := (rightP_parts hpr.1).2.2.2.2.2.1
  have hk0 : (packOf s).hd.pad = false → (packOf s).pad = 0 := (rightP_parts hpr.1).2.2.2.2.2.2.1
  have hex : (packOf s).hd.ext = false → (packOf s).ext.length = 0 := fun e => ((rightP_parts hpr.1).2.2.2.2.1 e).2
  have hlen : atX (packOf s).hd.ext (packOf s).hd.csrc.length (packOf s).ext.length + (packOf s).pay.length + (packOf s).pad = l := by
    rw [← hs.len, ← hb]
    unfold atX sizeP
    cases hp : (packOf s).hd.pad
    · rw [hk0 hp]; simp; omega
    · simp; omega
  rw [readP_of h, h] at HR
  rw [hs.len]
  clear h hb hpr
  generalize packOf s = p at *
  obtain ⟨⟨pd, ex, mk, t, q, ti, ss, lst⟩, pr, E, r, k⟩ := p
  unfold placesP
  simp only at HR hcl hk0 hk1 hel hlen hex ⊢
  obtain ⟨he0, hy0⟩ := hel
  obtain ⟨n, hn⟩ : ∃ n, lst.length = n := ⟨_, rfl⟩
  obtain ⟨e, he⟩ : ∃ e, E.length = e := ⟨_, rfl⟩
  obtain ⟨y, hy⟩ : ∃ y, r.length = y := ⟨_, rfl⟩
  rw [hn] at hcl
  rw [he] at he0
  rw [hy] at hy0
  rw [hn, he, hy] at hlen
  rw [hn, he, hy]
  clear hex
  obtain ⟨Z, hZ⟩ : ∃ Z, basePl ++ (csrcPl n ++ (extPl ex n e ++ (payPl (atX ex n e) y ++ (fillPl (atX ex n e + y) k ++ countPl l k)))) = Z := ⟨_, rfl⟩
  rw [hZ]
  have HZ := Lib.hid hZ
  have HN := Lib.hid (And.intro hn (And.intro he hy))
  have HL := Lib.hid hlen
  have HK := Lib.hid (And.intro hk0 hk1)
  clear hZ hn he hy hlen hk0 hk1
  go_enter Try.func7, Try.ntmps7
  go_wp2_with fail
  refine (HR.out _ hs).mono ?_
  rintro x w2 ⟨A1, c1, B1, cb1, C1, cc1, rfl, hin, hb⟩
  dsimp only [pkV] at hin ⊢
  rw [HN.out.1, HN.out.2.1, HN.out.2.2]
  clear hin HN HR
  obtain ⟨bx, hbx⟩ : ∃ bx : List Value, bx = [.bool pd, .bool ex, .bool mk, .int .i64 t, .int .u16 q, .int .u32 ti, .int .u32 ss, .slice A1 n c1, .int .u16 pr, .slice B1 e cb1, .slice C1 y cc1, .int .i64 k] := ⟨_, rfl⟩
  have k1 := Box.new w2 [.bool pd, .bool ex, .bool mk, .int .i64 t, .int .u16 q, .int .u32 ti, .int .u32 ss, .slice A1 n c1, .int .u16 pr, .slice B1 e cb1, .slice C1 y cc1, .int .i64 k] 45
  have hB := below1 w2 (.cells #[.bool pd, .bool ex, .bool mk, .int .i64 t, .int .u16 q, .int .u32 ti, .int .u32 ss, .slice A1 n c1, .int .u16 pr, .slice B1 e cb1, .slice C1 y cc1, .int .i64 k] 45)
  have kx : Box (w2.alloc (.cells #[.bool pd, .bool ex, .bool mk, .int .i64 t, .int .u16 q, .int .u32 ti, .int .u32 ss, .slice A1 n c1, .int .u16 pr, .slice B1 e cb1, .slice C1 y cc1, .int .i64 k] 45)) w2.heap.size bx := by rw [hbx]; exact k1
  clear k1
  have g0 : bx[0]? = some (.bool pd) := by rw [hbx]; rfl
  have g1 : bx[1]? = some (.bool ex) := by rw [hbx]; rfl
  have g7 : bx[7]? = some (.slice A1 n c1) := by rw [hbx]; rfl
  have g9 : bx[9]? = some (.slice B1 e cb1) := by rw [hbx]; rfl
  have g10 : bx[10]? = some (.slice C1 y cc1) := by rw [hbx]; rfl
  have g11 : bx[11]? = some (.int .i64 k) := by rw [hbx]; rfl
  clear hbx
  go_wp2_with fail
  refine (beh_step (M := 5) (L := []) (m := 0) (d := 0) (B := none) (OwnPl.nil _ _) kx hB [1, 1, 2, 4, 4] 5 (w2.heap.size + 1) 1 rfl (by omega) (by simp) (by omega) (by simp [endP]) (by simp [endP]) (by simp) (by omega) (basePl ++ csrcPl 0) rfl (by omega)).mono ?_
  rintro x w3 ⟨v, rfl, m, B, d, hm, rfl, hown, kb, hBj⟩
  clear kx hB
  have f7 := kb.field 7 g7
  go_wp2_with fail
  clear f7
  go_loopw [6, 21] (fun v i W => OfL w2 bx n v i W) (fun _ i _ => n - (intOf i).toNat)
  case atStart => exact ⟨0, Nat.zero_le _, rfl, m, B, d, hm, rfl, hown, kb, hBj⟩
  case round =>
    clear hown kb hBj hm
    obtain ⟨j, hj, rfl, m, B, d, hm, rfl, hown, kb, hBj⟩ := hrel
    by_cases hjn : j < n
    · have hjn2 : (j : Int) < n := by omega
      have hm1 := Lib.hid hm
      clear hm
      go_wp2_with fail
      refine (beh_step (M := 5 + (j + 1)) hown kb hBj [4] 1 _ 6 rfl (by omega) rfl (by have := hm1.out; omega) (by rw [endP_csrc]; omega) (by rw [endP_csrc]; omega) (by simp) (by omega) (basePl ++ csrcPl (j + 1)) (beh_csrc j) (by have := hm1.out; omega)).mono ?_
      rintro x w4 ⟨v, rfl, m', B', d', hm', rfl, hown', kb', hBj'⟩
      go_wp2_with fail
      go_roundw
      case rel => exact ⟨j + 1, by omega, by go_num, m', B', d', hm', rfl, hown', kb', hBj'⟩
      case measure => simp [intOf]; omega
    · obtain rfl : j = n := by omega
      have hjn2 : ¬ (j : Int) < j := by omega
      have f1 := kb.field 1 g1
      have hmm := Lib.hid hm
      clear hm hj hjn
      go_upto_if 29 with fail
      go_cut [6] (fun v W => OfE w2 bx 25 ((basePl ++ csrcPl j) ++ extPl ex j e) v W)
      case first =>
        cases ex with
        | false =>
          go_wp2_with fail
          go_meet
          exact ⟨m, B, d, by have := hmm.out; omega, rfl, by simpa [extPl] using hown, kb, hBj⟩
        | true =>
          have f9 := kb.field 9 g9
          go_wp2_with fail
          refine (beh_step (M := 25) hown kb hBj [2, 2, (e : Int)] 3 _ 7 rfl (by omega) rfl (by have := hmm.out; omega) (by rw [endP_csrc]; omega) (by rw [endP_csrc]; omega) (by simp; omega) (by omega) _ (beh_ext j e) (by have := hmm.out; omega)).mono ?_
          rintro x w4 ⟨v, rfl, m', B', d', hm', rfl, hown', kb', hBj'⟩
          go_wp2_with fail
          go_meet
          exact ⟨m', B', d', hm', rfl, hown', kb', hBj'⟩
      case rest =>
        obtain ⟨m1, B1', d1, hm1', rfl, hown1, kb1, hB1⟩ := hcut
        clear hown kb hBj f1
        have hz1 : 12 ≤ atX ex j e ∧ atX ex j e ≤ 400000 := by unfold atX; split <;> omega
        have f10 := kb1.field 10 g10
        go_wp2_with fail
        refine (beh_step (M := 26) hown1 kb1 hB1 [(y : Int)] 1 _ 10 rfl (by omega) rfl (by omega) (by rw [endP_ext]; omega) (by rw [endP_ext]; omega) (by simp; omega) (by omega) _ (beh_pay _ y) (by omega)).mono ?_
        rintro x w4 ⟨v, rfl, m2, B2', d2, hm2, rfl, hown2, kb2, hB2⟩
        rw [endP_ext] at hown2
        clear hown1 kb1 hB1 f10
        have f0 := kb2.field 0 g0
        have f11 := kb2.field 11 g11
        cases pd with
        | false =>
          have hk := HK.out.1 rfl
          subst hk
          go_wp2_with fail
          go_ret2
          refine ⟨B2', m2, d2, rfl, ?_, hb.trans (hB2.mono hb.size)⟩
          rw [← HZ.out]
          have := hown2.pls
          simpa [fillPl, countPl, List.append_assoc] using this
        | true =>
          obtain ⟨hk1, hk2⟩ := HK.out.2 rfl
          go_wp2_with fail
          have hE : endP ((basePl ++ csrcPl j) ++ extPl ex j e ++ payPl (atX ex j e) y) = atX ex j e + y := by
            have := endP_pay ((basePl ++ csrcPl j) ++ extPl ex j e) y
            rwa [endP_ext] at this
          refine (beh_step (M := 28) hown2 kb2 hB2 [k - 1, 1] 2 _ 11 rfl (by omega) rfl (by omega) (by rw [hE]; omega) (by rw [hE]; omega) (by simp; omega) (by omega) _ (beh_fill _ k l hk1 (by rw [hE]; exact HL.out)) (by omega)).mono ?_
          rintro x w5 ⟨v, rfl, m3, B3', d3, hm3, rfl, hown3, kb3, hB3⟩
          rw [hE] at hown3
          clear hE
          go_wp2_with fail
          go_ret2
          refine ⟨B3', m3, d3, rfl, ?_, hb.trans (hB3.mono hb.size)⟩
          rw [← HZ.out]
          have := hown3.pls
          simpa [List.append_assoc] using this

theorem plof_any (A : Option Addr) (l c : Nat) (s : List UInt8) (w : World) (hs : Bs w A l c s) (hl : l ≤ 140737488355328) :
    Calls Try.prog 7 #[.slice A l c] w (GivesPl w (placesS s) (pErr s)) := by
  unfold placesS
  by_cases h : pErr s = 0
  · rw [if_pos h, h]
    have := (pErr_zero h).1
    exact plof_yes A l c s w hs (by rw [← hs.len]; exact this) h
  · rw [if_neg h]
    exact plof_no A l c s w hs hl h

theorem place_calls : PlaceCalls where
  of := fun A l c s w hs hl => plof_any A l c s w hs (by omega)
  find := fun A n c l f x w hl hn hf h1 h2 => plfind_any A n c l f x w hl h2
  owner := fun A n c l x w hl hn hf h2 => plowner_any A n c l x w hl hf h2

end Go.Proofs.Ytogjkkhboaflcaa
