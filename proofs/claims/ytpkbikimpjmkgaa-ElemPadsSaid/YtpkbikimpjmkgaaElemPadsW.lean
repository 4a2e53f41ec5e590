/-
  ElemPads, walked under the contracts of package elem's calls. (Written by gen_ElemPadsW.py.)
-/
import Derived.Test.YtpkbikimpjmkgaaElemBackW
import Derived.Test.YtpkbikimpjmkgaaAppZ
namespace Go.Proofs.Ytpkbikimpjmkgaa
open Go.RowKit
set_option linter.unusedVariables false
set_option linter.unusedSimpArgs false

theorem getD_map9 (pads : List UInt8) (k : Nat) : (pads.map (fun x => x.toNat % 9)).getD k 0 = (pads.getD k 0).toNat % 9 := by
  rw [List.getD_eq_getElem?_getD, List.getD_eq_getElem?_getD, List.getElem?_map]
  cases pads[k]? <;> rfl
theorem getD_out9 (pads : List UInt8) (k : Nat) (h : pads.length ≤ k) : (pads.map (fun x => x.toNat % 9)).getD k 0 = 0 := by
  rw [List.getD_eq_getElem?_getD, List.getElem?_eq_none (by simpa using h)]
  rfl
theorem pads9 (pads : List UInt8) : ∀ z ∈ pads.map (fun x => x.toNat % 9), z ≤ 8 := by
  intro z hz
  rw [List.mem_map] at hz
  obtain ⟨x, _, rfl⟩ := hz
  omega
theorem padB_snoc (nw : Bool) : ∀ (l : List El) (e : El) (zs : List Nat), padB nw (l ++ [e]) zs = padB nw l zs ++ (List.replicate (zs.getD l.length 0) 0 ++ elB nw e)
  | [], e, zs => by
    rw [List.nil_append, padB_cons]
    cases zs <;> simp [padB]
  | x :: l, e, zs => by
    rw [List.cons_append, padB_cons, padB_cons, padB_snoc nw l e zs.tail]
    cases zs <;> simp [List.append_assoc]
theorem padB_small (nw : Bool) : ∀ (l : List El) (zs : List Nat), (∀ e ∈ l, okEl e = true) → (∀ z ∈ zs, z ≤ 8) → (padB nw l zs).length ≤ 265 * l.length
  | [], zs, _, _ => by simp [padB]
  | e :: l, zs, h1, h2 => by
    rw [padB_cons, List.length_append, List.length_append, List.length_replicate, List.length_cons]
    have a1 := elB_small (nw := nw) (h1 e (by simp))
    have a2 := padB_small nw l zs.tail (fun x hx => h1 x (by simp [hx])) (fun z hz => h2 z (List.mem_of_mem_tail hz))
    have a3 : zs.headD 0 ≤ 8 := by
      cases zs with
      | nil => simp
      | cons z zs => exact h2 z (by simp)
    omega
theorem spsOf_length (nw : Bool) : ∀ (l : List El) (a : Nat), (spsOf nw a l).length = l.length
  | [], _ => rfl
  | e :: l, a => by
    show (elSp nw a e :: spsOf nw (a + (elB nw e).length) l).length = _
    rw [List.length_cons, spsOf_length nw l, List.length_cons]
theorem spsOf_get (nw : Bool) : ∀ (l : List El) (a k : Nat) (hk : k < l.length), (spsOf nw a l)[k]'(by rw [spsOf_length]; exact hk) = elSp nw (a + ((l.take k).flatMap (elB nw)).length) l[k]
  | e :: l, a, 0, hk => by simp [spsOf]
  | e :: l, a, k + 1, hk => by
    have := spsOf_get nw l (a + (elB nw e).length) k (by simpa using hk)
    simp only [spsOf, List.getElem_cons_succ, List.take_succ_cons, List.flatMap_cons, List.length_append]
    rw [this, Nat.add_assoc]
theorem write_part {l : List El} {nw : Bool} (hr : rightL l = true) (hnw : narrowL l = nw) (k : Nat) (hk : k < l.length) :
    ((l.take k).flatMap (elB nw)).length + (elB nw l[k]).length ≤ (writeL l).length ∧ ((writeL l).drop ((l.take k).flatMap (elB nw)).length).take (elB nw l[k]).length = elB nw l[k] := by
  have e : l = l.take k ++ l[k] :: l.drop (k + 1) := by rw [← List.drop_eq_getElem_cons hk, List.take_append_drop]
  have h2 : writeL l = (l.take k).flatMap (elB nw) ++ (elB nw l[k] ++ ((l.drop (k + 1)).flatMap (elB nw) ++ List.replicate (miss (bodyL l).length) 0)) := by
    rw [writeL_form, hnw]
    conv => lhs; arg 1; rw [e]
    rw [List.flatMap_append, List.flatMap_cons, List.append_assoc, List.append_assoc]
  rw [h2]
  refine ⟨by simp only [List.length_append]; omega, ?_⟩
  rw [List.drop_left, List.take_left]
def PadI (w6 : World) (t : TypeId) (nw : Bool) (l : List El) (zs : List Nat) (N : Nat) (v i : Value) (W : World) : Prop :=
  ∃ (k m : Nat) (B : Option Addr) (d : Nat), k ≤ N ∧ i = .int .i64 k ∧ v = .slice B m d ∧ Own W w6.heap.size t B m d (padB nw (l.take k) zs) ∧ Below w6.heap.size w6 W
section
variable (KC : ElemCalls)
include KC
set_option maxRecDepth 100000 in
set_option maxHeartbeats 8000000 in
theorem elemPads_narrow (A : Option Addr) (n c : Nat) (l : List El) (P : Option Addr) (np cp : Nat) (pads : List UInt8) (lo : Nat) (M : Option Addr) (nm cm : Nat) (more : List UInt8) (w : World) (hl : Els w A n c l) (hp : Bs w P np cp pads) (hm : Bs w M nm cm more) (hlo : lo < 256) (hid : ∀ e ∈ l, (Lit.int .i64 e.id).wf = true) (hsz : ∀ e ∈ l, e.data.length ≤ 1000000) (hsh : shortL l = true) (hn : n ≤ 100) (hnm : nm ≤ 300) (hr : rightL l = true) (hnw : narrowL l = true) :
    Calls Try.prog 5 #[.slice A n c, .slice P np cp, .int .u8 (lo : Int), .slice M nm cm] w fun e w' => e = .returned (.bool true) ∧ Below w.heap.size w w' := by
  have okl := Lib.hid (fun (W : World) (h : Els W A n c l) => (⟨h, by omega, hid, hsz⟩ : ElOk W A n c l))
  have HS := Lib.hid (rshortL_any A n c l)
  rw [hsh] at HS
  have HW1 := Lib.hid (fun W h => KC.write A n c l W (okl.out W h))
  have e1 : writeEB l = writeL l := by unfold writeEB; rw [hr]; rfl
  have e2 : writeEE l = 0 := by unfold writeEE; rw [hr]; rfl
  have e3 : profL l = 48862 := by unfold profL; rw [hr, hnw]; rfl
  have hrw := read_write hr
  have hln := hl.len
  have hwl := writeL_small hr
  rw [hln] at hwl
  have HS1 := Lib.hid (fun W A c h => KC.spots 48862 A (writeL l).length c (writeL l) W h (by omega) (by omega))
  rw [e3, hnw] at hrw
  rw [hrw.1, hrw.2.1] at HS1
  rw [e1, e2, e3] at HW1
  have hsp := Lib.hid (fun k (hk : k < l.length) => spsOf_get true l 0 k hk)
  have hpt := Lib.hid (fun k (hk : k < l.length) => write_part hr hnw k hk)
  have hok := Lib.hid ((rightL_iff l).1 hr).1
  have hzs := Lib.hid (pads9 pads)
  have hsm := Lib.hid (fun k => padB_small true (l.take k) (pads.map (fun x => x.toNat % 9)) (fun e he => hok.out e (List.mem_of_mem_take he)) hzs.out)
  have hsl : (spsOf true 0 l).length = n := by rw [spsOf_length, hln]
  have HR := Lib.hid (fun q W A n c s h hn hq => KC.read q A n c s W h hn hq)
  have HC := Lib.hid (fun q W A n c s h hn hq => KC.canon q A n c s W h hn hq)
  have HRT := Lib.hid hr
  have HNW := Lib.hid hnw
  obtain ⟨S, hS⟩ : ∃ S, spsOf true 0 l = S := ⟨_, rfl⟩
  rw [hS] at hsl HS1
  have HSS := Lib.hid hS
  obtain ⟨X, hX⟩ : ∃ X, writeL l = X := ⟨_, rfl⟩
  rw [hX] at HS1 HW1 hwl
  have HXX := Lib.hid hX
  obtain ⟨zs, hZ⟩ : ∃ zs, pads.map (fun x => x.toNat % 9) = zs := ⟨_, rfl⟩
  rw [hZ] at hsm hzs
  have HZZ := Lib.hid hZ
  have hln2 := Lib.hid hln
  have hpl := Lib.hid hp.len
  clear hX hS hZ e1 e2 e3 hrw hln hr hnw hsh hid hsz okl
  have k1 : ¬ (100 : Int) < n := by omega
  have k2 : ¬ (300 : Int) < nm := by omega
  go_enter Try.func5, Try.ntmps5
  go_wp2_with fail
  refine (awake_any KC _).mono ?_
  rintro e w2 ⟨rfl, hB⟩
  replace hl := hl.below hB
  replace hp := hp.below hB
  replace hm := hm.below hB
  go_wp2_with fail
  refine (HS.out _ hl).mono ?_
  rintro e w3 ⟨rfl, hb⟩
  replace hB := hB.trans (hb.mono hB.size)
  replace hl := hl.below hb
  replace hp := hp.below hb
  replace hm := hm.below hb
  clear hb
  go_wp2_with fail
  refine (HW1.out _ hl).mono ?_
  rintro e w5 ⟨A5, c5, rfl, hx, hb⟩
  replace hB := hB.trans (hb.mono hB.size)
  replace hl := hl.below hb
  replace hp := hp.below hb
  replace hm := hm.below hb
  clear hb
  go_wp2_with fail
  refine (HS1.out _ A5 c5 hx).mono ?_
  rintro e w6 ⟨A6, m6, c6, rfl, ht, hb⟩
  replace hB := hB.trans (hb.mono hB.size)
  replace hl := hl.below hb
  replace hp := hp.below hb
  replace hm := hm.below hb
  replace hx := hx.below hb
  clear hb
  obtain rfl : m6 = n := by rw [← hsl, ht.len]
  have htb := ht.bounds
  have hlb := hl.bounds
  have hpb1 := hp.le
  have hpb2 := hp.cap
  have hmb1 := hm.le
  have hmb2 := hm.cap
  unfold maxLen at hpb2 hmb2
  have g9 := hpl.out
  have gX : (X.length : Int) ≤ 100000 := by omega
  go_wp2_with fail
  go_loopw [15, 16] (fun v i W => PadI w6 5 true l zs m6 v i W) (fun _ i _ => m6 - (intOf i).toNat)
  case atStart => exact ⟨0, 0, none, 0, Nat.zero_le _, rfl, rfl, Own.nil _ _ _, Below.refl _ _⟩
  case round =>
    obtain ⟨k, m, B, d, hk, rfl, rfl, hown, hBk⟩ := hrel
    have hsz := hBk.size
    have hol := hown.len
    have hsmk := hsm.out k
    rw [hol] at hsmk
    have hml : m ≤ 30000 := by
      have := List.length_take_le k l
      omega
    by_cases hkn : k < m6
    · have hkn2 : (k : Int) < m6 := by omega
      have hH := Lib.hid hol
      clear hol hsmk
      go_upto_if 73 with fail
      go_cut [15] (fun v W => ∃ (m : Nat) (B : Option Addr) (d : Nat), v = .slice B m d ∧ m ≤ 31000 ∧ Own W w6.heap.size 5 B m d (padB true (l.take k) zs ++ List.replicate (zs.getD k 0) 0) ∧ Below w6.heap.size w6 W)
      case first =>
        by_cases hkp : k < np
        · have hkp2 : (k : Int) < np := by omega
          obtain ⟨b, o, rfl, hlt, hc⟩ := (hp.below hBk).at_ (by omega)
          have hck := hc k hkp
          have hzk : Hid (zs.getD k 0 = (pads.getD k 0).toNat % 9) := Lib.hid (by rw [← HZZ.out]; exact getD_map9 pads k)
          have hz256 := byte_getD_lt pads k
          generalize (pads.getD k 0).toNat = z at *
          have hmod : ((z : Nat) : Int).tmod 9 = ((z % 9 : Nat) : Int) := by rw [Int.tmod_eq_emod_of_nonneg (by omega)]; omega
          have hz9 : z % 9 ≤ 8 := by omega
          clear hc
          obtain ⟨z9, hz9e⟩ : ∃ z9, z % 9 = z9 := ⟨_, rfl⟩
          rw [hz9e] at hmod hz9 hzk
          clear hz9e
          go_wp2_with (at_builtin; go_loud (refine wpList_appz rfl (.tmp 74) (.tmp 80) 24 3 rfl w6.heap.size 5 Try.underlying24 Try.underlying3 byte_info B m d _ rfl hown z9 rfl (by omega) (by omega) ?_; intro A9 c9 w9 hown9 hgrow hat))
          go_meet
          exact ⟨m + z9, A9, c9, rfl, by omega, by rw [hzk.out]; exact hown9, hBk.grown hgrow (by omega) (fun q hq => hown.row_ge q hq)⟩
        · have hkp2 : ¬ (k : Int) < np := by omega
          have hzk : zs.getD k 0 = 0 := by
            rw [← HZZ.out]
            exact getD_out9 pads k (by have := hpl.out; omega)
          go_wp2_with fail
          go_meet
          exact ⟨m, B, d, rfl, by omega, by rw [hzk]; simpa using hown, hBk⟩
      case rest =>
        clear hown hBk hsz hH
        obtain ⟨m', B', d', rfl, hml', hown, hBk⟩ := hcut
        have hsz := hBk.size
        obtain ⟨b, o, rfl, hlt, hc⟩ := ht.at_ (by omega)
        obtain ⟨_, p1, p2⟩ := hc k (by omega)
        have q1 := (hBk.cell (p := ⟨b, o + k * 3 + 1, none⟩) hlt).trans p1
        have q2 := (hBk.cell (p := ⟨b, o + k * 3 + 2, none⟩) hlt).trans p2
        clear p1 p2 hc
        have hS1 := hsp.out k (by have := hln2.out; omega)
        have hP1 := hpt.out k (by have := hln2.out; omega)
        have hsn := Lib.hid (List.take_succ_eq_append_getElem (l := l) (i := k) (by have := hln2.out; omega))
        have hps := Lib.hid (padB_snoc true (l.take k) (l[k]'(by have := hln2.out; omega)) zs)
        have hE := Lib.hid (elB_length true (l[k]'(by have := hln2.out; omega)))
        have hIx : Hid (∀ h : k < S.length, S[k]'h = elSp true (0 + ((l.take k).flatMap (elB true)).length) (l[k]'(by have := hln2.out; omega))) := Lib.hid (fun h => by
          have := HSS.out
          subst this
          exact hS1)
        have hsk : k < S.length := by omega
        rw [hIx.out hsk] at q1 q2
        clear hS1 hIx
        rw [HXX.out] at hP1
        have hlen2 : ((l.take k)).length = k := by rw [List.length_take]; have := hln2.out; omega
        rw [hlen2] at hps
        generalize (l[k]'(by have := hln2.out; omega)) = e at *
        generalize ((l.take k).flatMap (elB true)).length = pos at *
        obtain ⟨ei, ed⟩ := e
        unfold elSp at q1 q2
        dsimp only at q1 q2
        obtain ⟨hP1, hP2⟩ := hP1
        obtain ⟨sz, hszz⟩ : ∃ sz, ed.length = sz := ⟨_, rfl⟩
        rw [hszz] at q2
        have hE2 := hE.out
        dsimp only at hE2
        rw [hszz] at hE2
        obtain ⟨at_, hat_⟩ : ∃ at_, 0 + pos + (if true = true then 1 else 2) = at_ := ⟨_, rfl⟩
        rw [hat_] at q1
        simp only [if_true] at hat_ hE2
        have hxw := hx.below hBk
        obtain ⟨A1, c1, hsl1, hY⟩ := hxw.slice_lr Try.underlying24 byte_size (a := pos) (r := pos + (elB true ⟨ei, ed⟩).length) (by omega) hP1
        rw [show pos + (elB true ⟨ei, ed⟩).length - pos = 1 + sz by omega] at hsl1 hY
        rw [show (1 + sz) = (elB true ⟨ei, ed⟩).length by omega, hP2] at hY
        rw [hE2] at hY hP1
        have hsl2 := fun W => hsl1 W ((at_ : Int) - 1) ((at_ : Int) + sz) (by omega) (by omega)
        have hw1 : IntKind.i64.wrap ((at_ : Int) + (sz : Int)) = (at_ : Int) + sz := IntWalk.i64_in _ (by omega)
        have hw2 : IntKind.i64.wrap ((at_ : Int) - 1) = (at_ : Int) - 1 := IntWalk.i64_in _ (by omega)
        have hw3 : IntKind.i64.wrap ((X.length : Int) - (sz : Int)) = (X.length : Int) - sz := IntWalk.i64_in _ (by omega)
        have t1 : decide ((at_ : Int) < 1) = false := decide_eq_false (by omega)
        have t2 : decide ((sz : Int) < 0) = false := decide_eq_false (by omega)
        have t3 : decide (X.length < sz) = false := decide_eq_false (by omega)
        have t4 : decide ((X.length : Int) - (sz : Int) < (at_ : Int)) = false := decide_eq_false (by omega)
        have hH2 := Lib.hid hE2
        have hAt := Lib.hid hat_
        have hSz := Lib.hid hszz
        clear hE2 hat_ hszz hE hlen2 hP2 hsl1
        have hfar : some b ≠ rowOf B' := fun e => by have := hown.row_ge _ e.symm; omega
        have hltw := Nat.lt_of_lt_of_le hlt hsz
        go_wp2_with fail
        go_quiet (fail)
        go_wp2_with fail
        have hH3 := Lib.hid (And.intro t1 (And.intro t2 (And.intro t3 t4)))
        clear t1 t2 t3 t4 hw3
        have hYl : (elB true ⟨ei, ed⟩).length = 1 + sz := hH2.out
        go_region_held3 (fun W => W.cell? ⟨b, o + k * 3 + 1, none⟩ = some (.int .i64 (at_ : Int)) ∧ W.cell? ⟨b, o + k * 3 + 2, none⟩ = some (.int .i64 (sz : Int)))
          (go_keep)
          (first | (refine step_app2 rfl (.tmp 123) (.tmp 143) 24 rfl w6.heap.size 5 Try.underlying24 byte_info B' m' d' _ rfl hown A1 (1 + sz) c1 _ rfl hY (by omega) hsz ?_; intro A7 c7 w7 hown7 hgr7 hat7; have v1 : w7.cell? ⟨b, o + k * 3 + 1, none⟩ = some (.int .i64 (at_ : Int)) := (by rw [hgr7.cell_far _ (by exact hltw) hfar]; exact q1); have v2 : w7.cell? ⟨b, o + k * 3 + 2, none⟩ = some (.int .i64 (sz : Int)) := (by rw [hgr7.cell_far _ (by exact hltw) hfar]; exact q2)))
        go_wp2_with fail
        go_roundw
        case rel => exact ⟨k + 1, m' + (1 + sz), A7, c7, by omega, by go_num, rfl, by rw [hsn.out, hps.out, ← List.append_assoc]; exact hown7, Below.grown (Below.drew (below_drewN hBk _)) hgr7 hsz (fun q hq => hown.row_ge q hq)⟩
        case measure => simp [intOf]; omega
    · obtain rfl : k = m6 := by omega
      have hkn2 : ¬ (k : Int) < k := by omega
      have htk : l.take k = l := List.take_of_length_le (by have := hln2.out; omega)
      rw [htk] at hown hol hsmk
      have hD0 := Lib.hid (fun (k : Nat) (T : List UInt8) (p : Nat) h1 h2 h3 => pads_read (nw := true) (zs := zs) (k := k) (T := T) (p := p) HRT.out (fun _ => HNW.out) h1 h2 h3)
      have hDC := Lib.hid (fun (m k : Nat) (x : UInt8) (r : List UInt8) h1 hx => pads_other (nw := true) l zs m k x r h1 hx)
      have hWF := Lib.hid (writeL_form l)
      have hq16 : ((lo : Nat) : Int).tdiv 16 = ((lo / 16 : Nat) : Int) := by rw [Int.tdiv_eq_ediv_of_nonneg (by omega)]; omega
      have hr16 : ((lo : Nat) : Int).tmod 16 = ((lo % 16 : Nat) : Int) := by rw [Int.tmod_eq_emod_of_nonneg (by omega)]; omega
      obtain ⟨k16, hk16, hk16b⟩ : ∃ k16, lo / 16 = k16 ∧ k16 ≤ 15 := ⟨_, rfl, by omega⟩
      obtain ⟨r16, hr16e, hr16b⟩ : ∃ r16, lo % 16 = r16 ∧ r16 ≤ 15 := ⟨_, rfl, by omega⟩
      rw [hk16] at hq16
      rw [hr16e] at hr16
      clear hk16 hr16e htk hsp hpt hsm
      obtain ⟨D, hD⟩ : ∃ D, padB true l zs = D := ⟨_, rfl⟩
      rw [hD] at hown hol hD0 hDC
      have hmD := Lib.hid hol
      clear hol hD hsmk
      go_upto_region 22 with (at_builtin; go_loud (refine wpList_appz rfl (.tmp 145) (.tmp 148) 24 3 rfl w6.heap.size 5 Try.underlying24 Try.underlying3 byte_info B m d _ rfl hown k16 rfl (by omega) (by omega) ?_; intro A9 c9 w9 hown9 hgrow hat))
      have hb69 : Below w6.heap.size w6 w9 := hBk.grown hgrow hsz (fun q hq => hown.row_ge q hq)
      have hs69 := hb69.size
      obtain ⟨x, hxv, hxd⟩ : ∃ x : UInt8, (x.toNat : Int) = 240 + (r16 : Int) ∧ x.toNat / 16 = 15 := ⟨UInt8.ofNat (240 + r16), by rw [toNat_ofNat (by omega)]; omega, by rw [toNat_ofNat (by omega)]; omega⟩
      have hbx : ∀ W : World, Bs (W.alloc (.cells #[.int .u8 (240 + (r16 : Int))] 5)) (some ⟨W.heap.size, 0, none⟩) 1 1 [x] := fun W => by
        have := Bs.lit1 W x 5
        unfold byteV at this
        rwa [hxv] at this
      have hw16 : IntKind.u8.wrap (240 + (r16 : Int)) = 240 + r16 := by rw [IntKind.wrap_u8]; omega
      have hx0 : x ≠ 0 := fun e => by subst e; simp at hxd
      clear hxv
      have hm9 := hm.below hb69
      go_wp2_with (first
        | (at_builtin; (refine wpList_app2 rfl (.tmp 158) (.tmp 162) 24 rfl w6.heap.size 5 Try.underlying24 byte_info A9 (m + k16) c9 _ rfl (hown9.alloc _) _ 1 1 _ rfl (hbx w9) (by omega) (by simp; omega) ?_; intro A10 c10 w10 hown10 hgrow10 hat10; have hb610 : Below w6.heap.size w6 w10 := (hb69.alloc hs69 _).grown hgrow10 (by simp; omega) (fun q hq => hown9.row_ge q hq); have hs610 := hb610.size; have hm10 := hm.below hb610))
        | (at_builtin; go_loud (refine wpList_app2 rfl (.tmp 164) (.tmp 165) 24 rfl w6.heap.size 5 Try.underlying24 byte_info A10 (m + k16 + 1) c10 _ rfl hown10 M nm cm _ rfl hm10 (by omega) (by omega) ?_; intro A11 c11 w11 hown11 hgrow11 hat11)))
      have hb611 : Below w6.heap.size w6 w11 := hb610.grown hgrow11 hs610 (fun q hq => hown10.row_ge q hq)
      have hl11 := hl.below hb611
      have hB11 := hB.trans (hb611.mono hB.size)
      have hbs := hown11.bs
      have hEq : D ++ List.replicate k16 0 ++ [x] ++ more = D ++ (List.replicate k16 0 ++ (x :: more)) := by simp
      rw [hEq] at hbs
      have hpr := hD0.out k16 (x :: more) 48862 (by decide) (by decide) (.inr ⟨by trivial, x, more, rfl, hxd⟩)
      have hcf : canonL 48862 (D ++ (List.replicate k16 0 ++ (x :: more))) = false := decide_eq_false fun h => by
        obtain ⟨_, _, h3⟩ := h
        rw [hpr.2, hWF.out, HNW.out] at h3
        exact hDC.out _ k16 x more (fun e he => ⟨hok.out e he, fun _ => by have := HNW.out; unfold narrowL at this; rw [List.all_eq_true] at this; exact this e he⟩) hx0 h3
      have hRd := HR.out 48862 w11 A11 _ c11 _ hbs (by omega) (by omega)
      have hCd := Lib.hid (fun W h => HC.out 48862 W A11 (m + k16 + 1 + nm) c11 (D ++ (List.replicate k16 0 ++ (x :: more))) h (by omega) (by omega))
      rw [hpr.1, hpr.2] at hRd
      rw [hcf] at hCd
      clear hpr hcf hD0 hDC
      refine hRd.mono ?_
      rintro e w12 ⟨A12, m12, c12, rfl, hy, hb⟩
      have hB12 := hB11.trans (hb.mono hB11.size)
      have hl12 := hl11.below hb
      have hbs2 := hbs.below hb
      clear hb
      go_wp2_with fail
      refine (rsameL_any _ _ _ _ _ _ _ _ _ hy hl12).mono ?_
      rintro e w13 ⟨rfl, hb⟩
      rw [decide_eq_true (rfl : l = l)]
      replace hB12 := hB12.trans (hb.mono hB12.size)
      replace hbs2 := hbs2.below hb
      clear hb hy hl12
      go_wp2_with fail
      refine (hCd.out _ hbs2).mono ?_
      rintro e w14 ⟨rfl, hb⟩
      go_wp2_with fail
      go_ret
      exact ⟨rfl, hB12.trans (hb.mono hB12.size)⟩

set_option maxRecDepth 100000 in
set_option maxHeartbeats 8000000 in
theorem elemPads_wide (A : Option Addr) (n c : Nat) (l : List El) (P : Option Addr) (np cp : Nat) (pads : List UInt8) (lo : Nat) (M : Option Addr) (nm cm : Nat) (more : List UInt8) (w : World) (hl : Els w A n c l) (hp : Bs w P np cp pads) (hm : Bs w M nm cm more) (hlo : lo < 256) (hid : ∀ e ∈ l, (Lit.int .i64 e.id).wf = true) (hsz : ∀ e ∈ l, e.data.length ≤ 1000000) (hsh : shortL l = true) (hn : n ≤ 100) (hnm : nm ≤ 300) (hr : rightL l = true) (hnw : narrowL l = false) :
    Calls Try.prog 5 #[.slice A n c, .slice P np cp, .int .u8 (lo : Int), .slice M nm cm] w fun e w' => e = .returned (.bool true) ∧ Below w.heap.size w w' := by
  have okl := Lib.hid (fun (W : World) (h : Els W A n c l) => (⟨h, by omega, hid, hsz⟩ : ElOk W A n c l))
  have HS := Lib.hid (rshortL_any A n c l)
  rw [hsh] at HS
  have HW1 := Lib.hid (fun W h => KC.write A n c l W (okl.out W h))
  have e1 : writeEB l = writeL l := by unfold writeEB; rw [hr]; rfl
  have e2 : writeEE l = 0 := by unfold writeEE; rw [hr]; rfl
  have e3 : profL l = 4096 := by unfold profL; rw [hr, hnw]; rfl
  have hrw := read_write hr
  have hln := hl.len
  have hwl := writeL_small hr
  rw [hln] at hwl
  have HS1 := Lib.hid (fun W A c h => KC.spots 4096 A (writeL l).length c (writeL l) W h (by omega) (by omega))
  rw [e3, hnw] at hrw
  rw [hrw.1, hrw.2.1] at HS1
  rw [e1, e2, e3] at HW1
  have hsp := Lib.hid (fun k (hk : k < l.length) => spsOf_get false l 0 k hk)
  have hpt := Lib.hid (fun k (hk : k < l.length) => write_part hr hnw k hk)
  have hok := Lib.hid ((rightL_iff l).1 hr).1
  have hzs := Lib.hid (pads9 pads)
  have hsm := Lib.hid (fun k => padB_small false (l.take k) (pads.map (fun x => x.toNat % 9)) (fun e he => hok.out e (List.mem_of_mem_take he)) hzs.out)
  have hsl : (spsOf false 0 l).length = n := by rw [spsOf_length, hln]
  have HR := Lib.hid (fun q W A n c s h hn hq => KC.read q A n c s W h hn hq)
  have HC := Lib.hid (fun q W A n c s h hn hq => KC.canon q A n c s W h hn hq)
  have HRT := Lib.hid hr
  have HNW := Lib.hid hnw
  obtain ⟨S, hS⟩ : ∃ S, spsOf false 0 l = S := ⟨_, rfl⟩
  rw [hS] at hsl HS1
  have HSS := Lib.hid hS
  obtain ⟨X, hX⟩ : ∃ X, writeL l = X := ⟨_, rfl⟩
  rw [hX] at HS1 HW1 hwl
  have HXX := Lib.hid hX
  obtain ⟨zs, hZ⟩ : ∃ zs, pads.map (fun x => x.toNat % 9) = zs := ⟨_, rfl⟩
  rw [hZ] at hsm hzs
  have HZZ := Lib.hid hZ
  have hln2 := Lib.hid hln
  have hpl := Lib.hid hp.len
  clear hX hS hZ e1 e2 e3 hrw hln hr hnw hsh hid hsz okl
  have k1 : ¬ (100 : Int) < n := by omega
  have k2 : ¬ (300 : Int) < nm := by omega
  go_enter Try.func5, Try.ntmps5
  go_wp2_with fail
  refine (awake_any KC _).mono ?_
  rintro e w2 ⟨rfl, hB⟩
  replace hl := hl.below hB
  replace hp := hp.below hB
  replace hm := hm.below hB
  go_wp2_with fail
  refine (HS.out _ hl).mono ?_
  rintro e w3 ⟨rfl, hb⟩
  replace hB := hB.trans (hb.mono hB.size)
  replace hl := hl.below hb
  replace hp := hp.below hb
  replace hm := hm.below hb
  clear hb
  go_wp2_with fail
  refine (HW1.out _ hl).mono ?_
  rintro e w5 ⟨A5, c5, rfl, hx, hb⟩
  replace hB := hB.trans (hb.mono hB.size)
  replace hl := hl.below hb
  replace hp := hp.below hb
  replace hm := hm.below hb
  clear hb
  go_wp2_with fail
  refine (HS1.out _ A5 c5 hx).mono ?_
  rintro e w6 ⟨A6, m6, c6, rfl, ht, hb⟩
  replace hB := hB.trans (hb.mono hB.size)
  replace hl := hl.below hb
  replace hp := hp.below hb
  replace hm := hm.below hb
  replace hx := hx.below hb
  clear hb
  obtain rfl : m6 = n := by rw [← hsl, ht.len]
  have htb := ht.bounds
  have hlb := hl.bounds
  have hpb1 := hp.le
  have hpb2 := hp.cap
  have hmb1 := hm.le
  have hmb2 := hm.cap
  unfold maxLen at hpb2 hmb2
  have g9 := hpl.out
  have gX : (X.length : Int) ≤ 100000 := by omega
  go_wp2_with fail
  go_loopw [15, 16] (fun v i W => PadI w6 5 false l zs m6 v i W) (fun _ i _ => m6 - (intOf i).toNat)
  case atStart => exact ⟨0, 0, none, 0, Nat.zero_le _, rfl, rfl, Own.nil _ _ _, Below.refl _ _⟩
  case round =>
    obtain ⟨k, m, B, d, hk, rfl, rfl, hown, hBk⟩ := hrel
    have hsz := hBk.size
    have hol := hown.len
    have hsmk := hsm.out k
    rw [hol] at hsmk
    have hml : m ≤ 30000 := by
      have := List.length_take_le k l
      omega
    by_cases hkn : k < m6
    · have hkn2 : (k : Int) < m6 := by omega
      have hH := Lib.hid hol
      clear hol hsmk
      go_upto_if 73 with fail
      go_cut [15] (fun v W => ∃ (m : Nat) (B : Option Addr) (d : Nat), v = .slice B m d ∧ m ≤ 31000 ∧ Own W w6.heap.size 5 B m d (padB false (l.take k) zs ++ List.replicate (zs.getD k 0) 0) ∧ Below w6.heap.size w6 W)
      case first =>
        by_cases hkp : k < np
        · have hkp2 : (k : Int) < np := by omega
          obtain ⟨b, o, rfl, hlt, hc⟩ := (hp.below hBk).at_ (by omega)
          have hck := hc k hkp
          have hzk : Hid (zs.getD k 0 = (pads.getD k 0).toNat % 9) := Lib.hid (by rw [← HZZ.out]; exact getD_map9 pads k)
          have hz256 := byte_getD_lt pads k
          generalize (pads.getD k 0).toNat = z at *
          have hmod : ((z : Nat) : Int).tmod 9 = ((z % 9 : Nat) : Int) := by rw [Int.tmod_eq_emod_of_nonneg (by omega)]; omega
          have hz9 : z % 9 ≤ 8 := by omega
          clear hc
          obtain ⟨z9, hz9e⟩ : ∃ z9, z % 9 = z9 := ⟨_, rfl⟩
          rw [hz9e] at hmod hz9 hzk
          clear hz9e
          go_wp2_with (at_builtin; go_loud (refine wpList_appz rfl (.tmp 74) (.tmp 80) 24 3 rfl w6.heap.size 5 Try.underlying24 Try.underlying3 byte_info B m d _ rfl hown z9 rfl (by omega) (by omega) ?_; intro A9 c9 w9 hown9 hgrow hat))
          go_meet
          exact ⟨m + z9, A9, c9, rfl, by omega, by rw [hzk.out]; exact hown9, hBk.grown hgrow (by omega) (fun q hq => hown.row_ge q hq)⟩
        · have hkp2 : ¬ (k : Int) < np := by omega
          have hzk : zs.getD k 0 = 0 := by
            rw [← HZZ.out]
            exact getD_out9 pads k (by have := hpl.out; omega)
          go_wp2_with fail
          go_meet
          exact ⟨m, B, d, rfl, by omega, by rw [hzk]; simpa using hown, hBk⟩
      case rest =>
        clear hown hBk hsz hH
        obtain ⟨m', B', d', rfl, hml', hown, hBk⟩ := hcut
        have hsz := hBk.size
        obtain ⟨b, o, rfl, hlt, hc⟩ := ht.at_ (by omega)
        obtain ⟨_, p1, p2⟩ := hc k (by omega)
        have q1 := (hBk.cell (p := ⟨b, o + k * 3 + 1, none⟩) hlt).trans p1
        have q2 := (hBk.cell (p := ⟨b, o + k * 3 + 2, none⟩) hlt).trans p2
        clear p1 p2 hc
        have hS1 := hsp.out k (by have := hln2.out; omega)
        have hP1 := hpt.out k (by have := hln2.out; omega)
        have hsn := Lib.hid (List.take_succ_eq_append_getElem (l := l) (i := k) (by have := hln2.out; omega))
        have hps := Lib.hid (padB_snoc false (l.take k) (l[k]'(by have := hln2.out; omega)) zs)
        have hE := Lib.hid (elB_length false (l[k]'(by have := hln2.out; omega)))
        have hIx : Hid (∀ h : k < S.length, S[k]'h = elSp false (0 + ((l.take k).flatMap (elB false)).length) (l[k]'(by have := hln2.out; omega))) := Lib.hid (fun h => by
          have := HSS.out
          subst this
          exact hS1)
        have hsk : k < S.length := by omega
        rw [hIx.out hsk] at q1 q2
        clear hS1 hIx
        rw [HXX.out] at hP1
        have hlen2 : ((l.take k)).length = k := by rw [List.length_take]; have := hln2.out; omega
        rw [hlen2] at hps
        generalize (l[k]'(by have := hln2.out; omega)) = e at *
        generalize ((l.take k).flatMap (elB false)).length = pos at *
        obtain ⟨ei, ed⟩ := e
        unfold elSp at q1 q2
        dsimp only at q1 q2
        obtain ⟨hP1, hP2⟩ := hP1
        obtain ⟨sz, hszz⟩ : ∃ sz, ed.length = sz := ⟨_, rfl⟩
        rw [hszz] at q2
        have hE2 := hE.out
        dsimp only at hE2
        rw [hszz] at hE2
        obtain ⟨at_, hat_⟩ : ∃ at_, 0 + pos + (if false = true then 1 else 2) = at_ := ⟨_, rfl⟩
        rw [hat_] at q1
        simp only [Bool.false_eq_true, if_false] at hat_ hE2
        have hxw := hx.below hBk
        obtain ⟨A1, c1, hsl1, hY⟩ := hxw.slice_lr Try.underlying24 byte_size (a := pos) (r := pos + (elB false ⟨ei, ed⟩).length) (by omega) hP1
        rw [show pos + (elB false ⟨ei, ed⟩).length - pos = 2 + sz by omega] at hsl1 hY
        rw [show (2 + sz) = (elB false ⟨ei, ed⟩).length by omega, hP2] at hY
        rw [hE2] at hY hP1
        have hsl2 := fun W => hsl1 W ((at_ : Int) - 2) ((at_ : Int) + sz) (by omega) (by omega)
        have hw1 : IntKind.i64.wrap ((at_ : Int) + (sz : Int)) = (at_ : Int) + sz := IntWalk.i64_in _ (by omega)
        have hw2 : IntKind.i64.wrap ((at_ : Int) - 2) = (at_ : Int) - 2 := IntWalk.i64_in _ (by omega)
        have hw3 : IntKind.i64.wrap ((X.length : Int) - (sz : Int)) = (X.length : Int) - sz := IntWalk.i64_in _ (by omega)
        have t1 : decide ((at_ : Int) < 2) = false := decide_eq_false (by omega)
        have t2 : decide ((sz : Int) < 0) = false := decide_eq_false (by omega)
        have t3 : decide (X.length < sz) = false := decide_eq_false (by omega)
        have t4 : decide ((X.length : Int) - (sz : Int) < (at_ : Int)) = false := decide_eq_false (by omega)
        have hH2 := Lib.hid hE2
        have hAt := Lib.hid hat_
        have hSz := Lib.hid hszz
        clear hE2 hat_ hszz hE hlen2 hP2 hsl1
        have hfar : some b ≠ rowOf B' := fun e => by have := hown.row_ge _ e.symm; omega
        have hltw := Nat.lt_of_lt_of_le hlt hsz
        go_wp2_with fail
        go_quiet (fail)
        go_wp2_with fail
        have hH3 := Lib.hid (And.intro t1 (And.intro t2 (And.intro t3 t4)))
        clear t1 t2 t3 t4 hw3
        have hYl : (elB false ⟨ei, ed⟩).length = 2 + sz := hH2.out
        go_region_held3 (fun W => W.cell? ⟨b, o + k * 3 + 1, none⟩ = some (.int .i64 (at_ : Int)) ∧ W.cell? ⟨b, o + k * 3 + 2, none⟩ = some (.int .i64 (sz : Int)))
          (go_keep)
          (first | (refine step_app2 rfl (.tmp 123) (.tmp 143) 24 rfl w6.heap.size 5 Try.underlying24 byte_info B' m' d' _ rfl hown A1 (2 + sz) c1 _ rfl hY (by omega) hsz ?_; intro A7 c7 w7 hown7 hgr7 hat7; have v1 : w7.cell? ⟨b, o + k * 3 + 1, none⟩ = some (.int .i64 (at_ : Int)) := (by rw [hgr7.cell_far _ (by exact hltw) hfar]; exact q1); have v2 : w7.cell? ⟨b, o + k * 3 + 2, none⟩ = some (.int .i64 (sz : Int)) := (by rw [hgr7.cell_far _ (by exact hltw) hfar]; exact q2)))
        go_wp2_with fail
        go_roundw
        case rel => exact ⟨k + 1, m' + (2 + sz), A7, c7, by omega, by go_num, rfl, by rw [hsn.out, hps.out, ← List.append_assoc]; exact hown7, Below.grown (Below.drew (below_drewN hBk _)) hgr7 hsz (fun q hq => hown.row_ge q hq)⟩
        case measure => simp [intOf]; omega
    · obtain rfl : k = m6 := by omega
      have hkn2 : ¬ (k : Int) < k := by omega
      have htk : l.take k = l := List.take_of_length_le (by have := hln2.out; omega)
      rw [htk] at hown hol hsmk
      have hD0 := Lib.hid (fun (k : Nat) (T : List UInt8) (p : Nat) h1 h2 h3 => pads_read (nw := false) (zs := zs) (k := k) (T := T) (p := p) HRT.out (fun _ => by simp at *) h1 h2 h3)
      have hDC := Lib.hid (fun (m k : Nat) (x : UInt8) (r : List UInt8) h1 hx => pads_other (nw := false) l zs m k x r h1 hx)
      have hWF := Lib.hid (writeL_form l)
      have hq16 : ((lo : Nat) : Int).tdiv 16 = ((lo / 16 : Nat) : Int) := by rw [Int.tdiv_eq_ediv_of_nonneg (by omega)]; omega
      have hr16 : ((lo : Nat) : Int).tmod 16 = ((lo % 16 : Nat) : Int) := by rw [Int.tmod_eq_emod_of_nonneg (by omega)]; omega
      obtain ⟨k16, hk16, hk16b⟩ : ∃ k16, lo / 16 = k16 ∧ k16 ≤ 15 := ⟨_, rfl, by omega⟩
      obtain ⟨r16, hr16e, hr16b⟩ : ∃ r16, lo % 16 = r16 ∧ r16 ≤ 15 := ⟨_, rfl, by omega⟩
      rw [hk16] at hq16
      rw [hr16e] at hr16
      clear hk16 hr16e htk hsp hpt hsm
      obtain ⟨D, hD⟩ : ∃ D, padB false l zs = D := ⟨_, rfl⟩
      rw [hD] at hown hol hD0 hDC
      have hmD := Lib.hid hol
      clear hol hD hsmk
      go_upto_region 22 with (at_builtin; go_loud (refine wpList_appz rfl (.tmp 145) (.tmp 148) 24 3 rfl w6.heap.size 5 Try.underlying24 Try.underlying3 byte_info B m d _ rfl hown k16 rfl (by omega) (by omega) ?_; intro A9 c9 w9 hown9 hgrow hat))
      have hb69 : Below w6.heap.size w6 w9 := hBk.grown hgrow hsz (fun q hq => hown.row_ge q hq)
      have hs69 := hb69.size
      have hw16 : IntKind.u16.wrap (4096 + (r16 : Int)) = 4096 + r16 := by rw [IntKind.wrap_u16]; omega
      have hl9 := hl.below hb69
      have hB9 := hB.trans (hb69.mono hB.size)
      have hpr := hD0.out k16 [] (4096 + r16) (by unfold isProf; rw [decide_eq_true_eq]; omega) (decide_eq_false (by omega)) (.inl rfl)
      have hbs := hown9.bs
      rw [List.append_nil] at hpr
      have hRd := HR.out (4096 + r16) w9 A9 _ c9 _ hbs (by omega) (by omega)
      rw [hpr.1, hpr.2, show ((4096 + r16 : Nat) : Int) = 4096 + (r16 : Int) by omega] at hRd
      clear hpr hD0 hDC
      go_wp2_with fail
      refine hRd.mono ?_
      rintro e w12 ⟨A12, m12, c12, rfl, hy, hb⟩
      have hB12 := hB9.trans (hb.mono hB9.size)
      have hl12 := hl9.below hb
      clear hb
      go_wp2_with fail
      refine (rsameL_any _ _ _ _ _ _ _ _ _ hy hl12).mono ?_
      rintro e w13 ⟨rfl, hb⟩
      rw [decide_eq_true (rfl : l = l)]
      go_wp2_with fail
      go_ret
      exact ⟨rfl, hB12.trans (hb.mono hB12.size)⟩

set_option maxRecDepth 100000 in
set_option maxHeartbeats 4000000 in
theorem elemPads_no (A : Option Addr) (n c : Nat) (l : List El) (P : Option Addr) (np cp : Nat) (pads : List UInt8) (lo : Nat) (M : Option Addr) (nm cm : Nat) (more : List UInt8) (w : World) (hl : Els w A n c l) (hp : Bs w P np cp pads) (hm : Bs w M nm cm more) (hlo : lo < 256) (hid : ∀ e ∈ l, (Lit.int .i64 e.id).wf = true) (hsz : ∀ e ∈ l, e.data.length ≤ 1000000) (hsh : shortL l = true) (hn : n ≤ 100) (hnm : nm ≤ 300) (hr : rightL l = false) :
    Calls Try.prog 5 #[.slice A n c, .slice P np cp, .int .u8 (lo : Int), .slice M nm cm] w fun e w' => e = .returned (.bool true) ∧ Below w.heap.size w w' := by
  have okl := Lib.hid (fun (W : World) (h : Els W A n c l) => (⟨h, by omega, hid, hsz⟩ : ElOk W A n c l))
  have HS := Lib.hid (rshortL_any A n c l)
  rw [hsh] at HS
  have HW1 := Lib.hid (fun W h => KC.write A n c l W (okl.out W h))
  have e1 : writeEB l = [] := by unfold writeEB; rw [hr]; rfl
  have e2 : writeEE l = 1 := by unfold writeEE; rw [hr]; rfl
  have e3 : profL l = 0 := by unfold profL; rw [hr]; rfl
  rw [e1, e2, e3] at HW1
  have HS1 := Lib.hid (fun W A c h => KC.spots 0 A ([] : List UInt8).length c [] W h (by simp) (by omega))
  rw [show spotsE 0 [] = 6 from by decide, show spotsL 0 [] = [] from by decide] at HS1
  clear hr e1 e2 e3 okl hid hsz hsh
  have k1 : ¬ (100 : Int) < n := by omega
  have k2 : ¬ (300 : Int) < nm := by omega
  go_enter Try.func5, Try.ntmps5
  go_wp2_with fail
  refine (awake_any KC _).mono ?_
  rintro e w2 ⟨rfl, hB⟩
  replace hl := hl.below hB
  replace hp := hp.below hB
  replace hm := hm.below hB
  go_wp2_with fail
  refine (HS.out _ hl).mono ?_
  rintro e w3 ⟨rfl, hb⟩
  replace hB := hB.trans (hb.mono hB.size)
  replace hl := hl.below hb
  replace hp := hp.below hb
  replace hm := hm.below hb
  clear hb
  go_wp2_with fail
  refine (HW1.out _ hl).mono ?_
  rintro e w5 ⟨A5, c5, rfl, hx, hb⟩
  replace hB := hB.trans (hb.mono hB.size)
  replace hl := hl.below hb
  replace hp := hp.below hb
  replace hm := hm.below hb
  clear hb
  go_wp2_with fail
  refine (HS1.out _ A5 c5 hx).mono ?_
  rintro e w6 ⟨A6, m6, c6, rfl, ht, hb⟩
  replace hB := hB.trans (hb.mono hB.size)
  replace hl := hl.below hb
  replace hp := hp.below hb
  replace hm := hm.below hb
  replace hx := hx.below hb
  clear hb
  go_wp2_with fail
  go_ret
  exact ⟨rfl, hB⟩

set_option maxRecDepth 100000 in
set_option maxHeartbeats 2000000 in
theorem elemPads_big (A : Option Addr) (n c : Nat) (l : List El) (P : Option Addr) (np cp : Nat) (pads : List UInt8) (lo : Nat) (M : Option Addr) (nm cm : Nat) (more : List UInt8) (w : World) (hl : Els w A n c l) (hn : (n : Int) ≤ 9223372036854775807) (hnm : (nm : Int) ≤ 9223372036854775807) (hb : shortL l = false ∨ 100 < n ∨ 300 < nm) :
    Calls Try.prog 5 #[.slice A n c, .slice P np cp, .int .u8 (lo : Int), .slice M nm cm] w fun e w' => e = .returned (.bool true) ∧ Below w.heap.size w w' := by
  obtain ⟨b, hsb⟩ : ∃ b, shortL l = b := ⟨_, rfl⟩
  have HS := Lib.hid (rshortL_any A n c l)
  rw [hsb] at hb HS
  have Hb := Lib.hid hb
  clear hb hsb
  go_enter Try.func5, Try.ntmps5
  go_wp2_with fail
  refine (awake_any KC _).mono ?_
  rintro e w2 ⟨rfl, hB⟩
  replace hl := hl.below hB
  go_wp2_with fail
  refine (HS.out _ hl).mono ?_
  rintro e w3 ⟨rfl, hb⟩
  replace hB := hB.trans (hb.mono hB.size)
  cases b with
  | false =>
    go_wp2_with fail
    go_ret
    exact ⟨rfl, hB⟩
  | true =>
    by_cases h1 : 100 < n
    · have h7 : (100 : Int) < n := by omega
      go_wp2_with fail
      go_ret
      exact ⟨rfl, hB⟩
    · have h7 : ¬ (100 : Int) < n := by omega
      have h8 : (300 : Int) < nm := by rcases Hb.out with h | h | h <;> first | omega | cases h
      go_wp2_with fail
      go_ret
      exact ⟨by first | rfl | simp, hB⟩

theorem elemPads_all (A : Option Addr) (n c : Nat) (l : List El) (P : Option Addr) (np cp : Nat) (pads : List UInt8) (lo : Nat) (M : Option Addr) (nm cm : Nat) (more : List UInt8) (w : World) (hl : Els w A n c l) (hp : Bs w P np cp pads) (hm : Bs w M nm cm more) (hlo : lo < 256) (hid : ∀ e ∈ l, (Lit.int .i64 e.id).wf = true) :
    Calls Try.prog 5 #[.slice A n c, .slice P np cp, .int .u8 (lo : Int), .slice M nm cm] w fun e w' => e = .returned (.bool true) ∧ Below w.heap.size w w' := by
  have hln := hl.len
  by_cases hb : shortL l = false ∨ 100 < n ∨ 300 < nm
  · have := hm.le
    have := hm.cap
    have := hl.bounds
    unfold maxLen at *
    exact elemPads_big KC A n c l P np cp pads lo M nm cm more w hl (by omega) (by omega) hb
  · have hsh : shortL l = true := by
      cases hq : shortL l
      · exact absurd (.inl hq) hb
      · rfl
    have h2 := hsh
    unfold shortL at h2
    rw [Bool.and_eq_true, List.all_eq_true, decide_eq_true_eq] at h2
    have hsz : ∀ e ∈ l, e.data.length ≤ 1000000 := fun e he => by
      have := h2.1 e he
      rw [decide_eq_true_eq] at this
      omega
    cases hr : rightL l
    · exact elemPads_no KC A n c l P np cp pads lo M nm cm more w hl hp hm hlo hid hsz hsh (by omega) (by omega) hr
    · cases hnw : narrowL l
      · exact elemPads_wide KC A n c l P np cp pads lo M nm cm more w hl hp hm hlo hid hsz hsh (by omega) (by omega) hr hnw
      · exact elemPads_narrow KC A n c l P np cp pads lo M nm cm more w hl hp hm hlo hid hsz hsh (by omega) (by omega) hr hnw
end

end Go.Proofs.Ytpkbikimpjmkgaa
