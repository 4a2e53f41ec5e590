/-
  The walk of the statement BitsRange.
-/
import Derived.Test.YthkngjokbkfebaaBitRangeM
import Derived.Test.YthkngjokbkfebaaBitW
import Derived.Test.YthkngjokbkfebaaBitO
import Derived.BigQuiet
import Derived.Laws.Strings
import Derived.Maps.AppendAt
namespace Go.Proofs.Ythkngjokbkfebaa
open Go.RowKit
set_option linter.unusedVariables false

theorem range_add (v n : Nat) (h1 : 1 ≤ n) (h2 : n ≤ 64) (hv : v < n) (w : World) :
    Calls Try.prog 20 #[.agg #[.slice none 0 0, .int .i64 0], .int .u64 v, .int .u64 n] w (GivesO w (rbytes v n).length (rbytes v n) ((rngN v n : Nat) : Int)) := by
  have := baddr_own none 0 0 [] 0 v n w (Bs.nil w) (by omega) (by decide) h1 (by omega) hv
  rw [rbytes_length, ← Nat.zero_add (rngN v n)]
  unfold rbytes
  rw [Int.natCast_add]
  exact this

theorem row_below2 {w w' : World} {base size n : Nat} {e : TypeId} {v : Value} {xs : List Value} (h : w.ownsRow base e size v n xs) (hb : Below w.heap.size w w') : w'.ownsRow base e size v n xs := by
  obtain ⟨h1, h2⟩ := h
  refine ⟨h1, ?_⟩
  rcases h2 with h2 | ⟨g, cap, cur, hv, hg, hh, r⟩
  · exact .inl h2
  · exact .inr ⟨g, cap, cur, hv, hg, (hb.block g (lt_of_block hh)).trans hh, r⟩
theorem row_form {w : World} {base n : Nat} {e : TypeId} {v : Value} {xs : List Value} (h : w.ownsRow base e 1 v n xs) : ∃ A c, v = .slice A n c := by
  obtain ⟨h1, h2⟩ := h
  rcases h2 with ⟨rfl, h3⟩ | ⟨g, cap, cur, rfl, r⟩
  · subst h3
    exact ⟨none, 0, rfl⟩
  · exact ⟨_, _, rfl⟩
theorem row_place {w : World} {base size n m c : Nat} {e : TypeId} {A : Option Addr} {xs : List Value} (h : w.ownsRow base e size (.slice A m c) n xs) : ∀ k, rowOf A = some k → base ≤ k ∧ k < w.heap.size := by
  intro k hk
  obtain ⟨_, h2⟩ := h
  rcases h2 with ⟨h3, _⟩ | ⟨g, cap, cur, hv, hb, hh, _⟩
  · injection h3 with e1
    subst e1
    cases hk
  · injection hv with e1
    subst e1
    injection hk with hk
    subst hk
    exact ⟨hb, lt_of_block hh⟩
theorem info_str : (Try.prog.info? 9).map (fun i => (i.zero, i.size, i.bytes)) = some (some (.string ⟨#[]⟩), 1, 16) := by kernel_rfl
theorem text_cut (S : List UInt8) (k : Nat) : (({data := S.toArray} : ByteArray).extract 0 k).toList = S.take k := by
  rw [Go.ByteArray.toList_eq, ByteArray.data_extract]; simp
/-- A text isn't the beginning of one that it differs from there. -/
theorem text_differs {S T : List UInt8} {k : Nat} (h : S ≠ T.take k) : (S == (({data := T.toArray} : ByteArray).extract 0 k).toList) = false := by
  rw [text_cut, beq_eq_false_iff_ne]; exact h
/-- A text as a value. -/
def textV (s : List UInt8) : Value := .string ⟨s.toArray⟩
theorem text_add (xs : List UInt8) (x : UInt8) : Value.string ((⟨xs.toArray⟩ : ByteArray) ++ (⟨#[x]⟩ : ByteArray)) = textV (xs ++ [x]) := by
  unfold textV
  congr 1
/-- What holds ahead of number v: the texts of those ahead of it lie in a row. -/
def RangeInv (w1 : World) (n : Nat) (s5 s6 : Value) (W : World) : Prop :=
  ∃ v A c, v ≤ n ∧ s6 = .int .u64 ((v : Nat) : Int) ∧ s5 = .slice A v c ∧ W.ownsRow w1.heap.size 9 1 (.slice A v c) v ((List.range v).map fun k => textV (rtext k n (rngN k n))) ∧ Below w1.heap.size w1 W

/-- What holds ahead of bit i: the text of those ahead of it. -/
def TextInv (w9 : World) (Ak : Option Addr) (L ck N v n : Nat) (s11 s13 : Value) (W : World) : Prop :=
  ∃ i, i ≤ N ∧ s13 = .int .i64 ((i : Nat) : Int) ∧ s11 = textV (rtext v n i) ∧ Box W w9.heap.size [.slice Ak L ck, .int .i64 ((i : Nat) : Int), .int .i64 0] ∧ Below w9.heap.size w9 W

set_option maxRecDepth 100000 in
set_option maxHeartbeats 4000000 in
theorem bitsRange_all (m n : Nat) (hm : m ≤ 255) (hn : m % 64 + 1 = n) (w : World) :
    Calls Try.prog 6 #[.int .u8 m] w fun e w' => e = .returned (.bool true) ∧ Below w.heap.size w w' := by
  have h1 : 1 ≤ n := by omega
  have h64 : n ≤ 64 := by omega
  have Hw := Lib.hid (wd_spec h1)
  go_enter Try.func6, Try.ntmps6
  go_wp2_with fail
  refine (awake_any _).mono ?_
  rintro e w1 ⟨rfl, hB1⟩
  have hwm : IntKind.u64.wrap (m : Int) = m := by rw [IntKind.wrap_u64]; omega
  have hmod : Int.tmod (m : Int) 64 = ((m % 64 : Nat) : Int) := by rw [Int.tmod_eq_emod_of_nonneg (by omega)]; simp
  have hwn : IntKind.u64.wrap (((m % 64 : Nat) : Int) + 1) = n := by rw [IntKind.wrap_u64]; omega
  go_wp2_with fail
  have hnn : (m : Int) % 64 + 1 = (n : Int) := by omega
  rw [hnn]
  generalize (m : Int) % 64 = m64
  clear hwm hmod hwn hnn
  have hD7 : wd n ≤ 7 := by
    rcases Nat.lt_or_ge (wd n) 8 with h | h
    · omega
    · have := Nat.pow_le_pow_right (n := 2) (by omega) (show 7 ≤ wd n - 1 by omega)
      have := Hw.out
      omega
  go_loopw [4] (fun s W => (∃ k : Nat, k ≤ wd n ∧ s = .int .i64 (k : Int)) ∧ W = w1) (fun s _ => wd n - (intOf s).toNat)
  case atStart => exact ⟨⟨0, Nat.zero_le _, rfl⟩, rfl⟩
  case round =>
    obtain ⟨⟨k, hk, rfl⟩, hW⟩ := hrel
    obtain rfl : w1 = wr := hW.symm
    clear hW
    by_cases hd : (n : Int) / 2 ^ k ≤ 0
    · have hkD : k = wd n := by
        rcases Nat.lt_or_ge k (wd n) with h | h
        · exfalso
          have := Nat.pow_le_pow_right (n := 2) (by omega) (show k ≤ wd n - 1 by omega)
          have := Hw.out.1
          have h3 : 1 ≤ n / 2 ^ k := (Nat.le_div_iff_mul_le (Nat.two_pow_pos k)).2 (by omega)
          have h4 : ((n / 2 ^ k : Nat) : Int) = (n : Int) / 2 ^ k := by simp
          omega
        · omega
      subst hkD
      clear hk
      have hI : RangeInv w1 n (.slice none 0 0) (.int .u64 0) w1 := ⟨0, none, 0, Nat.zero_le _, rfl, rfl, World.ownsRow_nil _ _ _ _, Below.refl _ _⟩
      go_wp2_with fail
      clear hd
      go_loopw [5, 6] (fun s5 s6 W => RangeInv w1 n s5 s6 W) (fun _ s6 _ => n - (intOf s6).toNat)
      case atStart => exact hI
      case round =>
        obtain ⟨v, A, c, hv, rfl, rfl, hrow, hbel⟩ := hrel
        clear hI
        by_cases hvn : v < n
        · have hvn2 : (v : Int) < (n : Int) := by omega
          have hL := rbytes_length v n
          have hN7 := rngN_le (v := v) h64 h1
          have HT := Lib.hid (show (List.range (v + 1)).map (fun k => textV (rtext k n (rngN k n))) = (List.range v).map (fun k => textV (rtext k n (rngN k n))) ++ [textV (rtext v n (rngN v n))] by rw [List.range_succ, List.map_append]; rfl)
          have HX := Lib.hid (show ∀ k, k < v → ((List.range v).map fun k => textV (rtext k n (rngN k n)))[k]? = some (textV (rtext k n (rngN k n))) from fun k hk => by rw [List.getElem?_map, List.getElem?_range hk]; rfl)
          have HXl := Lib.hid (show ((List.range v).map fun k => textV (rtext k n (rngN k n))).length = v by simp)
          generalize hxs : (List.range v).map (fun k => textV (rtext k n (rngN k n))) = xs at *
          clear hxs
          have G := Lib.hid (range_add v n h1 h64 hvn)
          have HR := Lib.hid (range_reads (v := v) (n := n) (T := rbytes v n ++ [255]) h1 h64 hvn (by rw [List.length_append, hL]; simp; omega) (fun i hi => by rw [bitAt_append, if_pos (by rw [hL]; omega)]; exact bitAt_rbytes hi))
          have HB := Lib.hid (fun i (hi : i < rngN v n) => bitAt_rbytes hi)
          have HN := Lib.hid (rngN_is v n)
          generalize hLL : (rbytes v n).length = L at *
          have HLL := Lib.hid hLL
          have HL := Lib.hid hL
          have hL1 : L ≤ 1 := by omega
          clear hLL hL
          generalize hNN : rngN v n = N at *
          have HNN := Lib.hid hNN
          clear hNN
          go_wp2_with fail
          refine (G.out _).mono ?_
          rintro e w2 ⟨Ak, ck, rfl, hkO, hb⟩
          clear G
          have k7 := Box.new w2 [.slice Ak L ck, .int .i64 ((N : Nat) : Int)] 27
          have hkb := hkO.bs.alloc (.cells #[.slice Ak L ck, .int .i64 ((N : Nat) : Int)] 27)
          replace hrow := World.ownsRow.alloc (row_below2 hrow hb) (.cells #[.slice Ak L ck, .int .i64 ((N : Nat) : Int)] 27)
          replace hbel := hbel.trans (hb.mono hbel.size)
          have hs2 := hbel.size
          replace hbel := hbel.alloc hbel.size (.cells #[.slice Ak L ck, .int .i64 ((N : Nat) : Int)] 27)
          clear hkO hb
          go_upto_region 12 with fail
          generalize hw3 : w2.alloc (.cells #[.slice Ak L ck, .int .i64 ((N : Nat) : Int)] 27) = w3 at *
          have HW3 := Lib.hid hw3
          clear hw3
          have k8 := k7.alloc (.cells #[] 5)
          obtain ⟨c0, c1, f0, f1, l1⟩ := k8.two
          have hbs := fun W => Bs.lit1 W 255 5
          rw [show byteV 255 = .int .u8 255 from rfl] at hbs
          have HBS := Lib.hid hbs
          clear hbs
          go_wp2_with (at_builtin; first | (refine wpList_app _ rfl (.tmp 42) (.tmp 44) 22 rfl w3.heap.size 5 Try.underlying22 byte_info (some ⟨w3.heap.size, 0, none⟩) 0 0 [] rfl (own_empty w3 _ _ (Nat.le_refl _)) Ak L ck (rbytes v n) rfl (hkb.alloc _) (by omega) (by simp) ?_; intro A4 c4 w4 hown4 hb4; clear c0 c1 f0 f1 l1 k8; rw [Nat.zero_add] at hown4; rw [List.nil_append] at hown4; replace hb4 : Below w3.heap.size w3 w4 := ((Below.refl _ w3).alloc (Nat.le_refl _) _).trans hb4; have hsz4 := hb4.size; rw [Nat.zero_add]) | go_loud (refine wpList_app _ rfl (.tmp 45) (.tmp 46) 22 rfl w3.heap.size 5 Try.underlying22 byte_info A4 L c4 (rbytes v n) rfl (hown4.alloc _) (some ⟨w4.heap.size, 0, none⟩) 1 1 [255] rfl (HBS.out w4) (by omega) (by simp; omega) ?_; intro A5 c5 w5 hown5 hb5))
          refine (start_any _ _ _ _).mono ?_
          rintro e w6 ⟨rfl, hb6⟩
          go_wp2_with fail
          refine (rng_told A5 (L + 1) c5 (rbytes v n ++ [255]) 0 0 n w6 (hown5.bs.below hb6) N 0 v (by omega) HR.out.2.1 HR.out.1 HR.out.2.2).mono ?_
          rintro e w7 ⟨rfl, hb7⟩
          have hb35 : Below w3.heap.size w3 w5 := (hb4.alloc hsz4 _).trans hb5
          have hb36 := hb35.trans (hb6.mono hb35.size)
          have hb37 := hb36.trans (hb7.mono hb36.size)
          clear hb35 hb36 hb4 hb5 hb6 hb7 hown4 hown5 HBS hsz4 HR
          replace k7 := k7.call hb37
          replace hkb := hkb.below hb37
          replace hrow := row_below2 hrow hb37
          replace hbel := hbel.trans (hb37.mono hbel.size)
          clear hb37
          have k9 := Box.new w7 [.slice A5 (L + 1) c5, .int .i64 ((N : Nat) : Int), .int .i64 0] 25
          replace k7 := k7.alloc (.cells #[.slice A5 (L + 1) c5, .int .i64 ((N : Nat) : Int), .int .i64 0] 25)
          replace hkb := hkb.alloc (.cells #[.slice A5 (L + 1) c5, .int .i64 ((N : Nat) : Int), .int .i64 0] 25)
          replace hrow := World.ownsRow.alloc hrow (.cells #[.slice A5 (L + 1) c5, .int .i64 ((N : Nat) : Int), .int .i64 0] 25)
          replace hbel := hbel.alloc hbel.size (.cells #[.slice A5 (L + 1) c5, .int .i64 ((N : Nat) : Int), .int .i64 0] 25)
          go_upto_region 13 with fail
          generalize hw8 : w7.alloc (.cells #[.slice A5 (L + 1) c5, .int .i64 ((N : Nat) : Int), .int .i64 0] 25) = w8 at *
          clear hw8
          obtain ⟨c0, c1, f0, f1, l1⟩ := k7.two
          obtain ⟨c2, c3, c4, f2, f3, f4, l2⟩ := k9.three
          go_cut [84] (fun q W => q = .bool false ∧ W = w8)
          case first =>
            go_wp2_with fail
            · go_meet
              exact ⟨rfl, rfl⟩
            · go_meet
              refine ⟨?_, rfl⟩
              have := HN.out
              simp
              omega
          case rest =>
            obtain ⟨rfl, hW⟩ := hcut
            obtain rfl : w8 = wc := hW.symm
            clear hW c2 c3 c4 f2 f3 f4 l2 k9
            have hN7' : N ≤ 7 := by omega
            go_wp2_with fail
            refine (start_any _ _ _ _).mono ?_
            rintro e w9 ⟨rfl, hb⟩
            clear c0 c1 f0 f1 l1
            replace k7 := k7.call hb
            replace hkb := hkb.below hb
            replace hrow := row_below2 hrow hb
            replace hbel := hbel.trans (hb.mono hbel.size)
            clear hb
            have hI : TextInv w9 Ak L ck N v n (.string { data := #[] }) (.int .i64 0) (w9.alloc (.cells #[.slice Ak L ck, .int .i64 0, .int .i64 0] 25)) :=
              ⟨0, Nat.zero_le _, rfl, rfl, Box.new _ _ _, (Below.refl _ _).alloc (Nat.le_refl _) _⟩
            have HG := Lib.hid (fun i (hi : i < rngN v n) => range_bit hi)
            rw [HNN.out, HLL.out] at HG
            have hsz9 : w1.heap.size ≤ w9.heap.size := hbel.size
            go_wp2_with fail
            go_loopw [11, 13] (fun s11 s13 W => TextInv w9 Ak L ck N v n s11 s13 W) (fun _ s13 _ => N - (intOf s13).toNat)
            case atStart => exact hI
            case round =>
              obtain ⟨i, hi, rfl, rfl, k12, hb9⟩ := hrel
              clear hI
              have k7r := k7.call hb9
              obtain ⟨c0, c1, f0, f1, l1⟩ := k7r.two
              obtain ⟨c2, c3, c4, f2, f3, f4, l2⟩ := k12.three
              by_cases hiN : i < N
              · have hiN2 : (i : Int) < (N : Int) := by omega
                have hg := HG.out i hiN
                have HGi := Lib.hid hg
                clear hg
                go_wp2_with fail
                refine (get_told Ak L ck (rbytes v n) i 0 1 wr (hkb.below hb9) ((i : Int) + 1) 0 (rbit v n i).toNat (by omega) (by rw [HLL.out]; exact HGi.out.2.1) (by rw [HLL.out]; exact HGi.out.1) HGi.out.2.2).mono ?_
                rintro e w10 ⟨rfl, hb⟩
                have hT1 := Lib.hid (show rtext v n (i + 1) = rtext v n i ++ [if rbit v n i = true then 49 else 48] from rfl)
                generalize hb0 : (rbit v n i).toNat = b0 at *
                have hb01 : b0 ≤ 1 := by rw [← hb0]; cases rbit v n i <;> decide
                have HC := Lib.hid (show UInt8.ofNat (48 + b0) = if rbit v n i = true then 49 else 48 by rw [← hb0]; cases rbit v n i <;> rfl)
                have hbv : byteV (UInt8.ofNat (48 + b0)) = .int .u8 (48 + (b0 : Int)) := by
                  rw [byteV_ofNat]
                  congr 1
                  omega
                clear hb0 HGi
                have k14 := Box.new w10 [.slice Ak L ck, .int .i64 ((i : Int) + 1), .int .i64 0] 25
                replace k12 := (k12.call hb).alloc (.cells #[.slice Ak L ck, .int .i64 ((i : Int) + 1), .int .i64 0] 25)
                replace hb9 := (hb9.trans (hb.mono hb9.size)).alloc (hb9.trans (hb.mono hb9.size)).size (.cells #[.slice Ak L ck, .int .i64 ((i : Int) + 1), .int .i64 0] 25)
                clear c0 c1 f0 f1 l1 c2 c3 c4 f2 f3 f4 l2 hb k7r
                obtain ⟨c2, c3, c4, f2, f3, f4, l2⟩ := k12.three
                obtain ⟨c5, c6, c7, f5, f6, f7, l3⟩ := k14.three
                replace k12 := k12.put3 (.slice Ak L ck) (.int .i64 ((i : Int) + 1)) (.int .i64 0)
                replace hb9 := below_put3 hb9 (Nat.le_refl _) (.slice Ak L ck) (.int .i64 ((i : Int) + 1)) (.int .i64 0)
                rw [show textV (rtext v n i) = .string ⟨(rtext v n i).toArray⟩ from rfl]
                go_upto_region 22 with fail
                generalize hw11 : (((w10.alloc (.cells #[.slice Ak L ck, .int .i64 ((i : Int) + 1), .int .i64 0] 25)).setCell ⟨w9.heap.size, 0, none⟩ (.slice Ak L ck)).setCell ⟨w9.heap.size, 1, none⟩ (.int .i64 ((i : Int) + 1))).setCell ⟨w9.heap.size, 2, none⟩ (.int .i64 0) = w11 at *
                clear c2 c3 c4 f2 f3 f4 l2 c5 c6 c7 f5 f6 f7 l3 hw11
                have hstr := str_of (Bs.lit1 w11 (UInt8.ofNat (48 + b0)) 5)
                rw [hbv, HC.out] at hstr
                clear hbv k14
                generalize hch : (if rbit v n i = true then (49 : UInt8) else 48) = ch at *
                clear hch HC
                have hlen : (rtext v n i).length = i := rtext_length v n i
                have hlen1 : (i : Int) + 1 ≤ 9223372036854775807 := by omega
                have hlen2 : i + 1 ≤ maxLen := by simp only [maxLen]; omega
                go_wp2_with fail
                go_roundw
                case rel =>
                  refine ⟨i + 1, hiN, by go_num, ?_, k12.alloc _, hb9.alloc hb9.size _⟩
                  rw [hT1.out, ← text_add]
                case measure => simp [intOf]; omega
              · have hNi : N = i := by omega
                subst hNi
                clear hi hiN
                rw [show textV (rtext v n N) = .string ⟨(rtext v n N).toArray⟩ from rfl]
                have hrow9 := row_below2 hrow hb9
                have hbel9 := hbel.trans (hb9.mono hbel.size)
                clear hrow hbel hkb k7r k12 hb9
                go_wp2_with fail
                clear c0 c1 f0 f1 l1 c2 c3 c4 f2 f3 f4 l2
                obtain ⟨wx, rfl⟩ : ∃ x, x = wr := ⟨_, rfl⟩
                go_loopw [16] (fun s16 W => (∃ j : Nat, j ≤ v ∧ s16 = .int .i64 (j : Int)) ∧ ∃ q, W = wx.drewN q) (fun s16 _ => v - (intOf s16).toNat)
                case atStart => exact ⟨⟨0, Nat.zero_le _, rfl⟩, 0, rfl⟩
                case round =>
                  obtain ⟨⟨j, hj, rfl⟩, q, rfl⟩ := hrel
                  by_cases hjv : j < v
                  · have hjv2 : (j : Int) < (v : Int) := by omega
                    have hj0 : (0 : Int) ≤ (j : Int) := by omega
                    have hxj := HX.out j hjv
                    obtain ⟨rb, rO, rfl, _, hrc⟩ := (Sl.of_own hrow9).at_ (by omega)
                    have hrc1 := hrc j _ hxj
                    rw [show textV (rtext j n (rngN j n)) = .string ⟨(rtext j n (rngN j n)).toArray⟩ from rfl] at hrc1
                    have hlj : (rtext j n (rngN j n)).length = rngN j n := rtext_length _ _ _
                    have hlv : (rtext v n N).length = N := rtext_length _ _ _
                    clear hrc hxj
                    by_cases hle : rngN j n ≤ N
                    · have hle1 : decide (((rngN j n : Nat) : Int) ≤ (N : Int)) = true := by simp; omega
                      have hle2 : decide (N < rngN j n) = false := by simp; omega
                      have hcmp : (rtext j n (rngN j n) == (({data := (rtext v n N).toArray} : ByteArray).extract 0 (rngN j n)).toList) = false := text_differs fun e => by
                        have hNv := HNN.out
                        rw [← hNv] at e hle
                        have := range_free h1 h64 (show j < n by omega) hvn hle e
                        omega
                      go_wp2_with fail
                      generalize hnj : rngN j n = nj at *
                      generalize hS1 : rtext j n nj = S1 at *
                      generalize hS2 : rtext v n N = S2 at *
                      have HS2 := Lib.hid hS2
                      clear hnj hS1 hS2
                      subst hlj
                      go_quiet (fail)
                      go_wp2_with fail
                      have hS2 := HS2.out
                      clear HS2
                      subst hS2
                      go_roundw
                      case rel => exact ⟨⟨j + 1, by omega, by go_num⟩, q + nq, rfl⟩
                      case measure => simp [intOf]; omega
                    · have hle1 : decide (((rngN j n : Nat) : Int) ≤ (N : Int)) = false := by simp; omega
                      have hle2 : decide (N < rngN j n) = true := by simp; omega
                      have hle3 : decide (rngN j n ≤ N) = false := by simp; omega
                      have hcmp : (rtext v n N == (({data := (rtext j n (rngN j n)).toArray} : ByteArray).extract 0 N).toList) = false := text_differs fun e => by
                        have hNv := HNN.out
                        rw [← hNv] at e hle
                        have := range_free h1 h64 hvn (show j < n by omega) (by omega) e
                        omega
                      go_wp2_with fail
                      generalize hnj : rngN j n = nj at *
                      generalize hS1 : rtext j n nj = S1 at *
                      generalize hS2 : rtext v n N = S2 at *
                      have HS2 := Lib.hid hS2
                      clear hnj hS1 hS2
                      subst hlj
                      go_quiet (fail)
                      go_wp2_with fail
                      have hS2 := HS2.out
                      clear HS2
                      subst hS2
                      go_roundw
                      case rel => exact ⟨⟨j + 1, by omega, by go_num⟩, q + nq, rfl⟩
                      case measure => simp [intOf]; omega
                  · have hjv3 : j = v := by omega
                    subst hjv3
                    have hout : ¬ ((j : Int) < (j : Int)) := by omega
                    replace hrow9 : (wx.drewN q).ownsRow w1.heap.size 9 1 (.slice A j c) j xs := hrow9
                    replace hbel9 : Below w1.heap.size w1 (wx.drewN q) := below_drewN hbel9 q
                    generalize wx.drewN q = wy at *
                    obtain ⟨i0, hi0', hz0', hz1', hz2'⟩ := info_parts info_str
                    have hnews := cell_one_new wy (.string ⟨(rtext j n N).toArray⟩) 9
                    have hrp := row_place hrow9
                    go_wp2_with (at_builtin; go_loud (refine wpList_append_own_at _ rfl (.tmp 158) (.tmp 160) 51 rfl w1.heap.size 9 i0 (.string ⟨#[]⟩) 1 16 Try.underlying51 hi0' hz0' hz1' hz2' rfl (by omega) (.slice A j c) j xs rfl (World.ownsRow.alloc hrow9 _) ⟨wy.heap.size, 0, none⟩ 1 1 [.string ⟨(rtext j n N).toArray⟩] rfl rfl hnews (by simp [Value.oneCell']) (by simp only [maxLen]; omega) (by omega) (by have := hbel9.size; simp; omega) ?_); intro v' w6 hown6 hgrow _ hat)
                    obtain ⟨A6, c6, rfl⟩ := row_form hown6
                    rw [ownBlock_slice] at hgrow
                    have hbel6 := (hbel9.alloc hbel9.size _).grown hgrow (by have := hbel9.size; simp; omega) (fun k hk => (hrp k hk).1)
                    go_wp2
                    go_roundw
                    case rel =>
                      refine ⟨j + 1, A6, c6, by omega, by go_num, rfl, ?_, hbel6⟩
                      rw [HT.out]
                      exact hown6
                    case measure => simp [intOf]; omega
        · have hvn3 : v = n := by omega
          subst hvn3
          have hout : ¬ ((v : Int) < (v : Int)) := by omega
          go_wp2
          go_ret
          exact ⟨rfl, hB1.trans (hbel.mono hB1.size)⟩
    · have hkD : k < wd n := by
        rcases Nat.lt_or_ge k (wd n) with h | h
        · exact h
        · exfalso
          have := Nat.pow_le_pow_right (n := 2) (by omega) h
          have := Hw.out.2
          have h3 : n / 2 ^ k = 0 := Nat.div_eq_of_lt (by omega)
          have h4 : ((n / 2 ^ k : Nat) : Int) = (n : Int) / 2 ^ k := by simp
          omega
      go_wp2_with fail
      exact ⟨⟨⟨k + 1, hkD, by go_num⟩, trivial⟩, by simp [intOf]; omega⟩

end Go.Proofs.Ythkngjokbkfebaa
