/-
  What the document's own answers for layer 11 come to: Open. (Written by gen_TrainO.py.)
-/
import Derived.Test.YtkfinkmbdpdepaaTrainR
import Derived.Test.YtkfinkmbdpdepaaBox4
import Derived.Test.YtkfinkmbdpdepaaBox6
namespace Go.Proofs.Ytkfinkmbdpdepaa
open Go.RowKit
set_option linter.unusedVariables false
set_option linter.unusedSimpArgs false

def carW (c : Cm) (A : Option Addr) (m d p : Nat) : Value := .agg #[.bool c.pad, .int .i64 c.count, .int .i64 c.typ, .int .i64 c.size, .slice A m d, .int .i64 p]
/-- What a call hands back: a car, and the number of an error. -/
def GivesCar (w : World) (c : Cm) (l : List UInt8) (p e : Nat) (x : Ending) (w' : World) : Prop :=
  ∃ A m d, x = .returned (.tuple #[carW c A m d p, .int .i64 e]) ∧ Bs w' A m d l ∧ Below w.heap.size w w'

set_option maxRecDepth 100000 in
set_option maxHeartbeats 1000000 in
theorem ropen_e1 (A : Option Addr) (n c : Nat) (s : List UInt8) (w : World) (hs : Bs w A n c s) (h : cmE s ≠ 0) :
    Calls Try.prog 8 #[.slice A n c] w (GivesCar w zeroCm [] 0 (cmE s)) := by
  have HW := Lib.hid (fun W h => rcread_any A n c s W h)
  generalize readCm s = R at *
  obtain ⟨rp, rc, rt, rz⟩ := R
  generalize cmE s = E at *
  have g0 : ((E : Int) != 0) = true := by rw [bne_iff_ne]; omega
  have k1 := Box.new w [.bool false, .int .i64 0, .int .i64 0, .int .i64 0, .slice none 0 0, .int .i64 0] 30
  have hB := below1 w (.cells #[.bool false, .int .i64 0, .int .i64 0, .int .i64 0, .slice none 0 0, .int .i64 0] 30)
  dsimp only [cmW] at HW
  go_enter Try.func8, Try.ntmps8
  go_wp2_with fail
  refine (HW.out _ (hs.alloc _)).mono ?_
  rintro x w2 ⟨rfl, hb⟩
  have hs2 := (hs.alloc _).below hb
  replace k1 := k1.call hb
  replace hB := hB.trans (hb.mono (by simp))
  have hsz := hB.size
  have k2 := k1.alloc (.cells #[.bool rp, .int .i64 rc, .int .i64 rt, .int .i64 rz] 25)
  have hB2 := hB.alloc hsz (.cells #[.bool rp, .int .i64 rc, .int .i64 rt, .int .i64 rz] 25)
  have kh := Box.new w2 [.bool rp, .int .i64 rc, .int .i64 rt, .int .i64 rz] 25
  have ka := k2.all6.1
  have kf := k2.free6
  have kha := kh.all4.1
  have KQ := Lib.hid (k2.put6 (.bool false) (.int .i64 0) (.int .i64 0) (.int .i64 0) (.slice none 0 0) (.int .i64 0))
  have HBq := Lib.hid (below_put6 hB2 (Nat.le_refl w.heap.size) (.bool false) (.int .i64 0) (.int .i64 0) (.int .i64 0) (.slice none 0 0) (.int .i64 0))
  go_wp2_with fail
  clear ka kf kha
  change bodyPost _ _ _ _ _ (put6 _ w.heap.size (.bool false) (.int .i64 0) (.int .i64 0) (.int .i64 0) (.slice none 0 0) (.int .i64 0))
  have kz := KQ.out.all6.1
  have hBq := HBq.out
  generalize put6 _ w.heap.size (.bool false) (.int .i64 0) (.int .i64 0) (.int .i64 0) (.slice none 0 0) (.int .i64 0) = wq at *
  exact bodyPost_ret (v := .tuple #[carW zeroCm none 0 0 0, .int .i64 ((E : Nat) : Int)]) (by simp [results, Try.results8, go_sem, carW, zeroCm, *]) rfl ⟨none, 0, 0, rfl, Bs.nil _, hBq⟩

set_option maxRecDepth 100000 in
set_option maxHeartbeats 1000000 in
theorem ropen_e4 (A : Option Addr) (n c : Nat) (s : List UInt8) (w : World) (hs : Bs w A n c s) (h : cmE s = 0) (h2 : (readCm s).size ≠ n) :
    Calls Try.prog 8 #[.slice A n c] w (GivesCar w zeroCm [] 0 4) := by
  have HW := Lib.hid (fun W h => rcread_any A n c s W h)
  rw [h] at HW
  generalize readCm s = R at *
  obtain ⟨rp, rc, rt, rz⟩ := R
  have g0 : (rz != (n : Int)) = true := by rw [bne_iff_ne]; exact h2
  clear h h2
  have k1 := Box.new w [.bool false, .int .i64 0, .int .i64 0, .int .i64 0, .slice none 0 0, .int .i64 0] 30
  have hB := below1 w (.cells #[.bool false, .int .i64 0, .int .i64 0, .int .i64 0, .slice none 0 0, .int .i64 0] 30)
  dsimp only [cmW] at HW
  go_enter Try.func8, Try.ntmps8
  go_wp2_with fail
  refine (HW.out _ (hs.alloc _)).mono ?_
  rintro x w2 ⟨rfl, hb⟩
  have hs2 := (hs.alloc _).below hb
  replace k1 := k1.call hb
  replace hB := hB.trans (hb.mono (by simp))
  have hsz := hB.size
  have k2 := k1.alloc (.cells #[.bool rp, .int .i64 rc, .int .i64 rt, .int .i64 rz] 25)
  have hB2 := hB.alloc hsz (.cells #[.bool rp, .int .i64 rc, .int .i64 rt, .int .i64 rz] 25)
  have kh := Box.new w2 [.bool rp, .int .i64 rc, .int .i64 rt, .int .i64 rz] 25
  have ka := k2.all6.1
  have kf := k2.free6
  have kha := kh.all4.1
  have KQ := Lib.hid (k2.put6 (.bool false) (.int .i64 0) (.int .i64 0) (.int .i64 0) (.slice none 0 0) (.int .i64 0))
  have HBq := Lib.hid (below_put6 hB2 (Nat.le_refl w.heap.size) (.bool false) (.int .i64 0) (.int .i64 0) (.int .i64 0) (.slice none 0 0) (.int .i64 0))
  go_wp2_with fail
  clear ka kf kha
  change bodyPost _ _ _ _ _ (put6 _ w.heap.size (.bool false) (.int .i64 0) (.int .i64 0) (.int .i64 0) (.slice none 0 0) (.int .i64 0))
  have kz := KQ.out.all6.1
  have hBq := HBq.out
  generalize put6 _ w.heap.size (.bool false) (.int .i64 0) (.int .i64 0) (.int .i64 0) (.slice none 0 0) (.int .i64 0) = wq at *
  exact bodyPost_ret (v := .tuple #[carW zeroCm none 0 0 0, .int .i64 ((4 : Nat) : Int)]) (by simp [results, Try.results8, go_sem, carW, zeroCm, *]) rfl ⟨none, 0, 0, rfl, Bs.nil _, hBq⟩

set_option maxRecDepth 100000 in
set_option maxHeartbeats 1000000 in
theorem ropen_e5a (A : Option Addr) (n c : Nat) (s : List UInt8) (w : World) (hs : Bs w A n c s) (h : cmE s = 0) (h2 : (readCm s).size = n) (hp : (readCm s).pad = true) (h5 : trailN (s.drop 4) = 0) :
    Calls Try.prog 8 #[.slice A n c] w (GivesCar w zeroCm [] 0 5) := by
  have HW := Lib.hid (fun W h => rcread_any A n c s W h)
  have hln := hs.len
  have h4 : 4 ≤ n := by have := (cmE_zero h).1; omega
  rw [h] at HW
  generalize readCm s = R at *
  obtain ⟨rp, rc, rt, rz⟩ := R
  dsimp only at h2 hp
  subst h2 hp
  have g0 : ((n : Int) != (n : Int)) = false := by rw [bne_eq_false_iff_eq]
  clear h
  have k1 := Box.new w [.bool false, .int .i64 0, .int .i64 0, .int .i64 0, .slice none 0 0, .int .i64 0] 30
  have hB := below1 w (.cells #[.bool false, .int .i64 0, .int .i64 0, .int .i64 0, .slice none 0 0, .int .i64 0] 30)
  dsimp only [cmW] at HW
  go_enter Try.func8, Try.ntmps8
  go_wp2_with fail
  refine (HW.out _ (hs.alloc _)).mono ?_
  rintro x w2 ⟨rfl, hb⟩
  have hs2 := (hs.alloc _).below hb
  replace k1 := k1.call hb
  replace hB := hB.trans (hb.mono (by simp))
  have hsz := hB.size
  have k2 := k1.alloc (.cells #[.bool true, .int .i64 rc, .int .i64 rt, .int .i64 (n : Int)] 25)
  have hB2 := hB.alloc hsz (.cells #[.bool true, .int .i64 rc, .int .i64 rt, .int .i64 (n : Int)] 25)
  have kh := Box.new w2 [.bool true, .int .i64 rc, .int .i64 rt, .int .i64 (n : Int)] 25
  have ka := k2.all6.1
  have kf := k2.free6
  have kha := kh.all4.1
  have hs3 := hs2.alloc (.cells #[.bool true, .int .i64 rc, .int .i64 rt, .int .i64 (n : Int)] 25)
  obtain ⟨A9, c9, hsl9, hb9⟩ := hs3.slice_l Try.underlying22 byte_size (a := 4) h4
  have hsl9' := fun W => hsl9 W (4 : Int) rfl
  have T := rtrail_any A9 (n - 4) c9 (s.drop 4) _ hb9
  clear hsl9
  generalize trailN (s.drop 4) = pv at *
  have HT := Lib.hid T
  clear T
  have hz : ((pv : Int) == 0) = true := by rw [beq_iff_eq]; omega
  have KQ := Lib.hid (k2.put6 (.bool false) (.int .i64 0) (.int .i64 0) (.int .i64 0) (.slice none 0 0) (.int .i64 0))
  have HBq := Lib.hid (below_put6 hB2 (Nat.le_refl w.heap.size) (.bool false) (.int .i64 0) (.int .i64 0) (.int .i64 0) (.slice none 0 0) (.int .i64 0))
  go_wp2_with fail
  refine (HT.out).mono ?_
  rintro e w' ⟨rfl, rfl⟩
  go_wp2_with fail
  clear ka kf kha
  change bodyPost _ _ _ _ _ (put6 _ w.heap.size (.bool false) (.int .i64 0) (.int .i64 0) (.int .i64 0) (.slice none 0 0) (.int .i64 0))
  have kz := KQ.out.all6.1
  have hBq := HBq.out
  generalize put6 _ w.heap.size (.bool false) (.int .i64 0) (.int .i64 0) (.int .i64 0) (.slice none 0 0) (.int .i64 0) = wq at *
  exact bodyPost_ret (v := .tuple #[carW zeroCm none 0 0 0, .int .i64 ((5 : Nat) : Int)]) (by simp [results, Try.results8, go_sem, carW, zeroCm, *]) rfl ⟨none, 0, 0, rfl, Bs.nil _, hBq⟩

set_option maxRecDepth 100000 in
set_option maxHeartbeats 1000000 in
theorem ropen_e5b (A : Option Addr) (n c : Nat) (s : List UInt8) (w : World) (hs : Bs w A n c s) (h : cmE s = 0) (h2 : (readCm s).size = n) (hp : (readCm s).pad = true) (h5 : trailN (s.drop 4) % 4 ≠ 0) :
    Calls Try.prog 8 #[.slice A n c] w (GivesCar w zeroCm [] 0 5) := by
  have HW := Lib.hid (fun W h => rcread_any A n c s W h)
  have hln := hs.len
  have h4 : 4 ≤ n := by have := (cmE_zero h).1; omega
  rw [h] at HW
  generalize readCm s = R at *
  obtain ⟨rp, rc, rt, rz⟩ := R
  dsimp only at h2 hp
  subst h2 hp
  have g0 : ((n : Int) != (n : Int)) = false := by rw [bne_eq_false_iff_eq]
  clear h
  have k1 := Box.new w [.bool false, .int .i64 0, .int .i64 0, .int .i64 0, .slice none 0 0, .int .i64 0] 30
  have hB := below1 w (.cells #[.bool false, .int .i64 0, .int .i64 0, .int .i64 0, .slice none 0 0, .int .i64 0] 30)
  dsimp only [cmW] at HW
  go_enter Try.func8, Try.ntmps8
  go_wp2_with fail
  refine (HW.out _ (hs.alloc _)).mono ?_
  rintro x w2 ⟨rfl, hb⟩
  have hs2 := (hs.alloc _).below hb
  replace k1 := k1.call hb
  replace hB := hB.trans (hb.mono (by simp))
  have hsz := hB.size
  have k2 := k1.alloc (.cells #[.bool true, .int .i64 rc, .int .i64 rt, .int .i64 (n : Int)] 25)
  have hB2 := hB.alloc hsz (.cells #[.bool true, .int .i64 rc, .int .i64 rt, .int .i64 (n : Int)] 25)
  have kh := Box.new w2 [.bool true, .int .i64 rc, .int .i64 rt, .int .i64 (n : Int)] 25
  have ka := k2.all6.1
  have kf := k2.free6
  have kha := kh.all4.1
  have hs3 := hs2.alloc (.cells #[.bool true, .int .i64 rc, .int .i64 rt, .int .i64 (n : Int)] 25)
  obtain ⟨A9, c9, hsl9, hb9⟩ := hs3.slice_l Try.underlying22 byte_size (a := 4) h4
  have hsl9' := fun W => hsl9 W (4 : Int) rfl
  have T := rtrail_any A9 (n - 4) c9 (s.drop 4) _ hb9
  clear hsl9
  generalize trailN (s.drop 4) = pv at *
  have HT := Lib.hid T
  clear T
  have hz : ((pv : Int) == 0) = false := by rw [beq_eq_false_iff_ne]; omega
  obtain ⟨x, hx⟩ : ∃ x : Int, ((pv % 4 : Nat) : Int) = x := ⟨_, rfl⟩
  have hm : ((pv : Nat) : Int).tmod 4 = x := by rw [Int.tmod_eq_emod_of_nonneg (by omega)]; omega
  have hm2 : (x != 0) = true := by rw [bne_iff_ne]; omega
  clear hx h5
  have KQ := Lib.hid (k2.put6 (.bool false) (.int .i64 0) (.int .i64 0) (.int .i64 0) (.slice none 0 0) (.int .i64 0))
  have HBq := Lib.hid (below_put6 hB2 (Nat.le_refl w.heap.size) (.bool false) (.int .i64 0) (.int .i64 0) (.int .i64 0) (.slice none 0 0) (.int .i64 0))
  go_wp2_with fail
  refine (HT.out).mono ?_
  rintro e w' ⟨rfl, rfl⟩
  go_wp2_with fail
  clear ka kf kha
  change bodyPost _ _ _ _ _ (put6 _ w.heap.size (.bool false) (.int .i64 0) (.int .i64 0) (.int .i64 0) (.slice none 0 0) (.int .i64 0))
  have kz := KQ.out.all6.1
  have hBq := HBq.out
  generalize put6 _ w.heap.size (.bool false) (.int .i64 0) (.int .i64 0) (.int .i64 0) (.slice none 0 0) (.int .i64 0) = wq at *
  exact bodyPost_ret (v := .tuple #[carW zeroCm none 0 0 0, .int .i64 ((5 : Nat) : Int)]) (by simp [results, Try.results8, go_sem, carW, zeroCm, *]) rfl ⟨none, 0, 0, rfl, Bs.nil _, hBq⟩

set_option maxRecDepth 100000 in
set_option maxHeartbeats 1000000 in
theorem ropen_ok0 (A : Option Addr) (n c : Nat) (s : List UInt8) (w : World) (hs : Bs w A n c s) (hn : n ≤ 1000000) (h : cmE s = 0) (h2 : (readCm s).size = n) (hp : (readCm s).pad = false)  :
    Calls Try.prog 8 #[.slice A n c] w (GivesCar w ⟨false, (readCm s).count, (readCm s).typ, n⟩ ((s.drop 4).take (n - 4)) 0 0) := by
  have HW := Lib.hid (fun W h => rcread_any A n c s W h)
  have hln := hs.len
  have hlc := hs.cap
  unfold maxLen at hlc
  have hle := hs.le
  have h4 : 4 ≤ n := by have := (cmE_zero h).1; omega
  have htl := trailN_le (s.drop 4)
  rw [List.length_drop, hln] at htl
  rw [h] at HW
  generalize readCm s = R at *
  obtain ⟨rp, rc, rt, rz⟩ := R
  dsimp only at h2 hp ⊢
  subst h2 hp
  have g0 : ((n : Int) != (n : Int)) = false := by rw [bne_eq_false_iff_eq]
  clear h
  have k1 := Box.new w [.bool false, .int .i64 0, .int .i64 0, .int .i64 0, .slice none 0 0, .int .i64 0] 30
  have hB := below1 w (.cells #[.bool false, .int .i64 0, .int .i64 0, .int .i64 0, .slice none 0 0, .int .i64 0] 30)
  dsimp only [cmW] at HW
  go_enter Try.func8, Try.ntmps8
  go_wp2_with fail
  refine (HW.out _ (hs.alloc _)).mono ?_
  rintro x w2 ⟨rfl, hb⟩
  have hs2 := (hs.alloc _).below hb
  replace k1 := k1.call hb
  replace hB := hB.trans (hb.mono (by simp))
  have hsz := hB.size
  have k2 := k1.alloc (.cells #[.bool false, .int .i64 rc, .int .i64 rt, .int .i64 (n : Int)] 25)
  have hB2 := hB.alloc hsz (.cells #[.bool false, .int .i64 rc, .int .i64 rt, .int .i64 (n : Int)] 25)
  have kh := Box.new w2 [.bool false, .int .i64 rc, .int .i64 rt, .int .i64 (n : Int)] 25
  have ka := k2.all6.1
  have kf := k2.free6
  have kha := kh.all4.1
  have hs3 := hs2.alloc (.cells #[.bool false, .int .i64 rc, .int .i64 rt, .int .i64 (n : Int)] 25)
  obtain ⟨A1, c1, hsl, hY⟩ := hs3.slice_lr Try.underlying22 byte_size (a := 4) (r := n) (by omega) (by omega)
  have hsl2 := fun W => hsl W (4 : Int) ((n : Int)) rfl (by omega)
  clear hsl
  have w0 : IntKind.i64.wrap ((n : Int)) = (n : Int) := IntWalk.i64_in _ (by omega)
  have w1 : IntKind.i64.wrap ((n : Int) - 0) = (n : Int) := by rw [Int.sub_zero]; exact w0
  have w3 : (0 : Int) ≤ (n : Int) := by omega
  have w4 : ((n : Int)) ≤ (n : Int) := by omega
  have hBc : Below w2.heap.size w2 (w2.alloc (.cells #[.bool false, .int .i64 rc, .int .i64 rt, .int .i64 (n : Int)] 25)) := below1 w2 _
  have hlt3 : w.heap.size < w2.heap.size := k1.2.2
  have hlt1 : w2.heap.size < (w2.alloc (.cells #[.bool false, .int .i64 rc, .int .i64 rt, .int .i64 (n : Int)] 25)).heap.size := kh.2.2
  have hlt2 : w.heap.size < (w2.alloc (.cells #[.bool false, .int .i64 rc, .int .i64 rt, .int .i64 (n : Int)] 25)).heap.size := k2.2.2
  go_upto_region 11 with fail
  generalize (w2.alloc (.cells #[.bool false, .int .i64 rc, .int .i64 rt, .int .i64 (n : Int)] 25)) = wc at *
  have k3 : Box wc.drew w.heap.size [.bool false, .int .i64 0, .int .i64 0, .int .i64 0, .slice none 0 0, .int .i64 0] := k2
  have kh3 : Box wc.drew w2.heap.size [.bool false, .int .i64 rc, .int .i64 rt, .int .i64 (n : Int)] := kh
  have kh4 := kh3.alloc (.cells #[] 5)
  have k4 := k3.alloc (.cells #[] 5)
  have a3 := kh3.all4.1
  have a4 := kh4.all4.1
  have hB0 : Below w2.heap.size w2 (wc.drew.alloc (.cells #[] 5)) := (hBc.drew).alloc (show w2.heap.size ≤ wc.heap.size by omega) _
  go_region_law (first | (refine step_app2 rfl (.tmp 36) (.tmp 42) 22 rfl wc.heap.size 5 Try.underlying22 byte_info (some ⟨wc.heap.size, 0, none⟩) 0 0 [] rfl (own_empty wc.drew _ _ (Nat.le_refl _)) A1 (n - 4) c1 _ rfl (hY.drew.alloc _) (by omega) (by simp) ?_; intro A6 c6 w6 hown6 hgr6 hat6; rw [Nat.zero_add] at hown6; rw [List.nil_append] at hown6; rw [Nat.zero_add]; have kh6 : Box w6 w2.heap.size [.bool false, .int .i64 rc, .int .i64 rt, .int .i64 (n : Int)] := kh4.grown hgr6 (by simp [rowOf]; omega); have k6 : Box w6 w.heap.size [.bool false, .int .i64 0, .int .i64 0, .int .i64 0, .slice none 0 0, .int .i64 0] := k4.grown hgr6 (by simp [rowOf]; omega); have a6 := kh6.all4.1; have b6 := k6.all6.1; have f6 := k6.free6; have hB6 : Below w2.heap.size w2 w6 := hB0.grown hgr6 (by simp; omega) (fun q hq => by simp [rowOf] at hq; omega); have hs6 := hB6.size; have KH := Lib.hid (kh6.far6 (b := w.heap.size) (by omega) (.bool false) (.int .i64 rc) (.int .i64 rt) (.int .i64 (n : Int)) (.slice A6 (n - 4) c6) (.int .i64 0)); have KQ := Lib.hid (k6.put6 (.bool false) (.int .i64 rc) (.int .i64 rt) (.int .i64 (n : Int)) (.slice A6 (n - 4) c6) (.int .i64 0)); have hfar : some w.heap.size ≠ rowOf A6 := (fun e => by have := hown6.row_ge _ e.symm; omega); have HO := Lib.hid (rowV_put6 hown6 hfar (.bool false) (.int .i64 rc) (.int .i64 rt) (.int .i64 (n : Int)) (.slice A6 (n - 4) c6) (.int .i64 0)); have HBq := Lib.hid (below_put6 (hB.trans (hB6.mono hsz)) (Nat.le_refl w.heap.size) (.bool false) (.int .i64 rc) (.int .i64 rt) (.int .i64 (n : Int)) (.slice A6 (n - 4) c6) (.int .i64 0))))
  all_goals
    go_wp2_with fail
    clear a6 b6 f6
    change bodyPost _ _ _ _ _ (put6 _ w.heap.size (.bool false) (.int .i64 rc) (.int .i64 rt) (.int .i64 (n : Int)) (.slice A6 (n - 4) c6) (.int .i64 0))
    have kz := KQ.out.all6.1
    have hBq := HBq.out
    have hO := Sl.of_own HO.out
    generalize put6 _ w.heap.size (.bool false) (.int .i64 rc) (.int .i64 rt) (.int .i64 (n : Int)) (.slice A6 (n - 4) c6) (.int .i64 0) = wq at *
    exact bodyPost_ret (v := .tuple #[.agg #[.bool false, .int .i64 rc, .int .i64 rt, .int .i64 (n : Int), .slice A6 (n - 4) c6, .int .i64 0], .int .i64 0]) (by simp [results, Try.results8, go_sem, *]) rfl ⟨A6, _, c6, rfl, hO, hBq⟩

set_option maxRecDepth 100000 in
set_option maxHeartbeats 1000000 in
theorem ropen_ok1 (A : Option Addr) (n c : Nat) (s : List UInt8) (w : World) (hs : Bs w A n c s) (hn : n ≤ 1000000) (h : cmE s = 0) (h2 : (readCm s).size = n) (hp : (readCm s).pad = true) (h5 : trailN (s.drop 4) ≠ 0) (h6 : trailN (s.drop 4) % 4 = 0) :
    Calls Try.prog 8 #[.slice A n c] w (GivesCar w ⟨true, (readCm s).count, (readCm s).typ, n⟩ ((s.drop 4).take ((n - trailN (s.drop 4)) - 4)) (trailN (s.drop 4)) 0) := by
  have HW := Lib.hid (fun W h => rcread_any A n c s W h)
  have hln := hs.len
  have hlc := hs.cap
  unfold maxLen at hlc
  have hle := hs.le
  have h4 : 4 ≤ n := by have := (cmE_zero h).1; omega
  have htl := trailN_le (s.drop 4)
  rw [List.length_drop, hln] at htl
  rw [h] at HW
  generalize readCm s = R at *
  obtain ⟨rp, rc, rt, rz⟩ := R
  dsimp only at h2 hp ⊢
  subst h2 hp
  have g0 : ((n : Int) != (n : Int)) = false := by rw [bne_eq_false_iff_eq]
  clear h
  have k1 := Box.new w [.bool false, .int .i64 0, .int .i64 0, .int .i64 0, .slice none 0 0, .int .i64 0] 30
  have hB := below1 w (.cells #[.bool false, .int .i64 0, .int .i64 0, .int .i64 0, .slice none 0 0, .int .i64 0] 30)
  dsimp only [cmW] at HW
  go_enter Try.func8, Try.ntmps8
  go_wp2_with fail
  refine (HW.out _ (hs.alloc _)).mono ?_
  rintro x w2 ⟨rfl, hb⟩
  have hs2 := (hs.alloc _).below hb
  replace k1 := k1.call hb
  replace hB := hB.trans (hb.mono (by simp))
  have hsz := hB.size
  have k2 := k1.alloc (.cells #[.bool true, .int .i64 rc, .int .i64 rt, .int .i64 (n : Int)] 25)
  have hB2 := hB.alloc hsz (.cells #[.bool true, .int .i64 rc, .int .i64 rt, .int .i64 (n : Int)] 25)
  have kh := Box.new w2 [.bool true, .int .i64 rc, .int .i64 rt, .int .i64 (n : Int)] 25
  have ka := k2.all6.1
  have kf := k2.free6
  have kha := kh.all4.1
  have hs3 := hs2.alloc (.cells #[.bool true, .int .i64 rc, .int .i64 rt, .int .i64 (n : Int)] 25)
  obtain ⟨A9, c9, hsl9, hb9⟩ := hs3.slice_l Try.underlying22 byte_size (a := 4) h4
  have hsl9' := fun W => hsl9 W (4 : Int) rfl
  have T := rtrail_any A9 (n - 4) c9 (s.drop 4) _ hb9
  clear hsl9
  generalize trailN (s.drop 4) = pv at *
  have HT := Lib.hid T
  clear T
  have hz : ((pv : Int) == 0) = false := by rw [beq_eq_false_iff_ne]; omega
  have hm : ((pv : Nat) : Int).tmod 4 = 0 := by rw [Int.tmod_eq_emod_of_nonneg (by omega)]; omega
  obtain ⟨A1, c1, hsl, hY⟩ := hs3.slice_lr Try.underlying22 byte_size (a := 4) (r := n - pv) (by omega) (by omega)
  have hsl2 := fun W => hsl W (4 : Int) ((n : Int) - pv) rfl (by omega)
  clear hsl
  have w0 : IntKind.i64.wrap ((n : Int) - pv) = (n : Int) - pv := IntWalk.i64_in _ (by omega)
  have w1 : IntKind.i64.wrap ((n : Int) - pv) = (n : Int) - pv := by exact w0
  have w3 : (0 : Int) ≤ (n : Int) - pv := by omega
  have w4 : ((n : Int) - pv) ≤ (n : Int) := by omega
  have hBc : Below w2.heap.size w2 (w2.alloc (.cells #[.bool true, .int .i64 rc, .int .i64 rt, .int .i64 (n : Int)] 25)) := below1 w2 _
  have hlt3 : w.heap.size < w2.heap.size := k1.2.2
  have hlt1 : w2.heap.size < (w2.alloc (.cells #[.bool true, .int .i64 rc, .int .i64 rt, .int .i64 (n : Int)] 25)).heap.size := kh.2.2
  have hlt2 : w.heap.size < (w2.alloc (.cells #[.bool true, .int .i64 rc, .int .i64 rt, .int .i64 (n : Int)] 25)).heap.size := k2.2.2
  go_upto_region 11 with fail
  refine (HT.out).mono ?_
  rintro e w' ⟨rfl, rfl⟩
  go_upto_region 11 with fail
  generalize (w2.alloc (.cells #[.bool true, .int .i64 rc, .int .i64 rt, .int .i64 (n : Int)] 25)) = wc at *
  have k3 : Box wc.drew w.heap.size [.bool false, .int .i64 0, .int .i64 0, .int .i64 0, .slice none 0 0, .int .i64 0] := k2
  have kh3 : Box wc.drew w2.heap.size [.bool true, .int .i64 rc, .int .i64 rt, .int .i64 (n : Int)] := kh
  have kh4 := kh3.alloc (.cells #[] 5)
  have k4 := k3.alloc (.cells #[] 5)
  have a3 := kh3.all4.1
  have a4 := kh4.all4.1
  have hB0 : Below w2.heap.size w2 (wc.drew.alloc (.cells #[] 5)) := (hBc.drew).alloc (show w2.heap.size ≤ wc.heap.size by omega) _
  go_region_law (first | (refine step_app2 rfl (.tmp 36) (.tmp 42) 22 rfl wc.heap.size 5 Try.underlying22 byte_info (some ⟨wc.heap.size, 0, none⟩) 0 0 [] rfl (own_empty wc.drew _ _ (Nat.le_refl _)) A1 ((n - pv) - 4) c1 _ rfl (hY.drew.alloc _) (by omega) (by simp) ?_; intro A6 c6 w6 hown6 hgr6 hat6; rw [Nat.zero_add] at hown6; rw [List.nil_append] at hown6; rw [Nat.zero_add]; have kh6 : Box w6 w2.heap.size [.bool true, .int .i64 rc, .int .i64 rt, .int .i64 (n : Int)] := kh4.grown hgr6 (by simp [rowOf]; omega); have k6 : Box w6 w.heap.size [.bool false, .int .i64 0, .int .i64 0, .int .i64 0, .slice none 0 0, .int .i64 0] := k4.grown hgr6 (by simp [rowOf]; omega); have a6 := kh6.all4.1; have b6 := k6.all6.1; have f6 := k6.free6; have hB6 : Below w2.heap.size w2 w6 := hB0.grown hgr6 (by simp; omega) (fun q hq => by simp [rowOf] at hq; omega); have hs6 := hB6.size; have KH := Lib.hid (kh6.far6 (b := w.heap.size) (by omega) (.bool true) (.int .i64 rc) (.int .i64 rt) (.int .i64 (n : Int)) (.slice A6 ((n - pv) - 4) c6) (.int .i64 pv)); have KQ := Lib.hid (k6.put6 (.bool true) (.int .i64 rc) (.int .i64 rt) (.int .i64 (n : Int)) (.slice A6 ((n - pv) - 4) c6) (.int .i64 pv)); have hfar : some w.heap.size ≠ rowOf A6 := (fun e => by have := hown6.row_ge _ e.symm; omega); have HO := Lib.hid (rowV_put6 hown6 hfar (.bool true) (.int .i64 rc) (.int .i64 rt) (.int .i64 (n : Int)) (.slice A6 ((n - pv) - 4) c6) (.int .i64 pv)); have HBq := Lib.hid (below_put6 (hB.trans (hB6.mono hsz)) (Nat.le_refl w.heap.size) (.bool true) (.int .i64 rc) (.int .i64 rt) (.int .i64 (n : Int)) (.slice A6 ((n - pv) - 4) c6) (.int .i64 pv))))
  all_goals
    go_wp2_with fail
    clear a6 b6 f6
    change bodyPost _ _ _ _ _ (put6 _ w.heap.size (.bool true) (.int .i64 rc) (.int .i64 rt) (.int .i64 (n : Int)) (.slice A6 ((n - pv) - 4) c6) (.int .i64 pv))
    have kz := KQ.out.all6.1
    have hBq := HBq.out
    have hO := Sl.of_own HO.out
    generalize put6 _ w.heap.size (.bool true) (.int .i64 rc) (.int .i64 rt) (.int .i64 (n : Int)) (.slice A6 ((n - pv) - 4) c6) (.int .i64 pv) = wq at *
    exact bodyPost_ret (v := .tuple #[.agg #[.bool true, .int .i64 rc, .int .i64 rt, .int .i64 (n : Int), .slice A6 ((n - pv) - 4) c6, .int .i64 pv], .int .i64 0]) (by simp [results, Try.results8, go_sem, *]) rfl ⟨A6, _, c6, rfl, hO, hBq⟩

end Go.Proofs.Ytkfinkmbdpdepaa
