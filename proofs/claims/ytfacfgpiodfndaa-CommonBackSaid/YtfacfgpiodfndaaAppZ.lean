/-
  'append(s, make([]byte, k)...)' onto a row of the call's own: so many bytes 0 behind it. Nothing here speaks of a program.
-/
import Derived.Test.YtfacfgpiodfndaaBase
namespace Go.Proofs.Ytfacfgpiodfndaa
open Go.RowKit
set_option linter.unusedSimpArgs false

theorem zeroCells_rep (k : Nat) : Builtin.zeroCells #[Value.int .u8 0] k = (List.replicate k (Value.int .u8 0)).toArray := by
  unfold Builtin.zeroCells
  apply Array.ext
  · simp
  · intro i h1 h2
    simp only [Array.getElem_map, List.getElem_toArray, List.getElem_replicate]
    simp [Nat.mod_one]
theorem rep_bytes (k : Nat) : (List.replicate k (0 : UInt8)).map byteV = List.replicate k (Value.int .u8 0) := by
  rw [List.map_replicate]
  rfl
theorem run_appz {P : Program} (w : World) (t u ty : TypeId) (base : Nat) (e : TypeId) (ht : P.underlying t = some (.slice e)) (hu : P.underlying u = some (.int .i64)) (hinfo : (P.info? e).map (fun i => (i.zero, i.size, i.bytes)) = some (some (.int .u8 0), 1, 1))
    (A : Option Addr) (n c : Nat) (s : List UInt8) (hown : Own w base e A n c s) (k : Nat) (hm : n + k ≤ 100000000000) (hbase : base ≤ w.heap.size) :
    ∃ A' c' w', (Builtin.append_ #[t, u] ty #[.slice A n c, .int .i64 (k : Int)]).run P w = .ok (.slice A' (n + k) c') w' ∧ Own w' base e A' (n + k) c' (s ++ List.replicate k 0) ∧ w.grownBy w' (rowOf A) ∧ (rowOf A' = rowOf A ∨ rowOf A' = some w.heap.size) := by
  obtain ⟨i, hi, hz, hz1, hz2⟩ := info_parts hinfo
  have hkw : IntKind.i64.wrap (k : Int) = (k : Int) := IntWalk.i64_in _ (by omega)
  have hai : ∀ w', (asIntOf (Value.int .i64 (k : Int))).run P w' = .ok (.i64, (k : Int)) w' := fun _ => rfl
  have hk0 : ¬ ((k : Int) < 0) := by omega
  have hk1 : ¬ (281474976710656 < (k : Int)) := by omega
  have hsl := hown.len
  obtain ⟨zs, hzs⟩ : ∃ zs, zs = List.replicate k (Value.int .u8 0) := ⟨_, rfl⟩
  have hzl : zs.length = k := by rw [hzs, List.length_replicate]
  have hmap : (s ++ List.replicate k (0 : UInt8)).map byteV = s.map byteV ++ zs := by rw [List.map_append, rep_bytes, hzs]
  have hz1c : ∀ u ∈ zs, u.oneCell' = true := by
    intro u hu
    rw [hzs] at hu
    rw [List.eq_of_mem_replicate hu]
    rfl
  have grown : ∀ (old : Nat) (row : Option Nat),
      Own (w.drew.alloc (.cells ((s.map byteV).toArray ++ zs.toArray ++ Builtin.zeroCells #[Value.int .u8 0] (grownCap w (n + k) old e - (n + k))) e)) base e (some ⟨w.heap.size, 0, none⟩) (n + k) (grownCap w (n + k) old e) (s ++ List.replicate k 0) ∧
      w.grownBy (w.drew.alloc (.cells ((s.map byteV).toArray ++ zs.toArray ++ Builtin.zeroCells #[Value.int .u8 0] (grownCap w (n + k) old e - (n + k))) e)) row := by
    intro old row
    have hge := grownCap_ge w (n + k) old e
    have hcm : grownCap w (n + k) old e ≤ maxLen := grownCap_le_maxLen w (n + k) old e (by simp only [maxLen]; omega)
    refine ⟨?_, ⟨rfl, rfl, rfl, by simp, fun j hj _ => heap_alloc_old w.drew _ (show j < w.drew.heap.size from hj)⟩⟩
    unfold Own
    rw [hmap]
    refine ⟨by simp [hsl, hzl], .inr ⟨w.heap.size, _, _, rfl, hbase, heap_alloc_new w.drew _, hge, hcm, ?_, ?_⟩⟩
    · simp only [Array.size_append, List.size_toArray, size_zeroCells, List.length_map, hsl, hzl]
      simp
      omega
    · simp only [Array.toList_append]
      exact List.take_left' (by simp [hsl, hzl])
  have h2 := hown.2
  rcases h2 with ⟨h3, h4⟩ | ⟨g, cap, cur, hv, hbg, hg, hnc, hcm, hcs, htake⟩
  · injection h3 with e1 e2 e3
    subst e1 e3
    obtain rfl : s = [] := List.eq_nil_of_length_eq_zero (by omega)
    obtain rfl : n = 0 := by rw [← hsl]; rfl
    by_cases hk : k = 0
    · subst hk
      refine ⟨none, 0, w, ?_, Own.nil w base e, ⟨rfl, rfl, rfl, Nat.le_refl _, fun _ _ _ => rfl⟩, .inl rfl⟩
      simp only [Int.natCast_zero] at hai hkw
      simp [Builtin.append_, run_underlying ht, run_underlying hu, sizeOf, typeInfo, hi, asInt, hai, hkw, hz1, hz2]
    · have hgr := grown 0 (rowOf none)
      have h48' : ¬ (281474976710656 < Builtin.nextslicecap k 0) := by rw [nextslicecap_zero (by omega)]; omega
      have h63' : ¬ (9223372036854775807 < (k : Int)) := by omega
      simp only [Nat.zero_add, List.map_nil, List.nil_append] at hgr ⊢
      refine ⟨_, _, _, ?_, hgr.1, hgr.2, .inr rfl⟩
      have hkk : ¬ (k ≤ 0) := by omega
      rw [zeroCells_rep] at *
      simp [Builtin.append_, run_underlying ht, run_underlying hu, sizeOf, typeInfo, zeroValue, hi, hz, hz1, hz2, asInt, hai, hkw, hk0, hk1, hk, hkk, h63', h48', Question.forced, run_firstCells_none, newRow, grownCap, zeroCells_rep, hzs, Value.cells]
  · injection hv with e1 e2 e3
    subst e1 e3
    rw [hz1.symm] at hcs
    by_cases hroom : n + k ≤ c
    · have hfit : n + zs.length ≤ cur.size := by rw [hzl, hcs, hz1]; omega
      have hst := run_storeCells_at P g n e zs 0 cur w hg (by simpa using hfit) hz1c
      simp only [Nat.add_zero] at hst
      refine ⟨some ⟨g, 0, none⟩, c, w.setRow g (cur.toList.take n ++ zs ++ cur.toList.drop (n + zs.length)).toArray, ?_, ?_, ⟨rfl, rfl, rfl, by simp, fun j _ hj => setRow_other w g j _ (fun e => hj (by simp [rowOf, e]))⟩, .inl rfl⟩
      · by_cases hk : k = 0
        · subst hk
          simp only [Int.natCast_zero] at hai hkw
          have hz0 : zs = [] := by rw [hzs]; rfl
          rw [hz0] at hst ⊢
          simp [Builtin.append_, run_underlying ht, run_underlying hu, sizeOf, typeInfo, hi, hz1, hz2, asInt, hai, hkw, hroom, Addr.add_lit]
          rw [if_pos (by omega : n ≤ c)]
          have hst' : (storeCells ⟨g, n, none⟩ []).run P w = .ok () (w.setRow g cur) := by simpa using hst
          rw [hst']
          simp
        · simp [Builtin.append_, run_underlying ht, run_underlying hu, sizeOf, typeInfo, zeroValue, hi, hz, hz1, hz2, asInt, hai, hkw, hk0, hk1, hk, hroom, Addr.add_lit, zeroCells_rep, ← hzs, hst, Value.cells]
      · unfold Own
        rw [hmap]
        refine ⟨by simp [hsl, hzl], .inr ⟨g, c, _, rfl, hbg, setRow_heap w g cur _ e _ hg, hroom, hcm, ?_, ?_⟩⟩
        · simp only [List.size_toArray, List.length_append, List.length_take, List.length_drop, Array.length_toList]
          rw [hzl]
          have : cur.size = c := by rw [hcs, hz1, Nat.mul_one]
          omega
        · have : cur.toList.take n = s.map byteV := by simpa using htake
          rw [this]
          exact List.take_left' (by simp [hsl, hzl])
    · have holds : ∀ j u, (s.map byteV)[j]? = some u → w.cell? ((⟨g, 0, none⟩ : Addr).add j) = some u := (Sl.added hown.bs) _ rfl
      have hgr := grown c (rowOf (some ⟨g, 0, none⟩))
      refine ⟨_, _, _, ?_, hgr.1, hgr.2, .inr rfl⟩
      have hkk : ¬ (k = 0) := by omega
      have h63' : ¬ (9223372036854775807 < ((n : Int) + (k : Int))) := by omega
      have h48 : Builtin.nextslicecap (n + k) c * i.bytes ≤ 281474976710656 := growslice_fits (by omega) (by rw [hz2]; omega)
      rw [hz2, Nat.mul_one] at h48
      have h48' : ¬ (281474976710656 < Builtin.nextslicecap (n + k) c) := by omega
      have hfo := run_firstCells_some (P := P) w.drew 1 n ⟨g, 0, none⟩ n c (s.map byteV) (by simp [hsl]) (by simpa using holds)
      simp [Builtin.append_, run_underlying ht, run_underlying hu, sizeOf, typeInfo, zeroValue, hi, hz, hz1, hz2, asInt, hai, hkw, hk0, hk1, hkk, hroom, h63', h48', Question.forced, hfo, newRow, grownCap, zeroCells_rep, hzs, Value.cells]
/-- At a plain operation. -/
theorem wpList_appz {P : Program} {w : World} {ops : Array Oper} {rest : List Oper} {o : Oper} {a : Act} {Q : Exit → Act → World → Prop} (hgd : o.guard = none) (s x : Operand) (t u : TypeId)
    (ho : o.op = .call { callee := .builtin .append, args := #[s, x], argTypes := #[t, u] })
    (base : Nat) (e : TypeId) (ht : P.underlying t = some (.slice e)) (hu : P.underlying u = some (.int .i64)) (hinfo : (P.info? e).map (fun i => (i.zero, i.size, i.bytes)) = some (some (.int .u8 0), 1, 1))
    (A : Option Addr) (n c : Nat) (l : List UInt8) (hs : a.eval s = .slice A n c) (hown : Own w base e A n c l)
    (k : Nat) (hx : a.eval x = .int .i64 (k : Int)) (hm : n + k ≤ 100000000000) (hbase : base ≤ w.heap.size)
    (h : ∀ A' c' w', Own w' base e A' (n + k) c' (l ++ List.replicate k 0) → w.grownBy w' (rowOf A) → (rowOf A' = rowOf A ∨ rowOf A' = some w.heap.size) → wpList P ops Q rest (a.put o.dst (.slice A' (n + k) c')) w') : wpList P ops Q (o :: rest) a w := by
  refine wpList_plain hgd fun K hK => ?_
  obtain ⟨A', c', w', hr, h2, h3, h4⟩ := run_appz (P := P) w t u o.type base e ht hu hinfo A n c l hown k hm hbase
  unfold Oper.wp execOp
  simp only [ho, resolve, invoke, builtin, Sem.run_bind, Sem.run_pure, Result.andThen_ok, List.map_toArray, List.map_cons, List.map_nil, hs, hx, hr]
  exact hK _ _ (h A' c' w' h2 h3 h4)
/-- At an operation of a region that draws its order. -/
theorem step_appz {P : Program} {w : World} {ops : Array Oper} {o : Oper} {a : Act} {K : Act → World → Prop} {Q : Exit → Act → World → Prop} {E : Prop} (hgd : o.guard = none) (s x : Operand) (t u : TypeId)
    (ho : o.op = .call { callee := .builtin .append, args := #[s, x], argTypes := #[t, u] })
    (base : Nat) (e : TypeId) (ht : P.underlying t = some (.slice e)) (hu : P.underlying u = some (.int .i64)) (hinfo : (P.info? e).map (fun i => (i.zero, i.size, i.bytes)) = some (some (.int .u8 0), 1, 1))
    (A : Option Addr) (n c : Nat) (l : List UInt8) (hs : a.eval s = .slice A n c) (hown : Own w base e A n c l)
    (k : Nat) (hx : a.eval x = .int .i64 (k : Int)) (hm : n + k ≤ 100000000000) (hbase : base ≤ w.heap.size)
    (h : ∀ A' c' w', Own w' base e A' (n + k) c' (l ++ List.replicate k 0) → w.grownBy w' (rowOf A) → (rowOf A' = rowOf A ∨ rowOf A' = some w.heap.size) → K (a.put o.dst (.slice A' (n + k) c')) w') :
    if Region.wanted o (yielded ops a.tmps) = true then Oper.wp P o a w K Q else E := by
  have hw : Region.wanted o (yielded ops a.tmps) = true := by simp [Region.wanted, hgd]
  rw [if_pos hw]
  obtain ⟨A', c', w', hr, h2, h3, h4⟩ := run_appz (P := P) w t u o.type base e ht hu hinfo A n c l hown k hm hbase
  unfold Oper.wp execOp
  simp only [ho, resolve, invoke, builtin, Sem.run_bind, Sem.run_pure, Result.andThen_ok, List.map_toArray, List.map_cons, List.map_nil, hs, hx, hr]
  exact h A' c' w' h2 h3 h4

end Go.Proofs.Ytfacfgpiodfndaa
