/-
  Strings beside slices of bytes: appending one, cutting one, bytes that were just written out. Nothing here speaks of a program.
-/
import Derived.Test.YtbalpndgpdbcbaaBox
import Derived.Lib.AppendStr
import Derived.Laws.Strings
namespace Go.Proofs.Ytbalpndgpdbcbaa
open Go.RowKit

/-- Bytes that were just written out. -/
theorem bs_lit (w : World) (s : List UInt8) (vs : Array Value) (e : TypeId) (hv : vs = (s.map byteV).toArray) (hm : s.length ≤ maxLen) : Bs (w.alloc (.cells vs e)) (some ⟨w.heap.size, 0, none⟩) s.length s.length s := by
  subst hv
  have := Sl.lit w (s.map byteV) e (by simpa using hm)
  rwa [List.length_map] at this
/-- The same, as a row of the call's own. -/
theorem own_lit (w : World) (s : List UInt8) (vs : Array Value) (e : TypeId) (base : Nat) (hb : base ≤ w.heap.size) (hv : vs = (s.map byteV).toArray) (hm : s.length ≤ maxLen) : Own (w.alloc (.cells vs e)) base e (some ⟨w.heap.size, 0, none⟩) s.length s.length s := by
  subst hv
  have := World.ownsRow_lit (base := base) (e := e) (size := 1) w (s.map byteV).toArray s.length hb hm (by simp)
  simpa [Own] using this
/-- 'append(out, x...)': x a string. -/
theorem wpList_appS {P : Program} (w : World) {ops : Array Oper} {rest : List Oper} {o : Oper} {a : Act} {Q : Exit → Act → World → Prop} (hgd : o.guard = none) (s x : Operand) (t u : TypeId)
    (ho : o.op = .call { callee := .builtin .append, args := #[s, x], argTypes := #[t, u] })
    (base : Nat) (e : TypeId) (ht : P.underlying t = some (.slice e)) (hu : P.underlying u = some .string) (hinfo : (P.info? e).map (fun i => (i.zero, i.size, i.bytes)) = some (some (.int .u8 0), 1, 1))
    (A : Option Addr) (n c : Nat) (S : List UInt8) (hs : a.eval s = .slice A n c) (hown : Own w base e A n c S)
    (T : ByteArray) (hx : a.eval x = .string T) (hb : n + T.size ≤ 140737488355328) (hbase : base ≤ w.heap.size)
    (h : ∀ A' c' w', Own w' base e A' (n + T.size) c' (S ++ T.data.toList) → Below base w w' → wpList P ops Q rest (a.put o.dst (.slice A' (n + T.size) c')) w') : wpList P ops Q (o :: rest) a w := by
  obtain ⟨i, hi, hz, hz1, hz2⟩ := info_parts hinfo
  refine Lib.wpList_append_own_string w hgd s x t u ho base e i ht hu hi hz hz1 hz2 _ n _ hs hown T hx (by simp only [maxLen]; omega) hb hbase ?_
  intro v' w' hown' hg _
  have e1 : S.map byteV ++ Lib.strCells T = (S ++ T.data.toList).map byteV := by rw [List.map_append]; rfl
  rw [e1] at hown'
  obtain ⟨A', c', rfl, hO⟩ := own_form hown'
  exact h A' c' w' hO ((Below.refl _ _).grown hg hbase fun k hk => (World.ownsRow.lt hown k hk).1)
theorem extract_list (s : ByteArray) (i j : Nat) : (s.extract i j).data.toList = (s.data.toList.drop i).take (j - i) := by
  rw [ByteArray.data_extract, Array.toList_extract, List.extract_eq_take_drop]
theorem extract_size (s : ByteArray) {i j : Nat} (h : j ≤ s.size) : (s.extract i j).size = j - i := by
  rw [ByteArray.size_extract, Nat.min_eq_left h]

end Go.Proofs.Ytbalpndgpdbcbaa
