/- DERIVED. A package-level array of strings that holds given texts: what a walk reads of it. No condition. -/
import Derived.Test.YticpfciebpdkdaaDoorCore
import Derived.Laws.Rows
import Derived.Lib.LaidTab
namespace Go.Proofs.YticpfciebpdkdaaDoor
open Go.RowKit

/-- Block g holds these texts, one a cell. -/
def TabH (w : World) (g : Nat) (ss : List ByteArray) : Prop := ∃ t fr, w.heap[g]? = some (.cells (ss.map Value.string).toArray t fr)
theorem TabH.lt {w : World} {g : Nat} {ss : List ByteArray} (h : TabH w g ss) : g < w.heap.size := by
  obtain ⟨t, fr, h⟩ := h
  exact (Array.getElem?_eq_some_iff.1 h).1
theorem TabH.below {w w' : World} {B g : Nat} {ss : List ByteArray} (h : TabH w g ss) (hb : Below B w w') (hg : g < B) : TabH w' g ss := by
  obtain ⟨t, fr, h⟩ := h
  exact ⟨t, fr, (hb.block g hg).trans h⟩
theorem TabH.cell {w : World} {g : Nat} {ss : List ByteArray} (h : TabH w g ss) (j : Nat) (hj : j < ss.length) : w.cell? ⟨g, j, none⟩ = some (.string (ss.getD j ⟨#[]⟩)) := by
  obtain ⟨t, fr, h⟩ := h
  rw [cell_of_row w g j _ t fr h]
  simp [List.getD, hj]
theorem TabH.load {P : Program} {w : World} {g : Nat} {ss : List ByteArray} (h : TabH w g ss) {ty e : TypeId} {n : Nat} (hu : P.underlying ty = some (.array n e)) (hi : (P.info? ty).map (·.size) = some n) (hn : ss.length = n) :
    (loadVar ty ⟨g, 0, none⟩).run P w = .ok (.agg (ss.map Value.string).toArray) w := by
  obtain ⟨t, fr, h⟩ := h
  exact run_loadVar_row w g t ty _ fr _ h hu rfl (by rw [hi]; simp [hn])
theorem run_index_arr {P : Program} {ty e : TypeId} {n : Nat} {cs : Array Value} {j : Nat} {v : Value} (hu : P.underlying ty = some (.array n e)) (hj : j < n) (ha : ∀ w, (isAgg e).run P w = .ok false w) (hz : ∀ w, (sizeOf e).run P w = .ok 1 w) (hv : cs[j]? = some v) (w : World) :
    (Instr.index ty (.agg cs) (.int .i64 (j : Int))).run P w = .ok v w := by
  have h1 : (0 : Int) ≤ (j : Int) ∧ (j : Int) < (n : Int) := by omega
  simp [Instr.index, run_underlying hu, asIntOf, hj, part, ha, hz, hv]
theorem tab_at (ss : List ByteArray) (j : Nat) (hj : j < ss.length) : (ss.map Value.string).toArray[j]? = some (.string (ss.getD j ⟨#[]⟩)) := by simp [List.getD, hj]

/-- The table as a row lists it: an array of texts. -/
def strData {H : Type} (ss : List ByteArray) : DataW H := .agg (ss.map fun s => .lit (.string s.data.toList))
theorem data_inj {a b : ByteArray} (h : a.data.toList = b.data.toList) : a = b := by
  cases a; cases b; simp at h; simp [h]
theorem cells_of_strs {H : Type} {enc : TypeId × Value → H} {P : Program} {w : World} {base : Nat} {sp : Nat → Bool} {held : Bool} {fuel : Nat} {t e : TypeId} {n : Nat} {cs : List Value} {ss : List ByteArray} {p : List MemPlace}
    (ht : P.underlying t = some (.array n e)) (he : P.underlying e = some .string) (hce : P.cellsOf e = 1) (hct : P.cellsOf t = n)
    (h : DataW.trod enc P w base sp held fuel t cs = some (strData ss, p)) : cs = ss.map Value.string := by
  cases fuel with
  | zero => simp [DataW.trod] at h
  | succ fuel =>
    simp only [DataW.trod, ht, hce, hct, Nat.mul_one] at h
    split at h
    · rename_i hl
      obtain ⟨xs, hm, hx⟩ := Option.map_eq_some_iff.1 h
      have hxs : xs.map (·.1) = ss.map fun s => (DataW.lit (.string s.data.toList) : DataW H) := by
        have := congrArg Prod.fst hx
        simpa [strData] using this
      have hxl : xs.length = n := by simpa using Lib.mapM_length hm
      have hzl : ss.length = n := by
        have := congrArg List.length hxs
        simp at this
        omega
      apply List.ext_getElem?
      intro i
      by_cases hi : i < n
      · obtain ⟨b, hb, hf⟩ := Lib.mapM_at hm i i (by simp [hi])
        obtain ⟨s, hc, rfl, _⟩ := DataW.trod_string he hf
        have h1 : cs[i]? = some (.string s) := by
          have := congrArg (·[0]?) hc
          simpa [List.getElem?_take, List.getElem?_drop] using this
        have h2 : (xs.map (·.1))[i]? = some (DataW.lit (.string s.data.toList) : DataW H) := by simp [hb]
        rw [hxs] at h2
        simp only [List.getElem?_map, Option.map_eq_some_iff, DataW.lit.injEq, Lit.string.injEq] at h2
        obtain ⟨s', hs', e⟩ := h2
        simp [h1, hs', data_inj e]
      · rw [List.getElem?_eq_none (by omega), List.getElem?_eq_none (by simp; omega)]
    · cases h
theorem tabH_of_head {P : Program} {W : World} {name : String} {ss : List ByteArray} {rest : List (String × DataW Unit)} {g : Nat} {t e : TypeId} {n : Nat}
    (hg : P.globalNamed name = some g) (hty : (P.globals[g]?).map (·.type) = some t) (ht : P.underlying t = some (.array n e)) (he : P.underlying e = some .string) (hce : P.cellsOf e = 1) (hct : P.cellsOf t = n)
    (h : laidMet P ((name, strData ss) :: rest) W) : TabH W g ss := by
  obtain ⟨ps, ⟨g', t', cs, fuel, p, q, hg', ht', hvar, hd, _, _⟩, _⟩ := h
  obtain rfl := Option.some.inj (hg.symm.trans hg')
  obtain rfl := Option.some.inj (hty.symm.trans ht')
  have hc := cells_of_strs ht he hce hct hd
  unfold World.var? at hvar
  rw [hg] at hvar
  simp only [Option.bind_some] at hvar
  split at hvar
  · rename_i c t2 fr hh
    simp only [Option.some.injEq] at hvar
    subst hvar
    refine ⟨t2, fr, ?_⟩
    rw [hh, ← hc]
  · cases hvar

end Go.Proofs.YticpfciebpdkdaaDoor
