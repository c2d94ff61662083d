/- DERIVED. A map of numbers that a call makes, as a list of pairs: made, stored into at a new key, read, shortened, ranged over. No condition. -/
import Derived.Test.YtagmdkblcgnddaaInts
import Derived.Maps.OwnSet
import Derived.Maps.RangeWalk
import Derived.Lib.Hide
namespace Go.Proofs.Ytagmdkblcgnddaa
open Go.RowKit

abbrev wfI (x : Int) : Prop := (Lit.int .i64 x).wf = true
theorem wfI_of {x : Int} (h : -(2 ^ 63) ≤ x ∧ x < 2 ^ 63) : wfI x := WalkArith.wf_i64 (by omega)
theorem lawI : Go.Maps.Keyed Try.prog 3 := Go.Maps.int_keyed Try.underlying3
theorem zeroI (w : World) : (zeroValue 3).run Try.prog w = .ok (.int .i64 0) w := by kernel_rfl
/-- A datum reads as these pairs, no key twice. -/
structure MpL (D : DataW Unit) (L : List (Int × Int)) : Prop where
  nd : L.Pairwise (fun p q => p.1 ≠ q.1)
  has : ∀ x, Maps.has D (.int .i64 x) = L.any (fun p => decide (p.1 = x))
  at' : ∀ p ∈ L, ∀ z, D.atKey (.int .i64 p.1) z = .lit (.int .i64 p.2)
  size : Maps.size D = L.length
/-- Block b is a map of at most n entries that reads as these pairs. -/
def Mp (w : World) (b n : Nat) (L : List (Int × Int)) : Prop := ∃ D : DataW Unit, w.ownsMap Try.prog 3 (plainElem (H := Unit) Try.prog 3) b n D ∧ MpL D L
theorem sk_eq (x y : Int) : (Lit.int .i64 x).sameKey (.int .i64 y) = decide (x = y) := by simp [Lit.sameKey]
theorem key_ne {x y : Int} (h : x ≠ y) : (Lit.int .i64 x : Lit) ≠ .int .i64 y := fun e => h (by injection e)
theorem isKey (x : Int) : WideAt.IsKeyLit (.int .i64 x) := trivial
theorem MpL.empty : MpL (.map []) [] := ⟨.nil, fun _ => rfl, fun _ h => (by cases h), rfl⟩
theorem Mp.made (w : World) : Mp (w.alloc (.map #[] 0)) w.heap.size 0 [] := ⟨.map [], World.ownsMap_made w _ _ _, .empty⟩
theorem Mp.lt {w : World} {b n : Nat} {L : List (Int × Int)} (h : Mp w b n L) : b < w.heap.size := by obtain ⟨D, h, _⟩ := h; exact h.lt
theorem Mp.kept {w w' : World} {b n : Nat} {L : List (Int × Int)} {row : Option Nat} (h : Mp w b n L) (hg : w.grownBy w' row) (hne : some b ≠ row) : Mp w' b n L := by
  obtain ⟨D, h, hm⟩ := h
  exact ⟨D, h.kept hg hne, hm⟩
theorem Mp.below {w w' : World} {b n : Nat} {L : List (Int × Int)} (h : Mp w b n L) (hb : Below w.heap.size w w') : Mp w' b n L := by
  have hlt := h.lt
  obtain ⟨D, ⟨es, clock, he, r⟩, hm⟩ := h
  exact ⟨D, ⟨es, clock, (hb.block b hlt).trans he, r⟩, hm⟩
theorem MpL.put {D : DataW Unit} {L : List (Int × Int)} (h : MpL D L) (ht : Maps.Tidy D) (x y : Int) (hx : ∀ p ∈ L, p.1 ≠ x) : MpL (D.put (.int .i64 x) (.lit (.int .i64 y))) (L ++ [(x, y)]) := by
  have hno : L.any (fun p => decide (p.1 = x)) = false := by rw [List.any_eq_false]; intro p hp; simp [hx p hp]
  refine ⟨?_, fun z => ?_, fun p hp z => ?_, ?_⟩
  · refine List.pairwise_append.2 ⟨h.nd, by simp, fun p hp q hq => ?_⟩
    rw [List.mem_singleton] at hq; subst hq; exact hx p hp
  · rw [List.any_append]
    by_cases hz : z = x
    · subst hz
      rw [Maps.has_put_same ht.isMap (isKey _)]; simp
    · rw [Maps.has_put_other (key_ne hz), h.has]
      simp [Ne.symm hz]
  · rcases List.mem_append.1 hp with hp | hp
    · rw [Maps.atKey_put_other (key_ne (hx p hp))]; exact h.at' p hp z
    · rw [List.mem_singleton] at hp; subst hp
      exact Maps.atKey_put_same ht.isMap (isKey _) _ _
  · rw [Maps.size_put ht, h.has, hno, h.size]; simp
theorem any_filter_ne {L : List (Int × Int)} (x z : Int) : (L.filter (fun p => !decide (p.1 = x))).any (fun p => decide (p.1 = z)) = (!decide (z = x) && L.any (fun p => decide (p.1 = z))) := by
  induction L with
  | nil => simp
  | cons p L ih =>
    by_cases h1 : p.1 = x
    · rw [List.filter_cons_of_neg (by simp [h1]), ih, List.any_cons, h1]
      by_cases h2 : z = x
      · simp [h2]
      · simp [h2, Ne.symm h2]
    · rw [List.filter_cons_of_pos (by simp [h1]), List.any_cons, ih, List.any_cons]
      by_cases h2 : z = x
      · subst h2; simp [h1]
      · simp [h2]
theorem filter_ne_len {x : Int} : ∀ {L : List (Int × Int)}, L.Pairwise (fun p q => p.1 ≠ q.1) → (L.filter (fun p => !decide (p.1 = x))).length + (if L.any (fun p => decide (p.1 = x)) then 1 else 0) = L.length
  | [], _ => rfl
  | p :: L, h => by
    obtain ⟨h1, h2⟩ := List.pairwise_cons.1 h
    by_cases hp : p.1 = x
    · have hall : L.filter (fun p => !decide (p.1 = x)) = L := List.filter_eq_self.2 fun q hq => by
        have := h1 q hq
        simp; intro e; exact this (hp.trans e.symm)
      rw [List.filter_cons_of_neg (by simp [hp]), hall]; simp [hp]
    · rw [List.filter_cons_of_pos (by simp [hp]), List.any_cons, List.length_cons, List.length_cons]
      have := filter_ne_len (x := x) h2
      simp only [hp, decide_false, Bool.false_or]
      omega
theorem MpL.del {D : DataW Unit} {L : List (Int × Int)} (h : MpL D L) (ht : Maps.Tidy D) (x : Int) : MpL (D.del (.int .i64 x)) (L.filter (fun p => !decide (p.1 = x))) := by
  refine ⟨h.nd.filter _, fun z => ?_, fun p hp z => ?_, ?_⟩
  · rw [any_filter_ne]
    by_cases hz : z = x
    · subst hz; rw [Maps.has_del_same]; simp
    · rw [Maps.has_del_other (key_ne hz), h.has]; simp [hz]
  · obtain ⟨h1, h2⟩ := List.mem_filter.1 hp
    rw [Maps.atKey_del_other (key_ne (by simpa using h2))]
    exact h.at' p h1 z
  · have h1 := Maps.size_del (k := .int .i64 x) ht
    have h2 := filter_ne_len (x := x) h.nd
    rw [h.has, h.size] at h1
    cases hb : L.any (fun p => decide (p.1 = x)) with
    | true => rw [hb] at h1 h2; simp only [if_true] at h1 h2; omega
    | false =>
      rw [hb] at h1 h2
      simp only [Bool.false_eq_true, if_false, Nat.add_zero] at h1 h2
      rw [h1, h2]
/-- What a look-up finds. -/
def mpAt (L : List (Int × Int)) (x : Int) : Option Int := (L.find? (fun p => decide (p.1 = x))).map (·.2)
theorem mpAt_has {L : List (Int × Int)} {x : Int} : L.any (fun p => decide (p.1 = x)) = (mpAt L x).isSome := by
  rw [mpAt, Option.isSome_map]
  cases h : L.find? (fun p => decide (p.1 = x)) with
  | none => rw [List.find?_eq_none] at h; simpa [List.any_eq_false] using h
  | some p =>
    have h1 := List.find?_some h
    exact List.any_eq_true.2 ⟨p, List.mem_of_find?_eq_some h, h1⟩
theorem MpL.look {D : DataW Unit} {L : List (Int × Int)} (h : MpL D L) (x : Int) : D.atKey (.int .i64 x) (.lit (.int .i64 0)) = .lit (.int .i64 ((mpAt L x).getD 0)) := by
  unfold mpAt
  cases hf : L.find? (fun p => decide (p.1 = x)) with
  | none =>
    have hno : Maps.has D (.int .i64 x) = false := by rw [h.has, List.any_eq_false]; exact fun p hp => List.find?_eq_none.1 hf p hp
    rw [Maps.atKey_of_not_has hno]; rfl
  | some p =>
    have h1 := List.find?_some hf
    have h2 : p.1 = x := by simpa using h1
    subst h2
    exact h.at' p (List.mem_of_find?_eq_some hf) _
section
variable (w : World) {ops : Array Oper} {rest : List Oper} {o : Oper} {a : Act} {Q : Exit → Act → World → Prop}
theorem wpList_mp_put (hg : o.guard = none) (m x v : Operand) (t : TypeId) (hop : o.op = Op.mapUpdate t m x v) (ht : Try.prog.underlying t = some (.map 3 3)) (b n : Nat) (L : List (Int × Int))
    (hm : a.eval m = .map (some b)) (h : Mp w b n L) (hn : n < maxLen) (k y : Int) (hx : a.eval x = .int .i64 k) (hv : a.eval v = .int .i64 y) (wk : wfI k) (wy : wfI y) (hno : ∀ p ∈ L, p.1 ≠ k)
    (hK : ∀ w', Mp w' b (n + 1) (L ++ [(k, y)]) → w.grownBy w' (some b) → wpList Try.prog ops Q rest (a.put o.dst undef) w') : wpList Try.prog ops Q (o :: rest) a w := by
  obtain ⟨D, h, hm'⟩ := h
  exact wpList_mapUpdate_own w hg m x v t hop _ _ lawI ht (plainElem (H := Unit) Try.prog 3) b n D hm h hn _ _ (.int .i64 k) hx hv (Go.Maps.keyOf_int_mk Try.underlying3 wk) (.lit (.int .i64 y)) [] (plainElem_int Try.underlying3 wy) (fun w' h1 h2 => hK w' ⟨_, h1, hm'.put (h.tidy lawI) k y hno⟩ h2)
set_option maxRecDepth 100000 in
theorem wpList_mp_look (hg : o.guard = none) (m x : Operand) (t : TypeId) (hop : o.op = Op.lookup t m x false) (ht : Try.prog.underlying t = some (.map 3 3)) (b n : Nat) (L : List (Int × Int))
    (hm : a.eval m = .map (some b)) (h : Mp w b n L) (k : Int) (hx : a.eval x = .int .i64 k) (wk : wfI k)
    (hK : wpList Try.prog ops Q rest (a.put o.dst (.int .i64 ((mpAt L k).getD 0))) w) : wpList Try.prog ops Q (o :: rest) a w := by
  obtain ⟨D, h, hm'⟩ := h
  refine wpList_lookup_own_int w hg m x t hop _ _ .i64 lawI ht Try.underlying3 (zeroI w) b n D hm h _ (.int .i64 k) hx (Go.Maps.keyOf_int_mk Try.underlying3 wk) fun c hc _ => ?_
  rw [hm'.look k] at hc
  have : (mpAt L k).getD 0 = c := by injection hc with hc; injection hc
  rw [← this]; exact hK
set_option maxRecDepth 100000 in
theorem wpList_mp_look_ok (hg : o.guard = none) (m x : Operand) (t : TypeId) (hop : o.op = Op.lookup t m x true) (ht : Try.prog.underlying t = some (.map 3 3)) (b n : Nat) (L : List (Int × Int))
    (hm : a.eval m = .map (some b)) (h : Mp w b n L) (k : Int) (hx : a.eval x = .int .i64 k) (wk : wfI k) (y : Int) (hy : (mpAt L k).getD 0 = y) (c : Bool) (hc : (mpAt L k).isSome = c)
    (hK : wpList Try.prog ops Q rest (a.put o.dst (.tuple #[.int .i64 y, .bool c])) w) : wpList Try.prog ops Q (o :: rest) a w := by
  obtain ⟨D, h, hm'⟩ := h
  refine wpList_lookup_own_ok_int w hg m x t hop _ _ .i64 lawI ht Try.underlying3 (zeroI w) b n D hm h _ (.int .i64 k) hx (Go.Maps.keyOf_int_mk Try.underlying3 wk) fun d hd _ => ?_
  rw [hm'.look k] at hd
  have : (mpAt L k).getD 0 = d := by injection hd with hd; injection hd
  rw [← this, hm'.has, mpAt_has, hy, hc]; exact hK
theorem wpList_mp_del (hg : o.guard = none) (m x : Operand) (t : TypeId) (hop : o.op = Op.call { callee := Callee.builtin Builtin.delete, args := #[m, x], argTypes := #[t, 3] }) (ht : Try.prog.underlying t = some (.map 3 3)) (b n : Nat) (L : List (Int × Int))
    (hm : a.eval m = .map (some b)) (h : Mp w b n L) (k : Int) (hx : a.eval x = .int .i64 k) (wk : wfI k)
    (hK : ∀ w', Mp w' b n (L.filter (fun p => !decide (p.1 = k))) → w.grownBy w' (some b) → wpList Try.prog ops Q rest (a.put o.dst (.tuple #[])) w') : wpList Try.prog ops Q (o :: rest) a w := by
  obtain ⟨D, h, hm'⟩ := h
  exact wpList_delete_own w hg m x t 3 hop _ lawI ht (plainElem (H := Unit) Try.prog 3) b n D hm h _ (.int .i64 k) hx (Go.Maps.keyOf_int_mk Try.underlying3 wk) (fun w' h1 h2 => hK w' ⟨_, h1, hm'.del (h.tidy lawI) k⟩ h2.grown)
theorem wpList_mp_len (hg : o.guard = none) (m : Operand) (t : TypeId) (hop : o.op = Op.call { callee := Callee.builtin Builtin.len, args := #[m], argTypes := #[t] }) (ht : Try.prog.underlying t = some (.map 3 3)) (b n : Nat) (L : List (Int × Int)) (hm : a.eval m = .map (some b)) (h : Mp w b n L) (q : Nat) (hq : L.length = q)
    (hK : wpList Try.prog ops Q rest (a.put o.dst (.int .i64 (q : Int))) w) : wpList Try.prog ops Q (o :: rest) a w := by
  obtain ⟨D, h, hm'⟩ := h
  refine wpList_len_own w hg m t hop _ _ ht (plainElem (H := Unit) Try.prog 3) b n D hm h ?_
  rw [hm'.size, hq]; exact hK
end

end Go.Proofs.Ytagmdkblcgnddaa
