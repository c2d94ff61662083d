/- DERIVED. Data of Go, whatever their types: what cells of memory read as, which memory they own, and that both stay while that memory stays. No condition. -/
import Derived.Test.YtkhakelhfnoeoaaBase
namespace Go.Proofs.Ytkhakelhfnoeoaa
open Go.RowKit

/-- The shape of a cell: a number, a Bool, a text, or a row whose elements have the shapes of their cells. A type is the list of its cells' shapes. -/
inductive Sh where
  | int (k : IntKind)
  | bool
  | str
  | row (es : List Sh)
/-- What a cell holds. -/
inductive Ce where
  | int (n : Int)
  | bool (b : Bool)
  | str (s : ByteArray)
  | row (rs : List (List Ce))

mutual
/-- The value v reads, in the world w, as c. -/
def RdC (w : World) : Sh → Value → Ce → Prop
  | .int k, v, c => ∃ n, v = .int k n ∧ c = .int n
  | .bool, v, c => ∃ b, v = .bool b ∧ c = .bool b
  | .str, v, c => ∃ s, v = .string s ∧ c = .str s
  | .row es, v, c => ∃ (rs : List (List Ce)) (a : Option Addr) (cap : Nat), c = .row rs ∧ v = .slice a rs.length cap ∧ rs.length ≤ maxLen ∧
      (rs = [] ∨ ∃ b off, a = some ⟨b, off, none⟩ ∧ b < w.heap.size ∧ ∀ i (h : i < rs.length), ∃ vs : List Value, vs.length = es.length ∧ (∀ j (hj : j < vs.length), w.cell? ⟨b, off + i * es.length + j, none⟩ = some vs[j]) ∧ RdL w es vs rs[i])
def RdL (w : World) : List Sh → List Value → List Ce → Prop
  | [], vs, cs => vs = [] ∧ cs = []
  | s :: ss, vs, cs => ∃ v vs' c cs', vs = v :: vs' ∧ cs = c :: cs' ∧ RdC w s v c ∧ RdL w ss vs' cs'
end

mutual
/-- The value v reads as c, and the blocks fp, from B on, hold what it leads to, whole. -/
def OwC (w : World) (B : Nat) : Sh → Value → Ce → List Nat → Prop
  | .int k, v, c, fp => fp = [] ∧ ∃ n, v = .int k n ∧ c = .int n
  | .bool, v, c, fp => fp = [] ∧ ∃ b, v = .bool b ∧ c = .bool b
  | .str, v, c, fp => fp = [] ∧ ∃ s, v = .string s ∧ c = .str s
  | .row es, v, c, fp => ∃ (rs : List (List Ce)), c = .row rs ∧ rs.length ≤ maxLen ∧
      ((v = .slice none 0 0 ∧ rs = [] ∧ fp = []) ∨
       ∃ (g cap : Nat) (cur : Array Value) (t : TypeId) (fps : List (List Nat)), v = .slice (some ⟨g, 0, none⟩) rs.length cap ∧ B ≤ g ∧ w.heap[g]? = some (.cells cur t (0, 0)) ∧ rs.length * es.length ≤ cur.size ∧ fp = g :: fps.flatten ∧ fps.length = rs.length ∧
         ∀ i (h : i < rs.length) (h' : i < fps.length), OwL w B es ((cur.toList.drop (i * es.length)).take es.length) rs[i] fps[i])
def OwL (w : World) (B : Nat) : List Sh → List Value → List Ce → List Nat → Prop
  | [], vs, cs, fp => vs = [] ∧ cs = [] ∧ fp = []
  | s :: ss, vs, cs, fp => ∃ v vs' c cs' f f', vs = v :: vs' ∧ cs = c :: cs' ∧ fp = f ++ f' ∧ OwC w B s v c f ∧ OwL w B ss vs' cs' f'
end

mutual
theorem RdC.below {w w' : World} (hb : Below w.heap.size w w') : ∀ (s : Sh) (v : Value) (c : Ce), RdC w s v c → RdC w' s v c
  | .int _, _, _, h => by simp only [RdC] at h ⊢; exact h
  | .bool, _, _, h => by simp only [RdC] at h ⊢; exact h
  | .str, _, _, h => by simp only [RdC] at h ⊢; exact h
  | .row es, v, c, h => by
    simp only [RdC] at h ⊢
    obtain ⟨rs, a, cap, hc, hv, hl, h⟩ := h
    refine ⟨rs, a, cap, hc, hv, hl, ?_⟩
    rcases h with h | ⟨b, off, ha, hlt, h⟩
    · exact .inl h
    · refine .inr ⟨b, off, ha, Nat.lt_of_lt_of_le hlt hb.size, fun i hi => ?_⟩
      obtain ⟨vs, h1, h2, h3⟩ := h i hi
      exact ⟨vs, h1, fun j hj => (hb.cell (p := ⟨b, off + i * es.length + j, none⟩) hlt).trans (h2 j hj), RdL.below hb es vs _ h3⟩
theorem RdL.below {w w' : World} (hb : Below w.heap.size w w') : ∀ (ss : List Sh) (vs : List Value) (cs : List Ce), RdL w ss vs cs → RdL w' ss vs cs
  | [], _, _, h => by simp only [RdL] at h ⊢; exact h
  | s :: ss, _, _, h => by
    simp only [RdL] at h ⊢
    obtain ⟨v, vs', c, cs', h1, h2, h3, h4⟩ := h
    exact ⟨v, vs', c, cs', h1, h2, RdC.below hb s v c h3, RdL.below hb ss vs' cs' h4⟩
end

mutual
/-- What is owned stays so while its own blocks stay. -/
theorem OwC.keep {w w' : World} {B : Nat} : ∀ (s : Sh) (v : Value) (c : Ce) (fp : List Nat), OwC w B s v c fp → (∀ b ∈ fp, w'.heap[b]? = w.heap[b]?) → OwC w' B s v c fp
  | .int _, _, _, _, h, _ => by simp only [OwC] at h ⊢; exact h
  | .bool, _, _, _, h, _ => by simp only [OwC] at h ⊢; exact h
  | .str, _, _, _, h, _ => by simp only [OwC] at h ⊢; exact h
  | .row es, v, c, fp, h, hk => by
    simp only [OwC] at h ⊢
    obtain ⟨rs, hc, hl, h⟩ := h
    refine ⟨rs, hc, hl, ?_⟩
    rcases h with h | ⟨g, cap, cur, t, fps, hv, hB, hh, hs, rfl, hf, h⟩
    · exact .inl h
    · refine .inr ⟨g, cap, cur, t, fps, hv, hB, (hk g (by simp)).trans hh, hs, rfl, hf, fun i hi hi' => ?_⟩
      exact OwL.keep es _ _ _ (h i hi hi') fun b hb => hk b (List.mem_cons_of_mem _ (List.mem_flatten.mpr ⟨_, List.getElem_mem hi', hb⟩))
theorem OwL.keep {w w' : World} {B : Nat} : ∀ (ss : List Sh) (vs : List Value) (cs : List Ce) (fp : List Nat), OwL w B ss vs cs fp → (∀ b ∈ fp, w'.heap[b]? = w.heap[b]?) → OwL w' B ss vs cs fp
  | [], _, _, _, h, _ => by simp only [OwL] at h ⊢; exact h
  | s :: ss, _, _, _, h, hk => by
    simp only [OwL] at h ⊢
    obtain ⟨v, vs', c, cs', f, f', h1, h2, rfl, h4, h5⟩ := h
    exact ⟨v, vs', c, cs', f, f', h1, h2, rfl, OwC.keep s v c f h4 fun b hb => hk b (List.mem_append_left _ hb), OwL.keep ss vs' cs' f' h5 fun b hb => hk b (List.mem_append_right _ hb)⟩
end

mutual
/-- The blocks that are owned lie from B on, and in memory. -/
theorem OwC.range {w : World} {B : Nat} : ∀ (s : Sh) (v : Value) (c : Ce) (fp : List Nat), OwC w B s v c fp → ∀ b ∈ fp, B ≤ b ∧ b < w.heap.size
  | .int _, _, _, _, h => by simp only [OwC] at h; simp [h.1]
  | .bool, _, _, _, h => by simp only [OwC] at h; simp [h.1]
  | .str, _, _, _, h => by simp only [OwC] at h; simp [h.1]
  | .row es, v, c, fp, h => by
    simp only [OwC] at h
    obtain ⟨rs, hc, hl, h⟩ := h
    rcases h with ⟨_, _, rfl⟩ | ⟨g, cap, cur, t, fps, hv, hB, hh, hs, rfl, hf, h⟩
    · simp
    · intro b hb
      rcases List.mem_cons.mp hb with rfl | hb
      · exact ⟨hB, (Array.getElem?_eq_some_iff.mp hh).1⟩
      · obtain ⟨f, hf1, hf2⟩ := List.mem_flatten.mp hb
        obtain ⟨i, hi, rfl⟩ := List.getElem_of_mem hf1
        exact OwL.range es _ _ _ (h i (by omega) hi) b hf2
theorem OwL.range {w : World} {B : Nat} : ∀ (ss : List Sh) (vs : List Value) (cs : List Ce) (fp : List Nat), OwL w B ss vs cs fp → ∀ b ∈ fp, B ≤ b ∧ b < w.heap.size
  | [], _, _, _, h => by simp only [OwL] at h; simp [h.2.2]
  | s :: ss, _, _, _, h => by
    simp only [OwL] at h
    obtain ⟨v, vs', c, cs', f, f', h1, h2, rfl, h4, h5⟩ := h
    intro b hb
    rcases List.mem_append.mp hb with hb | hb
    · exact OwC.range s v c f h4 b hb
    · exact OwL.range ss vs' cs' f' h5 b hb
end

mutual
theorem RdC.lens {w : World} : ∀ (ss : List Sh) (vs : List Value) (cs : List Ce), RdL w ss vs cs → vs.length = ss.length ∧ cs.length = ss.length
  | [], _, _, h => by simp only [RdL] at h; simp [h]
  | s :: ss, _, _, h => by
    simp only [RdL] at h
    obtain ⟨v, vs', c, cs', rfl, rfl, h3, h4⟩ := h
    have := RdC.lens ss vs' cs' h4
    simp [this]
end
theorem OwL.lens {w : World} {B : Nat} : ∀ (ss : List Sh) (vs : List Value) (cs : List Ce) (fp : List Nat), OwL w B ss vs cs fp → vs.length = ss.length ∧ cs.length = ss.length
  | [], _, _, _, h => by simp only [OwL] at h; simp [h]
  | s :: ss, _, _, _, h => by
    simp only [OwL] at h
    obtain ⟨v, vs', c, cs', f, f', rfl, rfl, rfl, h4, h5⟩ := h
    have := OwL.lens ss vs' cs' f' h5
    simp [this]

theorem cell_of_block {w : World} {g : Nat} {cur : Array Value} {t : TypeId} (h : w.heap[g]? = some (.cells cur t (0, 0))) (j : Nat) (hj : j < cur.size) : w.cell? ⟨g, j, none⟩ = some cur[j] := by
  simp [World.cell?, h, Array.getElem?_eq_getElem hj]
theorem free_of_block {w : World} {g : Nat} {cur : Array Value} {t : TypeId} (h : w.heap[g]? = some (.cells cur t (0, 0))) (j : Nat) : w.frozen? ⟨g, j, none⟩ = false := by
  simp [World.frozen?, h]

mutual
/-- What is owned is read. -/
theorem OwC.rd {w : World} {B : Nat} : ∀ (s : Sh) (v : Value) (c : Ce) (fp : List Nat), OwC w B s v c fp → RdC w s v c
  | .int _, _, _, _, h => by simp only [OwC] at h; simp only [RdC]; exact h.2
  | .bool, _, _, _, h => by simp only [OwC] at h; simp only [RdC]; exact h.2
  | .str, _, _, _, h => by simp only [OwC] at h; simp only [RdC]; exact h.2
  | .row es, v, c, fp, h => by
    simp only [OwC] at h
    simp only [RdC]
    obtain ⟨rs, hc, hl, h⟩ := h
    rcases h with ⟨rfl, rfl, rfl⟩ | ⟨g, cap, cur, t, fps, hv, hB, hh, hs, rfl, hf, h⟩
    · exact ⟨[], none, 0, hc, rfl, hl, .inl rfl⟩
    · refine ⟨rs, _, cap, hc, hv, hl, .inr ⟨g, 0, rfl, (Array.getElem?_eq_some_iff.mp hh).1, fun i hi => ?_⟩⟩
      have ho := h i hi (by omega)
      have hll := (OwL.lens es _ _ _ ho).1
      refine ⟨_, hll, fun j hj => ?_, OwL.rd es _ _ _ ho⟩
      have hm : i * es.length + es.length ≤ rs.length * es.length := by
        have := Nat.mul_le_mul_right es.length (show i + 1 ≤ rs.length from hi)
        rw [Nat.add_mul, Nat.one_mul] at this
        exact this
      have hj' : j < es.length := by omega
      rw [Nat.zero_add, cell_of_block hh _ (by omega)]
      simp
theorem OwL.rd {w : World} {B : Nat} : ∀ (ss : List Sh) (vs : List Value) (cs : List Ce) (fp : List Nat), OwL w B ss vs cs fp → RdL w ss vs cs
  | [], _, _, _, h => by simp only [OwL] at h; simp only [RdL]; exact ⟨h.1, h.2.1⟩
  | s :: ss, _, _, _, h => by
    simp only [OwL] at h
    simp only [RdL]
    obtain ⟨v, vs', c, cs', f, f', h1, h2, _, h4, h5⟩ := h
    exact ⟨v, vs', c, cs', h1, h2, OwC.rd s v c f h4, OwL.rd ss vs' cs' f' h5⟩
end

theorem RdL.nil {w : World} : RdL w [] [] [] := by simp only [RdL]; exact ⟨trivial, trivial⟩
theorem RdL.cons {w : World} {s : Sh} {ss : List Sh} {v : Value} {vs : List Value} {c : Ce} {cs : List Ce} (h : RdC w s v c) (k : RdL w ss vs cs) : RdL w (s :: ss) (v :: vs) (c :: cs) := by
  simp only [RdL]; exact ⟨v, vs, c, cs, rfl, rfl, h, k⟩
theorem RdC.mkInt {w : World} (k : IntKind) (n : Int) : RdC w (.int k) (.int k n) (.int n) := by simp only [RdC]; exact ⟨n, rfl, rfl⟩
theorem RdC.mkBool {w : World} (b : Bool) : RdC w .bool (.bool b) (.bool b) := by simp only [RdC]; exact ⟨b, rfl, rfl⟩
theorem RdC.mkStr {w : World} (s : ByteArray) : RdC w .str (.string s) (.str s) := by simp only [RdC]; exact ⟨s, rfl, rfl⟩
theorem RdL.consInv {w : World} {s : Sh} {ss : List Sh} {vs : List Value} {cs : List Ce} (h : RdL w (s :: ss) vs cs) : ∃ v vs' c cs', vs = v :: vs' ∧ cs = c :: cs' ∧ RdC w s v c ∧ RdL w ss vs' cs' := by simpa only [RdL] using h
theorem RdL.nilInv {w : World} {vs : List Value} {cs : List Ce} (h : RdL w [] vs cs) : vs = [] ∧ cs = [] := by simpa only [RdL] using h
theorem RdC.intInv {w : World} {k : IntKind} {v : Value} {c : Ce} (h : RdC w (.int k) v c) : ∃ n, v = .int k n ∧ c = .int n := by simpa only [RdC] using h
theorem RdC.boolInv {w : World} {v : Value} {c : Ce} (h : RdC w .bool v c) : ∃ b, v = .bool b ∧ c = .bool b := by simpa only [RdC] using h
theorem RdC.strInv {w : World} {v : Value} {c : Ce} (h : RdC w .str v c) : ∃ s, v = .string s ∧ c = .str s := by simpa only [RdC] using h
theorem OwL.nil {w : World} {B : Nat} : OwL w B [] [] [] [] := by simp only [OwL]; exact ⟨trivial, trivial, trivial⟩
theorem OwL.cons {w : World} {B : Nat} {s : Sh} {ss : List Sh} {v : Value} {vs : List Value} {c : Ce} {cs : List Ce} {f f' : List Nat} (h : OwC w B s v c f) (k : OwL w B ss vs cs f') : OwL w B (s :: ss) (v :: vs) (c :: cs) (f ++ f') := by
  simp only [OwL]; exact ⟨v, vs, c, cs, f, f', rfl, rfl, rfl, h, k⟩
theorem OwC.mkInt {w : World} {B : Nat} (k : IntKind) (n : Int) : OwC w B (.int k) (.int k n) (.int n) [] := by simp only [OwC]; exact ⟨trivial, n, rfl, rfl⟩
theorem OwC.mkBool {w : World} {B : Nat} (b : Bool) : OwC w B .bool (.bool b) (.bool b) [] := by simp only [OwC]; exact ⟨trivial, b, rfl, rfl⟩
theorem OwC.mkStr {w : World} {B : Nat} (s : ByteArray) : OwC w B .str (.string s) (.str s) [] := by simp only [OwC]; exact ⟨trivial, s, rfl, rfl⟩
theorem OwL.consInv {w : World} {B : Nat} {s : Sh} {ss : List Sh} {vs : List Value} {cs : List Ce} {fp : List Nat} (h : OwL w B (s :: ss) vs cs fp) : ∃ v vs' c cs' f f', vs = v :: vs' ∧ cs = c :: cs' ∧ fp = f ++ f' ∧ OwC w B s v c f ∧ OwL w B ss vs' cs' f' := by simpa only [OwL] using h
theorem OwL.nilInv {w : World} {B : Nat} {vs : List Value} {cs : List Ce} {fp : List Nat} (h : OwL w B [] vs cs fp) : vs = [] ∧ cs = [] ∧ fp = [] := by simpa only [OwL] using h
theorem OwC.intInv {w : World} {B : Nat} {k : IntKind} {v : Value} {c : Ce} {fp : List Nat} (h : OwC w B (.int k) v c fp) : fp = [] ∧ ∃ n, v = .int k n ∧ c = .int n := by simpa only [OwC] using h
theorem OwC.boolInv {w : World} {B : Nat} {v : Value} {c : Ce} {fp : List Nat} (h : OwC w B .bool v c fp) : fp = [] ∧ ∃ b, v = .bool b ∧ c = .bool b := by simpa only [OwC] using h
theorem OwC.strInv {w : World} {B : Nat} {v : Value} {c : Ce} {fp : List Nat} (h : OwC w B .str v c fp) : fp = [] ∧ ∃ s, v = .string s ∧ c = .str s := by simpa only [OwC] using h

theorem RdC.rowInv {w : World} {es : List Sh} {v : Value} {c : Ce} (h : RdC w (.row es) v c) : ∃ (rs : List (List Ce)) (a : Option Addr) (cap : Nat), c = .row rs ∧ v = .slice a rs.length cap ∧ rs.length ≤ maxLen ∧
      (rs = [] ∨ ∃ b off, a = some ⟨b, off, none⟩ ∧ b < w.heap.size ∧ ∀ i (h : i < rs.length), ∃ vs : List Value, vs.length = es.length ∧ (∀ j (hj : j < vs.length), w.cell? ⟨b, off + i * es.length + j, none⟩ = some vs[j]) ∧ RdL w es vs rs[i]) := by
  rw [RdC] at h; exact h
theorem RdC.rowMk {w : World} {es : List Sh} {rs : List (List Ce)} {a : Option Addr} {cap n : Nat} (hn : n = rs.length) (hl : rs.length ≤ maxLen)
    (h : rs = [] ∨ ∃ b off, a = some ⟨b, off, none⟩ ∧ b < w.heap.size ∧ ∀ i (h : i < rs.length), ∃ vs : List Value, vs.length = es.length ∧ (∀ j (hj : j < vs.length), w.cell? ⟨b, off + i * es.length + j, none⟩ = some vs[j]) ∧ RdL w es vs rs[i]) : RdC w (.row es) (.slice a n cap) (.row rs) := by
  rw [RdC]; exact ⟨rs, a, cap, rfl, by rw [hn], hl, h⟩
theorem OwC.rowInv {w : World} {B : Nat} {es : List Sh} {v : Value} {c : Ce} {fp : List Nat} (h : OwC w B (.row es) v c fp) : ∃ (rs : List (List Ce)), c = .row rs ∧ rs.length ≤ maxLen ∧
      ((v = .slice none 0 0 ∧ rs = [] ∧ fp = []) ∨
       ∃ (g cap : Nat) (cur : Array Value) (t : TypeId) (fps : List (List Nat)), v = .slice (some ⟨g, 0, none⟩) rs.length cap ∧ B ≤ g ∧ w.heap[g]? = some (.cells cur t (0, 0)) ∧ rs.length * es.length ≤ cur.size ∧ fp = g :: fps.flatten ∧ fps.length = rs.length ∧
         ∀ i (h : i < rs.length) (h' : i < fps.length), OwL w B es ((cur.toList.drop (i * es.length)).take es.length) rs[i] fps[i]) := by
  rw [OwC] at h; exact h
theorem OwC.rowNil {w : World} {B : Nat} {es : List Sh} : OwC w B (.row es) (.slice none 0 0) (.row []) [] := by
  rw [OwC]; exact ⟨[], rfl, Nat.zero_le _, .inl ⟨rfl, rfl, rfl⟩⟩
theorem OwC.rowMk {w : World} {B : Nat} {es : List Sh} {rs : List (List Ce)} {g cap n : Nat} {cur : Array Value} {t : TypeId} {fps : List (List Nat)} (hn : n = rs.length) (hl : rs.length ≤ maxLen) (hB : B ≤ g) (hh : w.heap[g]? = some (.cells cur t (0, 0)))
    (hs : rs.length * es.length ≤ cur.size) (hf : fps.length = rs.length) (h : ∀ i (h : i < rs.length) (h' : i < fps.length), OwL w B es ((cur.toList.drop (i * es.length)).take es.length) rs[i] fps[i]) : OwC w B (.row es) (.slice (some ⟨g, 0, none⟩) n cap) (.row rs) (g :: fps.flatten) := by
  rw [OwC]; exact ⟨rs, rfl, hl, .inr ⟨g, cap, cur, t, fps, by rw [hn], hB, hh, hs, rfl, hf, h⟩⟩

/-- An owned datum: its blocks are all different. -/
def Own (w : World) (B : Nat) (ss : List Sh) (vs : List Value) (cs : List Ce) : Prop := ∃ fp, fp.Nodup ∧ OwL w B ss vs cs fp
theorem Own.rd {w : World} {B : Nat} {ss : List Sh} {vs : List Value} {cs : List Ce} (h : Own w B ss vs cs) : RdL w ss vs cs := by
  obtain ⟨fp, _, h⟩ := h
  exact h.rd
theorem Own.below {w w' : World} {B : Nat} {ss : List Sh} {vs : List Value} {cs : List Ce} (h : Own w B ss vs cs) (hb : Below w.heap.size w w') : Own w' B ss vs cs := by
  obtain ⟨fp, hn, h⟩ := h
  exact ⟨fp, hn, h.keep _ _ _ _ fun b hm => hb.block b (h.range _ _ _ _ b hm).2⟩

/-- Only the blocks fp have turned, of what was there. -/
structure Turn (w w' : World) (fp : List Nat) : Prop where
  os : w'.os = w.os
  tape : w'.tape = w.tape
  output : w'.output = w.output
  size : w.heap.size ≤ w'.heap.size
  block : ∀ k, k < w.heap.size → k ∉ fp → w'.heap[k]? = w.heap[k]?
theorem Turn.refl (w : World) (fp : List Nat) : Turn w w fp := ⟨rfl, rfl, rfl, Nat.le_refl _, fun _ _ _ => rfl⟩
theorem Turn.trans {a b c : World} {fp : List Nat} (h : Turn a b fp) (k : Turn b c fp) : Turn a c fp :=
  ⟨k.os.trans h.os, k.tape.trans h.tape, k.output.trans h.output, Nat.le_trans h.size k.size, fun i hi hn => (k.block i (Nat.lt_of_lt_of_le hi h.size) hn).trans (h.block i hi hn)⟩
theorem Turn.mono {a b : World} {f f' : List Nat} (h : Turn a b f) (hf : ∀ x ∈ f, x ∈ f') : Turn a b f' := ⟨h.os, h.tape, h.output, h.size, fun i hi hn => h.block i hi (fun hm => hn (hf i hm))⟩
theorem Turn.of_below {w w' : World} (h : Below w.heap.size w w') (fp : List Nat) : Turn w w' fp := ⟨h.os, h.tape, h.output, h.size, fun k hk _ => h.block k hk⟩
theorem Turn.of_grown {w w' : World} {g : Nat} (h : w.grownBy w' (some g)) : Turn w w' [g] := ⟨h.os, h.tape, h.output, h.size, fun k hk hn => h.block k hk (by simp at hn ⊢; exact fun e => hn (by omega))⟩
theorem Turn.below {w w' : World} {fp : List Nat} {B : Nat} (h : Turn w w' fp) (hf : ∀ b ∈ fp, B ≤ b) (hB : B ≤ w.heap.size) : Below B w w' :=
  ⟨h.os, h.tape, h.output, h.size, fun k hk => h.block k (Nat.lt_of_lt_of_le hk hB) (fun hm => Nat.lt_irrefl _ (Nat.lt_of_lt_of_le hk (hf k hm)))⟩
theorem OwL.turn {w w' : World} {B : Nat} {ss : List Sh} {vs : List Value} {cs : List Ce} {fp f' : List Nat} (h : OwL w B ss vs cs fp) (ht : Turn w w' f') (hd : ∀ b ∈ fp, b ∉ f') : OwL w' B ss vs cs fp :=
  h.keep _ _ _ _ fun b hb => ht.block b (h.range _ _ _ _ b hb).2 (hd b hb)
theorem OwC.turn {w w' : World} {B : Nat} {s : Sh} {v : Value} {c : Ce} {fp f' : List Nat} (h : OwC w B s v c fp) (ht : Turn w w' f') (hd : ∀ b ∈ fp, b ∉ f') : OwC w' B s v c fp :=
  h.keep _ _ _ _ fun b hb => ht.block b (h.range _ _ _ _ b hb).2 (hd b hb)
theorem OwL.below {w w' : World} {B : Nat} {ss : List Sh} {vs : List Value} {cs : List Ce} {fp : List Nat} (h : OwL w B ss vs cs fp) (hb : Below w.heap.size w w') : OwL w' B ss vs cs fp :=
  h.keep _ _ _ _ fun b hm => hb.block b (h.range _ _ _ _ b hm).2
theorem OwC.below {w w' : World} {B : Nat} {s : Sh} {v : Value} {c : Ce} {fp : List Nat} (h : OwC w B s v c fp) (hb : Below w.heap.size w w') : OwC w' B s v c fp :=
  h.keep _ _ _ _ fun b hm => hb.block b (h.range _ _ _ _ b hm).2
/-- A block behind a store into one of its cells. -/
theorem block_set {w : World} {g : Nat} {cur : Array Value} {t : TypeId} (h : w.heap[g]? = some (.cells cur t (0, 0))) (j : Nat) (z : Value) : (w.setCell ⟨g, j, none⟩ z).heap[g]? = some (.cells (cur.setIfInBounds j z) t (0, 0)) := heap_setCell_same w g j cur t z h

end Go.Proofs.Ytkhakelhfnoeoaa
