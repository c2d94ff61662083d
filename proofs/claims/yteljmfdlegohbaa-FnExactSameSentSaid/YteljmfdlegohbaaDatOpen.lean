/- DERIVED. Data that come in as arguments read as their cells: structs, slices, slices of structs. No condition. -/
import Derived.Test.YteljmfdlegohbaaCore
import Derived.Deep.Slices
import Derived.Deep.Fields
import Derived.ChangeSame
import Derived.OpenShut
namespace Go.Proofs.Yteljmfdlegohbaa
open Go.RowKit Go.ChangeShapes Go.WideShapes Go.Deep

/-- The type t has the shapes ss. -/
inductive Rep (P : Program) : TypeId → List Sh → Prop where
  | int {t : TypeId} {k : IntKind} : P.underlying t = some (.int k) → Rep P t [.int k]
  | bool {t : TypeId} : P.underlying t = some .bool → Rep P t [.bool]
  | str {t : TypeId} : P.underlying t = some .string → Rep P t [.str]
  | row {t e : TypeId} {es : List Sh} : P.underlying t = some (.slice e) → Rep P e es → P.cellsOf e = es.length → 0 < es.length → Rep P t [.row es]
  | struct {t : TypeId} {fs : Array Field} {sss : List (List Sh)} : P.underlying t = some (.struct fs) → sss.length = fs.size → P.cellsOf t = sss.flatten.length →
      (∀ (i : Nat) (f : Field) (ss : List Sh), fs[i]? = some f → sss[i]? = some ss → f.offset = (sss.take i).flatten.length ∧ P.cellsOf f.type = ss.length) →
      (∀ (i : Nat) (f : Field) (ss : List Sh), fs[i]? = some f → sss[i]? = some ss → Rep P f.type ss) → Rep P t sss.flatten

mutual
/-- The numbers of a datum fit their kinds, its texts are no longer than any can be. -/
def WfC : Sh → Ce → Prop
  | .int k, .int n => (Lit.int k n).wf = true
  | .str, .str s => s.size ≤ maxLen
  | .row es, .row rs => ∀ r ∈ rs, WfL es r
  | _, _ => True
def WfL : List Sh → List Ce → Prop
  | [], _ => True
  | _, [] => True
  | s :: ss, c :: cs => WfC s c ∧ WfL ss cs
end

theorem RdL.append {w : World} : ∀ (a b : List Sh) (va vb : List Value) (ca cb : List Ce), RdL w a va ca → RdL w b vb cb → RdL w (a ++ b) (va ++ vb) (ca ++ cb)
  | [], b, va, vb, ca, cb, h, k => by simp only [RdL] at h; obtain ⟨rfl, rfl⟩ := h; exact k
  | s :: a, b, va, vb, ca, cb, h, k => by
    simp only [RdL] at h
    obtain ⟨v, vs', c, cs', rfl, rfl, h3, h4⟩ := h
    simp only [List.cons_append, RdL]
    exact ⟨v, _, c, _, rfl, rfl, h3, RdL.append a b _ _ _ _ h4 k⟩
theorem WfL.append : ∀ (a b : List Sh) (ca cb : List Ce), ca.length = a.length → WfL a ca → WfL b cb → WfL (a ++ b) (ca ++ cb)
  | [], b, ca, cb, hl, h, k => by
    have : ca = [] := List.eq_nil_of_length_eq_zero (by simpa using hl)
    subst this
    exact k
  | s :: a, b, [], cb, hl, h, k => by simp at hl
  | s :: a, b, c :: ca, cb, hl, h, k => by
    simp only [List.cons_append, WfL] at h ⊢
    exact ⟨h.1, WfL.append a b ca cb (by simpa using hl) h.2 k⟩
theorem rd_struct {w : World} {cs : List Value} : ∀ (sss : List (List Sh)) (k : Nat), cs.length = k + sss.flatten.length →
    (∀ i ss, sss[i]? = some ss → ∃ c, RdL w ss ((cs.drop (k + (sss.take i).flatten.length)).take ss.length) c ∧ WfL ss c) → ∃ c, RdL w sss.flatten (cs.drop k) c ∧ WfL sss.flatten c
  | [], k, hl, _ => ⟨[], by simp only [List.flatten_nil, RdL]; exact ⟨List.drop_eq_nil_of_le (by simp at hl; omega), trivial⟩, by simp [WfL]⟩
  | ss :: sss, k, hl, h => by
    obtain ⟨c, h1, h2⟩ := h 0 ss rfl
    simp only [List.take_zero, List.flatten_nil, List.length_nil, Nat.add_zero] at h1
    obtain ⟨c', h3, h4⟩ := rd_struct (w := w) (cs := cs) sss (k + ss.length) (by simp only [List.flatten_cons, List.length_append] at hl; omega) fun i s hs => by
      have := h (i + 1) s (by simpa using hs)
      simpa [Nat.add_assoc] using this
    refine ⟨c ++ c', ?_, ?_⟩
    · rw [List.flatten_cons]
      have e : cs.drop k = (cs.drop k).take ss.length ++ cs.drop (k + ss.length) := by
        rw [← List.drop_drop]; exact (List.take_append_drop _ _).symm
      rw [e]
      exact RdL.append _ _ _ _ _ _ h1 h3
    · rw [List.flatten_cons]
      exact WfL.append _ _ _ _ (RdC.lens _ _ _ h1).2 h2 h4

section
variable {H : Type} {enc : TypeId × Value → H} {P : Program} {w : World} {base : Nat} {spare : Nat → Bool} {held : Bool}
theorem trod_rd {t : TypeId} {ss : List Sh} (hr : Rep P t ss) : ∀ {fuel : Nat} {cs : List Value} {x : DataW H × List MemPlace}, DataW.trod enc P w base spare held fuel t cs = some x → ∃ c, RdL w ss cs c ∧ WfL ss c := by
  induction hr with
  | int hu =>
    intro fuel cs x h
    obtain ⟨n, rfl, _, hw⟩ := DataW.trod_int hu h
    exact ⟨[.int n], RdL.cons (RdC.mkInt _ n) RdL.nil, by simp [WfL, WfC, hw]⟩
  | bool hu =>
    intro fuel cs x h
    obtain ⟨b, rfl, _⟩ := DataW.trod_bool hu h
    exact ⟨[.bool b], RdL.cons (RdC.mkBool b) RdL.nil, by simp [WfL, WfC]⟩
  | str hu =>
    intro fuel cs x h
    obtain ⟨s, rfl, _, hw⟩ := DataW.trod_string hu h
    exact ⟨[.str s], RdL.cons (RdC.mkStr s) RdL.nil, by simp [WfL, WfC, hw]⟩
  | @row t e es hu he hc hpos0 ih =>
    intro fuel cs x h
    rcases open_slice hu h with ⟨rfl, _⟩ | ⟨a, len, cap, m, n, D, Pl, rfl, hb, hlc, hcm, hm, _, hi⟩
    · refine ⟨[.row []], ?_, by simp [WfL, WfC]⟩
      simp only [RdL, RdC]
      exact ⟨_, [], _, [], rfl, rfl, ⟨[], none, 0, rfl, rfl, Nat.zero_le _, .inl rfl⟩, rfl, rfl⟩
    · have hlm : len ≤ m := by rw [hm]; split <;> omega
      have key : ∀ i, i < len → ∃ r, (∃ vs : List Value, vs.length = es.length ∧ (∀ j (hj : j < vs.length), w.cell? (a.add (i * es.length + j)) = some vs[j]) ∧ RdL w es vs r) ∧ WfL es r := by
        intro i hil
        obtain ⟨cs', hcs, ht⟩ := hi i (by omega)
        obtain ⟨r, hr1, hr2⟩ := ih ht
        rw [hc] at hcs
        obtain ⟨_, hcl, hat⟩ := World.cells?_some hcs
        refine ⟨r, ⟨cs', hcl, fun j hj => ?_, hr1⟩, hr2⟩
        have := hat j (by omega)
        rw [← add_add, this, List.getElem?_eq_getElem hj]
      have key2 : ∀ n, n ≤ len → ∃ rs : List (List Ce), rs.length = n ∧ ∀ i (h : i < rs.length), (∃ vs : List Value, vs.length = es.length ∧ (∀ j (hj : j < vs.length), w.cell? (a.add (i * es.length + j)) = some vs[j]) ∧ RdL w es vs rs[i]) ∧ WfL es rs[i] := by
        intro n
        induction n with
        | zero => intro _; exact ⟨[], rfl, fun i h => by simp at h⟩
        | succ n ihn =>
          intro hn
          obtain ⟨rs, hl, hrs⟩ := ihn (by omega)
          obtain ⟨r, hr⟩ := key n (by omega)
          refine ⟨rs ++ [r], by simp [hl], fun i h => ?_⟩
          by_cases hin : i < rs.length
          · rw [List.getElem_append_left hin]; exact hrs i hin
          · obtain rfl : i = n := by simp at h; omega
            rw [List.getElem_append_right (by omega)]
            simpa [hl] using hr
      obtain ⟨rs, hl, hrs⟩ := key2 len (Nat.le_refl _)
      refine ⟨[.row rs], ?_, ?_⟩
      · simp only [RdL, RdC]
        refine ⟨_, [], _, [], rfl, rfl, ⟨rs, some a, cap, rfl, by rw [hl], by omega, ?_⟩, rfl, rfl⟩
        by_cases h0 : rs = []
        · exact .inl h0
        · right
          by_cases hes : es.length = 0
          · omega
          · have hpos : 0 < rs.length := List.length_pos_iff.mpr h0
            obtain ⟨⟨vs, v1, v2, _⟩, _⟩ := hrs 0 hpos
            have hc0 := v2 0 (by omega)
            obtain ⟨b, off, spot⟩ := a
            have hspot : spot = none := by
              have := World.cell?_spot hc0
              unfold Addr.add at this
              split at this <;> simp_all
            subst hspot
            have hadd : ∀ q, (⟨b, off, none⟩ : Addr).add q = ⟨b, off + q, none⟩ := fun q => by unfold Addr.add; split <;> simp_all
            refine ⟨b, off, rfl, ?_, fun i hi' => ?_⟩
            · rw [hadd] at hc0
              exact World.block_lt_of_cell? w _ hc0
            · obtain ⟨⟨us, u1, u2, u3⟩, _⟩ := hrs i hi'
              refine ⟨us, u1, fun j hj => ?_, u3⟩
              have := u2 j hj
              rw [hadd, ← Nat.add_assoc] at this
              exact this
      · simp only [WfL, WfC, and_true]
        intro r hr
        obtain ⟨i, hi', rfl⟩ := List.getElem_of_mem hr
        exact (hrs i hi').2
  | @struct t fs sss hu hl hc hoff hrep ih =>
    intro fuel cs x h
    obtain ⟨xs, n, _, _, hcl, hxl, hg⟩ := DataW.trod_struct hu h
    have := rd_struct (w := w) (cs := cs) sss 0 (by rw [hcl, hc]; simp) fun i ss hs => by
      have hi : i < fs.size := by rw [← hl]; exact (List.getElem?_eq_some_iff.mp hs).1
      have hf : fs[i]? = some fs[i] := Array.getElem?_eq_getElem hi
      obtain ⟨ho, hk⟩ := hoff i _ ss hf hs
      have h1 := hg i _ hf
      have hx : xs[i]? = some (xs[i]'(by omega)) := List.getElem?_eq_getElem (by omega)
      rw [hx, ho, hk] at h1
      rw [Nat.zero_add]
      exact ih i _ ss hf hs h1
    simpa using this
end
end Go.Proofs.Yteljmfdlegohbaa

namespace Go.Proofs.Yteljmfdlegohbaa
open Go.RowKit Go.ChangeShapes Go.WideShapes Go.Deep

/-- The fields fs, the first at the offset o, have the shapes sss. -/
inductive RepF (P : Program) : List Field → List (List Sh) → Nat → Prop where
  | nil {o : Nat} : RepF P [] [] o
  | cons {f : Field} {fs : List Field} {ss : List Sh} {sss : List (List Sh)} {o o' : Nat} : f.offset = o → P.cellsOf f.type = ss.length → o' = o + ss.length → Rep P f.type ss → RepF P fs sss o' → RepF P (f :: fs) (ss :: sss) o
theorem RepF.len {P : Program} {fs : List Field} {sss : List (List Sh)} {o : Nat} (h : RepF P fs sss o) : sss.length = fs.length := by
  induction h with
  | nil => rfl
  | cons _ _ _ _ _ ih => simp [ih]
theorem RepF.at {P : Program} {fs : List Field} {sss : List (List Sh)} {o : Nat} (h : RepF P fs sss o) : ∀ (i : Nat) (f : Field) (ss : List Sh), fs[i]? = some f → sss[i]? = some ss → f.offset = o + (sss.take i).flatten.length ∧ P.cellsOf f.type = ss.length ∧ Rep P f.type ss := by
  induction h with
  | nil => intro i f ss hf; simp at hf
  | @cons f0 fs ss0 sss o o' h1 h2 h3 h4 h5 ih =>
    intro i f ss hf hs
    cases i with
    | zero =>
      simp at hf hs
      subst hf; subst hs
      exact ⟨by simp [h1], h2, h4⟩
    | succ i =>
      simp at hf hs
      obtain ⟨a, b, c⟩ := ih i f ss hf hs
      exact ⟨by rw [a, h3]; simp; omega, b, c⟩
theorem Rep.of_fields {P : Program} {t : TypeId} {fs : Array Field} {sss : List (List Sh)} (hu : P.underlying t = some (.struct fs)) (hc : P.cellsOf t = sss.flatten.length) (h : RepF P fs.toList sss 0) : Rep P t sss.flatten := by
  refine Rep.struct hu (by rw [h.len]; simp) hc (fun i f ss hf hs => ?_) fun i f ss hf hs => ?_
  · obtain ⟨a, b, _⟩ := h.at i f ss (by simpa using hf) hs
    exact ⟨by simpa using a, b⟩
  · exact (h.at i f ss (by simpa using hf) hs).2.2

end Go.Proofs.Yteljmfdlegohbaa

