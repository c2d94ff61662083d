/- DERIVED. An argument of any type that is made of numbers, Bools, texts, structs and slices reads as a datum. No condition. · A struct's type has the shapes of its fields, one after the other. No condition. · A keymap (an action) that comes in as an argument reads as a number and layers of actions. No condition. · Held keys that come in as an argument read as a list of held keys. No condition. · Steps that come in as an argument read as a list of steps. No condition. · An engine (macros) that comes in as an argument reads as its keymap, its macros, its held keys and its numbers. No condition. -/
import Derived.Test.YtjfckchoklepbaaGreatCore
import Derived.Deep.Slices
import Derived.Deep.Fields
import Derived.ChangeSame
import Derived.OpenShut
import Derived.Test.YtjfckchoklepbaaGreatKm
import Derived.Test.YtjfckchoklepbaaGreatHd
import Derived.Test.YtjfckchoklepbaaGreatSt
import Derived.Test.YtjfckchoklepbaaGreatEnDef
namespace Go.Proofs.YtjfckchoklepbaaGreat
open Go.RowKit Go.ChangeShapes Go.WideShapes Go.Deep

/-- The type t has the shapes ss. -/
inductive Rep (P : Program) : TypeId → List Sh → Prop where
  | int {t : TypeId} {k : IntKind} : P.underlying t = some (.int k) → Rep P t [.int k]
  | bool {t : TypeId} : P.underlying t = some .bool → Rep P t [.bool]
  | str {t : TypeId} : P.underlying t = some .string → Rep P t [.str]
  | row {t e : TypeId} {es : List Sh} : P.underlying t = some (.slice e) → Rep P e es → P.cellsOf e = es.length → 0 < es.length → Rep P t [.row es]
  | struct {t : TypeId} {fs : Array Field} {sss : List (List Sh)} : P.underlying t = some (.struct fs) → sss.length = fs.size → P.cellsOf t = sss.flatten.length →
      (∀ (i : Nat) (f : Field) (ss : List Sh), fs[i]? = some f → sss[i]? = some ss → f.offset = (sss.take i).flatten.length ∧ P.cellsOf f.type = ss.length) →
      (∀ (i : Nat) (f : Field) (ss : List Sh), fs[i]? = some f → sss[i]? = some ss → Rep P f.type ss) → Rep P t sss.flatten

mutual
/-- The numbers of a datum fit their kinds, its texts are no longer than any can be. -/
def WfC : Sh → Ce → Prop
  | .int k, .int n => (Lit.int k n).wf = true
  | .str, .str s => s.size ≤ maxLen
  | .row es, .row rs => ∀ r ∈ rs, WfL es r
  | _, _ => True
def WfL : List Sh → List Ce → Prop
  | [], _ => True
  | _, [] => True
  | s :: ss, c :: cs => WfC s c ∧ WfL ss cs
end

theorem RdL.append {w : World} : ∀ (a b : List Sh) (va vb : List Value) (ca cb : List Ce), RdL w a va ca → RdL w b vb cb → RdL w (a ++ b) (va ++ vb) (ca ++ cb)
  | [], b, va, vb, ca, cb, h, k => by simp only [RdL] at h; obtain ⟨rfl, rfl⟩ := h; exact k
  | s :: a, b, va, vb, ca, cb, h, k => by
    simp only [RdL] at h
    obtain ⟨v, vs', c, cs', rfl, rfl, h3, h4⟩ := h
    simp only [List.cons_append, RdL]
    exact ⟨v, _, c, _, rfl, rfl, h3, RdL.append a b _ _ _ _ h4 k⟩
theorem WfL.append : ∀ (a b : List Sh) (ca cb : List Ce), ca.length = a.length → WfL a ca → WfL b cb → WfL (a ++ b) (ca ++ cb)
  | [], b, ca, cb, hl, h, k => by
    have : ca = [] := List.eq_nil_of_length_eq_zero (by simpa using hl)
    subst this
    exact k
  | s :: a, b, [], cb, hl, h, k => by simp at hl
  | s :: a, b, c :: ca, cb, hl, h, k => by
    simp only [List.cons_append, WfL] at h ⊢
    exact ⟨h.1, WfL.append a b ca cb (by simpa using hl) h.2 k⟩
theorem rd_struct {w : World} {cs : List Value} : ∀ (sss : List (List Sh)) (k : Nat), cs.length = k + sss.flatten.length →
    (∀ i ss, sss[i]? = some ss → ∃ c, RdL w ss ((cs.drop (k + (sss.take i).flatten.length)).take ss.length) c ∧ WfL ss c) → ∃ c, RdL w sss.flatten (cs.drop k) c ∧ WfL sss.flatten c
  | [], k, hl, _ => ⟨[], by simp only [List.flatten_nil, RdL]; exact ⟨List.drop_eq_nil_of_le (by simp at hl; omega), trivial⟩, by simp [WfL]⟩
  | ss :: sss, k, hl, h => by
    obtain ⟨c, h1, h2⟩ := h 0 ss rfl
    simp only [List.take_zero, List.flatten_nil, List.length_nil, Nat.add_zero] at h1
    obtain ⟨c', h3, h4⟩ := rd_struct (w := w) (cs := cs) sss (k + ss.length) (by simp only [List.flatten_cons, List.length_append] at hl; omega) fun i s hs => by
      have := h (i + 1) s (by simpa using hs)
      simpa [Nat.add_assoc] using this
    refine ⟨c ++ c', ?_, ?_⟩
    · rw [List.flatten_cons]
      have e : cs.drop k = (cs.drop k).take ss.length ++ cs.drop (k + ss.length) := by
        rw [← List.drop_drop]; exact (List.take_append_drop _ _).symm
      rw [e]
      exact RdL.append _ _ _ _ _ _ h1 h3
    · rw [List.flatten_cons]
      exact WfL.append _ _ _ _ (RdC.lens _ _ _ h1).2 h2 h4

section
variable {H : Type} {enc : TypeId × Value → H} {P : Program} {w : World} {base : Nat} {spare : Nat → Bool} {held : Bool}
theorem trod_rd {t : TypeId} {ss : List Sh} (hr : Rep P t ss) : ∀ {fuel : Nat} {cs : List Value} {x : DataW H × List MemPlace}, DataW.trod enc P w base spare held fuel t cs = some x → ∃ c, RdL w ss cs c ∧ WfL ss c := by
  induction hr with
  | int hu =>
    intro fuel cs x h
    obtain ⟨n, rfl, _, hw⟩ := DataW.trod_int hu h
    exact ⟨[.int n], RdL.cons (RdC.mkInt _ n) RdL.nil, by simp [WfL, WfC, hw]⟩
  | bool hu =>
    intro fuel cs x h
    obtain ⟨b, rfl, _⟩ := DataW.trod_bool hu h
    exact ⟨[.bool b], RdL.cons (RdC.mkBool b) RdL.nil, by simp [WfL, WfC]⟩
  | str hu =>
    intro fuel cs x h
    obtain ⟨s, rfl, _, hw⟩ := DataW.trod_string hu h
    exact ⟨[.str s], RdL.cons (RdC.mkStr s) RdL.nil, by simp [WfL, WfC, hw]⟩
  | @row t e es hu he hc hpos0 ih =>
    intro fuel cs x h
    rcases open_slice hu h with ⟨rfl, _⟩ | ⟨a, len, cap, m, n, D, Pl, rfl, hb, hlc, hcm, hm, _, hi⟩
    · refine ⟨[.row []], ?_, by simp [WfL, WfC]⟩
      simp only [RdL, RdC]
      exact ⟨_, [], _, [], rfl, rfl, ⟨[], none, 0, rfl, rfl, Nat.zero_le _, .inl rfl⟩, rfl, rfl⟩
    · have hlm : len ≤ m := by rw [hm]; split <;> omega
      have key : ∀ i, i < len → ∃ r, (∃ vs : List Value, vs.length = es.length ∧ (∀ j (hj : j < vs.length), w.cell? (a.add (i * es.length + j)) = some vs[j]) ∧ RdL w es vs r) ∧ WfL es r := by
        intro i hil
        obtain ⟨cs', hcs, ht⟩ := hi i (by omega)
        obtain ⟨r, hr1, hr2⟩ := ih ht
        rw [hc] at hcs
        obtain ⟨_, hcl, hat⟩ := World.cells?_some hcs
        refine ⟨r, ⟨cs', hcl, fun j hj => ?_, hr1⟩, hr2⟩
        have := hat j (by omega)
        rw [← add_add, this, List.getElem?_eq_getElem hj]
      have key2 : ∀ n, n ≤ len → ∃ rs : List (List Ce), rs.length = n ∧ ∀ i (h : i < rs.length), (∃ vs : List Value, vs.length = es.length ∧ (∀ j (hj : j < vs.length), w.cell? (a.add (i * es.length + j)) = some vs[j]) ∧ RdL w es vs rs[i]) ∧ WfL es rs[i] := by
        intro n
        induction n with
        | zero => intro _; exact ⟨[], rfl, fun i h => by simp at h⟩
        | succ n ihn =>
          intro hn
          obtain ⟨rs, hl, hrs⟩ := ihn (by omega)
          obtain ⟨r, hr⟩ := key n (by omega)
          refine ⟨rs ++ [r], by simp [hl], fun i h => ?_⟩
          by_cases hin : i < rs.length
          · rw [List.getElem_append_left hin]; exact hrs i hin
          · obtain rfl : i = n := by simp at h; omega
            rw [List.getElem_append_right (by omega)]
            simpa [hl] using hr
      obtain ⟨rs, hl, hrs⟩ := key2 len (Nat.le_refl _)
      refine ⟨[.row rs], ?_, ?_⟩
      · simp only [RdL, RdC]
        refine ⟨_, [], _, [], rfl, rfl, ⟨rs, some a, cap, rfl, by rw [hl], by omega, ?_⟩, rfl, rfl⟩
        by_cases h0 : rs = []
        · exact .inl h0
        · right
          by_cases hes : es.length = 0
          · omega
          · have hpos : 0 < rs.length := List.length_pos_iff.mpr h0
            obtain ⟨⟨vs, v1, v2, _⟩, _⟩ := hrs 0 hpos
            have hc0 := v2 0 (by omega)
            obtain ⟨b, off, spot⟩ := a
            have hspot : spot = none := by
              have := World.cell?_spot hc0
              unfold Addr.add at this
              split at this <;> simp_all
            subst hspot
            have hadd : ∀ q, (⟨b, off, none⟩ : Addr).add q = ⟨b, off + q, none⟩ := fun q => by unfold Addr.add; split <;> simp_all
            refine ⟨b, off, rfl, ?_, fun i hi' => ?_⟩
            · rw [hadd] at hc0
              exact World.block_lt_of_cell? w _ hc0
            · obtain ⟨⟨us, u1, u2, u3⟩, _⟩ := hrs i hi'
              refine ⟨us, u1, fun j hj => ?_, u3⟩
              have := u2 j hj
              rw [hadd, ← Nat.add_assoc] at this
              exact this
      · simp only [WfL, WfC, and_true]
        intro r hr
        obtain ⟨i, hi', rfl⟩ := List.getElem_of_mem hr
        exact (hrs i hi').2
  | @struct t fs sss hu hl hc hoff hrep ih =>
    intro fuel cs x h
    obtain ⟨xs, n, _, _, hcl, hxl, hg⟩ := DataW.trod_struct hu h
    have := rd_struct (w := w) (cs := cs) sss 0 (by rw [hcl, hc]; simp) fun i ss hs => by
      have hi : i < fs.size := by rw [← hl]; exact (List.getElem?_eq_some_iff.mp hs).1
      have hf : fs[i]? = some fs[i] := Array.getElem?_eq_getElem hi
      obtain ⟨ho, hk⟩ := hoff i _ ss hf hs
      have h1 := hg i _ hf
      have hx : xs[i]? = some (xs[i]'(by omega)) := List.getElem?_eq_getElem (by omega)
      rw [hx, ho, hk] at h1
      rw [Nat.zero_add]
      exact ih i _ ss hf hs h1
    simpa using this
end
end Go.Proofs.YtjfckchoklepbaaGreat

namespace Go.Proofs.YtjfckchoklepbaaGreat
open Go.RowKit Go.ChangeShapes Go.WideShapes Go.Deep

/-- The fields fs, the first at the offset o, have the shapes sss. -/
inductive RepF (P : Program) : List Field → List (List Sh) → Nat → Prop where
  | nil {o : Nat} : RepF P [] [] o
  | cons {f : Field} {fs : List Field} {ss : List Sh} {sss : List (List Sh)} {o o' : Nat} : f.offset = o → P.cellsOf f.type = ss.length → o' = o + ss.length → Rep P f.type ss → RepF P fs sss o' → RepF P (f :: fs) (ss :: sss) o
theorem RepF.len {P : Program} {fs : List Field} {sss : List (List Sh)} {o : Nat} (h : RepF P fs sss o) : sss.length = fs.length := by
  induction h with
  | nil => rfl
  | cons _ _ _ _ _ ih => simp [ih]
theorem RepF.at {P : Program} {fs : List Field} {sss : List (List Sh)} {o : Nat} (h : RepF P fs sss o) : ∀ (i : Nat) (f : Field) (ss : List Sh), fs[i]? = some f → sss[i]? = some ss → f.offset = o + (sss.take i).flatten.length ∧ P.cellsOf f.type = ss.length ∧ Rep P f.type ss := by
  induction h with
  | nil => intro i f ss hf; simp at hf
  | @cons f0 fs ss0 sss o o' h1 h2 h3 h4 h5 ih =>
    intro i f ss hf hs
    cases i with
    | zero =>
      simp at hf hs
      subst hf; subst hs
      exact ⟨by simp [h1], h2, h4⟩
    | succ i =>
      simp at hf hs
      obtain ⟨a, b, c⟩ := ih i f ss hf hs
      exact ⟨by rw [a, h3]; simp; omega, b, c⟩
theorem Rep.of_fields {P : Program} {t : TypeId} {fs : Array Field} {sss : List (List Sh)} (hu : P.underlying t = some (.struct fs)) (hc : P.cellsOf t = sss.flatten.length) (h : RepF P fs.toList sss 0) : Rep P t sss.flatten := by
  refine Rep.struct hu (by rw [h.len]; simp) hc (fun i f ss hf hs => ?_) fun i f ss hf hs => ?_
  · obtain ⟨a, b, _⟩ := h.at i f ss (by simpa using hf) hs
    exact ⟨by simpa using a, b⟩
  · exact (h.at i f ss (by simpa using hf) hs).2.2
end Go.Proofs.YtjfckchoklepbaaGreat

namespace Go.Proofs.YtjfckchoklepbaaGreat
open Go.RowKit Go.ChangeShapes Go.WideShapes Go.Deep

theorem rep_intA : Rep Tryz.prog 3 [.int .i64] := Rep.int Tryz.underlying3
abbrev acS4 : List Sh := [.int .i64, .int .i64, .int .i64, .int .i64]
theorem rep_ac : Rep Tryz.prog 218 acS4 :=
  Rep.of_fields (sss := [[.int .i64], [.int .i64], [.int .i64], [.int .i64]]) Tryz.underlying218 (by kernel_rfl)
    (.cons rfl (by kernel_rfl) rfl rep_intA (.cons rfl (by kernel_rfl) rfl rep_intA (.cons rfl (by kernel_rfl) rfl rep_intA (.cons rfl (by kernel_rfl) rfl rep_intA .nil))))
theorem rep_acs : Rep Tryz.prog 246 [.row acS4] := Rep.row Tryz.underlying246 rep_ac (by kernel_rfl) (by decide)
theorem rep_layers : Rep Tryz.prog 85 [.row [.row acS4]] := Rep.row Tryz.underlying85 rep_acs (by kernel_rfl) (by decide)
theorem rep_keymap : Rep Tryz.prog 87 [.int .i64, .row [.row acS4]] :=
  Rep.of_fields (sss := [[.int .i64], [.row [.row acS4]]]) Tryz.underlying87 (by kernel_rfl)
    (.cons rfl (by kernel_rfl) rfl rep_intA (.cons rfl (by kernel_rfl) rfl rep_layers .nil))
def acCe : List Ce → Ac
  | [.int k, .int c, .int m, .int n] => ⟨k, c, m, n⟩
  | _ => ⟨0, 0, 0, 0⟩
theorem acCe_flat : ∀ (rs : List (List Ce)), (∀ r ∈ rs, ∃ k c m n, r = [.int k, .int c, .int m, .int n]) → rs.flatMap (cesV acS4) = flatAc (rs.map acCe)
  | [], _ => rfl
  | r :: rs, h => by
    obtain ⟨k, c, m, n, rfl⟩ := h _ List.mem_cons_self
    rw [List.flatMap_cons, acCe_flat rs (fun r hr => h r (List.mem_cons_of_mem _ hr)), List.map_cons]
    rfl
theorem acs_of {w : World} {v : Value} {c : Ce} (h : RdC w (.row acS4) v c) : ∃ l : List Ac, l.length ≤ maxLen ∧ RdN w v l.length (l.flatMap Ac.cells) := by
  obtain ⟨rs, rfl⟩ : ∃ rs, c = .row rs := by
    have := h
    simp only [RdC] at this
    obtain ⟨rs, _, _, h, _⟩ := this
    exact ⟨rs, h⟩
  obtain ⟨h1, h2, h3, a, cap, hs⟩ := rdN_of_rdC (by simp [flatSh]) (by decide) h
  have hsh : ∀ r ∈ rs, ∃ k c m n, r = [.int k, .int c, .int m, .int n] := fun r hr => by
    obtain ⟨vs, hvs⟩ := h3 r hr
    obtain ⟨_, _, _, _, _, rfl, r0, q0⟩ := hvs.consInv
    obtain ⟨_, _, _, _, _, rfl, r1, q1⟩ := q0.consInv
    obtain ⟨_, _, _, _, _, rfl, r2, q2⟩ := q1.consInv
    obtain ⟨_, _, _, _, _, rfl, r3, q3⟩ := q2.consInv
    obtain ⟨_, rfl⟩ := q3.nilInv
    obtain ⟨k, _, rfl⟩ := r0.intInv
    obtain ⟨c, _, rfl⟩ := r1.intInv
    obtain ⟨m, _, rfl⟩ := r2.intInv
    obtain ⟨n, _, rfl⟩ := r3.intInv
    exact ⟨k, c, m, n, rfl⟩
  rw [acCe_flat rs hsh] at h1
  exact ⟨rs.map acCe, by rw [List.length_map]; exact h2, by rw [List.length_map]; exact h1⟩
theorem layers_of {w : World} {v : Value} {c : Ce} (h : RdC w (.row [.row acS4]) v c) : ∃ L : List (List Ac), L.length ≤ maxLen ∧ (∀ l ∈ L, l.length ≤ maxLen) ∧ LdS w v L := by
  obtain ⟨rs, a, cap, rfl, rfl, hl, h⟩ := h.rowInv
  rcases h with rfl | ⟨b, off, rfl, hlt, h⟩
  · exact ⟨[], by simp, by simp, [], rfl, ⟨a, cap, rfl, .inl rfl⟩, fun j hj => absurd hj (Nat.not_lt_zero _)⟩
  · have hx : ∀ i : Fin rs.length, ∃ p : Value × List Ac, w.cell? ⟨b, off + i.val, none⟩ = some p.1 ∧ p.2.length ≤ maxLen ∧ RdN w p.1 p.2.length (p.2.flatMap Ac.cells) := by
      intro i
      obtain ⟨vs, h1, h2, h3⟩ := h i.val i.isLt
      obtain ⟨u, _, c, _, rfl, _, r0, q0⟩ := h3.consInv
      obtain ⟨rfl, _⟩ := q0.nilInv
      obtain ⟨l, hl1, hl2⟩ := acs_of r0
      refine ⟨(u, l), ?_, hl1, hl2⟩
      have := h2 0 (by simp)
      simpa using this
    obtain ⟨f, hf⟩ := Classical.axiomOfChoice hx
    have hu : ∀ j, j < rs.length → uD (List.ofFn fun i => (f i).1) j = (if h : j < rs.length then (f ⟨j, h⟩).1 else .bool false) := by
      intro j hj
      rw [dif_pos hj, uD, List.getD_eq_getElem?_getD, List.getElem?_ofFn, dif_pos hj]
      rfl
    have hlD : ∀ j, j < rs.length → lD (List.ofFn fun i => (f i).2) j = (if h : j < rs.length then (f ⟨j, h⟩).2 else []) := by
      intro j hj
      rw [dif_pos hj, lD, List.getD_eq_getElem?_getD, List.getElem?_ofFn, dif_pos hj]
      rfl
    refine ⟨List.ofFn fun i => (f i).2, by simpa using hl, ?_, List.ofFn fun i => (f i).1, by simp, ?_, ?_⟩
    · intro l hm
      obtain ⟨i, rfl⟩ := List.mem_ofFn.1 hm
      exact (hf i).2.1
    · refine ⟨_, cap, by simp, .inr ⟨b, off, rfl, hlt, fun j hj => ?_⟩⟩
      have hj' : j < rs.length := by simpa using hj
      rw [(hf ⟨j, hj'⟩).1]
      simp
    · intro j hj
      have hj' : j < rs.length := by simpa using hj
      rw [hu j hj', hlD j hj', dif_pos hj', dif_pos hj']
      exact (hf ⟨j, hj'⟩).2.2
section
variable {H : Type} {enc : TypeId × Value → H} {w : World} {base : Nat} {spare : Nat → Bool} {held : Bool}
set_option maxRecDepth 100000 in
theorem open_Keymap {r : Reach} {b0 : Nat} {v : Value} {d : DataW H} {p : List MemPlace} (hv : Value.okWide Tryz.prog w r b0 87 v) (h : DataW.Trod enc Tryz.prog w base spare held 87 v d p) :
    ∃ (k : Int) (u : Value) (L : List (List Ac)), v = kmv k u ∧ L.length ≤ maxLen ∧ (∀ l ∈ L, l.length ≤ maxLen) ∧ LdS w u L := by
  obtain ⟨cs, rfl, hsz⟩ := okWide_struct Tryz.underlying87 hv
  obtain ⟨fuel, hf⟩ := h
  obtain ⟨c, hrd, _⟩ := trod_rd rep_keymap hf
  obtain ⟨v0, l0, c0, m0, e0, _, r0, q0⟩ := hrd.consInv
  obtain ⟨v1, l1, c1, m1, e1, _, r1, q1⟩ := q0.consInv
  obtain ⟨rfl, _⟩ := q1.nilInv
  obtain ⟨k, rfl, _⟩ := r0.intInv
  obtain ⟨L, h1, h2, h3⟩ := layers_of r1
  subst e1
  have : cs = #[.int .i64 k, v1] := by
    apply Array.ext'
    simpa [Value.cells] using e0
  exact ⟨k, v1, L, by rw [this], h1, h2, h3⟩
end
end Go.Proofs.YtjfckchoklepbaaGreat

namespace Go.Proofs.YtjfckchoklepbaaGreat
open Go.RowKit Go.ChangeShapes Go.WideShapes Go.Deep

theorem rep_intH : Rep Tryz.prog 3 [.int .i64] := Rep.int Tryz.underlying3
abbrev acS4h : List Sh := [.int .i64, .int .i64, .int .i64, .int .i64]
abbrev hdS5 : List Sh := [.int .i64, .int .i64, .int .i64, .int .i64, .int .i64]
theorem rep_actionH : Rep Tryz.prog 218 acS4h :=
  Rep.of_fields (sss := [[.int .i64], [.int .i64], [.int .i64], [.int .i64]]) Tryz.underlying218 (by kernel_rfl)
    (.cons rfl (by kernel_rfl) rfl rep_intH (.cons rfl (by kernel_rfl) rfl rep_intH (.cons rfl (by kernel_rfl) rfl rep_intH (.cons rfl (by kernel_rfl) rfl rep_intH .nil))))
theorem rep_held : Rep Tryz.prog 220 hdS5 :=
  Rep.of_fields (sss := [[.int .i64], acS4h]) Tryz.underlying220 (by kernel_rfl)
    (.cons rfl (by kernel_rfl) rfl rep_intH (.cons rfl (by kernel_rfl) rfl rep_actionH .nil))
theorem rep_helds : Rep Tryz.prog 89 [.row hdS5] := Rep.row Tryz.underlying89 rep_held (by kernel_rfl) (by decide)
def hdC : List Ce → Hd
  | [.int h, .int k, .int c, .int m, .int n] => ⟨h, k, c, m, n⟩
  | _ => ⟨0, 0, 0, 0, 0⟩
theorem hdC_flat : ∀ (rs : List (List Ce)), (∀ r ∈ rs, ∃ h k c m n, r = [.int h, .int k, .int c, .int m, .int n]) → rs.flatMap (cesV hdS5) = flatHd (rs.map hdC)
  | [], _ => rfl
  | r :: rs, h => by
    obtain ⟨h', k, c, m, n, rfl⟩ := h _ List.mem_cons_self
    rw [List.flatMap_cons, hdC_flat rs (fun r hr => h r (List.mem_cons_of_mem _ hr)), List.map_cons]
    rfl
section
variable {H : Type} {enc : TypeId × Value → H} {w : World} {base : Nat} {spare : Nat → Bool} {held : Bool}
set_option maxRecDepth 100000 in
theorem open_Helds {r : Reach} {b0 : Nat} {v : Value} {d : DataW H} {p : List MemPlace} (hv : Value.okWide Tryz.prog w r b0 89 v) (h : DataW.Trod enc Tryz.prog w base spare held 89 v d p) :
    ∃ (a : Option Addr) (m cap : Nat) (l : List Hd), v = .slice a m cap ∧ l.length = m ∧ m ≤ maxLen ∧ RdN w (.slice a m cap) l.length (flatHd l) := by
  obtain ⟨a0, n0, c0, rfl⟩ := okWide_slice Tryz.underlying89 hv
  obtain ⟨fuel, hf⟩ := h
  obtain ⟨c, hrd, _⟩ := trod_rd rep_helds hf
  obtain ⟨v0, l0, c1, m0, e0, _, r0, q0⟩ := hrd.consInv
  obtain ⟨rfl, _⟩ := q0.nilInv
  have e1 : v0 = .slice a0 n0 c0 := by
    have : [Value.slice a0 n0 c0] = [v0] := by simpa [Value.cells] using e0
    simpa using this.symm
  subst e1
  obtain ⟨rs, rfl⟩ : ∃ rs, c1 = .row rs := by
    have := r0
    simp only [RdC] at this
    obtain ⟨rs, _, _, h, _⟩ := this
    exact ⟨rs, h⟩
  obtain ⟨h1, h2, h3, a, cap, hs⟩ := rdN_of_rdC (by simp [flatSh]) (by decide) r0
  simp only [Value.slice.injEq] at hs
  obtain ⟨rfl, hn, rfl⟩ := hs
  have hsh : ∀ r ∈ rs, ∃ h k c m n, r = [.int h, .int k, .int c, .int m, .int n] := fun r hr => by
    obtain ⟨vs, hvs⟩ := h3 r hr
    obtain ⟨_, _, _, _, _, rfl, r0, q0⟩ := hvs.consInv
    obtain ⟨_, _, _, _, _, rfl, r1, q1⟩ := q0.consInv
    obtain ⟨_, _, _, _, _, rfl, r2, q2⟩ := q1.consInv
    obtain ⟨_, _, _, _, _, rfl, r3, q3⟩ := q2.consInv
    obtain ⟨_, _, _, _, _, rfl, r4, q4⟩ := q3.consInv
    obtain ⟨_, rfl⟩ := q4.nilInv
    obtain ⟨h, _, rfl⟩ := r0.intInv
    obtain ⟨k, _, rfl⟩ := r1.intInv
    obtain ⟨c, _, rfl⟩ := r2.intInv
    obtain ⟨m, _, rfl⟩ := r3.intInv
    obtain ⟨n, _, rfl⟩ := r4.intInv
    exact ⟨h, k, c, m, n, rfl⟩
  rw [hdC_flat rs hsh] at h1
  exact ⟨a0, n0, c0, rs.map hdC, rfl, by simp [hn], by omega, by rw [List.length_map]; exact h1⟩
end
end Go.Proofs.YtjfckchoklepbaaGreat

namespace Go.Proofs.YtjfckchoklepbaaGreat
open Go.RowKit Go.ChangeShapes Go.WideShapes Go.Deep

theorem rep_intS : Rep Tryz.prog 3 [.int .i64] := Rep.int Tryz.underlying3
abbrev stS3 : List Sh := [.int .i64, .int .i64, .int .i64]
theorem rep_step : Rep Tryz.prog 249 stS3 :=
  Rep.of_fields (sss := [[.int .i64], [.int .i64], [.int .i64]]) Tryz.underlying249 (by kernel_rfl)
    (.cons rfl (by kernel_rfl) rfl rep_intS (.cons rfl (by kernel_rfl) rfl rep_intS (.cons rfl (by kernel_rfl) rfl rep_intS .nil)))
theorem rep_steps : Rep Tryz.prog 214 [.row stS3] := Rep.row Tryz.underlying214 rep_step (by kernel_rfl) (by decide)
def stC : List Ce → St
  | [.int k, .int c, .int m] => ⟨k, c, m⟩
  | _ => ⟨0, 0, 0⟩
theorem stC_flat : ∀ (rs : List (List Ce)), (∀ r ∈ rs, ∃ k c m, r = [.int k, .int c, .int m]) → rs.flatMap (cesV stS3) = flatSt (rs.map stC)
  | [], _ => rfl
  | r :: rs, h => by
    obtain ⟨k, c, m, rfl⟩ := h _ List.mem_cons_self
    rw [List.flatMap_cons, stC_flat rs (fun r hr => h r (List.mem_cons_of_mem _ hr)), List.map_cons]
    rfl
section
variable {H : Type} {enc : TypeId × Value → H} {w : World} {base : Nat} {spare : Nat → Bool} {held : Bool}
set_option maxRecDepth 100000 in
theorem open_Steps {r : Reach} {b0 : Nat} {v : Value} {d : DataW H} {p : List MemPlace} (hv : Value.okWide Tryz.prog w r b0 214 v) (h : DataW.Trod enc Tryz.prog w base spare held 214 v d p) :
    ∃ (a : Option Addr) (m cap : Nat) (l : List St), v = .slice a m cap ∧ l.length = m ∧ m ≤ maxLen ∧ RdN w (.slice a m cap) l.length (flatSt l) := by
  obtain ⟨a0, n0, c0, rfl⟩ := okWide_slice Tryz.underlying214 hv
  obtain ⟨fuel, hf⟩ := h
  obtain ⟨c, hrd, _⟩ := trod_rd rep_steps hf
  obtain ⟨v0, l0, c1, m0, e0, _, r0, q0⟩ := hrd.consInv
  obtain ⟨rfl, _⟩ := q0.nilInv
  have e1 : v0 = .slice a0 n0 c0 := by
    have : [Value.slice a0 n0 c0] = [v0] := by simpa [Value.cells] using e0
    simpa using this.symm
  subst e1
  obtain ⟨rs, rfl⟩ : ∃ rs, c1 = .row rs := by
    have := r0
    simp only [RdC] at this
    obtain ⟨rs, _, _, h, _⟩ := this
    exact ⟨rs, h⟩
  obtain ⟨h1, h2, h3, a, cap, hs⟩ := rdN_of_rdC (by simp [flatSh]) (by decide) r0
  simp only [Value.slice.injEq] at hs
  obtain ⟨rfl, hn, rfl⟩ := hs
  have hsh : ∀ r ∈ rs, ∃ k c m, r = [.int k, .int c, .int m] := fun r hr => by
    obtain ⟨vs, hvs⟩ := h3 r hr
    obtain ⟨_, _, _, _, _, rfl, r0, q0⟩ := hvs.consInv
    obtain ⟨_, _, _, _, _, rfl, r1, q1⟩ := q0.consInv
    obtain ⟨_, _, _, _, _, rfl, r2, q2⟩ := q1.consInv
    obtain ⟨_, rfl⟩ := q2.nilInv
    obtain ⟨k, _, rfl⟩ := r0.intInv
    obtain ⟨c, _, rfl⟩ := r1.intInv
    obtain ⟨m, _, rfl⟩ := r2.intInv
    exact ⟨k, c, m, rfl⟩
  rw [stC_flat rs hsh] at h1
  exact ⟨a0, n0, c0, rs.map stC, rfl, by simp [hn], by omega, by rw [List.length_map]; exact h1⟩
end
end Go.Proofs.YtjfckchoklepbaaGreat

namespace Go.Proofs.YtjfckchoklepbaaGreat
open Go.RowKit Go.ChangeShapes Go.WideShapes Go.Deep

theorem rep_boolE : Rep Tryz.prog 4 [.bool] := Rep.bool Tryz.underlying4
theorem rep_macros : Rep Tryz.prog 88 [.row [.row stS3]] := Rep.row Tryz.underlying88 rep_steps (by kernel_rfl) (by decide)
theorem rep_engine : Rep Tryz.prog 91 [.int .i64, .row [.row acS4], .row [.row stS3], .int .i64, .row hdS5, .int .i64, .bool] :=
  Rep.of_fields (sss := [[.int .i64, .row [.row acS4]], [.row [.row stS3]], [.int .i64], [.row hdS5], [.int .i64], [.bool]]) Tryz.underlying91 (by kernel_rfl)
    (.cons rfl (by kernel_rfl) rfl rep_keymap (.cons rfl (by kernel_rfl) rfl rep_macros (.cons rfl (by kernel_rfl) rfl rep_intA (.cons rfl (by kernel_rfl) rfl rep_helds (.cons rfl (by kernel_rfl) rfl rep_intA (.cons rfl (by kernel_rfl) rfl rep_boolE .nil))))))
theorem sts_of {w : World} {v : Value} {c : Ce} (h : RdC w (.row stS3) v c) : ∃ l : List St, l.length ≤ maxLen ∧ RdN w v l.length (l.flatMap St.cells) := by
  obtain ⟨rs, rfl⟩ : ∃ rs, c = .row rs := by
    have := h
    simp only [RdC] at this
    obtain ⟨rs, _, _, h, _⟩ := this
    exact ⟨rs, h⟩
  obtain ⟨h1, h2, h3, a, cap, hs⟩ := rdN_of_rdC (by simp [flatSh]) (by decide) h
  have hsh : ∀ r ∈ rs, ∃ k c m, r = [.int k, .int c, .int m] := fun r hr => by
    obtain ⟨vs, hvs⟩ := h3 r hr
    obtain ⟨_, _, _, _, _, rfl, r0, q0⟩ := hvs.consInv
    obtain ⟨_, _, _, _, _, rfl, r1, q1⟩ := q0.consInv
    obtain ⟨_, _, _, _, _, rfl, r2, q2⟩ := q1.consInv
    obtain ⟨_, rfl⟩ := q2.nilInv
    obtain ⟨k, _, rfl⟩ := r0.intInv
    obtain ⟨c, _, rfl⟩ := r1.intInv
    obtain ⟨m, _, rfl⟩ := r2.intInv
    exact ⟨k, c, m, rfl⟩
  rw [stC_flat rs hsh] at h1
  exact ⟨rs.map stC, by rw [List.length_map]; exact h2, by rw [List.length_map]; exact h1⟩
theorem hds_of {w : World} {v : Value} {c : Ce} (h : RdC w (.row hdS5) v c) : ∃ l : List Hd, l.length ≤ maxLen ∧ RdN w v l.length (flatHd l) := by
  obtain ⟨rs, rfl⟩ : ∃ rs, c = .row rs := by
    have := h
    simp only [RdC] at this
    obtain ⟨rs, _, _, h, _⟩ := this
    exact ⟨rs, h⟩
  obtain ⟨h1, h2, h3, a, cap, hs⟩ := rdN_of_rdC (by simp [flatSh]) (by decide) h
  have hsh : ∀ r ∈ rs, ∃ h k c m n, r = [.int h, .int k, .int c, .int m, .int n] := fun r hr => by
    obtain ⟨vs, hvs⟩ := h3 r hr
    obtain ⟨_, _, _, _, _, rfl, r0, q0⟩ := hvs.consInv
    obtain ⟨_, _, _, _, _, rfl, r1, q1⟩ := q0.consInv
    obtain ⟨_, _, _, _, _, rfl, r2, q2⟩ := q1.consInv
    obtain ⟨_, _, _, _, _, rfl, r3, q3⟩ := q2.consInv
    obtain ⟨_, _, _, _, _, rfl, r4, q4⟩ := q3.consInv
    obtain ⟨_, rfl⟩ := q4.nilInv
    obtain ⟨h, _, rfl⟩ := r0.intInv
    obtain ⟨k, _, rfl⟩ := r1.intInv
    obtain ⟨c, _, rfl⟩ := r2.intInv
    obtain ⟨m, _, rfl⟩ := r3.intInv
    obtain ⟨n, _, rfl⟩ := r4.intInv
    exact ⟨h, k, c, m, n, rfl⟩
  rw [hdC_flat rs hsh] at h1
  exact ⟨rs.map hdC, by rw [List.length_map]; exact h2, by rw [List.length_map]; exact h1⟩
theorem macros_of {w : World} {v : Value} {c : Ce} (h : RdC w (.row [.row stS3]) v c) : ∃ L : List (List St), L.length ≤ maxLen ∧ (∀ l ∈ L, l.length ≤ maxLen) ∧ LdT w v L := by
  obtain ⟨rs, a, cap, rfl, rfl, hl, h⟩ := h.rowInv
  rcases h with rfl | ⟨b, off, rfl, hlt, h⟩
  · exact ⟨[], by simp, by simp, [], rfl, ⟨a, cap, rfl, .inl rfl⟩, fun j hj => absurd hj (Nat.not_lt_zero _)⟩
  · have hx : ∀ i : Fin rs.length, ∃ p : Value × List St, w.cell? ⟨b, off + i.val, none⟩ = some p.1 ∧ p.2.length ≤ maxLen ∧ RdN w p.1 p.2.length (p.2.flatMap St.cells) := by
      intro i
      obtain ⟨vs, h1, h2, h3⟩ := h i.val i.isLt
      obtain ⟨u, _, c, _, rfl, _, r0, q0⟩ := h3.consInv
      obtain ⟨rfl, _⟩ := q0.nilInv
      obtain ⟨l, hl1, hl2⟩ := sts_of r0
      refine ⟨(u, l), ?_, hl1, hl2⟩
      have := h2 0 (by simp)
      simpa using this
    obtain ⟨f, hf⟩ := Classical.axiomOfChoice hx
    have hu : ∀ j, j < rs.length → uD (List.ofFn fun i => (f i).1) j = (if h : j < rs.length then (f ⟨j, h⟩).1 else .bool false) := by
      intro j hj
      rw [dif_pos hj, uD, List.getD_eq_getElem?_getD, List.getElem?_ofFn, dif_pos hj]
      rfl
    have hlD : ∀ j, j < rs.length → lD (List.ofFn fun i => (f i).2) j = (if h : j < rs.length then (f ⟨j, h⟩).2 else []) := by
      intro j hj
      rw [dif_pos hj, lD, List.getD_eq_getElem?_getD, List.getElem?_ofFn, dif_pos hj]
      rfl
    refine ⟨List.ofFn fun i => (f i).2, by simpa using hl, ?_, List.ofFn fun i => (f i).1, by simp, ?_, ?_⟩
    · intro l hm
      obtain ⟨i, rfl⟩ := List.mem_ofFn.1 hm
      exact (hf i).2.1
    · refine ⟨_, cap, by simp, .inr ⟨b, off, rfl, hlt, fun j hj => ?_⟩⟩
      have hj' : j < rs.length := by simpa using hj
      rw [(hf ⟨j, hj'⟩).1]
      simp
    · intro j hj
      have hj' : j < rs.length := by simpa using hj
      rw [hu j hj', hlD j hj', dif_pos hj', dif_pos hj']
      exact (hf ⟨j, hj'⟩).2.2
section
variable {H : Type} {enc : TypeId × Value → H} {w : World} {base : Nat} {spare : Nat → Bool} {held : Bool}
set_option maxRecDepth 100000 in
theorem open_Engine {r : Reach} {b0 : Nat} {v : Value} {d : DataW H} {p : List MemPlace} (hv : Value.okWide Tryz.prog w r b0 91 v) (h : DataW.Trod enc Tryz.prog w base spare held 91 v d p) :
    ∃ (e : En) (u1 u2 u3 : Value), v = env e.k u1 u2 e.x u3 e.o e.p ∧ (e.L.length ≤ maxLen ∧ ∀ l ∈ e.L, l.length ≤ maxLen) ∧ (e.F.length ≤ maxLen ∧ ∀ l ∈ e.F, l.length ≤ maxLen) ∧ e.H.length ≤ maxLen ∧ RdE w e u1 u2 u3 := by
  obtain ⟨cs, rfl, hsz⟩ := okWide_struct Tryz.underlying91 hv
  obtain ⟨fuel, hf⟩ := h
  obtain ⟨c, hrd, _⟩ := trod_rd rep_engine hf
  obtain ⟨v0, l0, c0, m0, e0, _, r0, q0⟩ := hrd.consInv
  obtain ⟨v1, l1, c1, m1, e1, _, r1, q1⟩ := q0.consInv
  obtain ⟨v2, l2, c2, m2, e2, _, r2, q2⟩ := q1.consInv
  obtain ⟨v3, l3, c3, m3, e3, _, r3, q3⟩ := q2.consInv
  obtain ⟨v4, l4, c4, m4, e4, _, r4, q4⟩ := q3.consInv
  obtain ⟨v5, l5, c5, m5, e5, _, r5, q5⟩ := q4.consInv
  obtain ⟨v6, l6, c6, m6, e6, _, r6, q6⟩ := q5.consInv
  obtain ⟨rfl, _⟩ := q6.nilInv
  obtain ⟨k, rfl, _⟩ := r0.intInv
  obtain ⟨L, h1, h2, h3⟩ := layers_of r1
  obtain ⟨F, g1, g2, g3⟩ := macros_of r2
  obtain ⟨x, rfl, _⟩ := r3.intInv
  obtain ⟨Hs, k1, k2⟩ := hds_of r4
  obtain ⟨o, rfl, _⟩ := r5.intInv
  obtain ⟨pb, rfl, _⟩ := r6.boolInv
  subst e6 e5 e4 e3 e2 e1
  have : cs = #[.int .i64 k, v1, v2, .int .i64 x, v4, .int .i64 o, .bool pb] := by
    apply Array.ext'
    simpa [Value.cells] using e0
  exact ⟨⟨k, L, F, x, Hs, o, pb⟩, v1, v2, v4, by rw [this], ⟨h1, h2⟩, ⟨g1, g2⟩, k1, ⟨h3, g3, k2⟩⟩
set_option maxRecDepth 100000 in
theorem open_Macros {r : Reach} {b0 : Nat} {v : Value} {d : DataW H} {p : List MemPlace} (hv : Value.okWide Tryz.prog w r b0 88 v) (h : DataW.Trod enc Tryz.prog w base spare held 88 v d p) :
    ∃ (F : List (List St)), (F.length ≤ maxLen ∧ ∀ l ∈ F, l.length ≤ maxLen) ∧ LdT w v F := by
  obtain ⟨a0, n0, c0, rfl⟩ := okWide_slice Tryz.underlying88 hv
  obtain ⟨fuel, hf⟩ := h
  obtain ⟨c, hrd, _⟩ := trod_rd rep_macros hf
  obtain ⟨v0, l0, c1, m0, e0, _, r0, q0⟩ := hrd.consInv
  obtain ⟨rfl, _⟩ := q0.nilInv
  have e1 : v0 = .slice a0 n0 c0 := by
    have : [Value.slice a0 n0 c0] = [v0] := by simpa [Value.cells] using e0
    simpa using this.symm
  subst e1
  obtain ⟨F, h1, h2, h3⟩ := macros_of r0
  exact ⟨F, ⟨h1, h2⟩, h3⟩
end

end Go.Proofs.YtjfckchoklepbaaGreat
