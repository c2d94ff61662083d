/- DERIVED. Slices whose elements are slices of flat elements (c cells each, f tells them): read, owned with a footprint, built up, turned. No condition. · Keymaps as data; the laws' own functions on them and on their layers: the size, a copy, two that are alike, marks. · Chapter 6's words as plain functions: valid keymaps, the layer and the action of a key, an action that is set. No condition. -/
import Derived.Test.YteljmfdlegohbaaCore
import Derived.Test.YteljmfdlegohbaaAcs
namespace Go.Proofs.Yteljmfdlegohbaa
open Go.RowKit

def uD (us : List Value) (j : Nat) : Value := us.getD j (.bool false)
def lD {α : Type} (L : List (List α)) (j : Nat) : List α := L.getD j []
def fD (fps : List (List Nat)) (j : Nat) : List Nat := fps.getD j []
/-- v reads as the rows L. -/
def RdS {α : Type} (f : α → List Value) (w : World) (v : Value) (L : List (List α)) : Prop :=
  ∃ us : List Value, us.length = L.length ∧ Rd w v us ∧ ∀ j, j < L.length → RdN w (uD us j) (lD L j).length ((lD L j).flatMap f)
/-- The rows that are made so far: v has n places, the first ones hold the rows L, which own the blocks fps. -/
structure OwB {α : Type} (f : α → List Value) (w : World) (B : Nat) (T1 T2 : TypeId) (c : Nat) (v : Value) (n : Nat) (us : List Value) (L : List (List α)) (fps : List (List Nat)) : Prop where
  own : w.ownsRow B T1 1 v n us
  le : L.length ≤ n
  len : fps.length = L.length
  row : ∀ j, j < L.length → OwF w B T2 c (uD us j) (lD L j).length ((lD L j).flatMap f) (fD fps j)
  nd : (ownFp v ++ fps.flatten).Nodup
/-- v owns the rows L in the blocks fp. -/
def OwS {α : Type} (f : α → List Value) (w : World) (B : Nat) (T1 T2 : TypeId) (c : Nat) (v : Value) (L : List (List α)) (fp : List Nat) : Prop :=
  ∃ us fps, OwB f w B T1 T2 c v L.length us L fps ∧ fp = ownFp v ++ fps.flatten

section
variable {α : Type} {f : α → List Value} {w w' : World} {B : Nat} {T1 T2 : TypeId} {c n : Nat} {v : Value} {us : List Value} {L : List (List α)} {fps : List (List Nat)} {fp : List Nat}

theorem mem_fD {fps : List (List Nat)} {j : Nat} {b : Nat} (h : b ∈ fD fps j) : b ∈ fps.flatten := by
  unfold fD at h
  rw [List.getD_eq_getElem?_getD] at h
  rcases hc : fps[j]? with _ | p
  · rw [hc] at h; simp at h
  · rw [hc] at h
    exact List.mem_flatten.mpr ⟨p, List.mem_of_getElem? hc, h⟩
theorem of_mem_flatten {fps : List (List Nat)} {b : Nat} (h : b ∈ fps.flatten) : ∃ j, j < fps.length ∧ b ∈ fD fps j := by
  obtain ⟨p, hp, hb⟩ := List.mem_flatten.mp h
  obtain ⟨j, hj, rfl⟩ := List.getElem_of_mem hp
  exact ⟨j, hj, by unfold fD; rw [List.getD_eq_getElem?_getD, List.getElem?_eq_getElem hj]; exact hb⟩
theorem ownFp_rng {e : TypeId} {k m : Nat} {xs : List Value} (h : w.ownsRow B e k v m xs) : ∀ b ∈ ownFp v, B ≤ b ∧ b < w.heap.size := (OwF.mk' h).rng
theorem OwB.rng (h : OwB f w B T1 T2 c v n us L fps) : ∀ b ∈ ownFp v ++ fps.flatten, B ≤ b ∧ b < w.heap.size := by
  intro b hb
  rcases List.mem_append.1 hb with h1 | h1
  · exact ownFp_rng h.own b h1
  · obtain ⟨j, hj, hm⟩ := of_mem_flatten h1
    exact (h.row j (by rw [← h.len]; exact hj)).rng b hm
theorem OwB.below (h : OwB f w B T1 T2 c v n us L fps) (hb : Below w.heap.size w w') : OwB f w' B T1 T2 c v n us L fps :=
  ⟨owns_below h.own hb, h.le, h.len, fun j hj => (h.row j hj).below hb, h.nd⟩
theorem OwB.start {T : TypeId} (h : w.ownsRow B T1 1 v n us) : OwB f w B T1 T c v n us [] [] :=
  ⟨h, Nat.zero_le _, rfl, fun j hj => absurd hj (Nat.not_lt_zero _), by
    simp only [List.flatten_nil, List.append_nil]
    unfold ownFp
    split <;> simp⟩
theorem OwB.done (h : OwB f w B T1 T2 c v n us L fps) (hn : n = L.length) : OwS f w B T1 T2 c v L (ownFp v ++ fps.flatten) := by
  subst hn; exact ⟨us, fps, h, rfl⟩
theorem OwS.rng (h : OwS f w B T1 T2 c v L fp) : ∀ b ∈ fp, B ≤ b ∧ b < w.heap.size := by
  obtain ⟨us, fps, h, rfl⟩ := h; exact h.rng
theorem OwS.below (h : OwS f w B T1 T2 c v L fp) (hb : Below w.heap.size w w') : OwS f w' B T1 T2 c v L fp := by
  obtain ⟨us, fps, h, rfl⟩ := h; exact ⟨us, fps, h.below hb, rfl⟩
theorem OwB.turn {f' : List Nat} (h : OwB f w B T1 T2 c v n us L fps) (ht : Turn w w' f') (hd : ∀ b ∈ ownFp v ++ fps.flatten, b ∉ f') : OwB f w' B T1 T2 c v n us L fps :=
  ⟨((OwF.mk' h.own).turn ht (fun b hb => hd b (List.mem_append_left _ hb))).1, h.le, h.len, fun j hj => (h.row j hj).turn ht (fun b hb => hd b (List.mem_append_right _ (mem_fD hb))), h.nd⟩
theorem OwS.turn {f' : List Nat} (h : OwS f w B T1 T2 c v L fp) (ht : Turn w w' f') (hd : ∀ b ∈ fp, b ∉ f') : OwS f w' B T1 T2 c v L fp := by
  obtain ⟨us, fps, h, rfl⟩ := h; exact ⟨us, fps, h.turn ht hd, rfl⟩
theorem OwS.put {b : Nat} (vs : List Value) (i : Nat) (h : OwS f w B T1 T2 c v L fp) (hb : b < B) : OwS f (putW w b i vs) B T1 T2 c v L fp :=
  h.turn (Turn.of_grown (putW_grown vs i w)) (fun x hx hm => by rw [List.mem_singleton] at hm; have := (h.rng x hx).1; omega)
theorem OwS.base {B' : Nat} (h : OwS f w B' T1 T2 c v L fp) (hB : B ≤ B') : OwS f w B T1 T2 c v L fp := by
  obtain ⟨us, fps, h, rfl⟩ := h
  exact ⟨us, fps, ⟨owns_base h.own hB, h.le, h.len, fun j hj => ⟨owns_base (h.row j hj).1 hB, (h.row j hj).2⟩, h.nd⟩, rfl⟩
theorem OwS.nodup (h : OwS f w B T1 T2 c v L fp) : fp.Nodup := by
  obtain ⟨us, fps, h, rfl⟩ := h; exact h.nd
theorem uD_set (us : List Value) (j i : Nat) (u : Value) (hj : j < us.length) : uD (us.set j u) i = if i = j then u else uD us i := by
  unfold uD
  rw [List.getD_eq_getElem?_getD, List.getD_eq_getElem?_getD, List.getElem?_set]
  by_cases h : j = i
  · subst h; simp [hj]
  · rw [if_neg h, if_neg (fun e => h e.symm)]
theorem lD_snoc (L : List (List α)) (l : List α) (i : Nat) : lD (L ++ [l]) i = if i < L.length then lD L i else if i = L.length then l else [] := by
  unfold lD
  rw [List.getD_eq_getElem?_getD, List.getD_eq_getElem?_getD]
  by_cases h : i < L.length
  · rw [if_pos h, List.getElem?_append_left h]
  · rw [if_neg h, List.getElem?_append_right (by omega)]
    by_cases h2 : i = L.length
    · subst h2; simp
    · rw [if_neg h2, List.getElem?_eq_none (by simp; omega)]; rfl
theorem fD_snoc (L : List (List Nat)) (l : List Nat) (i : Nat) : fD (L ++ [l]) i = if i < L.length then fD L i else if i = L.length then l else [] := lD_snoc L l i
theorem nodup_flat_snoc {A : List Nat} {F : List (List Nat)} {p : List Nat} (h : (A ++ F.flatten).Nodup) (hp : p.Nodup) (hd : ∀ b ∈ p, b ∉ A ++ F.flatten) : (A ++ (F ++ [p]).flatten).Nodup := by
  rw [List.flatten_append, ← List.append_assoc]
  simp only [List.flatten_cons, List.flatten_nil, List.append_nil]
  exact List.nodup_append.2 ⟨h, hp, fun a ha b hb e => by subst e; exact hd a hb ha⟩
theorem OwF.nodup {k m : Nat} {e : TypeId} {xs : List Value} (h : OwF w B e k v m xs fp) : fp.Nodup := by
  rw [h.2]; unfold ownFp; split <;> simp
theorem owF_base {B' : Nat} {k m : Nat} {e : TypeId} {xs : List Value} (h : OwF w B' e k v m xs fp) (hB : B ≤ B') : OwF w B e k v m xs fp := ⟨owns_base h.1 hB, h.2⟩
/-- A place of what is made is written: the next row is there. -/
theorem OwB.set {g cap S : Nat} {u : Value} {l : List α} (h : OwB f w B T1 T2 c (.slice (some ⟨g, 0, none⟩) n cap) n us L fps) (hlt : L.length < n) (ho : OwF w B T2 c u l.length (l.flatMap f) fp)
    (hS : ∀ b ∈ fp, S ≤ b) (hS' : ∀ b ∈ ownFp (.slice (some ⟨g, 0, none⟩) n cap) ++ fps.flatten, b < S) :
    OwB f (w.setCell ⟨g, L.length, none⟩ u) B T1 T2 c (.slice (some ⟨g, 0, none⟩) n cap) n (us.set L.length u) (L ++ [l]) (fps ++ [fp]) := by
  have hlen : us.length = n := by have := h.own.1; omega
  have hg : g ∈ ownFp (.slice (some ⟨g, 0, none⟩) n cap) := by simp [ownFp, Value.ownBlock]
  have hgS : g < S := hS' g (List.mem_append_left _ hg)
  have hgn : g ∉ fps.flatten := by
    have := (List.nodup_append.1 h.nd).2.2 g hg
    exact fun hm => this g hm rfl
  have hgr := grown_set w g L.length u
  have keep : ∀ {x : Value} {m : Nat} {xs : List Value} {p : List Nat}, OwF w B T2 c x m xs p → g ∉ p → OwF (w.setCell ⟨g, L.length, none⟩ u) B T2 c x m xs p := by
    intro x m xs p hx hn
    refine hx.turn (Turn.of_grown hgr) ?_
    intro b hb hb'
    rw [List.mem_singleton] at hb'
    subst hb'; exact hn hb
  refine ⟨?_, by simp; omega, by simp [h.len], ?_, ?_⟩
  · have := owns_put h.own L.length [u] (by simp; omega)
    have e : us.take L.length ++ [u] ++ us.drop (L.length + [u].length) = us.set L.length u := by
      rw [List.set_eq_take_append_cons_drop, if_pos (by omega)]; simp
    rw [e] at this
    exact this
  · intro j hj
    rw [lD_snoc, fD_snoc, uD_set _ _ _ _ (by omega), h.len]
    by_cases hjl : j < L.length
    · rw [if_pos hjl, if_pos hjl, if_neg (by omega)]
      exact keep (h.row j hjl) (fun hm => hgn (mem_fD hm))
    · have : j = L.length := by simp at hj; omega
      subst this
      rw [if_neg hjl, if_neg hjl, if_pos rfl, if_pos rfl, if_pos rfl]
      exact keep ho (fun hm => by have := hS g hm; omega)
  · refine nodup_flat_snoc h.nd ho.nodup ?_
    intro b hb hb'
    have := hS b hb
    have := hS' b hb'
    omega
theorem uD_snoc (us : List Value) (u : Value) (j : Nat) : uD (us ++ [u]) j = if j < us.length then uD us j else if j = us.length then u else .bool false := by
  unfold uD
  rw [List.getD_eq_getElem?_getD, List.getD_eq_getElem?_getD]
  by_cases h : j < us.length
  · rw [if_pos h, List.getElem?_append_left h]
  · rw [if_neg h, List.getElem?_append_right (by omega)]
    by_cases h2 : j = us.length
    · subst h2; simp
    · rw [if_neg h2, List.getElem?_eq_none (by simp; omega)]; rfl
/-- A row is appended. -/
theorem OwB.push {g cap' : Nat} {u : Value} {l : List α} (h : OwB f w B T1 T2 c v n us L fps) (hn : n = L.length) (ho : OwF w B T2 c u l.length (l.flatMap f) fp) (hd : ∀ b ∈ fp, b ∉ ownFp v ++ fps.flatten)
    (h' : w'.ownsRow B T1 1 (.slice (some ⟨g, 0, none⟩) (n + 1) cap') (n + 1) (us ++ [u])) (hg : w.grownBy w' v.ownBlock) (hat : v.ownBlock = some g ∨ g = w.heap.size) :
    OwB f w' B T1 T2 c (.slice (some ⟨g, 0, none⟩) (n + 1) cap') (n + 1) (us ++ [u]) (L ++ [l]) (fps ++ [fp]) := by
  have hlen : us.length = n := by have := h.own.1; omega
  have ht : Turn w w' (ownFp v) := by
    unfold ownFp
    rcases hv : v.ownBlock with _ | q
    · rw [hv] at hg
      exact ⟨hg.os, hg.tape, hg.output, hg.size, fun k hk _ => hg.block k hk (by simp)⟩
    · rw [hv] at hg
      exact Turn.of_grown hg
  have hnd := List.nodup_append.1 h.nd
  have hrng := h.rng
  have keep : ∀ {x : Value} {m : Nat} {xs : List Value} {p : List Nat}, OwF w B T2 c x m xs p → (∀ b ∈ p, b ∉ ownFp v) → OwF w' B T2 c x m xs p := fun hx hn => hx.turn ht hn
  refine ⟨h', by simp; omega, by simp [h.len], ?_, ?_⟩
  · intro j hj
    rw [lD_snoc, fD_snoc, uD_snoc, h.len, hlen, hn]
    by_cases hjl : j < L.length
    · rw [if_pos hjl, if_pos hjl, if_pos hjl]
      exact keep (h.row j hjl) (fun b hb hb' => hnd.2.2 b hb' b (mem_fD hb) rfl)
    · have : j = L.length := by simp at hj; omega
      subst this
      rw [if_neg hjl, if_neg hjl, if_neg hjl, if_pos rfl, if_pos rfl, if_pos rfl]
      exact keep ho (fun b hb hb' => hd b hb (List.mem_append_left _ hb'))
  · have hnew : ownFp (.slice (some ⟨g, 0, none⟩) (n + 1) cap') = [g] := by simp [ownFp, Value.ownBlock]
    rw [hnew]
    have hall : (fps ++ [fp]).flatten.Nodup := by
      have := nodup_flat_snoc (A := []) (F := fps) (p := fp) (by simpa using hnd.2.1) ho.nodup (fun b hb hb' => hd b hb (List.mem_append_right _ (by simpa using hb')))
      simpa using this
    rw [List.nodup_append]
    refine ⟨by simp, hall, ?_⟩
    intro a ha b hb e
    rw [List.mem_singleton] at ha
    subst ha; subst e
    rw [List.flatten_append, List.mem_append] at hb
    rcases hat with h1 | h1
    · have hgm : a ∈ ownFp v := by simp [ownFp, h1]
      rcases hb with hb | hb
      · exact hnd.2.2 a hgm a hb rfl
      · exact hd a (by simpa using hb) (List.mem_append_left _ hgm)
    · rcases hb with hb | hb
      · have := (hrng a (List.mem_append_right _ hb)).2; omega
      · have := (ho.rng a (by simpa using hb)).2; omega
theorem Rd.of_owns1 {e : TypeId} {xs : List Value} (h : w.ownsRow B e 1 v n xs) : Rd w v xs := Rd.of_owns h
theorem OwS.rd (h : OwS f w B T1 T2 c v L fp) : RdS f w v L := by
  obtain ⟨us, fps, h, rfl⟩ := h
  exact ⟨us, by have := h.own.1; omega, Rd.of_owns h.own, fun j hj => (h.row j hj).rd⟩
theorem RdS.below (h : RdS f w v L) (hb : Below w.heap.size w w') : RdS f w' v L := by
  obtain ⟨us, h1, h2, h3⟩ := h
  exact ⟨us, h1, h2.below hb, fun j hj => (h3 j hj).below hb⟩
/-- What a walk knows of rows. -/
theorem RdS.cases (h : RdS f w v L) : (L = [] ∧ ∃ a cap, v = .slice a 0 cap) ∨ ∃ b off cap us, 0 < L.length ∧ v = .slice (some ⟨b, off, none⟩) L.length cap ∧ b < w.heap.size ∧
    ∀ j, j < L.length → w.cell? ⟨b, off + j, none⟩ = some (uD us j) ∧ RdN w (uD us j) (lD L j).length ((lD L j).flatMap f) := by
  obtain ⟨us, h1, h2, h3⟩ := h
  rcases h2.cases with ⟨hx, a, cap, rfl⟩ | ⟨hx, b, off, cap, rfl, hlt, hc⟩
  · subst hx
    exact .inl ⟨List.eq_nil_of_length_eq_zero (by simpa using h1.symm), a, cap, rfl⟩
  · refine .inr ⟨b, off, cap, us, by rw [← h1]; exact List.length_pos_iff.mpr (by simpa using hx), by rw [← h1], hlt, fun j hj => ⟨?_, h3 j hj⟩⟩
    have hj' : j < us.length := by omega
    rw [hc j hj', uD, List.getD_eq_getElem?_getD, List.getElem?_eq_getElem hj']
    rfl
theorem RdN.shape {xs : List Value} (h : RdN w v n xs) : ∃ a cap, v = .slice a n cap := by
  obtain ⟨a, cap, rfl, _⟩ := h
  exact ⟨a, cap, rfl⟩
/-- A row is written anew, in its own blocks. -/
theorem OwS.turned {j : Nat} {l : List α} {w' : World} (h : OwB f w B T1 T2 c v n us L fps) (hj : j < L.length) (ho : OwF w' B T2 c (uD us j) l.length (l.flatMap f) (fD fps j)) (ht : Turn w w' (fD fps j)) :
    OwB f w' B T1 T2 c v n us (L.set j l) fps := by
  have hlD : ∀ i, lD (L.set j l) i = if i = j then l else lD L i := by
    intro i
    unfold lD
    rw [List.getD_eq_getElem?_getD, List.getD_eq_getElem?_getD, List.getElem?_set]
    by_cases h : j = i
    · subst h; simp [hj]
    · rw [if_neg h, if_neg (fun e => h e.symm)]
  have hd := List.nodup_append.1 h.nd
  refine ⟨?_, by simpa using h.le, by simpa using h.len, ?_, h.nd⟩
  · have := (OwF.mk' h.own).turn ht (fun b hb hb' => hd.2.2 b hb b (mem_fD hb') rfl)
    exact this.1
  · intro i hi
    have hi' : i < L.length := by simpa using hi
    rw [hlD]
    by_cases e : i = j
    · subst e; rw [if_pos rfl]; exact ho
    · rw [if_neg e]
      refine (h.row i hi').turn ht ?_
      intro b hb hb'
      have hp := List.pairwise_flatten.1 hd.2.1
      have hil : i < fps.length := by rw [h.len]; exact hi'
      have hjl : j < fps.length := by rw [h.len]; exact hj
      have hfi : fD fps i = fps[i] := by unfold fD; rw [List.getD_eq_getElem?_getD, List.getElem?_eq_getElem hil]; rfl
      have hfj : fD fps j = fps[j] := by unfold fD; rw [List.getD_eq_getElem?_getD, List.getElem?_eq_getElem hjl]; rfl
      rw [hfi] at hb
      rw [hfj] at hb'
      rcases Nat.lt_or_gt_of_ne e with hlt | hgt
      · exact (List.pairwise_iff_getElem.1 hp.2 i j hil hjl hlt) b hb b hb' rfl
      · exact (List.pairwise_iff_getElem.1 hp.2 j i hjl hil hgt) b hb' b hb rfl
end
end Go.Proofs.Yteljmfdlegohbaa

namespace Go.Proofs.Yteljmfdlegohbaa
open Go.RowKit

abbrev LdS (w : World) (v : Value) (L : List (List Ac)) : Prop := RdS Ac.cells w v L
abbrev LoS (w : World) (B : Nat) (v : Value) (L : List (List Ac)) (fp : List Nat) : Prop := OwS Ac.cells w B 142 203 4 v L fp
abbrev LoB (w : World) (B : Nat) (v : Value) (n : Nat) (us : List Value) (L : List (List Ac)) (fps : List (List Nat)) : Prop := OwB Ac.cells w B 142 203 4 v n us L fps
def lenS (L : List (List Ac)) : Nat → Nat
  | 0 => 0
  | j + 1 => lenS L j + (lD L j).length
theorem info_acs : (Try.prog.info? 142).map (fun i => (i.zero, i.size, i.bytes)) = some (some (.slice none 0 0), 1, 24) := by kernel_rfl
theorem lD_take {α : Type} (L : List (List α)) (j : Nat) (h : j < L.length) : L.take (j + 1) = L.take j ++ [lD L j] := by
  rw [List.take_succ_eq_append_getElem h, lD]; simp [List.getElem?_eq_getElem h]
theorem lD_le {L : List (List Ac)} {m : Nat} (h : ∀ l ∈ L, l.length ≤ m) (j : Nat) : (lD L j).length ≤ m := by
  unfold lD
  rw [List.getD_eq_getElem?_getD]
  rcases hc : L[j]? with _ | p
  · exact Nat.zero_le _
  · exact h p (List.mem_of_getElem? hc)

/-- Layers whose first j rows hold marks, counted from q on. -/
def mkP (q : Int) (L : List (List Ac)) (j : Nat) : List (List Ac) := (List.range L.length).map fun i => if i < j then marksAc (q + ((lenS L i * 4 : Nat) : Int)) (lD L i).length else lD L i
def mkS (q : Int) (L : List (List Ac)) : List (List Ac) := mkP q L L.length
theorem mkP_len (q : Int) (L : List (List Ac)) (j : Nat) : (mkP q L j).length = L.length := by simp [mkP]
theorem mkP_D (q : Int) (L : List (List Ac)) (j i : Nat) (h : i < L.length) : lD (mkP q L j) i = if i < j then marksAc (q + ((lenS L i * 4 : Nat) : Int)) (lD L i).length else lD L i := by
  unfold lD mkP
  rw [List.getD_eq_getElem?_getD, List.getElem?_map, List.getElem?_range h]
  rfl
theorem mkP_zero (q : Int) (L : List (List Ac)) : mkP q L 0 = L := by
  apply List.ext_getElem (mkP_len _ _ _)
  intro i h1 h2
  simp [mkP, lD, List.getD_eq_getElem?_getD, List.getElem?_eq_getElem h2]
theorem mkP_succ (q : Int) (L : List (List Ac)) (j : Nat) : (mkP q L j).set j (marksAc (q + ((lenS L j * 4 : Nat) : Int)) (lD L j).length) = mkP q L (j + 1) := by
  apply List.ext_getElem (by simp [mkP])
  intro i h1 h2
  rw [List.getElem_set]
  simp only [mkP, List.getElem_map, List.getElem_range]
  by_cases e : j = i
  · subst e; rw [if_pos rfl, if_pos (by omega)]
  · rw [if_neg e]
    by_cases hi : i < j
    · rw [if_pos hi, if_pos (by omega)]
    · rw [if_neg hi, if_neg (by omega)]
theorem lenS_mono (L : List (List Ac)) {i j : Nat} (h : i ≤ j) : lenS L i ≤ lenS L j := by
  induction j with
  | zero => obtain rfl : i = 0 := by omega
            exact Nat.le_refl _
  | succ j ih =>
    rcases Nat.lt_or_ge j i with h1 | h1
    · obtain rfl : i = j + 1 := by omega
      exact Nat.le_refl _
    · exact Nat.le_trans (ih h1) (Nat.le_add_right _ _)

abbrev kmv (k : Int) (v : Value) : Value := .agg #[.int .i64 k, v]
theorem RdS.shape {w : World} {v : Value} {L : List (List Ac)} (h : LdS w v L) : ∃ a cap, v = .slice a L.length cap := by
  rcases RdS.cases h with ⟨rfl, a, cap, rfl⟩ | ⟨b, off, cap, us, hpos, rfl, _⟩
  · exact ⟨a, cap, rfl⟩
  · exact ⟨_, cap, rfl⟩

/-- An action may stand in layer i of n layers. -/
def okA (n i : Nat) (a : Ac) : Bool := okAc a.k a.c a.m a.n && (!(decide (a.k = 1) && decide (i = 0)) && !(!decide (a.k = 9) && decide ((n : Int) ≤ a.n)))
def rowN (n i : Nat) (l : List Ac) : Nat → Bool
  | 0 => true
  | k + 1 => rowN n i l k && okA n i (acD l k)
def layOk (keys : Int) (L : List (List Ac)) (j : Nat) : Bool := decide (((lD L j).length : Int) = keys) && rowN L.length j (lD L j) (lD L j).length
def layN (keys : Int) (L : List (List Ac)) : Nat → Bool
  | 0 => true
  | j + 1 => layN keys L j && layOk keys L j
def okKm (keys : Int) (L : List (List Ac)) : Bool := layN keys L L.length && (inB keys 1 32 && inB L.length 1 4)
theorem rowN_no {n i : Nat} {l : List Ac} {k : Nat} (h : okA n i (acD l k) = false) : ∀ m, k < m → rowN n i l m = false
  | 0, hm => absurd hm (Nat.not_lt_zero _)
  | m + 1, hm => by
    rcases Nat.lt_or_ge k m with h2 | h2
    · rw [rowN, rowN_no h m h2, Bool.false_and]
    · obtain rfl : k = m := by omega
      rw [rowN, h, Bool.and_false]
theorem layN_no {keys : Int} {L : List (List Ac)} {j : Nat} (h : layOk keys L j = false) : ∀ m, j < m → layN keys L m = false
  | 0, hm => absurd hm (Nat.not_lt_zero _)
  | m + 1, hm => by
    rcases Nat.lt_or_ge j m with h2 | h2
    · rw [layN, layN_no h m h2, Bool.false_and]
    · obtain rfl : j = m := by omega
      rw [layN, h, Bool.and_false]
theorem layN_at {keys : Int} {L : List (List Ac)} : ∀ {m : Nat}, layN keys L m = true → ∀ j, j < m → layOk keys L j = true
  | 0, _, j, hj => absurd hj (Nat.not_lt_zero _)
  | m + 1, h, j, hj => by
    rw [layN, Bool.and_eq_true] at h
    rcases Nat.lt_or_ge j m with h2 | h2
    · exact layN_at h.1 j h2
    · obtain rfl : j = m := by omega
      exact h.2
theorem rowN_at {n i : Nat} {l : List Ac} : ∀ {m : Nat}, rowN n i l m = true → ∀ k, k < m → okA n i (acD l k) = true
  | 0, _, j, hj => absurd hj (Nat.not_lt_zero _)
  | m + 1, h, j, hj => by
    rw [rowN, Bool.and_eq_true] at h
    rcases Nat.lt_or_ge j m with h2 | h2
    · exact rowN_at h.1 j h2
    · obtain rfl : j = m := by omega
      exact h.2
theorem okKm_no {keys : Int} {L : List (List Ac)} {j : Nat} (hj : j < L.length) (h : layOk keys L j = false) : okKm keys L = false := by
  rw [okKm, layN_no h _ hj, Bool.false_and]
theorem okKm_at {keys : Int} {L : List (List Ac)} (h : okKm keys L = true) : (1 ≤ keys ∧ keys ≤ 32) ∧ (1 ≤ L.length ∧ L.length ≤ 4) ∧ ∀ j, j < L.length → ((lD L j).length : Int) = keys ∧ ∀ k, k < (lD L j).length → okA L.length j (acD (lD L j) k) = true := by
  unfold okKm inB at h
  simp only [Bool.and_eq_true, decide_eq_true_eq] at h
  refine ⟨h.2.1, by omega, fun j hj => ?_⟩
  have := layN_at h.1 j hj
  unfold layOk at this
  simp only [Bool.and_eq_true, decide_eq_true_eq] at this
  exact ⟨this.1, fun k hk => rowN_at this.2 k hk⟩
/-- Bit i of a mask is set. -/
def bitOn (on : Int) (i : Nat) : Bool := decide (bits .and .i64 (on / 2 ^ i) 1 = 1)
/-- The greatest layer up to i that is on and does not pass, 0 if there is none. -/
def laD (L : List (List Ac)) (on : Int) (key : Nat) : Nat → Nat
  | 0 => 0
  | i + 1 => if (bitOn on (i + 1) && !decide ((acD (lD L (i + 1)) key).k = 1)) = true then i + 1 else laD L on key i
def laV (keys : Int) (L : List (List Ac)) (on key : Int) : Int := if (okKm keys L && inB key 0 (keys - 1)) = true then (laD L on key.toNat (L.length - 1) : Nat) else -1
theorem laD_pos {L : List (List Ac)} {on : Int} {key k : Nat} (h : 0 < k) : laD L on key k = if (bitOn on k && !decide ((acD (lD L k) key).k = 1)) = true then k else laD L on key (k - 1) := by
  obtain ⟨i, rfl⟩ : ∃ i, k = i + 1 := ⟨k - 1, by omega⟩
  rw [laD, Nat.add_sub_cancel]
theorem laD_le (L : List (List Ac)) (on : Int) (key : Nat) : ∀ k, laD L on key k ≤ k
  | 0 => Nat.le_refl _
  | k + 1 => by rw [laD]; have := laD_le L on key k; split <;> omega
def atV (keys : Int) (L : List (List Ac)) (on key : Int) : Ac := if (okKm keys L && inB key 0 (keys - 1)) = true then acD (lD L (laD L on key.toNat (L.length - 1))) key.toNat else ⟨0, 0, 0, 0⟩

end Go.Proofs.Yteljmfdlegohbaa
