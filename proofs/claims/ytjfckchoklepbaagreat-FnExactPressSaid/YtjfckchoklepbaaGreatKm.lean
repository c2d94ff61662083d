/- DERIVED. Slices whose elements are slices of flat elements (c cells each, f tells them): read, owned with a footprint, built up, turned. No condition. · Keymaps as data; the laws' own functions on them and on their layers: the size, a copy, two that are alike, marks. · Chapter 6's words as plain functions: valid keymaps, the layer and the action of a key, an action that is set. No condition. -/
import Derived.Test.YtjfckchoklepbaaGreatCore
import Derived.Test.YtjfckchoklepbaaGreatAcs
namespace Go.Proofs.YtjfckchoklepbaaGreat
open Go.RowKit

def uD (us : List Value) (j : Nat) : Value := us.getD j (.bool false)
def lD {α : Type} (L : List (List α)) (j : Nat) : List α := L.getD j []
def fD (fps : List (List Nat)) (j : Nat) : List Nat := fps.getD j []
/-- v reads as the rows L. -/
def RdS {α : Type} (f : α → List Value) (w : World) (v : Value) (L : List (List α)) : Prop :=
  ∃ us : List Value, us.length = L.length ∧ Rd w v us ∧ ∀ j, j < L.length → RdN w (uD us j) (lD L j).length ((lD L j).flatMap f)
/-- The rows that are made so far: v has n places, the first ones hold the rows L, which own the blocks fps. -/
structure OwB {α : Type} (f : α → List Value) (w : World) (B : Nat) (T1 T2 : TypeId) (c : Nat) (v : Value) (n : Nat) (us : List Value) (L : List (List α)) (fps : List (List Nat)) : Prop where
  own : w.ownsRow B T1 1 v n us
  le : L.length ≤ n
  len : fps.length = L.length
  row : ∀ j, j < L.length → OwF w B T2 c (uD us j) (lD L j).length ((lD L j).flatMap f) (fD fps j)
  nd : (ownFp v ++ fps.flatten).Nodup
/-- v owns the rows L in the blocks fp. -/
def OwS {α : Type} (f : α → List Value) (w : World) (B : Nat) (T1 T2 : TypeId) (c : Nat) (v : Value) (L : List (List α)) (fp : List Nat) : Prop :=
  ∃ us fps, OwB f w B T1 T2 c v L.length us L fps ∧ fp = ownFp v ++ fps.flatten

section
variable {α : Type} {f : α → List Value} {w w' : World} {B : Nat} {T1 T2 : TypeId} {c n : Nat} {v : Value} {us : List Value} {L : List (List α)} {fps : List (List Nat)} {fp : List Nat}

theorem mem_fD {fps : List (List Nat)} {j : Nat} {b : Nat} (h : b ∈ fD fps j) : b ∈ fps.flatten := by
  unfold fD at h
  rw [List.getD_eq_getElem?_getD] at h
  rcases hc : fps[j]? with _ | p
  · rw [hc] at h; simp at h
  · rw [hc] at h
    exact List.mem_flatten.mpr ⟨p, List.mem_of_getElem? hc, h⟩
theorem of_mem_flatten {fps : List (List Nat)} {b : Nat} (h : b ∈ fps.flatten) : ∃ j, j < fps.length ∧ b ∈ fD fps j := by
  obtain ⟨p, hp, hb⟩ := List.mem_flatten.mp h
  obtain ⟨j, hj, rfl⟩ := List.getElem_of_mem hp
  exact ⟨j, hj, by unfold fD; rw [List.getD_eq_getElem?_getD, List.getElem?_eq_getElem hj]; exact hb⟩
theorem ownFp_rng {e : TypeId} {k m : Nat} {xs : List Value} (h : w.ownsRow B e k v m xs) : ∀ b ∈ ownFp v, B ≤ b ∧ b < w.heap.size := (OwF.mk' h).rng
theorem OwB.rng (h : OwB f w B T1 T2 c v n us L fps) : ∀ b ∈ ownFp v ++ fps.flatten, B ≤ b ∧ b < w.heap.size := by
  intro b hb
  rcases List.mem_append.1 hb with h1 | h1
  · exact ownFp_rng h.own b h1
  · obtain ⟨j, hj, hm⟩ := of_mem_flatten h1
    exact (h.row j (by rw [← h.len]; exact hj)).rng b hm
theorem OwB.below (h : OwB f w B T1 T2 c v n us L fps) (hb : Below w.heap.size w w') : OwB f w' B T1 T2 c v n us L fps :=
  ⟨owns_below h.own hb, h.le, h.len, fun j hj => (h.row j hj).below hb, h.nd⟩
theorem OwB.start {T : TypeId} (h : w.ownsRow B T1 1 v n us) : OwB f w B T1 T c v n us [] [] :=
  ⟨h, Nat.zero_le _, rfl, fun j hj => absurd hj (Nat.not_lt_zero _), by
    simp only [List.flatten_nil, List.append_nil]
    unfold ownFp
    split <;> simp⟩
theorem OwB.done (h : OwB f w B T1 T2 c v n us L fps) (hn : n = L.length) : OwS f w B T1 T2 c v L (ownFp v ++ fps.flatten) := by
  subst hn; exact ⟨us, fps, h, rfl⟩
theorem OwS.rng (h : OwS f w B T1 T2 c v L fp) : ∀ b ∈ fp, B ≤ b ∧ b < w.heap.size := by
  obtain ⟨us, fps, h, rfl⟩ := h; exact h.rng
theorem OwS.below (h : OwS f w B T1 T2 c v L fp) (hb : Below w.heap.size w w') : OwS f w' B T1 T2 c v L fp := by
  obtain ⟨us, fps, h, rfl⟩ := h; exact ⟨us, fps, h.below hb, rfl⟩
theorem OwB.turn {f' : List Nat} (h : OwB f w B T1 T2 c v n us L fps) (ht : Turn w w' f') (hd : ∀ b ∈ ownFp v ++ fps.flatten, b ∉ f') : OwB f w' B T1 T2 c v n us L fps :=
  ⟨((OwF.mk' h.own).turn ht (fun b hb => hd b (List.mem_append_left _ hb))).1, h.le, h.len, fun j hj => (h.row j hj).turn ht (fun b hb => hd b (List.mem_append_right _ (mem_fD hb))), h.nd⟩
theorem OwS.turn {f' : List Nat} (h : OwS f w B T1 T2 c v L fp) (ht : Turn w w' f') (hd : ∀ b ∈ fp, b ∉ f') : OwS f w' B T1 T2 c v L fp := by
  obtain ⟨us, fps, h, rfl⟩ := h; exact ⟨us, fps, h.turn ht hd, rfl⟩
theorem OwS.put {b : Nat} (vs : List Value) (i : Nat) (h : OwS f w B T1 T2 c v L fp) (hb : b < B) : OwS f (putW w b i vs) B T1 T2 c v L fp :=
  h.turn (Turn.of_grown (putW_grown vs i w)) (fun x hx hm => by rw [List.mem_singleton] at hm; have := (h.rng x hx).1; omega)
theorem OwS.base {B' : Nat} (h : OwS f w B' T1 T2 c v L fp) (hB : B ≤ B') : OwS f w B T1 T2 c v L fp := by
  obtain ⟨us, fps, h, rfl⟩ := h
  exact ⟨us, fps, ⟨owns_base h.own hB, h.le, h.len, fun j hj => ⟨owns_base (h.row j hj).1 hB, (h.row j hj).2⟩, h.nd⟩, rfl⟩
theorem OwS.nodup (h : OwS f w B T1 T2 c v L fp) : fp.Nodup := by
  obtain ⟨us, fps, h, rfl⟩ := h; exact h.nd
theorem uD_set (us : List Value) (j i : Nat) (u : Value) (hj : j < us.length) : uD (us.set j u) i = if i = j then u else uD us i := by
  unfold uD
  rw [List.getD_eq_getElem?_getD, List.getD_eq_getElem?_getD, List.getElem?_set]
  by_cases h : j = i
  · subst h; simp [hj]
  · rw [if_neg h, if_neg (fun e => h e.symm)]
theorem lD_snoc (L : List (List α)) (l : List α) (i : Nat) : lD (L ++ [l]) i = if i < L.length then lD L i else if i = L.length then l else [] := by
  unfold lD
  rw [List.getD_eq_getElem?_getD, List.getD_eq_getElem?_getD]
  by_cases h : i < L.length
  · rw [if_pos h, List.getElem?_append_left h]
  · rw [if_neg h, List.getElem?_append_right (by omega)]
    by_cases h2 : i = L.length
    · subst h2; simp
    · rw [if_neg h2, List.getElem?_eq_none (by simp; omega)]; rfl
theorem fD_snoc (L : List (List Nat)) (l : List Nat) (i : Nat) : fD (L ++ [l]) i = if i < L.length then fD L i else if i = L.length then l else [] := lD_snoc L l i
theorem nodup_flat_snoc {A : List Nat} {F : List (List Nat)} {p : List Nat} (h : (A ++ F.flatten).Nodup) (hp : p.Nodup) (hd : ∀ b ∈ p, b ∉ A ++ F.flatten) : (A ++ (F ++ [p]).flatten).Nodup := by
  rw [List.flatten_append, ← List.append_assoc]
  simp only [List.flatten_cons, List.flatten_nil, List.append_nil]
  exact List.nodup_append.2 ⟨h, hp, fun a ha b hb e => by subst e; exact hd a hb ha⟩
theorem OwF.nodup {k m : Nat} {e : TypeId} {xs : List Value} (h : OwF w B e k v m xs fp) : fp.Nodup := by
  rw [h.2]; unfold ownFp; split <;> simp
theorem owF_base {B' : Nat} {k m : Nat} {e : TypeId} {xs : List Value} (h : OwF w B' e k v m xs fp) (hB : B ≤ B') : OwF w B e k v m xs fp := ⟨owns_base h.1 hB, h.2⟩
/-- A place of what is made is written: the next row is there. -/
theorem OwB.set {g cap S : Nat} {u : Value} {l : List α} (h : OwB f w B T1 T2 c (.slice (some ⟨g, 0, none⟩) n cap) n us L fps) (hlt : L.length < n) (ho : OwF w B T2 c u l.length (l.flatMap f) fp)
    (hS : ∀ b ∈ fp, S ≤ b) (hS' : ∀ b ∈ ownFp (.slice (some ⟨g, 0, none⟩) n cap) ++ fps.flatten, b < S) :
    OwB f (w.setCell ⟨g, L.length, none⟩ u) B T1 T2 c (.slice (some ⟨g, 0, none⟩) n cap) n (us.set L.length u) (L ++ [l]) (fps ++ [fp]) := by
  have hlen : us.length = n := by have := h.own.1; omega
  have hg : g ∈ ownFp (.slice (some ⟨g, 0, none⟩) n cap) := by simp [ownFp, Value.ownBlock]
  have hgS : g < S := hS' g (List.mem_append_left _ hg)
  have hgn : g ∉ fps.flatten := by
    have := (List.nodup_append.1 h.nd).2.2 g hg
    exact fun hm => this g hm rfl
  have hgr := grown_set w g L.length u
  have keep : ∀ {x : Value} {m : Nat} {xs : List Value} {p : List Nat}, OwF w B T2 c x m xs p → g ∉ p → OwF (w.setCell ⟨g, L.length, none⟩ u) B T2 c x m xs p := by
    intro x m xs p hx hn
    refine hx.turn (Turn.of_grown hgr) ?_
    intro b hb hb'
    rw [List.mem_singleton] at hb'
    subst hb'; exact hn hb
  refine ⟨?_, by simp; omega, by simp [h.len], ?_, ?_⟩
  · have := owns_put h.own L.length [u] (by simp; omega)
    have e : us.take L.length ++ [u] ++ us.drop (L.length + [u].length) = us.set L.length u := by
      rw [List.set_eq_take_append_cons_drop, if_pos (by omega)]; simp
    rw [e] at this
    exact this
  · intro j hj
    rw [lD_snoc, fD_snoc, uD_set _ _ _ _ (by omega), h.len]
    by_cases hjl : j < L.length
    · rw [if_pos hjl, if_pos hjl, if_neg (by omega)]
      exact keep (h.row j hjl) (fun hm => hgn (mem_fD hm))
    · have : j = L.length := by simp at hj; omega
      subst this
      rw [if_neg hjl, if_neg hjl, if_pos rfl, if_pos rfl, if_pos rfl]
      exact keep ho (fun hm => by have := hS g hm; omega)
  · refine nodup_flat_snoc h.nd ho.nodup ?_
    intro b hb hb'
    have := hS b hb
    have := hS' b hb'
    omega
theorem uD_snoc (us : List Value) (u : Value) (j : Nat) : uD (us ++ [u]) j = if j < us.length then uD us j else if j = us.length then u else .bool false := by
  unfold uD
  rw [List.getD_eq_getElem?_getD, List.getD_eq_getElem?_getD]
  by_cases h : j < us.length
  · rw [if_pos h, List.getElem?_append_left h]
  · rw [if_neg h, List.getElem?_append_right (by omega)]
    by_cases h2 : j = us.length
    · subst h2; simp
    · rw [if_neg h2, List.getElem?_eq_none (by simp; omega)]; rfl
/-- A row is appended. -/
theorem OwB.push {g cap' : Nat} {u : Value} {l : List α} (h : OwB f w B T1 T2 c v n us L fps) (hn : n = L.length) (ho : OwF w B T2 c u l.length (l.flatMap f) fp) (hd : ∀ b ∈ fp, b ∉ ownFp v ++ fps.flatten)
    (h' : w'.ownsRow B T1 1 (.slice (some ⟨g, 0, none⟩) (n + 1) cap') (n + 1) (us ++ [u])) (hg : w.grownBy w' v.ownBlock) (hat : v.ownBlock = some g ∨ g = w.heap.size) :
    OwB f w' B T1 T2 c (.slice (some ⟨g, 0, none⟩) (n + 1) cap') (n + 1) (us ++ [u]) (L ++ [l]) (fps ++ [fp]) := by
  have hlen : us.length = n := by have := h.own.1; omega
  have ht : Turn w w' (ownFp v) := by
    unfold ownFp
    rcases hv : v.ownBlock with _ | q
    · rw [hv] at hg
      exact ⟨hg.os, hg.tape, hg.output, hg.size, fun k hk _ => hg.block k hk (by simp)⟩
    · rw [hv] at hg
      exact Turn.of_grown hg
  have hnd := List.nodup_append.1 h.nd
  have hrng := h.rng
  have keep : ∀ {x : Value} {m : Nat} {xs : List Value} {p : List Nat}, OwF w B T2 c x m xs p → (∀ b ∈ p, b ∉ ownFp v) → OwF w' B T2 c x m xs p := fun hx hn => hx.turn ht hn
  refine ⟨h', by simp; omega, by simp [h.len], ?_, ?_⟩
  · intro j hj
    rw [lD_snoc, fD_snoc, uD_snoc, h.len, hlen, hn]
    by_cases hjl : j < L.length
    · rw [if_pos hjl, if_pos hjl, if_pos hjl]
      exact keep (h.row j hjl) (fun b hb hb' => hnd.2.2 b hb' b (mem_fD hb) rfl)
    · have : j = L.length := by simp at hj; omega
      subst this
      rw [if_neg hjl, if_neg hjl, if_neg hjl, if_pos rfl, if_pos rfl, if_pos rfl]
      exact keep ho (fun b hb hb' => hd b hb (List.mem_append_left _ hb'))
  · have hnew : ownFp (.slice (some ⟨g, 0, none⟩) (n + 1) cap') = [g] := by simp [ownFp, Value.ownBlock]
    rw [hnew]
    have hall : (fps ++ [fp]).flatten.Nodup := by
      have := nodup_flat_snoc (A := []) (F := fps) (p := fp) (by simpa using hnd.2.1) ho.nodup (fun b hb hb' => hd b hb (List.mem_append_right _ (by simpa using hb')))
      simpa using this
    rw [List.nodup_append]
    refine ⟨by simp, hall, ?_⟩
    intro a ha b hb e
    rw [List.mem_singleton] at ha
    subst ha; subst e
    rw [List.flatten_append, List.mem_append] at hb
    rcases hat with h1 | h1
    · have hgm : a ∈ ownFp v := by simp [ownFp, h1]
      rcases hb with hb | hb
      · exact hnd.2.2 a hgm a hb rfl
      · exact hd a (by simpa using hb) (List.mem_append_left _ hgm)
    · rcases hb with hb | hb
      · have := (hrng a (List.mem_append_right _ hb)).2; omega
      · have := (ho.rng a (by simpa using hb)).2; omega
theorem Rd.of_owns1 {e : TypeId} {xs : List Value} (h : w.ownsRow B e 1 v n xs) : Rd w v xs := Rd.of_owns h
theorem OwS.rd (h : OwS f w B T1 T2 c v L fp) : RdS f w v L := by
  obtain ⟨us, fps, h, rfl⟩ := h
  exact ⟨us, by have := h.own.1; omega, Rd.of_owns h.own, fun j hj => (h.row j hj).rd⟩
theorem RdS.below (h : RdS f w v L) (hb : Below w.heap.size w w') : RdS f w' v L := by
  obtain ⟨us, h1, h2, h3⟩ := h
  exact ⟨us, h1, h2.below hb, fun j hj => (h3 j hj).below hb⟩
/-- What a walk knows of rows. -/
theorem RdS.cases (h : RdS f w v L) : (L = [] ∧ ∃ a cap, v = .slice a 0 cap) ∨ ∃ b off cap us, 0 < L.length ∧ v = .slice (some ⟨b, off, none⟩) L.length cap ∧ b < w.heap.size ∧
    ∀ j, j < L.length → w.cell? ⟨b, off + j, none⟩ = some (uD us j) ∧ RdN w (uD us j) (lD L j).length ((lD L j).flatMap f) := by
  obtain ⟨us, h1, h2, h3⟩ := h
  rcases h2.cases with ⟨hx, a, cap, rfl⟩ | ⟨hx, b, off, cap, rfl, hlt, hc⟩
  · subst hx
    exact .inl ⟨List.eq_nil_of_length_eq_zero (by simpa using h1.symm), a, cap, rfl⟩
  · refine .inr ⟨b, off, cap, us, by rw [← h1]; exact List.length_pos_iff.mpr (by simpa using hx), by rw [← h1], hlt, fun j hj => ⟨?_, h3 j hj⟩⟩
    have hj' : j < us.length := by omega
    rw [hc j hj', uD, List.getD_eq_getElem?_getD, List.getElem?_eq_getElem hj']
    rfl
theorem RdN.shape {xs : List Value} (h : RdN w v n xs) : ∃ a cap, v = .slice a n cap := by
  obtain ⟨a, cap, rfl, _⟩ := h
  exact ⟨a, cap, rfl⟩
/-- A row is written anew, in its own blocks. -/
theorem OwS.turned {j : Nat} {l : List α} {w' : World} (h : OwB f w B T1 T2 c v n us L fps) (hj : j < L.length) (ho : OwF w' B T2 c (uD us j) l.length (l.flatMap f) (fD fps j)) (ht : Turn w w' (fD fps j)) :
    OwB f w' B T1 T2 c v n us (L.set j l) fps := by
  have hlD : ∀ i, lD (L.set j l) i = if i = j then l else lD L i := by
    intro i
    unfold lD
    rw [List.getD_eq_getElem?_getD, List.getD_eq_getElem?_getD, List.getElem?_set]
    by_cases h : j = i
    · subst h; simp [hj]
    · rw [if_neg h, if_neg (fun e => h e.symm)]
  have hd := List.nodup_append.1 h.nd
  refine ⟨?_, by simpa using h.le, by simpa using h.len, ?_, h.nd⟩
  · have := (OwF.mk' h.own).turn ht (fun b hb hb' => hd.2.2 b hb b (mem_fD hb') rfl)
    exact this.1
  · intro i hi
    have hi' : i < L.length := by simpa using hi
    rw [hlD]
    by_cases e : i = j
    · subst e; rw [if_pos rfl]; exact ho
    · rw [if_neg e]
      refine (h.row i hi').turn ht ?_
      intro b hb hb'
      have hp := List.pairwise_flatten.1 hd.2.1
      have hil : i < fps.length := by rw [h.len]; exact hi'
      have hjl : j < fps.length := by rw [h.len]; exact hj
      have hfi : fD fps i = fps[i] := by unfold fD; rw [List.getD_eq_getElem?_getD, List.getElem?_eq_getElem hil]; rfl
      have hfj : fD fps j = fps[j] := by unfold fD; rw [List.getD_eq_getElem?_getD, List.getElem?_eq_getElem hjl]; rfl
      rw [hfi] at hb
      rw [hfj] at hb'
      rcases Nat.lt_or_gt_of_ne e with hlt | hgt
      · exact (List.pairwise_iff_getElem.1 hp.2 i j hil hjl hlt) b hb b hb' rfl
      · exact (List.pairwise_iff_getElem.1 hp.2 j i hjl hil hgt) b hb' b hb rfl
end
end Go.Proofs.YtjfckchoklepbaaGreat

namespace Go.Proofs.YtjfckchoklepbaaGreat
open Go.RowKit

abbrev LdS (w : World) (v : Value) (L : List (List Ac)) : Prop := RdS Ac.cells w v L
abbrev LoS (w : World) (B : Nat) (v : Value) (L : List (List Ac)) (fp : List Nat) : Prop := OwS Ac.cells w B 75 41 4 v L fp
abbrev LoB (w : World) (B : Nat) (v : Value) (n : Nat) (us : List Value) (L : List (List Ac)) (fps : List (List Nat)) : Prop := OwB Ac.cells w B 75 41 4 v n us L fps
def lenS (L : List (List Ac)) : Nat → Nat
  | 0 => 0
  | j + 1 => lenS L j + (lD L j).length
theorem info_acs : (Tryz.prog.info? 75).map (fun i => (i.zero, i.size, i.bytes)) = some (some (.slice none 0 0), 1, 24) := by kernel_rfl
theorem lD_take {α : Type} (L : List (List α)) (j : Nat) (h : j < L.length) : L.take (j + 1) = L.take j ++ [lD L j] := by
  rw [List.take_succ_eq_append_getElem h, lD]; simp [List.getElem?_eq_getElem h]
theorem lD_le {L : List (List Ac)} {m : Nat} (h : ∀ l ∈ L, l.length ≤ m) (j : Nat) : (lD L j).length ≤ m := by
  unfold lD
  rw [List.getD_eq_getElem?_getD]
  rcases hc : L[j]? with _ | p
  · exact Nat.zero_le _
  · exact h p (List.mem_of_getElem? hc)

set_option maxHeartbeats 1000000 in
theorem toActionSS_any (v : Value) (L : List (List Ac)) (w : World) (hl : L.length ≤ 1048576) (hr : ∀ l ∈ L, l.length ≤ 1048576) (h : LdS w v L) :
    Calls Tryz.prog 195 #[v] w fun e w' => ∃ u fp, e = .returned u ∧ LoS w' w.heap.size u L fp ∧ Below w.heap.size w w' := by
  obtain ⟨i0, hi, hz0, hz1, hz2⟩ := info_parts info_acs
  rcases RdS.cases h with ⟨rfl, a, cap, rfl⟩ | ⟨b, off, cap, us, hpos, rfl, hlt, hc⟩
  · clear h
    go_enter Tryz.func195, Tryz.ntmps195
    go_wp2_with (at_make; refine wpList_make_full w rfl _ _ 24 rfl w.heap.size 75 i0 (.slice none 0 0) 1 Tryz.underlying24 hi hz0 hz1 .i64 .i64 0 0 0 rfl rfl rfl rfl (by simp) ?_ ?_ ?_)
    · simp [maxLen]
    · exact Nat.le_refl _
    · intro w1 hown hg
      go_wp2
      refine wp_loop_rounds 1 ?_
      rw [rounds_succ]
      go_wp2
      go_ret
      exact ⟨_, _, rfl, (OwB.start (f := Ac.cells) (c := 4) (by simpa [madeCells] using hown)).done rfl, (Below.refl _ _).grown hg (Nat.le_refl _) (fun k hk => by cases hk)⟩
  · have HC := Lib.hid hc
    have HR := Lib.hid (fun j => lD_le hr j)
    clear h hc hr
    go_enter Tryz.func195, Tryz.ntmps195
    go_wp2_with (at_make; refine wpList_make_full w rfl _ _ 24 rfl w.heap.size 75 i0 (.slice none 0 0) 1 Tryz.underlying24 hi hz0 hz1 .i64 .i64 _ _ L.length rfl rfl rfl rfl (by rw [hz2]; omega) ?_ ?_ ?_)
    · simp [maxLen]; omega
    · exact Nat.le_refl _
    · intro w1 hown hg
      go_wp2
      go_loopw [4] (fun i wr => ∃ (k : Nat) (xs : List Value) (fps : List (List Nat)), k ≤ L.length ∧ i = .int .i64 k ∧ LoB wr w.heap.size (.slice (some ⟨w.heap.size, 0, none⟩) L.length L.length) L.length xs (L.take k) fps ∧ Below w.heap.size w wr)
        (fun i _ => L.length - (intOf i).toNat)
      case atStart => exact ⟨0, _, [], Nat.zero_le _, rfl, by rw [List.take_zero]; exact OwB.start hown, (Below.refl _ _).grown hg (Nat.le_refl _) (fun k hk => by cases hk)⟩
      case round =>
        obtain ⟨k, xs, fps, hk, rfl, hown', hb⟩ := hrel
        by_cases hlt' : k < L.length
        · obtain ⟨c0, hrow⟩ := HC.out k hlt'
          obtain ⟨ua, uc, hu⟩ := RdN.shape hrow
          rw [hu] at c0 hrow
          have hrow' := hrow.below (show Below w.heap.size w wr from hb)
          have r0 := (hb.cell (p := ⟨b, off + k, none⟩) hlt).trans c0
          have HW := Lib.hid hrow'
          have HO := Lib.hid hown'
          have HB := Lib.hid hb
          clear c0 hown' hb hown hg hrow hrow' hu
          go_wp2_with fail
          refine (toActionS_any _ (lD L k) _ (HR.out k) HW.out).mono ?_
          rintro e w2 ⟨u, rfl, hnew, hb2⟩
          obtain ⟨xa, xc, xfp, rfl, hof⟩ := OwF.shape hnew
          have ho2 := HO.out.below hb2
          have hxl : xs.length = L.length := by have := ho2.own.1; omega
          obtain ⟨y0, s0⟩ : ∃ y, w2.cell? ⟨w.heap.size, k, none⟩ = some y := ⟨xs[k]'(by omega), by rw [ho2.own.cellAt k (by omega), List.getElem?_eq_getElem (show k < xs.length by omega)]⟩
          have z0 := ho2.own.frozenAt k
          have htl : (L.take k).length = k := by rw [List.length_take]; omega
          have hset := OwB.set (S := wr.heap.size) ho2 (by rw [htl]; exact hlt') (owF_base hof (Nat.le_trans HB.out.size (Nat.le_refl _))) (fun b hb => (hof.rng b hb).1) (fun b hb => (HO.out.rng b hb).2)
          rw [htl, ← lD_take L k hlt'] at hset
          have HO2 := Lib.hid hset
          have HB2 := Lib.hid (HB.out.trans (hb2.mono HB.out.size))
          clear hb2 ho2 hset hnew hof hxl htl
          go_wp2
          go_roundw
          case rel => exact ⟨k + 1, _, _, by omega, by go_num, HO2.out, HB2.out.setCell (Nat.le_refl _) _⟩
          case measure => simp [intOf]; omega
        · obtain rfl : k = L.length := by omega
          rw [List.take_of_length_le (Nat.le_refl _)] at hown'
          have HO := Lib.hid hown'
          clear hown' hown hg
          go_wp2
          go_ret
          exact ⟨_, _, rfl, HO.out.done rfl, hb⟩

set_option maxHeartbeats 1000000 in
theorem eqActionSS_same (va vb : Value) (L : List (List Ac)) (w : World) (hl : L.length ≤ 1000000000000) (hr : ∀ l ∈ L, l.length ≤ 1000000000000) (ha : LdS w va L) (hb : LdS w vb L) :
    Calls Tryz.prog 198 #[va, vb] w fun e w' => e = .returned (.bool true) ∧ Below w.heap.size w w' := by
  rcases RdS.cases ha with ⟨rfl, a, cap, rfl⟩ | ⟨b, off, cap, us, hpos, rfl, hlt, hc⟩
  · rcases RdS.cases hb with ⟨_, a2, cap2, rfl⟩ | ⟨_, _, _, _, hn, _⟩
    · clear ha hb
      go_enter Tryz.func198, Tryz.ntmps198
      go_wp2
      refine wp_loop_rounds 1 ?_
      rw [rounds_succ]
      go_wp2
      go_ret
      exact ⟨rfl, Below.refl _ _⟩
    · exact absurd hn (Nat.lt_irrefl _)
  · rcases RdS.cases hb with ⟨hn, _⟩ | ⟨b2, off2, cap2, us2, _, rfl, hlt2, hc2⟩
    · exfalso; rw [hn] at hpos; simp at hpos
    · have HC := Lib.hid hc
      have HC2 := Lib.hid hc2
      have HR := Lib.hid (fun j => lD_le hr j)
      clear ha hb hc hc2 hr
      go_enter Tryz.func198, Tryz.ntmps198
      go_wp2
      go_loopw [5] (fun i wr => ∃ k : Nat, k ≤ L.length ∧ i = .int .i64 k ∧ Below w.heap.size w wr) (fun i _ => L.length - (intOf i).toNat)
      case atStart => exact ⟨0, Nat.zero_le _, rfl, Below.refl _ _⟩
      case round =>
        obtain ⟨k, hk, rfl, hb⟩ := hrel
        by_cases hlt' : k < L.length
        · obtain ⟨c0, hrow⟩ := HC.out k hlt'
          obtain ⟨d0, hrow2⟩ := HC2.out k hlt'
          obtain ⟨ua, uc, hu⟩ := RdN.shape hrow
          obtain ⟨ub, ud, hu2⟩ := RdN.shape hrow2
          rw [hu] at c0 hrow
          rw [hu2] at d0 hrow2
          have HW1 := Lib.hid (hrow.below hb)
          have HW2 := Lib.hid (hrow2.below hb)
          have r0 := (hb.cell (p := ⟨b, off + k, none⟩) hlt).trans c0
          have t0 := (hb.cell (p := ⟨b2, off2 + k, none⟩) hlt2).trans d0
          have hbl : b < wr.heap.size := Nat.lt_of_lt_of_le hlt hb.size
          have hbl2 : b2 < wr.heap.size := Nat.lt_of_lt_of_le hlt2 hb.size
          have HB := Lib.hid hb
          clear c0 d0 hb hrow hrow2 hu hu2
          go_upto_region 6 with (fail)
          go_cut [26] (fun sd wx => sd = .bool false ∧ Below wr.heap.size wr wx)
          case first =>
            go_region_held3 (fun w' => w'.cell? ⟨b, off + k, none⟩ = some (.slice ua (lD L k).length uc) ∧ w'.cell? ⟨b2, off2 + k, none⟩ = some (.slice ub (lD L k).length ud)) (first | go_keep)
              (first | (go_at_call 223; refine (eqActionS_same _ _ (lD L k) _ (HR.out k) (by first | exact HW1.out | exact HW1.out.below (Below.refl _ _).drew | exact HW1.out.below (Below.refl _ _).drew.drew) (by first | exact HW2.out | exact HW2.out.below (Below.refl _ _).drew | exact HW2.out.below (Below.refl _ _).drew.drew)).mono ?_; rintro e v1 ⟨rfl, hb1⟩; have hbr : Below wr.heap.size wr v1 := (by first | exact hb1 | exact ((Below.refl _ _).drew).trans hb1 | exact ((Below.refl _ _).drew.drew).trans hb1); have kr0 := (hbr.cell (p := ⟨b, off + k, none⟩) hbl).trans r0; have kt0 := (hbr.cell (p := ⟨b2, off2 + k, none⟩) hbl2).trans t0; have HBR := Lib.hid hbr; clear hbr hb1))
            all_goals
              go_wp2
              go_meet
              exact ⟨rfl, by first | exact HBR.out | exact HBR.out.drew⟩
          case rest =>
            obtain ⟨rfl, hb⟩ := hcut
            have HB2 := Lib.hid (HB.out.trans (hb.mono HB.out.size))
            clear hb r0 t0
            go_wp2
            go_roundw
            case rel => exact ⟨k + 1, by omega, by go_num, HB2.out⟩
            case measure => simp [intOf]; omega
        · obtain rfl : k = L.length := by omega
          go_wp2
          go_ret
          exact ⟨rfl, hb⟩

/-- Layers whose first j rows hold marks, counted from q on. -/
def mkP (q : Int) (L : List (List Ac)) (j : Nat) : List (List Ac) := (List.range L.length).map fun i => if i < j then marksAc (q + ((lenS L i * 4 : Nat) : Int)) (lD L i).length else lD L i
def mkS (q : Int) (L : List (List Ac)) : List (List Ac) := mkP q L L.length
theorem mkP_len (q : Int) (L : List (List Ac)) (j : Nat) : (mkP q L j).length = L.length := by simp [mkP]
theorem mkP_D (q : Int) (L : List (List Ac)) (j i : Nat) (h : i < L.length) : lD (mkP q L j) i = if i < j then marksAc (q + ((lenS L i * 4 : Nat) : Int)) (lD L i).length else lD L i := by
  unfold lD mkP
  rw [List.getD_eq_getElem?_getD, List.getElem?_map, List.getElem?_range h]
  rfl
theorem mkP_zero (q : Int) (L : List (List Ac)) : mkP q L 0 = L := by
  apply List.ext_getElem (mkP_len _ _ _)
  intro i h1 h2
  simp [mkP, lD, List.getD_eq_getElem?_getD, List.getElem?_eq_getElem h2]
theorem mkP_succ (q : Int) (L : List (List Ac)) (j : Nat) : (mkP q L j).set j (marksAc (q + ((lenS L j * 4 : Nat) : Int)) (lD L j).length) = mkP q L (j + 1) := by
  apply List.ext_getElem (by simp [mkP])
  intro i h1 h2
  rw [List.getElem_set]
  simp only [mkP, List.getElem_map, List.getElem_range]
  by_cases e : j = i
  · subst e; rw [if_pos rfl, if_pos (by omega)]
  · rw [if_neg e]
    by_cases hi : i < j
    · rw [if_pos hi, if_pos (by omega)]
    · rw [if_neg hi, if_neg (by omega)]
theorem lenS_mono (L : List (List Ac)) {i j : Nat} (h : i ≤ j) : lenS L i ≤ lenS L j := by
  induction j with
  | zero => obtain rfl : i = 0 := by omega
            exact Nat.le_refl _
  | succ j ih =>
    rcases Nat.lt_or_ge j i with h1 | h1
    · obtain rfl : i = j + 1 := by omega
      exact Nat.le_refl _
    · exact Nat.le_trans (ih h1) (Nat.le_add_right _ _)

set_option maxHeartbeats 1000000 in
theorem markActionSS_own (B : Nat) (v : Value) (L : List (List Ac)) (fp : List Nat) (q : Int) (w : World) (hn : L.length ≤ 1048576) (ht : lenS L L.length ≤ 1048576) (hk : 0 ≤ q) (hk' : q ≤ 1000000) (h : LoS w B v L fp) :
    Calls Tryz.prog 201 #[v, .int .i64 q] w fun e w' => e = .returned (.int .i64 (q + ((lenS L L.length * 4 : Nat) : Int))) ∧ LoS w' B v (mkS q L) fp ∧ Turn w w' fp := by
  obtain ⟨us, fps, h, rfl⟩ := h
  rcases h.own.2 with ⟨rfl, hn0⟩ | ⟨g, cap, cur, rfl, hg, hh, hnc, hcm, hcs, hta⟩
  · have hL : L = [] := List.eq_nil_of_length_eq_zero hn0
    subst hL
    have H := Lib.hid h
    clear h ht
    go_enter Tryz.func201, Tryz.ntmps201
    go_wp2
    refine wp_loop_rounds 1 ?_
    rw [rounds_succ]
    go_wp2
    go_ret
    exact ⟨ret_int (by simp [lenS]), H.out.done rfl, Turn.refl _ _⟩
  · have HH := Lib.hid h
    have HT := Lib.hid ht
    clear h hh hnc hcm hcs hta ht
    go_enter Tryz.func201, Tryz.ntmps201
    go_wp2
    go_loopw [1, 5] (fun p i wr => ∃ (j : Nat), j ≤ L.length ∧ i = .int .i64 j ∧ p = .int .i64 (q + ((lenS L j * 4 : Nat) : Int)) ∧ LoB wr B (.slice (some ⟨g, 0, none⟩) L.length cap) L.length us (mkP q L j) fps ∧ Turn w wr (ownFp (.slice (some ⟨g, 0, none⟩) L.length cap) ++ fps.flatten))
      (fun _ i _ => L.length - (intOf i).toNat)
    case atStart => exact ⟨0, Nat.zero_le _, rfl, by simp [lenS], by rw [mkP_zero]; exact HH.out, Turn.refl _ _⟩
    case round =>
      obtain ⟨j, hj, rfl, rfl, hown, hb⟩ := hrel
      by_cases hlt : j < L.length
      · have hus : us.length = L.length := by have := hown.own.1; omega
        have hrow := hown.row j (by rw [mkP_len]; exact hlt)
        rw [mkP_D q L j j hlt, if_neg (Nat.lt_irrefl _)] at hrow
        obtain ⟨ua, uc, hu⟩ := owns_shape hrow.1
        have s0 : wr.cell? ⟨g, j, none⟩ = some (uD us j) := by
          rw [hown.own.cellAt j (by omega), uD, List.getD_eq_getElem?_getD, List.getElem?_eq_getElem (by omega)]; rfl
        obtain ⟨p, hp⟩ : ∃ p : Int, p = q + ((lenS L j * 4 : Nat) : Int) := ⟨_, rfl⟩
        rw [← hp]
        have hm := lenS_mono L (Nat.le_of_lt hlt)
        have hm2 := lenS_mono L (show j + 1 ≤ L.length from hlt)
        have hT := HT.out
        have hl1 : (lD L j).length ≤ 1048576 := by have : lenS L (j + 1) = lenS L j + (lD L j).length := rfl; omega
        have hp0 : 0 ≤ p := by omega
        have hp1 : p ≤ 1099511627776 := by omega
        have HO := Lib.hid hown
        have HB := Lib.hid hb
        have HP := Lib.hid hp
        have HRow := Lib.hid hrow
        have HU := Lib.hid hu
        rw [hu] at s0
        clear hown hb hp hrow hu hm hm2 hT
        go_wp2_with fail
        refine (markActionS_any B _ (lD L j).length _ p _ hl1 hp0 hp1 (by rw [← HU.out]; exact HRow.out.1)).mono ?_
        rintro e w2 ⟨rfl, ho2, hg2⟩
        rw [← HU.out] at ho2 hg2
        obtain ⟨hof, htn⟩ := HRow.out.marked ho2 hg2
        have hml : (marksAc p (lD L j).length).length = (lD L j).length := marksAc_len _ _
        have hnew := OwS.turned HO.out (j := j) (l := marksAc p (lD L j).length) (by rw [mkP_len]; exact hlt) (by rw [hml]; exact hof) htn
        rw [HP.out, mkP_succ q L j] at hnew
        have HN := Lib.hid hnew
        have HTn := Lib.hid (HB.out.trans (htn.mono fun x hx => List.mem_append_right _ (mem_fD hx)))
        clear ho2 hg2 hof htn hml hnew s0
        have hpe : p + (((lD L j).length * 4 : Nat) : Int) = q + ((lenS L (j + 1) * 4 : Nat) : Int) := by
          have : lenS L (j + 1) = lenS L j + (lD L j).length := rfl
          have := HP.out
          omega
        rw [hpe]
        clear hpe
        go_wp2
        go_roundw
        case rel => exact ⟨j + 1, by omega, by go_num, rfl, HN.out, HTn.out⟩
        case measure => simp [intOf]; omega
      · obtain rfl : j = L.length := by omega
        have HO := Lib.hid hown
        clear hown
        go_wp2
        go_ret
        exact ⟨rfl, HO.out.done (mkP_len _ _ _).symm, hb⟩

set_option maxHeartbeats 1000000 in
theorem heldActionSS_any (v : Value) (L : List (List Ac)) (q : Int) (w : World) (hn : L.length ≤ 1048576) (ht : lenS L L.length ≤ 1048576) (hk : 0 ≤ q) (hk' : q ≤ 1000000) (h : LdS w v (mkS q L)) :
    Calls Tryz.prog 203 #[v, .int .i64 q] w fun e w' => e = .returned (.int .i64 (q + ((lenS L L.length * 4 : Nat) : Int))) ∧ w = w' := by
  have hl : (mkS q L).length = L.length := mkP_len _ _ _
  rcases RdS.cases h with ⟨hnil, a, cap, rfl⟩ | ⟨b, off, cap, us, hpos, rfl, hlt, hc⟩
  · have hL : L = [] := List.eq_nil_of_length_eq_zero (by rw [← hl, hnil]; rfl)
    subst hL
    clear h hnil hl ht
    go_enter Tryz.func203, Tryz.ntmps203
    go_wp2
    refine wp_loop_rounds 1 ?_
    rw [rounds_succ]
    go_wp2
    go_ret
    exact ⟨ret_int (by simp [lenS]), rfl⟩
  · rw [hl] at hc ⊢
    have HC := Lib.hid hc
    have HT := Lib.hid ht
    clear h hl hpos hc ht
    go_enter Tryz.func203, Tryz.ntmps203
    go_wp2
    go_loop [1, 5] (fun p i => ∃ (j : Nat), j ≤ L.length ∧ i = .int .i64 j ∧ p = .int .i64 (q + ((lenS L j * 4 : Nat) : Int))) (fun _ i => L.length - (intOf i).toNat)
    case atStart => exact ⟨0, Nat.zero_le _, rfl, by simp [lenS]⟩
    case round =>
      obtain ⟨j, hj, rfl, rfl⟩ := hrel
      by_cases hlt' : j < L.length
      · obtain ⟨r0, hrow⟩ := HC.out j hlt'
        rw [mkS, mkP_D q L _ j hlt', if_pos hlt'] at hrow
        obtain ⟨p, hp⟩ : ∃ p : Int, p = q + ((lenS L j * 4 : Nat) : Int) := ⟨_, rfl⟩
        rw [← hp] at hrow ⊢
        rw [marksAc_len] at hrow
        obtain ⟨ua, uc, hu⟩ := RdN.shape hrow
        rw [hu] at r0 hrow
        have hm := lenS_mono L (Nat.le_of_lt hlt')
        have hm2 := lenS_mono L (show j + 1 ≤ L.length from hlt')
        have hT := HT.out
        have hl1 : (lD L j).length ≤ 1048576 := by have : lenS L (j + 1) = lenS L j + (lD L j).length := rfl; omega
        have hp0 : 0 ≤ p := by omega
        have hp1 : p ≤ 1099511627776 := by omega
        have hpe : p + (((lD L j).length * 4 : Nat) : Int) = q + ((lenS L (j + 1) * 4 : Nat) : Int) := by
          have : lenS L (j + 1) = lenS L j + (lD L j).length := rfl
          omega
        have hge : ¬ p + (((lD L j).length * 4 : Nat) : Int) < 0 := by omega
        have HRow := Lib.hid hrow
        have HPE := Lib.hid hpe
        obtain ⟨p2, hp2⟩ : ∃ p2 : Int, p2 = p + (((lD L j).length * 4 : Nat) : Int) := ⟨_, rfl⟩
        rw [← hp2] at hge
        have HP2 := Lib.hid hp2
        clear hp hrow hu hm hm2 hT hpe hp2
        go_wp2_with fail
        refine (heldActionS_any _ (lD L j).length p _ hl1 hp0 hp1 HRow.out).mono ?_
        rw [← HP2.out]
        rintro e w2 ⟨rfl, rfl⟩
        go_wp2
        go_round
        case rel => exact ⟨j + 1, by omega, by go_num, by rw [HP2.out, HPE.out]⟩
        case measure => simp [intOf]; omega
      · obtain rfl : j = L.length := by omega
        go_wp2
        go_ret
        exact ⟨rfl, rfl⟩

abbrev kmv (k : Int) (v : Value) : Value := .agg #[.int .i64 k, v]
set_option maxHeartbeats 1000000 in
theorem szActionSS_any (v : Value) (L : List (List Ac)) (w : World) (hn : L.length ≤ maxLen) (hm : ∀ l ∈ L, l.length ≤ maxLen) (h : LdS w v L) :
    Calls Tryz.prog 193 #[v, .int .i64 1048576] w fun e w' => e = .returned (.int .i64 (if L.length + lenS L L.length ≤ 1048576 then 1048576 - ((L.length + lenS L L.length : Nat) : Int) else -1)) ∧ w = w' := by
  obtain ⟨r, hr⟩ : ∃ r, r = (if L.length + lenS L L.length ≤ 1048576 then 1048576 - ((L.length + lenS L L.length : Nat) : Int) else -1) := ⟨_, rfl⟩
  rw [← hr]
  have HR := Lib.hid hr
  clear hr
  rcases RdS.cases h with ⟨rfl, a, cap, rfl⟩ | ⟨b, off, cap, us, hpos, rfl, hlt, hc⟩
  · clear h hn hm
    go_enter Tryz.func193, Tryz.ntmps193
    go_wp2
    refine wp_loop_rounds 1 ?_
    rw [rounds_succ]
    go_wp2
    go_ret
    exact ⟨ret_int (by rw [HR.out]; rfl), rfl⟩
  · have HC := Lib.hid hc
    have HM := Lib.hid (fun j => lD_le hm j)
    have HN := Lib.hid hn
    unfold maxLen at hn
    clear h hc hm
    by_cases hbig : L.length ≤ 1048576
    · have hl0 : ¬ (1048576 : Int) - (L.length : Int) < 0 := by omega
      clear hn
      go_enter Tryz.func193, Tryz.ntmps193
      go_wp2
      go_loop [1, 5] (fun p i => ∃ (j : Nat), j ≤ L.length ∧ i = .int .i64 j ∧ L.length + lenS L j ≤ 1048576 ∧ p = .int .i64 (1048576 - ((L.length + lenS L j : Nat) : Int))) (fun _ i => L.length - (intOf i).toNat)
      case atStart => exact ⟨0, Nat.zero_le _, rfl, hbig, by simp [lenS]⟩
      case round =>
        obtain ⟨j, hj, rfl, hs, rfl⟩ := hrel
        obtain ⟨p, hp⟩ : ∃ p : Int, p = 1048576 - ((L.length + lenS L j : Nat) : Int) := ⟨_, rfl⟩
        rw [← hp]
        by_cases hlt' : j < L.length
        · obtain ⟨r0, hrow⟩ := HC.out j hlt'
          obtain ⟨ua, uc, hu⟩ := RdN.shape hrow
          rw [hu] at r0
          have hm2 := lenS_mono L (show j + 1 ≤ L.length from hlt')
          have hp0 : 0 ≤ p := by omega
          have hp1 : p ≤ 1099511627776 := by omega
          have hs1 : lenS L (j + 1) = lenS L j + (lD L j).length := rfl
          by_cases hfit : p < ((lD L j).length : Int)
          · have hrr : r = -1 := by rw [HR.out, if_neg (by omega)]
            subst hrr
            have HF := Lib.hid hfit
            have HP0 := Lib.hid hp0
            have HP1 := Lib.hid hp1
            clear hrow hu hm2 hs hs1 hfit hp hp0 hp1 hl0 hbig
            go_wp2_with fail
            refine (szActionS_any ua (lD L j).length uc p _ HP0.out HP1.out (HM.out j)).mono ?_
            rw [if_pos HF.out]
            rintro e w2 ⟨rfl, rfl⟩
            go_wp2
            go_ret
            exact ⟨rfl, rfl⟩
          · obtain ⟨p2, hp2⟩ : ∃ p2 : Int, p2 = p - ((lD L j).length : Int) := ⟨_, rfl⟩
            have hge : ¬ p2 < 0 := by omega
            have hpe : p2 = 1048576 - ((L.length + lenS L (j + 1) : Nat) : Int) := by omega
            have HF := Lib.hid hfit
            have HP0 := Lib.hid hp0
            have HP1 := Lib.hid hp1
            have HP2 := Lib.hid hp2
            have HPE := Lib.hid hpe
            have HS := Lib.hid (show L.length + lenS L (j + 1) ≤ 1048576 by omega)
            clear hrow hu hm2 hs hs1 hfit hp hp0 hp1 hp2 hpe hl0
            go_wp2_with fail
            refine (szActionS_any ua (lD L j).length uc p _ HP0.out HP1.out (HM.out j)).mono ?_
            rw [if_neg (by have := HF.out; omega), ← HP2.out]
            rintro e w2 ⟨rfl, rfl⟩
            go_wp2
            go_round
            case rel => exact ⟨j + 1, by omega, by go_num, HS.out, by rw [HPE.out]⟩
            case measure => simp [intOf]; omega
        · obtain rfl : j = L.length := by omega
          have HRR := Lib.hid (show r = p by rw [HR.out, if_pos hs, hp])
          clear hs hp hl0 hbig
          go_wp2
          go_ret
          exact ⟨ret_int HRR.out.symm, rfl⟩
    · have hrr : r = -1 := by rw [HR.out, if_neg (by omega)]
      subst hrr
      have hl0 : (1048576 : Int) - (L.length : Int) < 0 := by omega
      clear hbig
      go_enter Tryz.func193, Tryz.ntmps193
      go_wp2
      go_ret
      exact ⟨rfl, rfl⟩

theorem szKeymap_any (k : Int) (v : Value) (L : List (List Ac)) (w : World) (hn : L.length ≤ maxLen) (hm : ∀ l ∈ L, l.length ≤ maxLen) (h : LdS w v L) :
    Calls Tryz.prog 126 #[kmv k v, .int .i64 1048576] w fun e w' => e = .returned (.int .i64 (if L.length + lenS L L.length ≤ 1048576 then 1048576 - ((L.length + lenS L L.length : Nat) : Int) else -1)) ∧ Below w.heap.size w w' := by
  obtain ⟨n, cap, hn', hv⟩ : ∃ a cap, v = .slice a L.length cap ∧ True := by
    rcases RdS.cases h with ⟨rfl, a, cap, rfl⟩ | ⟨b, off, cap, us, hpos, rfl, _⟩
    · exact ⟨a, cap, rfl, trivial⟩
    · exact ⟨_, cap, rfl, trivial⟩
  subst hn'
  obtain ⟨r, hr⟩ : ∃ r, r = (if L.length + lenS L L.length ≤ 1048576 then 1048576 - ((L.length + lenS L L.length : Nat) : Int) else -1) := ⟨_, rfl⟩
  have hrc : r = -1 ∨ 0 ≤ r := by rw [hr]; split <;> omega
  rw [← hr]
  have HR := Lib.hid hr
  have H := Lib.hid h
  have HN := Lib.hid hn
  have HM := Lib.hid hm
  clear hr h hn hm hv
  obtain ⟨W, hW⟩ : ∃ W, W = w.alloc (.cells #[.int .i64 k, .slice n L.length cap] 87) := ⟨_, rfl⟩
  have HX0 := Lib.hid (show Bxd W w.heap.size [.int .i64 k, .slice n L.length cap] by rw [hW]; exact Bxd.new _ _ _)
  have HB0 := Lib.hid (show Below w.heap.size w W by rw [hW]; exact (Below.refl _ _).alloc (Nat.le_refl _) _)
  have HS0 := Lib.hid (show w.heap.size < W.heap.size by rw [hW]; simp)
  have HW := Lib.hid hW
  clear hW
  go_enter Tryz.func126, Tryz.ntmps126
  go_wp2_with fail
  rw [← HW.out]
  have c0 := HX0.out.at 0 _ rfl
  have c1 := HX0.out.at 1 _ rfl
  refine (szActionSS_any _ L _ HN.out HM.out (H.out.below HB0.out)).mono ?_
  rw [← HR.out]
  rintro e w1 ⟨rfl, rfl⟩
  rcases hrc with rfl | hr0
  · go_wp2
    go_ret
    exact ⟨rfl, HB0.out⟩
  · have hr1 : ¬ r < 0 := by omega
    clear hr0
    go_wp2
    go_ret
    exact ⟨rfl, HB0.out⟩

theorem RdS.shape {w : World} {v : Value} {L : List (List Ac)} (h : LdS w v L) : ∃ a cap, v = .slice a L.length cap := by
  rcases RdS.cases h with ⟨rfl, a, cap, rfl⟩ | ⟨b, off, cap, us, hpos, rfl, _⟩
  · exact ⟨a, cap, rfl⟩
  · exact ⟨_, cap, rfl⟩

set_option maxHeartbeats 1000000 in
theorem toKeymap_any (k : Int) (v : Value) (L : List (List Ac)) (w : World) (hl : L.length ≤ 1048576) (hr : ∀ l ∈ L, l.length ≤ 1048576) (h : LdS w v L) :
    Calls Tryz.prog 129 #[kmv k v] w fun e w' => ∃ a cap fp, e = .returned (kmv k (.slice a L.length cap)) ∧ LoS w' w.heap.size (.slice a L.length cap) L fp ∧ Below w.heap.size w w' := by
  obtain ⟨va, vc, rfl⟩ := RdS.shape h
  have HR := Lib.hid h
  have HLL := Lib.hid hl
  have HRR := Lib.hid hr
  clear h hl hr
  obtain ⟨W, hW⟩ : ∃ W, W = ((w.alloc (.cells #[.int .i64 k, .slice va L.length vc] 87)).alloc (.cells #[.int .i64 0, .slice none 0 0] 26)).alloc (.cells #[.int .i64 k, .slice none 0 0] 26) := ⟨_, rfl⟩
  have HO := Lib.hid (show W.heap[w.heap.size + 1 + 1]? = some (.cells #[.int .i64 k, .slice none 0 0] 26 (0, 0)) by rw [hW]; simpa using heap_alloc_new ((w.alloc (.cells #[.int .i64 k, .slice va L.length vc] 87)).alloc (.cells #[.int .i64 0, .slice none 0 0] 26)) _)
  have HT := Lib.hid (show W.heap[w.heap.size + 1]? = some (.cells #[.int .i64 0, .slice none 0 0] 26 (0, 0)) by
    rw [hW, Below.heap_alloc _ _ _ (by simp)]; simpa using heap_alloc_new (w.alloc (.cells #[.int .i64 k, .slice va L.length vc] 87)) _)
  have HB0 := Lib.hid (show Below w.heap.size w W by rw [hW]; exact (((Below.refl _ _).alloc (Nat.le_refl _) _).alloc (by simp) _).alloc (by simp; omega) _)
  have HSZ := Lib.hid (show W.heap.size = w.heap.size + 1 + 1 + 1 by rw [hW]; simp)
  have HW := Lib.hid hW
  clear hW
  go_enter Tryz.func129, Tryz.ntmps129
  go_wp2_with fail
  rw [← HW.out]
  refine (toActionSS_any _ L _ HLL.out HRR.out (HR.out.below HB0.out)).mono ?_
  rintro e w1 ⟨u', fp, rfl, hown, hb⟩
  obtain ⟨a', cap', rfl⟩ := RdS.shape hown.rd
  have ho := (hb.block (w.heap.size + 1 + 1) (by rw [HSZ.out]; omega)).trans HO.out
  have ht := (hb.block (w.heap.size + 1) (by rw [HSZ.out]; omega)).trans HT.out
  have HB1 := Lib.hid (HB0.out.trans (hb.mono HB0.out.size))
  have HOW := Lib.hid hown
  have hlt : w.heap.size + 1 + 1 < w1.heap.size := (Array.getElem?_eq_some_iff.mp ho).1
  obtain ⟨o1, p1⟩ := cells_of_heap ho 1 (by simp)
  have o0 := (cells_of_heap ho 0 (by simp)).1
  obtain ⟨t0, q0⟩ := cells_of_heap ht 0 (by simp)
  obtain ⟨t1, q1⟩ := cells_of_heap ht 1 (by simp)
  have HTT := Lib.hid ht
  clear hb hown ho ht
  go_wp2
  have htt : (w1.setCell ⟨w.heap.size + 1 + 1, 1, none⟩ (.slice a' L.length cap')).heap[w.heap.size + 1]? = some (.cells #[.int .i64 0, .slice none 0 0] 26 (0, 0)) := (Below.heap_setCell _ _ _ _ (by simp)).trans HTT.out
  have hbb : Below w.heap.size w (w1.setCell ⟨w.heap.size + 1 + 1, 1, none⟩ (.slice a' L.length cap')) := HB1.out.setCell (by simp; omega) _
  have hoo := (HOW.out.put (b := w.heap.size + 1 + 1) [.slice a' L.length cap'] 1 (by rw [HSZ.out]; omega))
  simp only [putW] at hoo
  clear o0 o1 p1 t0 t1 q0 q1
  have HTT2 := Lib.hid htt
  have HBB := Lib.hid hbb
  have HOO := Lib.hid hoo
  clear htt hbb hoo
  obtain ⟨wf, hwf⟩ : ∃ x, x = putW (w1.setCell ⟨w.heap.size + 1 + 1, 1, none⟩ (.slice a' L.length cap')) (w.heap.size + 1) 0 [.int .i64 k, .slice a' L.length cap'] := ⟨_, rfl⟩
  have kf := putW_all [.int .i64 k, .slice a' L.length cap'] HTT2.out rfl
  have bf := putW_below (b := w.heap.size + 1) (by simp) [.int .i64 k, .slice a' L.length cap'] 0 _ HBB.out
  have of := HOO.out.put (b := w.heap.size + 1) [.int .i64 k, .slice a' L.length cap'] 0 (by rw [HSZ.out]; omega)
  rw [← hwf] at kf bf of
  have cf := hwf.symm
  simp only [putW, Nat.reduceAdd] at cf
  rw [cf]
  clear cf hwf
  have f0 := (cells_of_heap kf 0 (by simp)).1
  have f1 := (cells_of_heap kf 1 (by simp)).1
  simp only [List.getElem_toArray, List.getElem_cons_zero, List.getElem_cons_succ] at f0 f1
  refine bodyPost_ret (v := kmv k (.slice a' L.length cap')) (by simp [results, Tryz.results129, go_sem, f0, f1]) rfl ⟨_, _, _, rfl, of.base HB0.out.size, bf⟩

theorem eqKeymap_same (k : Int) (ua ub : Value) (L : List (List Ac)) (w : World) (hl : L.length ≤ 1000000000000) (hr : ∀ l ∈ L, l.length ≤ 1000000000000) (ha : LdS w ua L) (hb : LdS w ub L) :
    Calls Tryz.prog 132 #[kmv k ua, kmv k ub] w fun e w' => e = .returned (.bool true) ∧ Below w.heap.size w w' := by
  obtain ⟨xa, xc, rfl⟩ := RdS.shape ha
  obtain ⟨ya, yc, rfl⟩ := RdS.shape hb
  obtain ⟨W, hW⟩ : ∃ W, W = (w.alloc (.cells #[.int .i64 k, .slice xa L.length xc] 26)).alloc (.cells #[.int .i64 k, .slice ya L.length yc] 26) := ⟨_, rfl⟩
  have hB0 : Below w.heap.size w W := by rw [hW]; exact ((Below.refl _ _).alloc (Nat.le_refl _) _).alloc (by simp) _
  have HA := Lib.hid (ha.below hB0)
  have HB := Lib.hid (hb.below hB0)
  have HB0 := Lib.hid hB0
  have HW := Lib.hid hW
  have HLL := Lib.hid hl
  have HRR := Lib.hid hr
  clear hW hB0 ha hb hl hr
  go_enter Tryz.func132, Tryz.ntmps132
  go_wp2_with fail
  rw [← HW.out]
  refine (eqActionSS_same _ _ L W HLL.out HRR.out HA.out HB.out).mono ?_
  rintro e w1 ⟨rfl, hb⟩
  have HB1 := Lib.hid (HB0.out.trans (hb.mono HB0.out.size))
  clear hb
  go_wp2
  go_ret
  exact ⟨rfl, HB1.out⟩

theorem markKeymap_own (B : Nat) (k : Int) (u : Value) (L : List (List Ac)) (fp : List Nat) (q : Int) (w : World) (hn : L.length ≤ 1048576) (ht : lenS L L.length ≤ 1048576) (hk : 0 ≤ q) (hk' : q ≤ 1000000) (h : LoS w B u L fp) :
    Calls Tryz.prog 136 #[kmv k u, .int .i64 q] w fun e w' => e = .returned (.int .i64 (q + ((lenS L L.length * 4 : Nat) : Int))) ∧ LoS w' B u (mkS q L) fp ∧ Turn w w' fp := by
  obtain ⟨xa, xc, rfl⟩ := RdS.shape h.rd
  have HO := Lib.hid h
  have HN := Lib.hid hn
  have HT := Lib.hid ht
  clear h hn ht
  obtain ⟨W, hW⟩ : ∃ W, W = w.alloc (.cells #[.int .i64 k, .slice xa L.length xc] 26) := ⟨_, rfl⟩
  have HX0 := Lib.hid (show Bxd W w.heap.size [.int .i64 k, .slice xa L.length xc] by rw [hW]; exact Bxd.new _ _ _)
  have HB0 := Lib.hid (show Below w.heap.size w W by rw [hW]; exact (Below.refl _ _).alloc (Nat.le_refl _) _)
  have HS0 := Lib.hid (show w.heap.size < W.heap.size by rw [hW]; simp)
  have HW := Lib.hid hW
  clear hW
  go_enter Tryz.func136, Tryz.ntmps136
  go_wp2_with fail
  rw [← HW.out]
  refine (markActionSS_own B _ L fp q W HN.out HT.out hk hk' (HO.out.below (HB0.out.mono (Nat.le_refl _)))).mono ?_
  rintro e w1 ⟨rfl, h1, h2⟩
  have H1 := Lib.hid h1
  have H2 := Lib.hid ((Turn.of_below HB0.out fp).trans h2)
  clear h1 h2
  go_wp2
  go_ret
  exact ⟨rfl, H1.out, H2.out⟩

theorem heldKeymap_any (k : Int) (u : Value) (L : List (List Ac)) (q : Int) (w : World) (hn : L.length ≤ 1048576) (ht : lenS L L.length ≤ 1048576) (hk : 0 ≤ q) (hk' : q ≤ 1000000) (h : LdS w u (mkS q L)) :
    Calls Tryz.prog 139 #[kmv k u, .int .i64 q] w fun e w' => e = .returned (.int .i64 (q + ((lenS L L.length * 4 : Nat) : Int))) ∧ Below w.heap.size w w' := by
  obtain ⟨xa, xc, hu⟩ := RdS.shape h
  rw [show (mkS q L).length = L.length from mkP_len _ _ _] at hu
  subst hu
  have HR := Lib.hid h
  have HN := Lib.hid hn
  have HT := Lib.hid ht
  obtain ⟨p, hp⟩ : ∃ p : Int, p = q + ((lenS L L.length * 4 : Nat) : Int) := ⟨_, rfl⟩
  have hp0 : ¬ p < 0 := by omega
  rw [← hp]
  have HP := Lib.hid hp
  clear h hn ht hp
  obtain ⟨W, hW⟩ : ∃ W, W = w.alloc (.cells #[.int .i64 k, .slice xa L.length xc] 26) := ⟨_, rfl⟩
  have HX0 := Lib.hid (show Bxd W w.heap.size [.int .i64 k, .slice xa L.length xc] by rw [hW]; exact Bxd.new _ _ _)
  have HB0 := Lib.hid (show Below w.heap.size w W by rw [hW]; exact (Below.refl _ _).alloc (Nat.le_refl _) _)
  have HS0 := Lib.hid (show w.heap.size < W.heap.size by rw [hW]; simp)
  have HW := Lib.hid hW
  clear hW
  go_enter Tryz.func139, Tryz.ntmps139
  go_wp2_with fail
  rw [← HW.out]
  refine (heldActionSS_any _ L q W HN.out HT.out hk hk' (HR.out.below HB0.out)).mono ?_
  rw [← HP.out]
  rintro e w1 ⟨rfl, rfl⟩
  go_wp2
  go_ret
  exact ⟨rfl, HB0.out⟩
end Go.Proofs.YtjfckchoklepbaaGreat

namespace Go.Proofs.YtjfckchoklepbaaGreat
open Go.RowKit

/-- An action may stand in layer i of n layers. -/
def okA (n i : Nat) (a : Ac) : Bool := okAc a.k a.c a.m a.n && (!(decide (a.k = 1) && decide (i = 0)) && !(!decide (a.k = 9) && decide ((n : Int) ≤ a.n)))
def rowN (n i : Nat) (l : List Ac) : Nat → Bool
  | 0 => true
  | k + 1 => rowN n i l k && okA n i (acD l k)
def layOk (keys : Int) (L : List (List Ac)) (j : Nat) : Bool := decide (((lD L j).length : Int) = keys) && rowN L.length j (lD L j) (lD L j).length
def layN (keys : Int) (L : List (List Ac)) : Nat → Bool
  | 0 => true
  | j + 1 => layN keys L j && layOk keys L j
def okKm (keys : Int) (L : List (List Ac)) : Bool := layN keys L L.length && (inB keys 1 32 && inB L.length 1 4)
theorem rowN_no {n i : Nat} {l : List Ac} {k : Nat} (h : okA n i (acD l k) = false) : ∀ m, k < m → rowN n i l m = false
  | 0, hm => absurd hm (Nat.not_lt_zero _)
  | m + 1, hm => by
    rcases Nat.lt_or_ge k m with h2 | h2
    · rw [rowN, rowN_no h m h2, Bool.false_and]
    · obtain rfl : k = m := by omega
      rw [rowN, h, Bool.and_false]
theorem layN_no {keys : Int} {L : List (List Ac)} {j : Nat} (h : layOk keys L j = false) : ∀ m, j < m → layN keys L m = false
  | 0, hm => absurd hm (Nat.not_lt_zero _)
  | m + 1, hm => by
    rcases Nat.lt_or_ge j m with h2 | h2
    · rw [layN, layN_no h m h2, Bool.false_and]
    · obtain rfl : j = m := by omega
      rw [layN, h, Bool.and_false]
theorem layN_at {keys : Int} {L : List (List Ac)} : ∀ {m : Nat}, layN keys L m = true → ∀ j, j < m → layOk keys L j = true
  | 0, _, j, hj => absurd hj (Nat.not_lt_zero _)
  | m + 1, h, j, hj => by
    rw [layN, Bool.and_eq_true] at h
    rcases Nat.lt_or_ge j m with h2 | h2
    · exact layN_at h.1 j h2
    · obtain rfl : j = m := by omega
      exact h.2
theorem rowN_at {n i : Nat} {l : List Ac} : ∀ {m : Nat}, rowN n i l m = true → ∀ k, k < m → okA n i (acD l k) = true
  | 0, _, j, hj => absurd hj (Nat.not_lt_zero _)
  | m + 1, h, j, hj => by
    rw [rowN, Bool.and_eq_true] at h
    rcases Nat.lt_or_ge j m with h2 | h2
    · exact rowN_at h.1 j h2
    · obtain rfl : j = m := by omega
      exact h.2
theorem okKm_no {keys : Int} {L : List (List Ac)} {j : Nat} (hj : j < L.length) (h : layOk keys L j = false) : okKm keys L = false := by
  rw [okKm, layN_no h _ hj, Bool.false_and]
theorem okKm_at {keys : Int} {L : List (List Ac)} (h : okKm keys L = true) : (1 ≤ keys ∧ keys ≤ 32) ∧ (1 ≤ L.length ∧ L.length ≤ 4) ∧ ∀ j, j < L.length → ((lD L j).length : Int) = keys ∧ ∀ k, k < (lD L j).length → okA L.length j (acD (lD L j) k) = true := by
  unfold okKm inB at h
  simp only [Bool.and_eq_true, decide_eq_true_eq] at h
  refine ⟨h.2.1, by omega, fun j hj => ?_⟩
  have := layN_at h.1 j hj
  unfold layOk at this
  simp only [Bool.and_eq_true, decide_eq_true_eq] at this
  exact ⟨this.1, fun k hk => rowN_at this.2 k hk⟩
/-- Bit i of a mask is set. -/
def bitOn (on : Int) (i : Nat) : Bool := decide (bits .and .i64 (on / 2 ^ i) 1 = 1)
/-- The greatest layer up to i that is on and does not pass, 0 if there is none. -/
def laD (L : List (List Ac)) (on : Int) (key : Nat) : Nat → Nat
  | 0 => 0
  | i + 1 => if (bitOn on (i + 1) && !decide ((acD (lD L (i + 1)) key).k = 1)) = true then i + 1 else laD L on key i
def laV (keys : Int) (L : List (List Ac)) (on key : Int) : Int := if (okKm keys L && inB key 0 (keys - 1)) = true then (laD L on key.toNat (L.length - 1) : Nat) else -1
theorem laD_pos {L : List (List Ac)} {on : Int} {key k : Nat} (h : 0 < k) : laD L on key k = if (bitOn on k && !decide ((acD (lD L k) key).k = 1)) = true then k else laD L on key (k - 1) := by
  obtain ⟨i, rfl⟩ : ∃ i, k = i + 1 := ⟨k - 1, by omega⟩
  rw [laD, Nat.add_sub_cancel]
theorem laD_le (L : List (List Ac)) (on : Int) (key : Nat) : ∀ k, laD L on key k ≤ k
  | 0 => Nat.le_refl _
  | k + 1 => by rw [laD]; have := laD_le L on key k; split <;> omega
def atV (keys : Int) (L : List (List Ac)) (on key : Int) : Ac := if (okKm keys L && inB key 0 (keys - 1)) = true then acD (lD L (laD L on key.toNat (L.length - 1))) key.toNat else ⟨0, 0, 0, 0⟩

end Go.Proofs.YtjfckchoklepbaaGreat
