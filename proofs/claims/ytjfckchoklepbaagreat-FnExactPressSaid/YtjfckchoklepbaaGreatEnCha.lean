/- DERIVED. The program's slices.CompactFunc on reports that a call owns: of each run of equal reports the first one stays, in the row's own memory. Called with at most 1048576 reports of at most 1048576 codes. · The program's slices.CompactFunc on reports that a call owns: of each run of equal reports the first one stays, in the row's own memory. Called with at most 1048577 reports of at most 1048576 codes. · The program's changesAfter: the reports without those that are the one before them, in memory of their own. Called with at most 1048576 reports of at most 1048576 codes that are owned. -/
import Derived.Test.YtjfckchoklepbaaGreatEnDel
import Derived.Test.YtjfckchoklepbaaGreatEnDef
import Derived.Test.YtjfckchoklepbaaGreatRpImpl
import Derived.Test.YtjfckchoklepbaaGreatRpsLaw
import Derived.Test.YtjfckchoklepbaaGreatEnPr
namespace Go.Proofs.YtjfckchoklepbaaGreat
open Go.RowKit

/-- A report, the slice of its codes, and the blocks that these own. -/
abbrev Tq := Rv × (Value × List Nat)
def tqC (p : Tq) : List Value := [.int .i64 p.1.1, p.2.1]
def flQ (P : List Tq) : List Value := P.flatMap tqC
def pD (P : List Tq) (j : Nat) : Tq := P.getD j ((0, []), (.bool false, []))
theorem flQ_len (P : List Tq) : (flQ P).length = P.length * 2 := by
  induction P with
  | nil => rfl
  | cons p P ih => rw [flQ, List.flatMap_cons, List.length_append, ← flQ, ih, List.length_cons]; simp [tqC]; omega
theorem flQ_app (P Q : List Tq) : flQ (P ++ Q) = flQ P ++ flQ Q := by simp [flQ]
theorem flQ_take (P : List Tq) (k : Nat) (hk : k ≤ P.length) : flQ (P.take k) = (flQ P).take (k * 2) := by
  have h1 : flQ P = flQ (P.take k) ++ flQ (P.drop k) := by rw [← flQ_app, List.take_append_drop]
  have h2 : (flQ (P.take k)).length = k * 2 := by rw [flQ_len, List.length_take]; omega
  rw [h1, ← h2, List.take_left]
theorem flQ_drop (P : List Tq) (k : Nat) (hk : k ≤ P.length) : flQ (P.drop k) = (flQ P).drop (k * 2) := by
  have h1 : flQ P = flQ (P.take k) ++ flQ (P.drop k) := by rw [← flQ_app, List.take_append_drop]
  have h2 : (flQ (P.take k)).length = k * 2 := by rw [flQ_len, List.length_take]; omega
  rw [h1, ← h2, List.drop_left]
theorem flQ_set (P : List Tq) (k : Nat) (p : Tq) (hk : k < P.length) : flQ (P.set k p) = (flQ P).take (k * 2) ++ tqC p ++ (flQ P).drop (k * 2 + (tqC p).length) := by
  have h1 : P.set k p = P.take k ++ (p :: P.drop (k + 1)) := by rw [List.set_eq_take_append_cons_drop, if_pos hk]
  have h3 : k * 2 + (tqC p).length = (k + 1) * 2 := by simp [tqC]; omega
  rw [h1, flQ_app, flQ_take P k (by omega), h3, ← flQ_drop P (k + 1) (by omega), List.append_assoc]
  simp [flQ]
theorem flQ_get : ∀ (P : List Tq) (j : Nat), j < P.length → (flQ P)[j * 2]? = some (.int .i64 (pD P j).1.1) ∧ (flQ P)[j * 2 + 1]? = some (pD P j).2.1
  | [], j, h => absurd h (Nat.not_lt_zero _)
  | p :: P, 0, _ => by simp [flQ, tqC, pD]
  | p :: P, j + 1, h => by
    have ih := flQ_get P j (by simpa using h)
    have e : flQ (p :: P) = tqC p ++ flQ P := by simp [flQ]
    have l2 : (tqC p).length = 2 := rfl
    rw [e, List.getElem?_append_right (by rw [l2]; omega), List.getElem?_append_right (by rw [l2]; omega), l2, show (j + 1) * 2 - 2 = j * 2 by omega, show (j + 1) * 2 + 1 - 2 = j * 2 + 1 by omega]
    exact ih
theorem pD_take (P : List Tq) (j : Nat) (h : j < P.length) : P.take (j + 1) = P.take j ++ [pD P j] := by
  rw [List.take_succ_eq_append_getElem h, pD, List.getD_eq_getElem?_getD, List.getElem?_eq_getElem h]; rfl
theorem pD_mem {P : List Tq} {j : Nat} (h : j < P.length) : pD P j ∈ P := by
  rw [pD, List.getD_eq_getElem?_getD, List.getElem?_eq_getElem h]; exact List.getElem_mem h
theorem pD_set (P : List Tq) (j i : Nat) (p : Tq) (h : j < P.length) : pD (P.set j p) i = if i = j then p else pD P i := by
  unfold pD
  rw [List.getD_eq_getElem?_getD, List.getD_eq_getElem?_getD, List.getElem?_set]
  by_cases e : j = i
  · subst e; simp [h]
  · rw [if_neg e, if_neg (fun h => e h.symm)]
/-- Of each run the first one. -/
def cmT (r : Rv) : List Tq → List Tq
  | [] => []
  | p :: P => if p.1 = r then cmT p.1 P else p :: cmT p.1 P
def cmP : List Tq → List Tq
  | [] => []
  | p :: P => p :: cmT p.1 P
theorem cmT_snoc : ∀ (P : List Tq) (r : Rv) (x : Tq), cmT r (P ++ [x]) = cmT r P ++ (if x.1 = (P.map (·.1)).getLastD r then [] else [x])
  | [], r, x => by simp [cmT]
  | y :: P, r, x => by
    rw [List.cons_append, cmT, cmT, cmT_snoc P y.1 x, List.map_cons, List.getLastD_cons]
    split <;> simp
theorem cmP_next {P : List Tq} {j : Nat} (h : j + 1 < P.length) : cmP (P.take (j + 1 + 1)) = cmP (P.take (j + 1)) ++ (if (pD P (j + 1)).1 = (pD P j).1 then [] else [pD P (j + 1)]) := by
  have hj := pD_take P j (by omega)
  rw [pD_take P (j + 1) h, hj]
  rcases P with _ | ⟨p, P⟩
  · simp at h
  · rcases j with _ | j
    · simp [cmP, cmT, pD]
    · rw [List.take_succ_cons, List.cons_append, List.cons_append, cmP, cmP, cmT_snoc (List.take j P ++ [pD (p :: P) (j + 1)])]
      simp
theorem cmT_len : ∀ (P : List Tq) (r : Rv), (cmT r P).length ≤ P.length
  | [], r => by simp [cmT]
  | y :: P, r => by
    rw [cmT]
    have := cmT_len P y.1
    split <;> simp <;> omega
theorem cmP_len (P : List Tq) : (cmP P).length ≤ P.length := by
  cases P with
  | nil => exact Nat.le_refl _
  | cons p P => simp [cmP]; exact cmT_len P p.1
theorem cmP_pos {P : List Tq} (h : 0 < P.length) : 0 < (cmP P).length := by
  cases P with
  | nil => exact absurd h (Nat.lt_irrefl _)
  | cons p P => simp [cmP]
theorem cmT_chg : ∀ (P : List Tq) (r : Rv), (cmT r P).map (·.1) = chgV r (P.map (·.1))
  | [], r => rfl
  | y :: P, r => by
    rw [cmT, List.map_cons, chgV]
    split
    · exact cmT_chg P y.1
    · rw [List.map_cons, cmT_chg P y.1]
theorem cmT_sub : ∀ (P : List Tq) (r : Rv), List.Sublist (cmT r P) P
  | [], r => List.Sublist.slnil
  | y :: P, r => by
    rw [cmT]
    split
    · exact (cmT_sub P y.1).cons _
    · exact (cmT_sub P y.1).cons_cons _
/-- Nothing is equal to what is ahead of it: all stays. -/
theorem cmP_all {P : List Tq} : ∀ j, j ≤ P.length → (∀ i, 0 < i → i < j → (pD P i).1 ≠ (pD P (i - 1)).1) → cmP (P.take j) = P.take j
  | 0, _, _ => by simp [cmP]
  | 1, h, _ => by
    rcases P with _ | ⟨p, P⟩
    · simp at h
    · simp [cmP, cmT]
  | j + 1 + 1, h, hne => by
    rw [cmP_next (by omega), cmP_all (j + 1) (by omega) (fun i h0 hi => hne i h0 (by omega)), if_neg (show ¬ (pD P (j + 1)).1 = (pD P j).1 from hne (j + 1) (by omega) (by omega)), pD_take P (j + 1) (by omega)]

theorem setCells_putW (b : Nat) : ∀ (vs : List Value) (o : Nat) (w : World), w.setCells b o vs = putW w b o vs
  | [], _, _ => rfl
  | _ :: vs, o, _ => setCells_putW b vs (o + 1) _
theorem owns_beyondW {B T c g n cap : Nat} {xs : List Value} : ∀ (vs : List Value) (o : Nat) (w : World), w.ownsRow B T c (.slice (some ⟨g, 0, none⟩) n cap) n xs → n * c ≤ o → (putW w g o vs).ownsRow B T c (.slice (some ⟨g, 0, none⟩) n cap) n xs
  | [], _, _, h, _ => h
  | v :: vs, o, w, h, ho => owns_beyondW vs (o + 1) _ (owns_beyond v h ho) (by omega)
theorem run_clear_many (P : Program) (w : World) (t e ty : TypeId) (z : Value) (vs : List Value) (n : Nat) (hn : 0 < n) (ht : P.underlying t = some (.slice e)) (hv : ∀ w, (zeroValue e).run P w = .ok z w) (hz : (Builtin.zeroCells z.cells n).toList = vs) (h1 : ∀ v ∈ vs, v.oneCell' = true) (b o c : Nat)
    (hc : ∀ j, j < vs.length → (w.cell? ⟨b, o + j, none⟩).isSome = true) (hf : ∀ j, j < vs.length → w.frozen? ⟨b, o + j, none⟩ = false) :
    (Builtin.clear_ #[t] ty #[.slice (some ⟨b, o, none⟩) n c]).run P w = .ok (.tuple #[]) (w.setCells b o vs) := by
  have hst := run_storeCells_cells (P := P) b o vs 0 w (by simpa using hc) (by simpa using hf) h1
  simp only [Nat.add_zero] at hst
  obtain ⟨m, rfl⟩ : ∃ m, n = m + 1 := ⟨n - 1, by omega⟩
  simp [Builtin.clear_, run_underlying ht, hv, hz, hst]
theorem zeroRp (v : World) : (zeroValue 47).run Tryz.prog v = .ok (.agg #[.int .i64 0, .slice none 0 0]) v := by simp [go_sem]
theorem zerosR (n : Nat) : (Builtin.zeroCells (Value.agg #[.int .i64 0, .slice none 0 0]).cells n).toList.length = n * 2 ∧ ∀ v ∈ (Builtin.zeroCells (Value.agg #[.int .i64 0, .slice none 0 0]).cells n).toList, v.oneCell' = true := by
  constructor
  · simp [Builtin.zeroCells, Value.cells]
  · intro v hv
    simp only [Builtin.zeroCells, Value.cells, Array.toList_map, List.mem_map] at hv
    obtain ⟨i, -, rfl⟩ := hv
    rcases Nat.mod_two_eq_zero_or_one i with h | h <;> simp [h, Value.oneCell']
end Go.Proofs.YtjfckchoklepbaaGreat

namespace Go.Proofs.YtjfckchoklepbaaGreat
open Go.RowKit

theorem takeMid {α : Type} (A D : List α) (x : α) : (A ++ x :: D).take (A.length + 1) = A ++ [x] := by
  rw [List.take_append, List.take_of_length_le (by omega), show A.length + 1 - A.length = 1 by omega]; rfl
theorem tq_at {w : World} {B g cap n : Nat} {P : List Tq} (h : w.ownsRow B 47 2 (.slice (some ⟨g, 0, none⟩) n cap) n (flQ P)) (hn : P.length = n) {j : Nat} (hj : j < n) :
    w.cell? ⟨g, j * 2, none⟩ = some (.int .i64 (pD P j).1.1) ∧ w.cell? ⟨g, j * 2 + 1, none⟩ = some (pD P j).2.1 := by
  have hg := flQ_get P j (by omega)
  have hl := flQ_len P
  exact ⟨by rw [h.cellAt (j * 2) (by omega), hg.1], by rw [h.cellAt (j * 2 + 1) (by omega), hg.2]⟩
theorem owns_shrink {w : World} {B T c g n m cap : Nat} {xs : List Value} (h : w.ownsRow B T c (.slice (some ⟨g, 0, none⟩) n cap) n xs) (hm : m ≤ n) : w.ownsRow B T c (.slice (some ⟨g, 0, none⟩) m cap) m (xs.take (m * c)) := by
  have hle : m * c ≤ n * c := Nat.mul_le_mul_right _ hm
  refine ⟨by rw [List.length_take, h.1]; omega, ?_⟩
  rcases h.2 with ⟨e, _⟩ | ⟨g', cap', cur, hv, hg, hh, h1, h2, h3, h4⟩
  · simp at e
  · simp only [Value.slice.injEq, Option.some.injEq, Addr.mk.injEq] at hv
    obtain ⟨⟨rfl, _⟩, _, rfl⟩ := hv
    exact .inr ⟨g, cap, cur, rfl, hg, hh, by omega, h2, h3, by rw [← h4, List.take_take, Nat.min_eq_left hle]⟩

set_option maxRecDepth 100000 in
set_option maxHeartbeats 16000000 in
theorem compact_any (B g cap n : Nat) (P : List Tq) (w : World) (hn : P.length = n) (h0 : 0 < n) (hl : n ≤ 1048577) (hz : ∀ p ∈ P, p.1.2.length ≤ 1048576)
    (ho : w.ownsRow B 47 2 (.slice (some ⟨g, 0, none⟩) n cap) n (flQ P))
    (hR : ∀ W', Turn w W' [g] → ∀ p ∈ P, Rd W' p.2.1 (p.1.2.map (.int .i64))) :
    Calls Tryz.prog 212 #[.slice (some ⟨g, 0, none⟩) n cap, .func (.func 24) #[] #[]] w fun e w' => e = .returned (.slice (some ⟨g, 0, none⟩) (cmP P).length cap) ∧
      w'.ownsRow B 47 2 (.slice (some ⟨g, 0, none⟩) (cmP P).length cap) (cmP P).length (flQ (cmP P)) ∧ Turn w w' [g] := by
  obtain ⟨C, hC⟩ : ∃ C, C = cmP P := ⟨_, rfl⟩
  rw [← hC]
  have HC := Lib.hid hC
  have hcap : n ≤ cap ∧ cap ≤ maxLen := by
    rcases ho.2 with ⟨e, _⟩ | ⟨g', cap', cur, e, _, _, h2, h3, _⟩
    · simp at e
    · simp only [Value.slice.injEq] at e
      obtain ⟨_, _, rfl⟩ := e
      exact ⟨h2, h3⟩
  obtain ⟨hcn, hcm⟩ := hcap
  unfold maxLen at hcm
  have HN := Lib.hid hn
  have HZ := Lib.hid hz
  have HO := Lib.hid ho
  have HR := Lib.hid hR
  clear hC hn hz ho hR
  go_enter Tryz.func212, Tryz.ntmps212
  by_cases h2 : n < 2
  · obtain rfl : n = 1 := by omega
    have HC1 := Lib.hid (show C = P by
      rw [HC.out]
      have := cmP_all (P := P) 1 (by rw [HN.out]; exact Nat.le_refl _) (fun i h0 h1 => by omega)
      rw [← HN.out, List.take_length] at this
      exact this)
    go_wp2
    go_ret
    rw [HC1.out, HN.out]
    exact ⟨rfl, HO.out, Turn.refl _ _⟩
  · have hlt2 : ¬ (n : Int) < 2 := by omega
    go_wp2
    go_loopw [5] (fun k wr => ∃ j : Nat, 1 ≤ j ∧ j ≤ n ∧ k = .int .i64 j ∧ (∀ i, 0 < i → i < j → (pD P i).1 ≠ (pD P (i - 1)).1) ∧ Below w.heap.size w wr) (fun k _ => n - (intOf k).toNat)
    case atStart => exact ⟨1, Nat.le_refl _, by omega, rfl, fun i h0 h1 => by omega, Below.refl _ _⟩
    case round =>
      obtain ⟨j, hj1, hj, rfl, hne, hb⟩ := hrel
      by_cases hlt : j < n
      · obtain ⟨i, hi⟩ : ∃ i, i = j - 1 := ⟨_, rfl⟩
        have hji : (j : Int) - 1 = (i : Int) := by omega
        have hwr : IntKind.i64.wrap ((j : Int) - 1) = (i : Int) := by rw [hji]; exact IntWalk.i64_in _ ⟨by omega, by omega⟩
        have hw3 : IntKind.i64.wrap (((j - 1 : Nat)) : Int) = (i : Int) := by rw [← hi]; exact IntWalk.i64_in _ ⟨by omega, by omega⟩
        have hw4 : IntKind.i64.wrap (i : Int) = (i : Int) := IntWalk.i64_in _ ⟨by omega, by omega⟩
        have hin : i < n := by omega
        have howr := owns_below HO.out hb
        obtain ⟨d0, d1⟩ := tq_at howr HN.out hlt
        obtain ⟨e0, e1⟩ := tq_at howr HN.out hin
        have hra := HR.out _ (Turn.of_below hb _) _ (pD_mem (P := P) (j := j) (by rw [HN.out]; exact hlt))
        have hrb := HR.out _ (Turn.of_below hb _) _ (pD_mem (P := P) (j := i) (by rw [HN.out]; exact hin))
        have hza := HZ.out _ (pD_mem (P := P) (j := j) (by rw [HN.out]; exact hlt))
        have hnx : (pD P j).1 ≠ (pD P i).1 → ∀ q, 0 < q → q < j + 1 → (pD P q).1 ≠ (pD P (q - 1)).1 := fun h0 q hq0 hq => by
          rcases Nat.lt_or_ge q j with h3 | h3
          · exact hne q hq0 h3
          · obtain rfl : q = j := by omega
            rw [← hi]; exact h0
        have hst : (pD P j).1 = (pD P i).1 → cmP (P.take (j + 1)) = P.take j := fun h0 => by
          obtain rfl : j = i + 1 := by omega
          rw [cmP_next (by rw [HN.out]; exact hlt), cmP_all (i + 1) (by rw [HN.out]; omega) hne, if_pos h0, List.append_nil]
        obtain ⟨⟨⟨ma, za⟩, ⟨ua, fa⟩⟩, hA⟩ : ∃ x, x = pD P j := ⟨_, rfl⟩
        obtain ⟨⟨⟨mb, zb⟩, ⟨ub, fb⟩⟩, hBb⟩ : ∃ x, x = pD P i := ⟨_, rfl⟩
        rw [← hA] at d0 d1 hra hza hnx hst
        rw [← hBb] at e0 e1 hrb hnx hst
        simp only at d0 d1 hra hza hnx hst e0 e1 hrb
        obtain ⟨pa, qa, rfl⟩ := ints_shape hra
        obtain ⟨pb, qb, rfl⟩ := ints_shape hrb
        obtain ⟨s, hs⟩ : ∃ s, s = sameRp ma za mb zb := ⟨_, rfl⟩
        have HS := Lib.hid hs
        have HRa := Lib.hid hra
        have HRb := Lib.hid hrb
        have HZa := Lib.hid (show za.length ≤ maxLen by unfold maxLen; omega)
        have HNx := Lib.hid hnx
        have HSt := Lib.hid hst
        have HB := Lib.hid hb
        clear hA hBb hra hrb hza hnx hst hs hb hne howr hi
        go_upto_region 6 with (fail)
        go_cut [28] (fun sd wx => sd = .bool s ∧ Below wr.heap.size wr wx)
        case first =>
          go_region_law (first
            | (go_simp; go_at_call 24; refine (implSameReport_any ma (.slice pa za.length qa) za mb (.slice pb zb.length qb) zb _ HZa.out (HRa.out.below (by first | exact Below.refl _ _ | exact (Below.refl _ _).drew | exact (Below.refl _ _).drew.drew)) (HRb.out.below (by first | exact Below.refl _ _ | exact (Below.refl _ _).drew | exact (Below.refl _ _).drew.drew))).mono ?_; rw [← HS.out]; rintro e w1 ⟨rfl, hb1⟩; have HBc := Lib.hid (show Below wr.heap.size wr w1 from below_via (by first | exact Below.refl _ _ | exact (Below.refl _ _).drew | exact (Below.refl _ _).drew.drew) hb1); clear hb1))
          all_goals
            go_wp2
            go_meet
            exact ⟨rfl, by first | exact HBc.out | exact HBc.out.drew⟩
        case rest =>
          obtain ⟨rfl, hb1⟩ := hcut
          have HB1 := Lib.hid (HB.out.trans (hb1.mono HB.out.size))
          clear hb1
          clear d0 d1 e0 e1 hw3 hw4 hwr hji
          cases s
          · have hne2 := Lib.hid (HNx.out (fun e => by
              have h1 := HS.out
              injection e with e1 e2
              rw [sameRp, e1, e2] at h1
              simp at h1))
            go_wp2
            go_roundw
            case rel => exact ⟨j + 1, by omega, by omega, by go_num, hne2.out, HB1.out⟩
            case measure => simp [intOf]; omega
          · have he : (ma, za) = (mb, zb) := by
              have := HS.out
              unfold sameRp at this
              obtain ⟨h1, h2⟩ := of_decide_eq_true this.symm
              rw [h1, h2]
            have HSj := Lib.hid (HSt.out he)
            obtain ⟨r, hr⟩ : ∃ r, r = n - j := ⟨_, rfl⟩
            have hnr : n - j = r := hr.symm
            have hr0 : 0 < r := by omega
            have hjn : (j : Int) ≤ (n : Int) := by omega
            have hjc : (j : Int) ≤ (cap : Int) := by omega
            have hnc : (n : Int) ≤ (cap : Int) := by omega
            have HRn := Lib.hid (show j + r = n by omega)
            clear he hr
            have howr := Lib.hid (owns_below HO.out HB1.out)
            go_wp2
            go_loopw [5, 7] (fun kv qv wr => ∃ (q c : Nat) (X : List Tq), 1 ≤ q ∧ q ≤ r ∧ qv = .int .i64 q ∧ kv = .int .i64 c ∧ c = (cmP (P.take (j + q))).length ∧ c + 1 ≤ j + q ∧ X.length = n ∧ X.take c = cmP (P.take (j + q)) ∧ (∀ i, j + q ≤ i + 1 → i < n → pD X i = pD P i) ∧ wr.ownsRow B 47 2 (.slice (some ⟨g, 0, none⟩) n cap) n (flQ X) ∧ Turn w wr [g]) (fun _ qv _ => r - (intOf qv).toNat)
            case atStart => exact ⟨1, j, P, Nat.le_refl _, hr0, rfl, rfl, by rw [HSj.out, List.length_take, HN.out]; omega, Nat.le_refl _, HN.out, HSj.out.symm, fun i _ _ => rfl, howr.out, Turn.of_below HB1.out _⟩
            case round =>
              obtain ⟨q, c, X, hq1, hqr, rfl, rfl, hcl, hc1, hXl, hXt, hXs, hox, htw⟩ := hrel
              by_cases hlt3 : q < r
              · obtain ⟨p, hp⟩ : ∃ p, p = q - 1 := ⟨_, rfl⟩
                have hw3 : IntKind.i64.wrap (((q - 1 : Nat)) : Int) = (p : Int) := by rw [← hp]; exact IntWalk.i64_in _ ⟨by omega, by omega⟩
                have hw4 : IntKind.i64.wrap (p : Int) = (p : Int) := IntWalk.i64_in _ ⟨by omega, by omega⟩
                have hpi : (q : Int) - 1 = (p : Int) := by omega
                have hjr := HRn.out
                have hqn : j + q < n := by omega
                have hpn : j + p < n := by omega
                have hpr : p < r := by omega
                obtain ⟨d0, d1⟩ := tq_at hox hXl hqn
                obtain ⟨e0, e1⟩ := tq_at hox hXl hpn
                rw [hXs (j + q) (by omega) hqn, show (j + q) * 2 = j * 2 + q * 2 by omega] at d0 d1
                rw [hXs (j + p) (by omega) hpn, show (j + p) * 2 = j * 2 + p * 2 by omega] at e0 e1
                have hra := HR.out _ htw _ (pD_mem (P := P) (j := j + q) (by rw [HN.out]; exact hqn))
                have hrb := HR.out _ htw _ (pD_mem (P := P) (j := j + p) (by rw [HN.out]; exact hpn))
                have hza := HZ.out _ (pD_mem (P := P) (j := j + q) (by rw [HN.out]; exact hqn))
                have hnx : cmP (P.take (j + q + 1)) = cmP (P.take (j + q)) ++ (if (pD P (j + q)).1 = (pD P (j + p)).1 then [] else [pD P (j + q)]) := by
                  have h0 := cmP_next (P := P) (j := j + p) (by rw [HN.out]; omega)
                  rw [show j + p + 1 = j + q by omega] at h0
                  exact h0
                obtain ⟨A, hA⟩ : ∃ x, x = pD P (j + q) := ⟨_, rfl⟩
                have HA := Lib.hid hA
                rw [← hA] at d0 d1 hra hza hnx
                obtain ⟨⟨⟨mc, zc⟩, ⟨uc, fc⟩⟩, hBb⟩ : ∃ x, x = pD P (j + p) := ⟨_, rfl⟩
                rw [← hBb] at e0 e1 hrb hnx
                obtain ⟨⟨md, zd⟩, ⟨ud, fd⟩⟩ := A
                simp only at d0 d1 hra hza hnx e0 e1 hrb
                obtain ⟨pc, qc, rfl⟩ := ints_shape hrb
                obtain ⟨pd, qd, rfl⟩ := ints_shape hra
                obtain ⟨s, hs⟩ : ∃ s, s = sameRp md zd mc zc := ⟨_, rfl⟩
                have HS2 := Lib.hid hs
                have HRc := Lib.hid hra
                have HRd := Lib.hid hrb
                have HZd := Lib.hid (show zd.length ≤ maxLen by unfold maxLen; omega)
                have HNx2 := Lib.hid hnx
                have HOx := Lib.hid hox
                have HTw := Lib.hid htw
                have HXt := Lib.hid hXt
                have HXs := Lib.hid hXs
                have HXl := Lib.hid hXl
                have HCl := Lib.hid hcl
                clear hA hBb hra hrb hza hnx hs hox htw hXt hXs hXl hcl hp
                go_upto_region 11 with (fail)
                go_cut [49] (fun sd wx => sd = .bool (!s) ∧ Below wr.heap.size wr wx)
                case first =>
                  go_region_law (first
                    | (go_simp; go_at_call 24; refine (implSameReport_any md (.slice pd zd.length qd) zd mc (.slice pc zc.length qc) zc _ HZd.out (HRc.out.below (by first | exact Below.refl _ _ | exact (Below.refl _ _).drew | exact (Below.refl _ _).drew.drew)) (HRd.out.below (by first | exact Below.refl _ _ | exact (Below.refl _ _).drew | exact (Below.refl _ _).drew.drew))).mono ?_; rw [← HS2.out]; rintro e w2 ⟨rfl, hb2⟩; have HBc := Lib.hid (show Below wr.heap.size wr w2 from below_via (by first | exact Below.refl _ _ | exact (Below.refl _ _).drew | exact (Below.refl _ _).drew.drew) hb2); clear hb2))
                  all_goals
                    go_wp2
                    go_meet
                    exact ⟨rfl, by first | exact HBc.out | exact HBc.out.drew⟩
                case rest =>
                  obtain ⟨rfl, hb2⟩ := hcut
                  have HB2 := Lib.hid hb2
                  clear hb2
                  have HO2 := Lib.hid (owns_below HOx.out HB2.out)
                  have HT2 := Lib.hid (HTw.out.trans (Turn.of_below HB2.out _))
                  clear d0 d1 e0 e1 hw3 hw4 hpi
                  cases s
                  · have hne2 : ¬ ((md, zd) : Rv) = (mc, zc) := fun e => by
                      have h1 := HS2.out
                      injection e with e1 e2
                      rw [sameRp, e1, e2] at h1
                      simp at h1
                    have HNy := Lib.hid (show cmP (P.take (j + q + 1)) = cmP (P.take (j + q)) ++ [((md, zd), (.slice pd zd.length qd, fd))] by rw [HNx2.out, if_neg hne2])
                    obtain ⟨d0, d1⟩ := tq_at HO2.out HXl.out hqn
                    rw [HXs.out (j + q) (by omega) hqn, ← HA.out, show (j + q) * 2 = j * 2 + q * 2 by omega] at d0 d1
                    simp only at d0 d1
                    have hcn' : c < n := by omega
                    obtain ⟨t0, t1⟩ := tq_at HO2.out HXl.out hcn'
                    have f0 := HO2.out.frozenAt (c * 2)
                    have f1 := HO2.out.frozenAt (c * 2 + 1)
                    clear hne2
                    have hP : (putW wc g (c * 2) (tqC ((md, zd), (.slice pd zd.length qd, fd)))).ownsRow B 47 2 (.slice (some ⟨g, 0, none⟩) n cap) n (flQ (X.set c ((md, zd), (.slice pd zd.length qd, fd)))) := by
                      rw [flQ_set X c _ (by rw [HXl.out]; exact hcn')]
                      exact owns_put HO2.out (c * 2) _ (by rw [flQ_len, HXl.out]; simp [tqC]; omega)
                    have hTP : Turn w (putW wc g (c * 2) (tqC ((md, zd), (.slice pd zd.length qd, fd)))) [g] := HT2.out.trans (Turn.of_grown (putW_grown _ _ _))
                    have hXt2 : (X.set c ((md, zd), (.slice pd zd.length qd, fd))).take (c + 1) = cmP (P.take (j + q + 1)) := by
                      rw [HNy.out, ← HXt.out, List.set_eq_take_append_cons_drop, if_pos (by rw [HXl.out]; exact hcn')]
                      have hlt : (X.take c).length = c := by rw [List.length_take, HXl.out]; omega
                      have : (X.take c ++ ((md, zd), (Value.slice pd zd.length qd, fd)) :: X.drop (c + 1)).take ((X.take c).length + 1) = X.take c ++ [((md, zd), (Value.slice pd zd.length qd, fd))]  := takeMid _ _ _
                      rw [hlt] at this
                      exact this
                    have hXs2 : ∀ i, j + q ≤ i → i < n → pD (X.set c ((md, zd), (.slice pd zd.length qd, fd))) i = pD P i := fun i h1 h2 => by
                      rw [pD_set X c i _ (by rw [HXl.out]; exact hcn'), if_neg (by omega), HXs.out i (by omega) h2]
                    have hcl2 : c + 1 = (cmP (P.take (j + q + 1))).length := by rw [HNy.out, List.length_append, ← HCl.out]; rfl
                    have HP := Lib.hid hP
                    have HTP := Lib.hid hTP
                    have HX2 := Lib.hid hXt2
                    have HX3 := Lib.hid hXs2
                    have HC2 := Lib.hid hcl2
                    clear hP hTP hXt2 hXs2 hcl2
                    go_wp2
                    clear d0 d1 t0 t1 f0 f1
                    go_roundw
                    case rel => exact ⟨q + 1, c + 1, X.set c ((md, zd), (.slice pd zd.length qd, fd)), by omega, by omega, by go_num, by go_num, by rw [← Nat.add_assoc]; exact HC2.out, by omega, by rw [List.length_set]; exact HXl.out, by rw [← Nat.add_assoc]; exact HX2.out, fun i h1 h2 => HX3.out i (by omega) h2, HP.out, HTP.out⟩
                    case measure => simp [intOf]; omega
                  · have he : ((md, zd) : Rv) = (mc, zc) := by
                      have := HS2.out
                      unfold sameRp at this
                      obtain ⟨h1, h2⟩ := of_decide_eq_true this.symm
                      rw [h1, h2]
                    have HNy := Lib.hid (show cmP (P.take (j + q + 1)) = cmP (P.take (j + q)) by rw [HNx2.out, if_pos he, List.append_nil])
                    clear he
                    go_wp2
                    go_roundw
                    case rel => exact ⟨q + 1, c, X, by omega, by omega, by go_num, rfl, by rw [← Nat.add_assoc, HNy.out]; exact HCl.out, by omega, HXl.out, by rw [← Nat.add_assoc, HNy.out]; exact HXt.out, fun i h1 h2 => HXs.out i (by omega) h2, HO2.out, HT2.out⟩
                    case measure => simp [intOf]; omega
              · obtain rfl : q = r := by omega
                have hjr := HRn.out
                rw [hjr, ← HN.out, List.take_length, ← HC.out] at hXt hcl
                have hcn' : c < n := by omega
                have hsh := owns_shrink hox (Nat.le_of_lt hcn')
                rw [← flQ_take X c (by omega), hXt] at hsh
                obtain ⟨zs, hzs⟩ : ∃ zs, zs = (Builtin.zeroCells (Value.agg #[.int .i64 0, .slice none 0 0]).cells (n - c)).toList := ⟨_, rfl⟩
                obtain ⟨hz1, hz2⟩ := zerosR (n - c)
                rw [← hzs] at hz1 hz2
                have hpl : ∀ jj, jj < zs.length → (wr.cell? ⟨g, c * 2 + jj, none⟩).isSome = true ∧ wr.frozen? ⟨g, c * 2 + jj, none⟩ = false := fun jj h => owns_place hox _ (by omega)
                have hcl1 : ∀ ty cc, (Builtin.clear_ #[34] ty #[.slice (some ⟨g, c * 2, none⟩) (n - c) cc]).run Tryz.prog wr = .ok (.tuple #[]) (wr.setCells g (c * 2) zs) := fun ty cc => run_clear_many _ wr _ _ ty _ zs (n - c) (by omega) Tryz.underlying34 zeroRp hzs.symm hz2 g (c * 2) cc (fun jj h => (hpl jj h).1) (fun jj h => (hpl jj h).2)
                have hfin := owns_beyondW zs (c * 2) wr hsh (Nat.le_refl _)
                rw [← setCells_putW] at hfin
                have htf : Turn w (wr.setCells g (c * 2) zs) [g] := by rw [setCells_putW]; exact htw.trans (Turn.of_grown (putW_grown _ _ _))
                have HF := Lib.hid hfin
                have HTF := Lib.hid htf
                have HCl := Lib.hid hcl
                have hcc : (c : Int) ≤ (cap : Int) := by omega
                have hcn2 : (c : Int) ≤ (n : Int) := by omega
                clear hzs hz1 hz2 hpl hfin htf hsh hcl hXt hXs hox htw hXl
                go_wp2
                go_ret
                rw [← HCl.out]
                exact ⟨rfl, HF.out, HTF.out⟩
      · obtain rfl : j = n := by omega
        have HCP := Lib.hid (show C = P by
          rw [HC.out]
          have := cmP_all (P := P) j (by rw [HN.out]; exact Nat.le_refl _) hne
          rw [← HN.out, List.take_length] at this
          exact this)
        have HB := Lib.hid hb
        clear hne hb
        go_wp2
        go_ret
        rw [HCP.out, HN.out]
        exact ⟨rfl, owns_below HO.out HB.out, Turn.of_below HB.out _⟩
end Go.Proofs.YtjfckchoklepbaaGreat

namespace Go.Proofs.YtjfckchoklepbaaGreat
open Go.RowKit

/-- Reports with their slices and blocks, one by one. -/
def tqs (L : List Rv) (us : List Value) (fps : List (List Nat)) : List Tq := (List.range L.length).map fun j => (qD L j, (uD us j, fD fps j))
theorem tqs_len (L : List Rv) (us : List Value) (fps : List (List Nat)) : (tqs L us fps).length = L.length := by simp [tqs]
theorem tqs_cons (r : Rv) (L : List Rv) (u : Value) (us : List Value) (f : List Nat) (fps : List (List Nat)) : tqs (r :: L) (u :: us) (f :: fps) = (r, (u, f)) :: tqs L us fps := by
  simp only [tqs, List.length_cons, List.range_succ_eq_map, List.map_cons, List.map_map]
  congr 1
theorem tqs_parts : ∀ (L : List Rv) (us : List Value) (fps : List (List Nat)), us.length = L.length → fps.length = L.length →
    (tqs L us fps).map (·.1) = L ∧ (tqs L us fps).map (·.2.2) = fps ∧ flQ (tqs L us fps) = pC rpF L us
  | [], us, fps, hu, hf => by
    have : fps = [] := List.eq_nil_of_length_eq_zero (by simpa using hf)
    subst this
    simp [tqs, flQ, pC]
  | r :: L, [], fps, hu, hf => by simp at hu
  | r :: L, u :: us, [], hu, hf => by simp at hf
  | r :: L, u :: us, f :: fps, hu, hf => by
    obtain ⟨h1, h2, h3⟩ := tqs_parts L us fps (by simpa using hu) (by simpa using hf)
    rw [tqs_cons]
    refine ⟨by rw [List.map_cons, h1], by rw [List.map_cons, h2], ?_⟩
    rw [show flQ ((r, (u, f)) :: tqs L us fps) = tqC (r, (u, f)) ++ flQ (tqs L us fps) by simp [flQ], h3]
    simp [tqC, pC, rpF]
theorem flQ_pC (P : List Tq) : flQ P = pC rpF (P.map (·.1)) (P.map (·.2.1)) := by
  induction P with
  | nil => rfl
  | cons p P ih =>
    rw [show flQ (p :: P) = tqC p ++ flQ P by simp [flQ], ih]
    simp [tqC, pC, rpF]
theorem mem_tqs {L : List Rv} {us : List Value} {fps : List (List Nat)} {p : Tq} (h : p ∈ tqs L us fps) : ∃ j, j < L.length ∧ p = (qD L j, (uD us j, fD fps j)) := by
  simp only [tqs, List.mem_map, List.mem_range] at h
  obtain ⟨j, hj, rfl⟩ := h
  exact ⟨j, hj, rfl⟩
theorem mapD (P : List Tq) (j : Nat) (h : j < P.length) : qD (P.map (·.1)) j = (pD P j).1 ∧ uD (P.map (·.2.1)) j = (pD P j).2.1 ∧ fD (P.map (·.2.2)) j = (pD P j).2.2 := by
  simp only [qD, uD, fD, pD, List.getD_eq_getElem?_getD, List.getElem?_map, List.getElem?_eq_getElem h]
  exact ⟨rfl, rfl, rfl⟩
theorem owns_some {w : World} {B T c n : Nat} {v : Value} {xs : List Value} (h : w.ownsRow B T c v n xs) (hn : 0 < n) : ∃ g cap, v = .slice (some ⟨g, 0, none⟩) n cap ∧ B ≤ g ∧ n ≤ cap ∧ cap ≤ maxLen ∧ g < w.heap.size := by
  rcases h.2 with ⟨_, h0⟩ | ⟨g, cap, cur, rfl, hg, hh, h1, h2, _⟩
  · omega
  · exact ⟨g, cap, rfl, hg, h1, h2, (Array.getElem?_eq_some_iff.mp hh).1⟩
theorem sub_flat {A C : List (List Nat)} (h : List.Sublist A C) : List.Sublist A.flatten C.flatten := by
  induction h with
  | slnil => exact List.Sublist.refl _
  | cons a _ ih => rw [List.flatten_cons]; exact ih.trans (List.sublist_append_right _ _)
  | cons_cons a _ ih => rw [List.flatten_cons, List.flatten_cons]; exact (List.Sublist.refl a).append ih
/-- What stays of owned reports, behind the first element of a row. -/
theorem owZ_tail {w w' : World} {B g cap S : Nat} {L : List Rv} {us : List Value} {fps : List (List Nat)} {D : List Tq} {p0 : Tq} {v : Value} {own : List Value → Prop}
    (h : OwQ rpF w B v own us L fps) (hD : List.Sublist D (tqs L us fps)) (hS : w.heap.size ≤ g) (hb : Below w.heap.size w w') (hBw : B ≤ w.heap.size)
    (hr : w'.ownsRow S 47 2 (.slice (some ⟨g, 0, none⟩) (D.length + 1) cap) (D.length + 1) (flQ (p0 :: D))) (a : Option Addr) (c : Nat) (ha : (D.length = 0 ∧ ∃ o, o ≤ 2 ∧ a = some ⟨g, o, none⟩) ∨ a = some ⟨g, 2, none⟩) :
    ∃ fq, OwZ rpF w' B 1 (.slice a (D.map (·.1)).length c) (D.map (·.1)) fq ∧ ∀ b ∈ fq, b ∈ fps.flatten ∨ w.heap.size ≤ b := by
  obtain ⟨o, ho2, rfl, ho⟩ : ∃ o, o ≤ 2 ∧ a = some ⟨g, o, none⟩ ∧ (D.length = 0 ∨ o = 2) := by
    rcases ha with ⟨h0, o, ho, rfl⟩ | rfl
    · exact ⟨o, ho, rfl, .inl h0⟩
    · exact ⟨2, Nat.le_refl _, rfl, .inr rfl⟩
  have hfs : List.Sublist (D.map (·.2.2)) fps := by
    have := hD.map (·.2.2)
    rw [(tqs_parts L us fps h.ulen h.len).2.1] at this
    exact this
  have hfl : ∀ b ∈ (D.map (·.2.2)).flatten, b ∈ fps.flatten := fun b hb => (sub_flat hfs).subset hb
  have hnd := List.nodup_append.1 h.nd
  refine ⟨[g] ++ (D.map (·.2.2)).flatten, ⟨D.map (·.2.1), D.map (·.2.2), ⟨?_, by simp, by simp, ?_, ?_⟩, by simp [ownFp, Value.ownBlock]⟩, ?_⟩
  · rw [List.length_map, ← flQ_pC]
    refine ⟨by rw [flQ_len], .inr ?_⟩
    rcases hr.2 with ⟨e, _⟩ | ⟨g', cap', cur, e, hg, hh, h1, h2, h3, h4⟩
    · simp at e
    · simp only [Value.slice.injEq, Option.some.injEq, Addr.mk.injEq] at e
      obtain ⟨⟨rfl, _⟩, _, rfl⟩ := e
      have hsz : (D.length + 1) * 2 ≤ cur.size := by rw [h3]; exact Nat.mul_le_mul_right _ h1
      refine ⟨g, o, c, cur, _, rfl, by omega, hh, by rcases ho with h0 | h0 <;> omega, ?_⟩
      rcases ho with h0 | h0
      · rw [h0]
        have : D = [] := List.eq_nil_of_length_eq_zero h0
        subst this; simp [flQ]
      · subst h0
        have e2 : flQ (p0 :: D) = tqC p0 ++ flQ D := by simp [flQ]
        rw [e2] at h4
        have h5 := congrArg (List.drop 2) h4
        rw [List.drop_take, show (tqC p0 ++ flQ D).drop 2 = flQ D by simp [tqC], show (D.length + 1) * 2 - 2 = D.length * (1 + 1) by omega] at h5
        exact h5
  · intro j hj
    have hj' : j < D.length := by simpa using hj
    obtain ⟨m1, m2, m3⟩ := mapD D j hj'
    rw [m1, m2, m3]
    obtain ⟨i, hi, he⟩ := mem_tqs (hD.subset (pD_mem hj'))
    rw [he]
    exact (h.row i hi).turn (Turn.of_below hb []) (fun _ _ hm => by simp at hm)
  · rw [show ownFp (Value.slice (some ⟨g, o, none⟩) (D.map (·.1)).length c) = [g] by simp [ownFp, Value.ownBlock]]
    refine List.nodup_append.2 ⟨by simp, (sub_flat hfs).nodup hnd.2.1, fun x hx y hy e => ?_⟩
    rw [List.mem_singleton] at hx
    subst hx; subst e
    have := (h.rngs x (hfl x hy)).2
    omega
  · intro b hb
    rcases List.mem_append.1 hb with hb | hb
    · rw [List.mem_singleton] at hb; subst hb; exact .inr hS
    · exact .inl (hfl b hb)

set_option maxRecDepth 100000 in
set_option maxHeartbeats 8000000 in
theorem changesAfter_any (m0 : Int) (z0 : List Int) (ua : Option Addr) (uc : Nat) (v : Value) (L : List Rv) (fp : List Nat) (B : Nat) (w : World) (hl : L.length ≤ 1048576) (hrl : ∀ r ∈ L, r.2.length ≤ 1048576) (h0l : z0.length ≤ 1048576) (hBw : B ≤ w.heap.size)
    (h0 : Rd w (.slice ua z0.length uc) (z0.map (.int .i64))) (h : OwZ rpF w B 1 v L fp) :
    Calls Tryz.prog 161 #[rpv m0 (.slice ua z0.length uc), v] w fun e w' => ∃ a c fq, e = .returned (.slice a (chgV (m0, z0) L).length c) ∧ OwZ rpF w' B 1 (.slice a (chgV (m0, z0) L).length c) (chgV (m0, z0) L) fq ∧ (∀ b ∈ fq, b ∈ fp ∨ w.heap.size ≤ b) ∧ Below w.heap.size w w' := by
  obtain ⟨iR, hiR, hR0, hR1, hR2⟩ := info_parts info_rp
  obtain ⟨us, fps, hq, rfl⟩ := h
  have hrd := lowRow_rd hq.own
  obtain ⟨va, vc, rfl⟩ := RdN.shape hrd
  obtain ⟨T, hT⟩ : ∃ T, T = tqs L us fps := ⟨_, rfl⟩
  obtain ⟨t1, t2, t3⟩ := tqs_parts L us fps hq.ulen hq.len
  have t4 := tqs_len L us fps
  rw [← hT] at t1 t2 t3 t4
  obtain ⟨D, hD⟩ : ∃ D, D = cmT (m0, z0) T := ⟨_, rfl⟩
  have hDm : D.map (·.1) = chgV (m0, z0) L := by rw [hD, cmT_chg, t1]
  have hDs : List.Sublist D (tqs L us fps) := by rw [hD, ← hT]; exact cmT_sub _ _
  obtain ⟨n, hn⟩ : ∃ n, n = L.length := ⟨_, rfl⟩
  obtain ⟨p0, hp0⟩ : ∃ p : Tq, p = ((m0, z0), (Value.slice ua z0.length uc, [])) := ⟨_, rfl⟩
  have hC : cmP (p0 :: T) = p0 :: D := by rw [cmP, hp0, hD]
  have hrdT : ∀ W', Below w.heap.size w W' → ∀ p ∈ p0 :: T, Rd W' p.2.1 (p.1.2.map (.int .i64)) := fun W' hb p hp => by
    rcases List.mem_cons.1 hp with rfl | hp
    · rw [hp0]; exact h0.below hb
    · rw [hT] at hp
      obtain ⟨j, hj, rfl⟩ := mem_tqs hp
      exact (owC_rd (hq.row j hj)).below hb
  have hzT : ∀ p ∈ p0 :: T, p.1.2.length ≤ 1048576 := fun p hp => by
    rcases List.mem_cons.1 hp with rfl | hp
    · rw [hp0]; exact h0l
    · have : p.1 ∈ L := by rw [← t1]; exact List.mem_map_of_mem hp
      exact hrl _ this
  have HQ := Lib.hid hq
  have HRdT := Lib.hid hrdT
  have HZT := Lib.hid hzT
  have HDs := Lib.hid hDs
  have HC := Lib.hid hC
  have HP0 := Lib.hid hp0
  have HDm := Lib.hid hDm
  have HT3 := Lib.hid t3
  have HT4 := Lib.hid (show T.length = n by rw [t4, hn])
  have HRd := Lib.hid (show RdN w (.slice va n vc) n (flQ T) by rw [t3, hn]; exact hrd)
  have HFl := Lib.hid (show (flQ T).length = n * 2 by rw [flQ_len, t4, hn])
  have H1 := Lib.hid (show ∀ u ∈ flQ T, u.oneCell' = true from fun u hu => by
    simp only [flQ, List.mem_flatMap] at hu
    obtain ⟨p, hp, hu⟩ := hu
    have := hrdT w (Below.refl _ _) p (List.mem_cons_of_mem _ hp)
    obtain ⟨a, c, e⟩ := ints_shape this
    simp only [tqC, List.mem_cons, List.not_mem_nil, or_false] at hu
    rcases hu with rfl | rfl
    · rfl
    · rw [e]; rfl)
  rw [← hDm, ← hn]
  rw [← hn] at hl
  obtain ⟨nD, hnD⟩ : ∃ m, m = D.length := ⟨_, rfl⟩
  have HND := Lib.hid hnD
  obtain ⟨g, hg⟩ : ∃ g, g = w.heap.size := ⟨_, rfl⟩
  obtain ⟨W0, hW0⟩ : ∃ W, W = w.alloc (.cells #[.int .i64 m0, .slice ua z0.length uc] 47) := ⟨_, rfl⟩
  have hX0 : W0.heap[g]? = some (.cells #[.int .i64 m0, .slice ua z0.length uc] 47 (0, 0)) := by rw [hW0, hg]; exact heap_alloc_new w _
  have hS0 : W0.heap.size = g + 1 := by rw [hW0, hg]; simp
  have HB0 := Lib.hid (show Below w.heap.size w W0 by rw [hW0]; exact below_alloc1 _ _)
  have HW0 := Lib.hid hW0
  have HX0 := Lib.hid hX0
  have HG := Lib.hid hg
  have HS0 := Lib.hid hS0
  have b63 : 1 + n ≤ maxLen := by unfold maxLen; omega
  have b47 : (1 + n) * 32 ≤ 140737488355328 := by omega
  clear hq hrd hT t1 t2 t3 t4 hD hDm hDs hn hp0 hC hrdT hzT hnD hg hW0 hX0 hS0 h0 hrl
  go_enter Tryz.func161, Tryz.ntmps161
  go_upto_region 1 with (fail)
  rw [← HW0.out, ← HG.out]
  obtain ⟨x0, -⟩ := cells_of_heap HX0.out 0 (by simp)
  obtain ⟨x1, -⟩ := cells_of_heap HX0.out 1 (by simp)
  simp only [List.getElem_toArray, List.getElem_cons_zero, List.getElem_cons_succ] at x0 x1
  have HA := Lib.hid (below_alloc1 W0 (.cells #[.int .i64 m0, .slice ua z0.length uc] 47))
  go_wp2_with (at_builtin; refine wpList_append_rd (by rfl) (.tmp 7) (.tmp 8) 34 (by rfl) W0.heap.size 47 iR (.agg #[.int .i64 0, .slice none 0 0]) 2 32 Tryz.underlying34 hiR hR0 hR1 hR2 rfl (by decide) (.slice (some ⟨W0.heap.size, 0, none⟩) 1 1) 1 [.int .i64 m0, .slice ua z0.length uc] (by rfl) (World.ownsRow_lit (e := 47) (size := 2) W0 #[.int .i64 m0, .slice ua z0.length uc] 1 (Nat.le_refl _) (by simp [maxLen]) rfl) (.slice va n vc) n (flQ T) (by rfl) (HRd.out.below (HB0.out.trans (HA.out.mono HB0.out.size))) HFl.out H1.out b63 b47 (by simp) ?_)
  intro v1 w1 hown hgrow
  try simp only [List.cons_append, List.nil_append] at hown
  have e1 : Value.int .i64 m0 :: Value.slice ua z0.length uc :: flQ T = flQ (p0 :: T) := by rw [HP0.out]; simp [flQ, tqC]
  rw [e1] at hown
  obtain ⟨g2, c2, rfl, hg2, hc2, hcm, hg2l⟩ := owns_some hown (by omega)
  have hb1 : Below W0.heap.size W0 w1 := HA.out.grown hgrow (by simp) (fun q hq => by simp [Value.ownBlock] at hq; omega)
  have HB1 := Lib.hid (HB0.out.trans (hb1.mono HB0.out.size))
  have HO1 := Lib.hid hown
  have HG2 := Lib.hid (show w.heap.size ≤ g2 from Nat.le_trans HB0.out.size hg2)
  have hcm2 := hcm
  unfold maxLen at hcm2
  obtain ⟨N, hN⟩ : ∃ N, N = 1 + n := ⟨_, rfl⟩
  rw [← hN] at HO1 hc2 ⊢
  have HNN := Lib.hid hN
  clear hown hgrow e1 hb1 b63 b47 x0 x1 hg2 hg2l hcm hN
  go_wp2_with fail
  refine (compact_any W0.heap.size g2 c2 N (p0 :: T) _ (by rw [List.length_cons, HT4.out, HNN.out]; omega) (by have := HNN.out; omega) (by have := HNN.out; omega) HZT.out HO1.out (fun W' ht => HRdT.out _ (HB1.out.trans (ht.below (fun b hb => by rw [List.mem_singleton] at hb; subst hb; exact HG2.out) HB1.out.size)))).mono ?_
  rw [HC.out]
  rintro e w2 ⟨rfl, ho2, ht2⟩
  have HB2 := Lib.hid (HB1.out.trans (ht2.below (fun b hb => by rw [List.mem_singleton] at hb; subst hb; exact HG2.out) HB1.out.size))
  have HO2 := Lib.hid ho2
  have hle := cmP_len (p0 :: T)
  rw [HC.out] at hle
  have hle2 : nD + 1 ≤ c2 := by
    have h1 := HT4.out
    have h2 := HNN.out
    have h3 := HND.out
    simp only [List.length_cons] at hle
    omega
  rw [show (p0 :: D).length = nD + 1 by rw [List.length_cons, HND.out]]
  clear ho2 ht2 hle
  have k1 : (1 : Int) ≤ (c2 : Int) := by omega
  have k2 : (1 : Int) ≤ ((nD + 1 : Nat) : Int) := by omega
  have k3 : ((nD + 1 : Nat) : Int) ≤ (c2 : Int) := by omega
  by_cases hcl : c2 = 1
  · subst hcl
    obtain rfl : nD = 0 := by omega
    go_wp2
    go_ret
    obtain ⟨fq, h1, h2⟩ := owZ_tail HQ.out HDs.out HG2.out HB2.out hBw (p0 := p0) HO2.out (some ⟨g2, 0, none⟩) 0 (.inl ⟨HND.out.symm, 0, by omega, rfl⟩)
    rw [List.length_map, ← HND.out] at h1 ⊢
    exact ⟨_, _, fq, rfl, h1, fun b hb => by rcases h2 b hb with h | h; exact .inl (List.mem_append_right _ h); exact .inr h, HB2.out⟩
  · have hne : ¬ (1 : Nat) = c2 := fun e => hcl e.symm
    go_wp2
    go_ret
    obtain ⟨fq, h1, h2⟩ := owZ_tail HQ.out HDs.out HG2.out HB2.out hBw (p0 := p0) HO2.out (some ⟨g2, 2, none⟩) (c2 - 1) (.inr rfl)
    rw [List.length_map, ← HND.out] at h1 ⊢
    exact ⟨_, _, fq, rfl, h1, fun b hb => by rcases h2 b hb with h | h; exact .inl (List.mem_append_right _ h); exact .inr h, HB2.out⟩

end Go.Proofs.YtjfckchoklepbaaGreat
