/- DERIVED. Combiners in memory; the laws' own functions on them: the size, a copy, two that are alike, marks. -/
import Derived.Test.YtagmdkblcgnddaaCbLaw
import Derived.Test.YtagmdkblcgnddaaLawBits
namespace Go.Proofs.Ytagmdkblcgnddaa
open Go.RowKit

abbrev cnv (u1 : Value) (t : Int) (u2 : Value) (n k d : Int) (u3 : Value) : Value := .agg #[u1, .int .i64 t, u2, .int .i64 n, .int .i64 k, .int .i64 d, u3]
abbrev Cn.val (c : Cn) (u1 u2 u3 : Value) : Value := cnv u1 c.t u2 c.n c.k c.d u3
abbrev Cn.cells (c : Cn) (u1 u2 u3 : Value) : List Value := [u1, .int .i64 c.t, u2, .int .i64 c.n, .int .i64 c.k, .int .i64 c.d, u3]
/-- The slices u1, u2, u3 read as a combiner's. -/
structure RdCn (w : World) (c : Cn) (u1 u2 u3 : Value) : Prop where
  cs : RdN w u1 c.C.length (flatCb c.C)
  qs : RdN w u2 c.Q.length (flatEv c.Q)
  av : RdN w u3 c.A.length (flatAv c.A)
theorem RdCn.below {w w' : World} {c : Cn} {u1 u2 u3 : Value} (h : RdCn w c u1 u2 u3) (hb : Below w.heap.size w w') : RdCn w' c u1 u2 u3 :=
  ⟨h.cs.below hb, h.qs.below hb, h.av.below hb⟩
/-- The slices u1, u2, u3 own a combiner's data, in the blocks fp. -/
def OwCn (w : World) (B : Nat) (c : Cn) (u1 u2 u3 : Value) (fp : List Nat) : Prop :=
  ∃ f1 f2 f3, OwF w B 94 2 u1 c.C.length (flatCb c.C) f1 ∧ OwF w B 36 3 u2 c.Q.length (flatEv c.Q) f2 ∧ OwF w B 97 3 u3 c.A.length (flatAv c.A) f3 ∧ fp = f1 ++ (f2 ++ f3) ∧ fp.Nodup
theorem OwCn.rd {w : World} {B : Nat} {c : Cn} {u1 u2 u3 : Value} {fp : List Nat} (h : OwCn w B c u1 u2 u3 fp) : RdCn w c u1 u2 u3 := by
  obtain ⟨f1, f2, f3, h1, h2, h3, _, _⟩ := h
  exact ⟨h1.rd, h2.rd, h3.rd⟩
theorem OwCn.rng {w : World} {B : Nat} {c : Cn} {u1 u2 u3 : Value} {fp : List Nat} (h : OwCn w B c u1 u2 u3 fp) : ∀ b ∈ fp, B ≤ b ∧ b < w.heap.size := by
  obtain ⟨f1, f2, f3, h1, h2, h3, rfl, _⟩ := h
  intro b hb
  rcases List.mem_append.1 hb with hb | hb
  · exact h1.rng b hb
  · rcases List.mem_append.1 hb with hb | hb
    · exact h2.rng b hb
    · exact h3.rng b hb
theorem OwCn.turn {w w' : World} {B : Nat} {c : Cn} {u1 u2 u3 : Value} {fp f' : List Nat} (h : OwCn w B c u1 u2 u3 fp) (ht : Turn w w' f') (hd : ∀ b ∈ fp, b ∉ f') : OwCn w' B c u1 u2 u3 fp := by
  obtain ⟨f1, f2, f3, h1, h2, h3, rfl, hn⟩ := h
  exact ⟨f1, f2, f3, h1.turn ht (fun b hb => hd b (List.mem_append_left _ hb)), h2.turn ht (fun b hb => hd b (List.mem_append_right _ (List.mem_append_left _ hb))), h3.turn ht (fun b hb => hd b (List.mem_append_right _ (List.mem_append_right _ hb))), rfl, hn⟩
theorem OwCn.below {w w' : World} {B : Nat} {c : Cn} {u1 u2 u3 : Value} {fp : List Nat} (h : OwCn w B c u1 u2 u3 fp) (hb : Below w.heap.size w w') : OwCn w' B c u1 u2 u3 fp :=
  h.turn (Turn.of_below hb []) (fun _ _ hm => by simp at hm)
theorem OwF.up {w : World} {B B' : Nat} {T : TypeId} {k m : Nat} {v : Value} {xs : List Value} {fp : List Nat} (h : OwF w B' T k v m xs fp) (hB : B ≤ B') : OwF w B T k v m xs fp := ⟨owns_base h.1 hB, h.2⟩
theorem OwCn.base {w : World} {B B' : Nat} {c : Cn} {u1 u2 u3 : Value} {fp : List Nat} (h : OwCn w B' c u1 u2 u3 fp) (hB : B ≤ B') : OwCn w B c u1 u2 u3 fp := by
  obtain ⟨f1, f2, f3, h1, h2, h3, rfl, hn⟩ := h
  exact ⟨f1, f2, f3, h1.up hB, h2.up hB, h3.up hB, rfl, hn⟩
theorem OwCn.putAt {w : World} {B y : Nat} {c : Cn} {u1 u2 u3 : Value} {fp : List Nat} (h : OwCn w B c u1 u2 u3 fp) (vs : List Value) (hy : y ∉ fp) (i : Nat) : OwCn (putW w y i vs) B c u1 u2 u3 fp :=
  h.turn (Turn.of_grown (putW_grown vs i w)) (fun x hx hm => by rw [List.mem_singleton] at hm; subst hm; exact hy hx)
theorem OwCn.capC {w : World} {B : Nat} {c : Cn} {u1 u2 u3 : Value} {fp : List Nat} (h : OwCn w B c u1 u2 u3 fp) : CapLe u1 ∧ CapLe u2 ∧ CapLe u3 := by
  obtain ⟨f1, f2, f3, h1, h2, h3, rfl, _⟩ := h
  exact ⟨capLe_of h1.1, capLe_of h2.1, capLe_of h3.1⟩
theorem owF_nodup {w : World} {B : Nat} {T : TypeId} {k m : Nat} {v : Value} {xs : List Value} {fp : List Nat} (h : OwF w B T k v m xs fp) : fp.Nodup := by
  rw [h.2]
  unfold ownFp
  split <;> simp
/-- What the laws ask of a combiner's sizes. -/
structure CnSz (x : Cn) : Prop where
  c : x.C.length ≤ 1048576
  q : x.Q.length ≤ 1048576
  a : x.A.length ≤ 1048576
theorem nodup_three {f1 f2 f3 : List Nat} {a b b' c c' d : Nat} (n1 : f1.Nodup) (n2 : f2.Nodup) (n3 : f3.Nodup) (h1 : ∀ x ∈ f1, a ≤ x ∧ x < b) (h2 : ∀ x ∈ f2, b' ≤ x ∧ x < c) (h3 : ∀ x ∈ f3, c' ≤ x ∧ x < d) (hb : b ≤ b') (hc : c ≤ c') (hbc : b ≤ c') : (f1 ++ (f2 ++ f3)).Nodup := by
  refine List.nodup_append.2 ⟨n1, List.nodup_append.2 ⟨n2, n3, fun x hx y hy e => ?_⟩, fun x hx y hy e => ?_⟩
  · have := h2 x hx; have := h3 y hy; omega
  · rcases List.mem_append.1 hy with hy | hy
    · have := h1 x hx; have := h2 y hy; omega
    · have := h1 x hx; have := h3 y hy; omega

set_option maxHeartbeats 2000000 in
set_option maxRecDepth 100000 in
theorem eqCombiner_same (c : Cn) (a1 a2 a3 b1 b2 b3 : Value) (w : World) (hs : CnSz c) (ha : RdCn w c a1 a2 a3) (hb : RdCn w c b1 b2 b3) :
    Calls Try.prog 47 #[c.val a1 a2 a3, c.val b1 b2 b3] w fun r w' => r = .returned (.bool true) ∧ Below w.heap.size w w' := by
  obtain ⟨W, hW⟩ : ∃ W, W = (w.alloc (.cells #[a1, .int .i64 c.t, a2, .int .i64 c.n, .int .i64 c.k, .int .i64 c.d, a3] 28)).alloc (.cells #[b1, .int .i64 c.t, b2, .int .i64 c.n, .int .i64 c.k, .int .i64 c.d, b3] 28) := ⟨_, rfl⟩
  have hB0 : Below w.heap.size w W := by rw [hW]; exact ((Below.refl _ _).alloc (Nat.le_refl _) _).alloc (by simp) _
  have hXA : Bxd W w.heap.size [a1, .int .i64 c.t, a2, .int .i64 c.n, .int .i64 c.k, .int .i64 c.d, a3] := by rw [hW]; exact (Bxd.new _ _ _).below ((Below.refl _ _).alloc (Nat.le_refl _) _) (by simp)
  have hXB : Bxd W (w.heap.size + 1) [b1, .int .i64 c.t, b2, .int .i64 c.n, .int .i64 c.k, .int .i64 c.d, b3] := by
    have h := Bxd.new (w.alloc (.cells #[a1, .int .i64 c.t, a2, .int .i64 c.n, .int .i64 c.k, .int .i64 c.d, a3] 28)) [b1, .int .i64 c.t, b2, .int .i64 c.n, .int .i64 c.k, .int .i64 c.d, b3] 28
    rw [hW]; simpa using h
  have HS0 := Lib.hid (show w.heap.size + 1 < W.heap.size by rw [hW]; simp)
  have HA0 := Lib.hid (ha.below hB0)
  have HE0 := Lib.hid (hb.below hB0)
  have HB0 := Lib.hid hB0
  have HXA0 := Lib.hid hXA
  have HXB0 := Lib.hid hXB
  have HSz := Lib.hid hs
  have HW := Lib.hid hW
  clear hW hB0 ha hb hXA hXB hs
  go_enter Try.func47, Try.ntmps47
  go_upto_region 1 with (fail)
  rw [← HW.out]
  have x0 := HXA0.out.at 0 _ rfl
  have y0 := HXB0.out.at 0 _ rfl
  have x1 := HXA0.out.at 1 _ rfl
  have y1 := HXB0.out.at 1 _ rfl
  have x2 := HXA0.out.at 2 _ rfl
  have y2 := HXB0.out.at 2 _ rfl
  have x3 := HXA0.out.at 3 _ rfl
  have y3 := HXB0.out.at 3 _ rfl
  have x4 := HXA0.out.at 4 _ rfl
  have y4 := HXB0.out.at 4 _ rfl
  have x5 := HXA0.out.at 5 _ rfl
  have y5 := HXB0.out.at 5 _ rfl
  have x6 := HXA0.out.at 6 _ rfl
  have y6 := HXB0.out.at 6 _ rfl
  go_wp2_with fail
  refine (eqComboS_same a1 b1 c.C _ (by have := HSz.out.c; omega) HA0.out.cs HE0.out.cs).mono ?_
  rintro r w1 ⟨rfl, hb⟩
  have HB1 := Lib.hid (HB0.out.trans (hb.mono HB0.out.size))
  have HXA1 := Lib.hid (HXA0.out.below hb (Nat.lt_of_succ_lt HS0.out))
  have HXB1 := Lib.hid (HXB0.out.below hb HS0.out)
  have HS1 := Lib.hid (Nat.lt_of_lt_of_le HS0.out hb.size)
  have HA1 := Lib.hid (HA0.out.below hb)
  have HE1 := Lib.hid (HE0.out.below hb)
  clear hb x0 y0 x1 y1 x2 y2 x3 y3 x4 y4 x5 y5 x6 y6 HXA0 HXB0 HA0 HE0
  have x0 := HXA1.out.at 0 _ rfl
  have y0 := HXB1.out.at 0 _ rfl
  have x1 := HXA1.out.at 1 _ rfl
  have y1 := HXB1.out.at 1 _ rfl
  have x2 := HXA1.out.at 2 _ rfl
  have y2 := HXB1.out.at 2 _ rfl
  have x3 := HXA1.out.at 3 _ rfl
  have y3 := HXB1.out.at 3 _ rfl
  have x4 := HXA1.out.at 4 _ rfl
  have y4 := HXB1.out.at 4 _ rfl
  have x5 := HXA1.out.at 5 _ rfl
  have y5 := HXB1.out.at 5 _ rfl
  have x6 := HXA1.out.at 6 _ rfl
  have y6 := HXB1.out.at 6 _ rfl
  go_wp2_with fail
  refine (eqEventS_same a2 b2 c.Q _ (by have := HSz.out.q; omega) HA1.out.qs HE1.out.qs).mono ?_
  rintro r w2 ⟨rfl, hb⟩
  have HB2 := Lib.hid (HB1.out.trans (hb.mono HB1.out.size))
  have HXA2 := Lib.hid (HXA1.out.below hb (Nat.lt_of_succ_lt HS1.out))
  have HXB2 := Lib.hid (HXB1.out.below hb HS1.out)
  have HS2 := Lib.hid (Nat.lt_of_lt_of_le HS1.out hb.size)
  have HA2 := Lib.hid (HA1.out.below hb)
  have HE2 := Lib.hid (HE1.out.below hb)
  clear hb x0 y0 x1 y1 x2 y2 x3 y3 x4 y4 x5 y5 x6 y6 HXA1 HXB1 HA1 HE1
  have x0 := HXA2.out.at 0 _ rfl
  have y0 := HXB2.out.at 0 _ rfl
  have x1 := HXA2.out.at 1 _ rfl
  have y1 := HXB2.out.at 1 _ rfl
  have x2 := HXA2.out.at 2 _ rfl
  have y2 := HXB2.out.at 2 _ rfl
  have x3 := HXA2.out.at 3 _ rfl
  have y3 := HXB2.out.at 3 _ rfl
  have x4 := HXA2.out.at 4 _ rfl
  have y4 := HXB2.out.at 4 _ rfl
  have x5 := HXA2.out.at 5 _ rfl
  have y5 := HXB2.out.at 5 _ rfl
  have x6 := HXA2.out.at 6 _ rfl
  have y6 := HXB2.out.at 6 _ rfl
  go_wp2_with fail
  refine (eqActiveS_same a3 b3 c.A _ (by have := HSz.out.a; omega) HA2.out.av HE2.out.av).mono ?_
  rintro r w3 ⟨rfl, hb⟩
  have HB3 := Lib.hid (HB2.out.trans (hb.mono HB2.out.size))
  have HXA3 := Lib.hid (HXA2.out.below hb (Nat.lt_of_succ_lt HS2.out))
  have HXB3 := Lib.hid (HXB2.out.below hb HS2.out)
  have HS3 := Lib.hid (Nat.lt_of_lt_of_le HS2.out hb.size)
  have HA3 := Lib.hid (HA2.out.below hb)
  have HE3 := Lib.hid (HE2.out.below hb)
  clear hb x0 y0 x1 y1 x2 y2 x3 y3 x4 y4 x5 y5 x6 y6 HXA2 HXB2 HA2 HE2
  have x0 := HXA3.out.at 0 _ rfl
  have y0 := HXB3.out.at 0 _ rfl
  have x1 := HXA3.out.at 1 _ rfl
  have y1 := HXB3.out.at 1 _ rfl
  have x2 := HXA3.out.at 2 _ rfl
  have y2 := HXB3.out.at 2 _ rfl
  have x3 := HXA3.out.at 3 _ rfl
  have y3 := HXB3.out.at 3 _ rfl
  have x4 := HXA3.out.at 4 _ rfl
  have y4 := HXB3.out.at 4 _ rfl
  have x5 := HXA3.out.at 5 _ rfl
  have y5 := HXB3.out.at 5 _ rfl
  have x6 := HXA3.out.at 6 _ rfl
  have y6 := HXB3.out.at 6 _ rfl
  go_wp2
  go_ret
  exact ⟨rfl, HB3.out⟩

theorem Bxd.turned {w w' : World} {b : Nat} {vs : List Value} {f : List Nat} (h : Bxd w b vs) (ht : Turn w w' f) (hb : b < w.heap.size) (hn : b ∉ f) : Bxd w' b vs := fun j hj => by
  rw [World.cell?_of_block (w := w) (ht.block b hb hn)]; exact h j hj
/-- How many numbers a combiner's slices have. -/
def lenCn (c : Cn) : Nat := c.C.length * 2 + (c.Q.length * 3 + c.A.length * 3)
def mkCn (q : Int) (c : Cn) : Cn := { c with C := marksCb q c.C.length, Q := marksEv (q + ((c.C.length * 2 : Nat) : Int)) c.Q.length, A := marksAv (q + ((c.C.length * 2 : Nat) : Int) + ((c.Q.length * 3 : Nat) : Int)) c.A.length }
set_option maxHeartbeats 2000000 in
set_option maxRecDepth 100000 in
theorem markCombiner_own (B : Nat) (c : Cn) (u1 u2 u3 : Value) (fp : List Nat) (q q2 : Int) (hq : q2 = q + (lenCn c : Int)) (w : World) (hs : CnSz c) (hk : 0 ≤ q) (hk' : q ≤ 10) (h : OwCn w B c u1 u2 u3 fp) :
    Calls Try.prog 50 #[c.val u1 u2 u3, .int .i64 q] w fun r w' => r = .returned (.int .i64 q2) ∧ OwCn w' B (mkCn q c) u1 u2 u3 fp ∧ Turn w w' fp := by
  have hrng := h.rng
  obtain ⟨f1, f2, f3, h1, h2, h3, rfl, hn⟩ := h
  obtain ⟨hn1, hn23, hd1⟩ := List.nodup_append.1 hn
  obtain ⟨hn2, hn3, hd2⟩ := List.nodup_append.1 hn23
  obtain ⟨W, hW⟩ : ∃ W, W = w.alloc (.cells #[u1, .int .i64 c.t, u2, .int .i64 c.n, .int .i64 c.k, .int .i64 c.d, u3] 28) := ⟨_, rfl⟩
  have hB0 : Below w.heap.size w W := by rw [hW]; exact (Below.refl _ _).alloc (Nat.le_refl _) _
  have hX0 : Bxd W w.heap.size [u1, .int .i64 c.t, u2, .int .i64 c.n, .int .i64 c.k, .int .i64 c.d, u3] := by rw [hW]; exact Bxd.new _ _ _
  have hg : w.heap.size < W.heap.size := by rw [hW]; simp
  have N1 := Lib.hid (show w.heap.size ∉ f1 from fun hm => by have := (hrng _ (List.mem_append_left _ hm)).2; omega)
  have N2 := Lib.hid (show w.heap.size ∉ f2 from fun hm => by have := (hrng _ (List.mem_append_right _ (List.mem_append_left _ hm))).2; omega)
  have A12 := Lib.hid (show ∀ b ∈ f2, b ∉ f1 from fun b hb hb' => hd1 b hb' b (List.mem_append_left _ hb) rfl)
  have A13 := Lib.hid (show ∀ b ∈ f3, b ∉ f1 from fun b hb hb' => hd1 b hb' b (List.mem_append_right _ hb) rfl)
  have A23 := Lib.hid (show ∀ b ∈ f3, b ∉ f2 from fun b hb hb' => hd2 b hb' b hb rfl)
  have A21 := Lib.hid (show ∀ b ∈ f1, b ∉ f2 from fun b hb hb' => hd1 b hb b (List.mem_append_left _ hb') rfl)
  have A31 := Lib.hid (show ∀ b ∈ f1, b ∉ f3 from fun b hb hb' => hd1 b hb b (List.mem_append_right _ hb') rfl)
  have A32 := Lib.hid (show ∀ b ∈ f2, b ∉ f3 from fun b hb hb' => hd2 b hb b hb' rfl)
  have H1 := Lib.hid (h1.below hB0)
  have H2 := Lib.hid (h2.below hB0)
  have H3 := Lib.hid (h3.below hB0)
  have HT0 := Lib.hid (Turn.of_below hB0 (f1 ++ (f2 ++ f3)))
  have HX0 := Lib.hid hX0
  have HG := Lib.hid hg
  have HSz := Lib.hid hs
  have HN := Lib.hid hn
  obtain ⟨p1, hp1⟩ : ∃ p : Int, p = q + ((c.C.length * 2 : Nat) : Int) := ⟨_, rfl⟩
  obtain ⟨p2, hp2⟩ : ∃ p : Int, p = p1 + ((c.Q.length * 3 : Nat) : Int) := ⟨_, rfl⟩
  have hb1 := hs.c
  have hb2 := hs.q
  have hb3 := hs.a
  have hq3 : q2 = p2 + ((c.A.length * 3 : Nat) : Int) := by rw [hq, hp2, hp1, lenCn]; omega
  have HK1 := Lib.hid (show 0 ≤ p1 ∧ p1 ≤ 1000000000 by omega)
  have HK2 := Lib.hid (show 0 ≤ p2 ∧ p2 ≤ 1099511627776 by omega)
  have HP1 := Lib.hid hp1
  have HP2 := Lib.hid hp2
  have HQ3 := Lib.hid hq3
  have HW := Lib.hid hW
  clear hW hB0 hX0 hg h1 h2 h3 hs hn hn1 hn23 hd1 hn2 hn3 hd2 hrng hp1 hp2 hb1 hb2 hb3 hq3 hq
  go_enter Try.func50, Try.ntmps50
  go_upto_region 1 with (fail)
  rw [← HW.out]
  have x0 := HX0.out.at 0 _ rfl
  have x1 := HX0.out.at 1 _ rfl
  have x2 := HX0.out.at 2 _ rfl
  have x3 := HX0.out.at 3 _ rfl
  have x4 := HX0.out.at 4 _ rfl
  have x5 := HX0.out.at 5 _ rfl
  have x6 := HX0.out.at 6 _ rfl
  go_wp2_with fail
  refine (markComboS_q B u1 c.C f1 q p1 HP1.out _ HSz.out.c hk (by omega) H1.out).mono ?_
  rintro r w1 ⟨rfl, ho, ht⟩
  have H11 := Lib.hid ho
  have H21 := Lib.hid (H2.out.turn ht A12.out)
  have H31 := Lib.hid (H3.out.turn ht A13.out)
  have HX1 := Lib.hid (HX0.out.turned ht HG.out N1.out)
  have HG1 := Lib.hid (Nat.lt_of_lt_of_le HG.out ht.size)
  have HT1 := Lib.hid (HT0.out.trans (ht.mono (fun x hx => List.mem_append_left _ hx)))
  clear ho ht x0 x1 x2 x3 x4 x5 x6
  have x0 := HX1.out.at 0 _ rfl
  have x1 := HX1.out.at 1 _ rfl
  have x2 := HX1.out.at 2 _ rfl
  have x3 := HX1.out.at 3 _ rfl
  have x4 := HX1.out.at 4 _ rfl
  have x5 := HX1.out.at 5 _ rfl
  have x6 := HX1.out.at 6 _ rfl
  go_wp2_with fail
  refine (markEventS_q B u2 c.Q f2 p1 p2 HP2.out _ HSz.out.q HK1.out.1 (by have := HK1.out.2; omega) H21.out).mono ?_
  rintro r w2 ⟨rfl, ho, ht⟩
  have H12 := Lib.hid (H11.out.turn ht A21.out)
  have H22 := Lib.hid ho
  have H32 := Lib.hid (H31.out.turn ht A23.out)
  have HX2 := Lib.hid (HX1.out.turned ht HG1.out N2.out)
  have HT2 := Lib.hid (HT1.out.trans (ht.mono (fun x hx => List.mem_append_right _ (List.mem_append_left _ hx))))
  clear ho ht x0 x1 x2 x3 x4 x5 x6
  have x0 := HX2.out.at 0 _ rfl
  have x1 := HX2.out.at 1 _ rfl
  have x2 := HX2.out.at 2 _ rfl
  have x3 := HX2.out.at 3 _ rfl
  have x4 := HX2.out.at 4 _ rfl
  have x5 := HX2.out.at 5 _ rfl
  have x6 := HX2.out.at 6 _ rfl
  go_wp2_with fail
  refine (markActiveS_q B u3 c.A f3 p2 q2 HQ3.out _ HSz.out.a HK2.out.1 HK2.out.2 H32.out).mono ?_
  rintro r w3 ⟨rfl, ho, ht⟩
  have H13 := Lib.hid (H12.out.turn ht A31.out)
  have H23 := Lib.hid (H22.out.turn ht A32.out)
  have H33 := Lib.hid ho
  have HT3 := Lib.hid (HT2.out.trans (ht.mono (fun x hx => List.mem_append_right _ (List.mem_append_right _ hx))))
  clear ho ht x0 x1 x2 x3 x4 x5 x6
  go_wp2
  go_ret
  refine ⟨rfl, ⟨f1, f2, f3, ?_, ?_, ?_, rfl, HN.out⟩, HT3.out⟩
  · show OwF _ B _ 2 u1 (marksCb q c.C.length).length (flatCb (marksCb q c.C.length)) f1
    rw [marksCb_len]; exact H13.out
  · show OwF _ B _ 3 u2 (marksEv (q + ((c.C.length * 2 : Nat) : Int)) c.Q.length).length (flatEv (marksEv (q + ((c.C.length * 2 : Nat) : Int)) c.Q.length)) f2
    rw [← HP1.out, marksEv_len]; exact H23.out
  · show OwF _ B _ 3 u3 (marksAv (q + ((c.C.length * 2 : Nat) : Int) + ((c.Q.length * 3 : Nat) : Int)) c.A.length).length (flatAv (marksAv (q + ((c.C.length * 2 : Nat) : Int) + ((c.Q.length * 3 : Nat) : Int)) c.A.length)) f3
    rw [← HP1.out, ← HP2.out, marksAv_len]; exact H33.out

set_option maxHeartbeats 2000000 in
set_option maxRecDepth 100000 in
theorem heldCombiner_any (c : Cn) (u1 u2 u3 : Value) (q q2 : Int) (hq : q2 = q + (lenCn c : Int)) (w : World) (hs : CnSz c) (hk : 0 ≤ q) (hk' : q ≤ 10) (h : RdCn w (mkCn q c) u1 u2 u3) :
    Calls Try.prog 51 #[c.val u1 u2 u3, .int .i64 q] w fun r w' => r = .returned (.int .i64 q2) ∧ Below w.heap.size w w' := by
  obtain ⟨h1, h2, h3⟩ := h
  obtain ⟨p1, hp1⟩ : ∃ p : Int, p = q + ((c.C.length * 2 : Nat) : Int) := ⟨_, rfl⟩
  obtain ⟨p2, hp2⟩ : ∃ p : Int, p = p1 + ((c.Q.length * 3 : Nat) : Int) := ⟨_, rfl⟩
  have hb1 := hs.c
  have hb2 := hs.q
  have hb3 := hs.a
  have hq3 : q2 = p2 + ((c.A.length * 3 : Nat) : Int) := by rw [hq, hp2, hp1, lenCn]; omega
  have h1' : RdN w u1 c.C.length (flatCb (marksCb q c.C.length)) := by
    have h4 : RdN w u1 (marksCb q c.C.length).length (flatCb (marksCb q c.C.length)) := h1
    rw [marksCb_len] at h4; exact h4
  have h2' : RdN w u2 c.Q.length (flatEv (marksEv p1 c.Q.length)) := by
    have h4 : RdN w u2 (marksEv (q + ((c.C.length * 2 : Nat) : Int)) c.Q.length).length (flatEv (marksEv (q + ((c.C.length * 2 : Nat) : Int)) c.Q.length)) := h2
    rw [marksEv_len, ← hp1] at h4; exact h4
  have h3' : RdN w u3 c.A.length (flatAv (marksAv p2 c.A.length)) := by
    have h4 : RdN w u3 (marksAv (q + ((c.C.length * 2 : Nat) : Int) + ((c.Q.length * 3 : Nat) : Int)) c.A.length).length (flatAv (marksAv (q + ((c.C.length * 2 : Nat) : Int) + ((c.Q.length * 3 : Nat) : Int)) c.A.length)) := h3
    rw [marksAv_len, ← hp1, ← hp2] at h4; exact h4
  have H1 := Lib.hid h1'
  have H2 := Lib.hid h2'
  have H3 := Lib.hid h3'
  have g1 : ¬ p1 < 0 := by omega
  have g2 : ¬ p2 < 0 := by omega
  have g3 : ¬ q2 < 0 := by omega
  have HSz := Lib.hid hs
  have HK1 := Lib.hid (show 0 ≤ p1 ∧ p1 ≤ 1000000000 by omega)
  have HK2 := Lib.hid (show 0 ≤ p2 ∧ p2 ≤ 1099511627776 by omega)
  have HP1 := Lib.hid hp1
  have HP2 := Lib.hid hp2
  have HQ3 := Lib.hid hq3
  clear h1 h2 h3 h1' h2' h3' hs hp1 hp2 hb1 hb2 hb3 hq3 hq
  obtain ⟨W, hW⟩ : ∃ W, W = w.alloc (.cells #[u1, .int .i64 c.t, u2, .int .i64 c.n, .int .i64 c.k, .int .i64 c.d, u3] 28) := ⟨_, rfl⟩
  have HB0 := Lib.hid (show Below w.heap.size w W by rw [hW]; exact (Below.refl _ _).alloc (Nat.le_refl _) _)
  have HX0 := Lib.hid (show Bxd W w.heap.size [u1, .int .i64 c.t, u2, .int .i64 c.n, .int .i64 c.k, .int .i64 c.d, u3] by rw [hW]; exact Bxd.new _ _ _)
  have HW := Lib.hid hW
  clear hW
  go_enter Try.func51, Try.ntmps51
  go_upto_region 1 with (fail)
  rw [← HW.out]
  have x0 := HX0.out.at 0 _ rfl
  have x1 := HX0.out.at 1 _ rfl
  have x2 := HX0.out.at 2 _ rfl
  have x3 := HX0.out.at 3 _ rfl
  have x4 := HX0.out.at 4 _ rfl
  have x5 := HX0.out.at 5 _ rfl
  have x6 := HX0.out.at 6 _ rfl
  go_wp2_with fail
  refine (heldComboS_q u1 c.C.length q p1 HP1.out _ HSz.out.c hk (by omega) (H1.out.below HB0.out)).mono ?_
  rintro r v0 ⟨rfl, rfl⟩
  go_wp2_with fail
  refine (heldEventS_q u2 c.Q.length p1 p2 HP2.out _ HSz.out.q HK1.out.1 (by have := HK1.out.2; omega) (H2.out.below HB0.out)).mono ?_
  rintro r v0 ⟨rfl, rfl⟩
  go_wp2_with fail
  refine (heldActiveS_q u3 c.A.length p2 q2 HQ3.out _ HSz.out.a HK2.out.1 HK2.out.2 (H3.out.below HB0.out)).mono ?_
  rintro r v0 ⟨rfl, rfl⟩
  go_wp2
  go_ret
  exact ⟨rfl, HB0.out⟩

/-- How many elements a combiner's slices have. -/
def totCn (c : Cn) : Nat := c.C.length + c.Q.length + c.A.length
set_option maxHeartbeats 2000000 in
set_option maxRecDepth 100000 in
theorem szCombiner_any (c : Cn) (u1 u2 u3 : Value) (r : Int) (hr : r = if totCn c ≤ 1048576 then 1048576 - (totCn c : Int) else -1) (w : World) (hn1 : c.C.length ≤ maxLen) (hn2 : c.Q.length ≤ maxLen) (hn3 : c.A.length ≤ maxLen) (h : RdCn w c u1 u2 u3) :
    Calls Try.prog 44 #[c.val u1 u2 u3, .int .i64 1048576] w fun e w' => e = .returned (.int .i64 r) ∧ Below w.heap.size w w' := by
  obtain ⟨h1, h2, h3⟩ := h
  obtain ⟨a1, c1, rfl, _⟩ := h1
  obtain ⟨a2, c2, rfl, _⟩ := h2
  obtain ⟨a3, c3, rfl, _⟩ := h3
  obtain ⟨nC, hnC⟩ : ∃ x, x = c.C.length := ⟨_, rfl⟩
  obtain ⟨nQ, hnQ⟩ : ∃ x, x = c.Q.length := ⟨_, rfl⟩
  obtain ⟨nA, hnA⟩ : ∃ x, x = c.A.length := ⟨_, rfl⟩
  have ht : totCn c = nC + nQ + nA := by rw [totCn, hnC, hnQ, hnA]
  rw [ht] at hr
  rw [← hnC] at hn1
  rw [← hnQ] at hn2
  rw [← hnA] at hn3
  rw [← hnC, ← hnQ, ← hnA]
  have HN1 := Lib.hid hn1
  have HN2 := Lib.hid hn2
  have HN3 := Lib.hid hn3
  have HR := Lib.hid hr
  clear hn1 hn2 hn3 ht hnC hnQ hnA hr
  obtain ⟨W, hW⟩ : ∃ W, W = w.alloc (.cells #[.slice a1 nC c1, .int .i64 c.t, .slice a2 nQ c2, .int .i64 c.n, .int .i64 c.k, .int .i64 c.d, .slice a3 nA c3] 69) := ⟨_, rfl⟩
  have HB0 := Lib.hid (show Below w.heap.size w W by rw [hW]; exact (Below.refl _ _).alloc (Nat.le_refl _) _)
  have HX0 := Lib.hid (show Bxd W w.heap.size [.slice a1 nC c1, .int .i64 c.t, .slice a2 nQ c2, .int .i64 c.n, .int .i64 c.k, .int .i64 c.d, .slice a3 nA c3] by rw [hW]; exact Bxd.new _ _ _)
  have HW := Lib.hid hW
  clear hW
  go_enter Try.func44, Try.ntmps44
  go_upto_region 1 with (fail)
  rw [← HW.out]
  have x0 := HX0.out.at 0 _ rfl
  have x1 := HX0.out.at 1 _ rfl
  have x2 := HX0.out.at 2 _ rfl
  have x3 := HX0.out.at 3 _ rfl
  have x4 := HX0.out.at 4 _ rfl
  have x5 := HX0.out.at 5 _ rfl
  have x6 := HX0.out.at 6 _ rfl
  go_wp2_with fail
  refine (szComboS_any a1 nC c1 1048576 _ (by omega) (by omega) HN1.out).mono ?_
  by_cases g1 : nC ≤ 1048576
  · rw [if_neg (by omega)]
    obtain ⟨X, hX⟩ : ∃ X : Nat, X = 1048576 - nC := ⟨_, rfl⟩
    rw [show (1048576 : Int) - (nC : Int) = (X : Nat) by omega]
    have HXX := Lib.hid (show X + nC = 1048576 by omega)
    clear hX
    rintro r1 v0 ⟨rfl, rfl⟩
    go_wp2_with fail
    refine (szEventS_any a2 nQ c2 (X : Nat) _ (by omega) (by have := HXX.out; omega) HN2.out).mono ?_
    by_cases g2 : nQ ≤ X
    · rw [if_neg (by omega)]
      obtain ⟨Y, hY⟩ : ∃ Y : Nat, Y = X - nQ := ⟨_, rfl⟩
      rw [show (X : Int) - (nQ : Int) = (Y : Nat) by omega]
      have HYY := Lib.hid (show Y + nQ = X by omega)
      clear hY
      rintro r2 v0 ⟨rfl, rfl⟩
      go_wp2_with fail
      refine (szActiveS_any a3 nA c3 (Y : Nat) _ (by omega) (by have := HXX.out; have := HYY.out; omega) HN3.out).mono ?_
      by_cases g3 : nA ≤ Y
      · rw [if_neg (by omega)]
        have hr0 : ((Y : Nat) : Int) - (nA : Int) = r := by have := HXX.out; have := HYY.out; rw [HR.out, if_pos (by omega)]; omega
        have hrn : ¬ r < 0 := by rw [← hr0]; omega
        rw [hr0]
        clear hr0
        rintro r3 v0 ⟨rfl, rfl⟩
        go_wp2
        go_ret
        exact ⟨rfl, HB0.out⟩
      · rw [if_pos (by omega)]
        have hr0 : r = -1 := by have := HXX.out; have := HYY.out; rw [HR.out, if_neg (by omega)]
        subst hr0
        rintro r3 v0 ⟨rfl, rfl⟩
        go_wp2
        go_ret
        exact ⟨rfl, HB0.out⟩
    · rw [if_pos (by omega)]
      have hr0 : r = -1 := by have := HXX.out; rw [HR.out, if_neg (by omega)]
      subst hr0
      rintro r2 v0 ⟨rfl, rfl⟩
      go_wp2
      go_ret
      exact ⟨rfl, HB0.out⟩
  · rw [if_pos (by omega)]
    have hr0 : r = -1 := by rw [HR.out, if_neg (by omega)]
    subst hr0
    rintro r1 v0 ⟨rfl, rfl⟩
    go_wp2
    go_ret
    exact ⟨rfl, HB0.out⟩

/-- A copy of a combiner. -/
def CnO (c : Cn) (w : World) (r : Ending) (w' : World) : Prop := ∃ a1 c1 a2 c2 a3 c3 fp, r = .returned (c.val (.slice a1 c.C.length c1) (.slice a2 c.Q.length c2) (.slice a3 c.A.length c3)) ∧ OwCn w' w.heap.size c (.slice a1 c.C.length c1) (.slice a2 c.Q.length c2) (.slice a3 c.A.length c3) fp ∧ Below w.heap.size w w'
theorem CnSz.of {c : Cn} (h : totCn c ≤ 1048576) : CnSz c := by unfold totCn at h; exact ⟨by omega, by omega, by omega⟩
set_option maxHeartbeats 4000000 in
set_option maxRecDepth 100000 in
theorem toCombiner_any (c : Cn) (u1 u2 u3 : Value) (w : World) (hs : CnSz c) (h : RdCn w c u1 u2 u3) :
    Calls Try.prog 46 #[c.val u1 u2 u3] w (CnO c w) := by
  obtain ⟨W, hW⟩ : ∃ W, W = ((w.alloc (.cells #[u1, .int .i64 c.t, u2, .int .i64 c.n, .int .i64 c.k, .int .i64 c.d, u3] 69)).alloc (.cells #[.slice none 0 0, .int .i64 0, .slice none 0 0, .int .i64 0, .int .i64 0, .int .i64 0, .slice none 0 0] 28)).alloc (.cells #[.slice none 0 0, .int .i64 0, .slice none 0 0, .int .i64 0, .int .i64 0, .int .i64 0, .slice none 0 0] 28) := ⟨_, rfl⟩
  obtain ⟨gr, hgr⟩ : ∃ g, g = w.heap.size + 1 := ⟨_, rfl⟩
  obtain ⟨go, hgo⟩ : ∃ g, g = w.heap.size + 1 + 1 := ⟨_, rfl⟩
  have HB0 := Lib.hid (show Below w.heap.size w W by rw [hW]; exact (((Below.refl _ _).alloc (Nat.le_refl _) _).alloc (by simp) _).alloc (by simp; omega) _)
  have HX0 := Lib.hid (show W.heap[w.heap.size]? = some (.cells #[u1, .int .i64 c.t, u2, .int .i64 c.n, .int .i64 c.k, .int .i64 c.d, u3] 69 (0, 0)) by
    rw [hW, Below.heap_alloc _ _ _ (by simp; omega), Below.heap_alloc _ _ _ (by simp)]; exact heap_alloc_new w _)
  have HR0 := Lib.hid (show W.heap[gr]? = some (.cells #[.slice none 0 0, .int .i64 0, .slice none 0 0, .int .i64 0, .int .i64 0, .int .i64 0, .slice none 0 0] 28 (0, 0)) by
    rw [hW, hgr, Below.heap_alloc _ _ _ (by simp)]; simpa using heap_alloc_new (w.alloc (.cells #[u1, .int .i64 c.t, u2, .int .i64 c.n, .int .i64 c.k, .int .i64 c.d, u3] 69)) _)
  have HO0 := Lib.hid (show W.heap[go]? = some (.cells #[.slice none 0 0, .int .i64 0, .slice none 0 0, .int .i64 0, .int .i64 0, .int .i64 0, .slice none 0 0] 28 (0, 0)) by
    rw [hW, hgo]; simpa using heap_alloc_new ((w.alloc (.cells #[u1, .int .i64 c.t, u2, .int .i64 c.n, .int .i64 c.k, .int .i64 c.d, u3] 69)).alloc (.cells #[.slice none 0 0, .int .i64 0, .slice none 0 0, .int .i64 0, .int .i64 0, .int .i64 0, .slice none 0 0] 28)) _)
  have HSZ := Lib.hid (show W.heap.size = w.heap.size + 1 + 1 + 1 by rw [hW]; simp)
  have HGR := Lib.hid hgr
  have HGO := Lib.hid hgo
  have HR := Lib.hid h
  have HSz := Lib.hid hs
  go_enter Try.func46, Try.ntmps46
  go_upto_region 2 with (fail)
  rw [← hW, ← hgo, ← hgr]
  clear hW hgr hgo h hs
  have x0 := (cells_of_heap HX0.out 0 (by simp)).1
  simp only [List.getElem_toArray, List.getElem_cons_zero] at x0
  go_wp2_with fail
  refine (toComboS_law u1 c.C _ HSz.out.c (HR.out.cs.below HB0.out)).mono ?_
  rintro r w1 ⟨a1, c1, f1, rfl, h1, hb⟩
  have HN1 := Lib.hid (owF_nodup h1)
  have HF1 := Lib.hid h1
  have HB1 := Lib.hid (HB0.out.trans (hb.mono HB0.out.size))
  have HX1 := Lib.hid ((hb.block w.heap.size (by have := HSZ.out; omega)).trans HX0.out)
  have HR1 := Lib.hid ((hb.block gr (by have := HSZ.out; have := HGR.out; omega)).trans HR0.out)
  have HO1 := Lib.hid ((hb.block go (by have := HSZ.out; have := HGO.out; omega)).trans HO0.out)
  have HS1 := Lib.hid hb.size
  clear h1 hb x0
  obtain ⟨o0, p0⟩ := cells_of_heap HO1.out 0 (by simp)
  obtain ⟨o1, p1⟩ := cells_of_heap HO1.out 1 (by simp)
  have x1 := (cells_of_heap HX1.out 1 (by simp)).1
  simp only [List.getElem_toArray, List.getElem_cons_zero, List.getElem_cons_succ] at x1
  have hne : ¬ w.heap.size = go := by have := HGO.out; omega
  go_upto_region 4 with (fail)
  obtain ⟨X1, hX1⟩ : ∃ x, x = (w1.setCell ⟨go, 0, none⟩ (.slice a1 c.C.length c1)).setCell ⟨go, 1, none⟩ (.int .i64 c.t) := ⟨_, rfl⟩
  have ht : Turn w1 X1 [go] := by rw [hX1]; exact (Turn.of_grown (grown_set w1 go 0 _)).trans (Turn.of_grown (grown_set _ go 1 _))
  have hne1 : w.heap.size ∉ [go] := by have := HGO.out; simp; omega
  have hne2 : gr ∉ [go] := by have := HGO.out; have := HGR.out; simp; omega
  have HO2 := Lib.hid (show X1.heap[go]? = some (.cells #[.slice a1 c.C.length c1, .int .i64 c.t, .slice none 0 0, .int .i64 0, .int .i64 0, .int .i64 0, .slice none 0 0] 28 (0, 0)) by rw [hX1]; exact heap_setCell_same _ go 1 _ _ _ (heap_setCell_same w1 go 0 _ _ _ HO1.out))
  have HX2 := Lib.hid (blk_turn HX1.out ht hne1)
  have HR2 := Lib.hid (blk_turn HR1.out ht hne2)
  have HF2 := Lib.hid (HF1.out.turn ht (fun b hb hm => by have := (HF1.out.rng b hb).1; have := HSZ.out; have := HGO.out; rw [List.mem_singleton] at hm; omega))
  have HB2 := Lib.hid (HB1.out.trans (ht.below (fun b hb => show w.heap.size ≤ b by rw [List.mem_singleton] at hb; have := HGO.out; omega) HB1.out.size))
  have HS2 := Lib.hid (show X1.heap.size = w1.heap.size by rw [hX1]; simp)
  rw [← hX1]
  clear hX1 ht hne1 hne2 o0 o1 p0 p1 x1
  have x2 := (cells_of_heap HX2.out 2 (by simp)).1
  simp only [List.getElem_toArray, List.getElem_cons_zero, List.getElem_cons_succ] at x2
  go_wp2_with fail
  refine (toEventS_l u2 c.Q _ HSz.out.q (HR.out.qs.below HB2.out)).mono ?_
  rintro r w2 ⟨a2, c2, f2, rfl, h2, hb⟩
  have HN2 := Lib.hid (owF_nodup h2)
  have HG2 := Lib.hid h2
  have hgx : w.heap.size < X1.heap.size := (Array.getElem?_eq_some_iff.mp HX2.out).1
  have hgr : gr < X1.heap.size := (Array.getElem?_eq_some_iff.mp HR2.out).1
  have hgo : go < X1.heap.size := (Array.getElem?_eq_some_iff.mp HO2.out).1
  have HB3 := Lib.hid (HB2.out.trans (hb.mono HB2.out.size))
  have HX3 := Lib.hid ((hb.block w.heap.size hgx).trans HX2.out)
  have HR3 := Lib.hid ((hb.block gr hgr).trans HR2.out)
  have HO3 := Lib.hid ((hb.block go hgo).trans HO2.out)
  have HF3 := Lib.hid (HF2.out.below hb)
  have HS3 := Lib.hid hb.size
  have HGO2 := Lib.hid hgo
  clear h2 hb x2 hgx hgr hgo
  obtain ⟨o2, p2⟩ := cells_of_heap HO3.out 2 (by simp)
  obtain ⟨o3, p3⟩ := cells_of_heap HO3.out 3 (by simp)
  obtain ⟨o4, p4⟩ := cells_of_heap HO3.out 4 (by simp)
  obtain ⟨o5, p5⟩ := cells_of_heap HO3.out 5 (by simp)
  have x3 := (cells_of_heap HX3.out 3 (by simp)).1
  have x4 := (cells_of_heap HX3.out 4 (by simp)).1
  have x5 := (cells_of_heap HX3.out 5 (by simp)).1
  simp only [List.getElem_toArray, List.getElem_cons_zero, List.getElem_cons_succ] at x3 x4 x5
  go_upto_region 8 with (fail)
  obtain ⟨X2, hX2⟩ : ∃ x, x = (((w2.setCell ⟨go, 2, none⟩ (.slice a2 c.Q.length c2)).setCell ⟨go, 3, none⟩ (.int .i64 c.n)).setCell ⟨go, 4, none⟩ (.int .i64 c.k)).setCell ⟨go, 5, none⟩ (.int .i64 c.d) := ⟨_, rfl⟩
  have ht : Turn w2 X2 [go] := by rw [hX2]; exact (((Turn.of_grown (grown_set w2 go 2 _)).trans (Turn.of_grown (grown_set _ go 3 _))).trans (Turn.of_grown (grown_set _ go 4 _))).trans (Turn.of_grown (grown_set _ go 5 _))
  have hne1 : w.heap.size ∉ [go] := by have := HGO.out; simp; omega
  have hne2 : gr ∉ [go] := by have := HGO.out; have := HGR.out; simp; omega
  have HO4 := Lib.hid (show X2.heap[go]? = some (.cells #[.slice a1 c.C.length c1, .int .i64 c.t, .slice a2 c.Q.length c2, .int .i64 c.n, .int .i64 c.k, .int .i64 c.d, .slice none 0 0] 28 (0, 0)) by rw [hX2]; exact heap_setCell_same _ go 5 _ _ _ (heap_setCell_same _ go 4 _ _ _ (heap_setCell_same _ go 3 _ _ _ (heap_setCell_same w2 go 2 _ _ _ HO3.out))))
  have HX4 := Lib.hid (blk_turn HX3.out ht hne1)
  have HR4 := Lib.hid (blk_turn HR3.out ht hne2)
  have HF4 := Lib.hid (HF3.out.turn ht (fun b hb hm => by have := (HF1.out.rng b hb).1; have := HSZ.out; have := HGO.out; rw [List.mem_singleton] at hm; omega))
  have HG4 := Lib.hid (HG2.out.turn ht (fun b hb hm => by have := (HG2.out.rng b hb).1; have := HGO2.out; rw [List.mem_singleton] at hm; omega))
  have HB4 := Lib.hid (HB3.out.trans (ht.below (fun b hb => show w.heap.size ≤ b by rw [List.mem_singleton] at hb; have := HGO.out; omega) HB3.out.size))
  have HS4 := Lib.hid (show X2.heap.size = w2.heap.size by rw [hX2]; simp)
  rw [← hX2]
  clear hX2 ht hne1 hne2 o2 o3 o4 o5 p2 p3 p4 p5 x3 x4 x5
  have x6 := (cells_of_heap HX4.out 6 (by simp)).1
  simp only [List.getElem_toArray, List.getElem_cons_zero, List.getElem_cons_succ] at x6
  go_wp2_with fail
  refine (toActiveS_law u3 c.A _ HSz.out.a (HR.out.av.below HB4.out)).mono ?_
  rintro r w3 ⟨a3, c3, f3, rfl, h3, hb⟩
  have HN3 := Lib.hid (owF_nodup h3)
  have HH3 := Lib.hid h3
  have hgr : gr < X2.heap.size := (Array.getElem?_eq_some_iff.mp HR4.out).1
  have hgo : go < X2.heap.size := (Array.getElem?_eq_some_iff.mp HO4.out).1
  have HB5 := Lib.hid (HB4.out.trans (hb.mono HB4.out.size))
  have HR5 := Lib.hid ((hb.block gr hgr).trans HR4.out)
  have HO5 := Lib.hid ((hb.block go hgo).trans HO4.out)
  have HF5 := Lib.hid (HF4.out.below hb)
  have HG5 := Lib.hid (HG4.out.below hb)
  have HGO4 := Lib.hid hgo
  have HGR4 := Lib.hid hgr
  clear h3 hb x6 hgr hgo
  obtain ⟨o6, p6⟩ := cells_of_heap HO5.out 6 (by simp)
  go_upto_region 9 with (fail)
  obtain ⟨X3, hX3⟩ : ∃ x, x = w3.setCell ⟨go, 6, none⟩ (.slice a3 c.A.length c3) := ⟨_, rfl⟩
  have ht : Turn w3 X3 [go] := by rw [hX3]; exact Turn.of_grown (grown_set w3 go 6 _)
  have hne2 : gr ∉ [go] := by have := HGO.out; have := HGR.out; simp; omega
  have HO6 := Lib.hid (show X3.heap[go]? = some (.cells #[.slice a1 c.C.length c1, .int .i64 c.t, .slice a2 c.Q.length c2, .int .i64 c.n, .int .i64 c.k, .int .i64 c.d, .slice a3 c.A.length c3] 28 (0, 0)) by rw [hX3]; exact heap_setCell_same w3 go 6 _ _ _ HO5.out)
  have HR6 := Lib.hid (blk_turn HR5.out ht hne2)
  have HF6 := Lib.hid (HF5.out.turn ht (fun b hb hm => by have := (HF1.out.rng b hb).1; have := HSZ.out; have := HGO.out; rw [List.mem_singleton] at hm; omega))
  have HG6 := Lib.hid (HG5.out.turn ht (fun b hb hm => by have := (HG2.out.rng b hb).1; have := HGO2.out; rw [List.mem_singleton] at hm; omega))
  have HH6 := Lib.hid (HH3.out.turn ht (fun b hb hm => by have := (HH3.out.rng b hb).1; have := HGO4.out; rw [List.mem_singleton] at hm; omega))
  have HB6 := Lib.hid (HB5.out.trans (ht.below (fun b hb => show w.heap.size ≤ b by rw [List.mem_singleton] at hb; have := HGO.out; omega) HB5.out.size))
  rw [← hX3]
  clear hX3 ht hne2 o6 p6
  have y0 := (cells_of_heap HO6.out 0 (by simp)).1
  have y1 := (cells_of_heap HO6.out 1 (by simp)).1
  have y2 := (cells_of_heap HO6.out 2 (by simp)).1
  have y3 := (cells_of_heap HO6.out 3 (by simp)).1
  have y4 := (cells_of_heap HO6.out 4 (by simp)).1
  have y5 := (cells_of_heap HO6.out 5 (by simp)).1
  have y6 := (cells_of_heap HO6.out 6 (by simp)).1
  simp only [List.getElem_toArray, List.getElem_cons_zero, List.getElem_cons_succ] at y0 y1 y2 y3 y4 y5 y6
  obtain ⟨z0, q0⟩ := cells_of_heap HR6.out 0 (by simp)
  obtain ⟨z1, q1⟩ := cells_of_heap HR6.out 1 (by simp)
  obtain ⟨z2, q2⟩ := cells_of_heap HR6.out 2 (by simp)
  obtain ⟨z3, q3⟩ := cells_of_heap HR6.out 3 (by simp)
  obtain ⟨z4, q4⟩ := cells_of_heap HR6.out 4 (by simp)
  obtain ⟨z5, q5⟩ := cells_of_heap HR6.out 5 (by simp)
  obtain ⟨z6, q6⟩ := cells_of_heap HR6.out 6 (by simp)
  go_wp2
  clear y0 y1 y2 y3 y4 y5 y6 z0 z1 z2 z3 z4 z5 z6 q0 q1 q2 q3 q4 q5 q6
  have hgr0 : w.heap.size ≤ gr := by have := HGR.out; omega
  have hnd := nodup_three HN1.out HN2.out HN3.out HF1.out.rng HG2.out.rng HH3.out.rng (by have := HS2.out; omega) (by have := HS4.out; omega) (by have := HS2.out; have := HS3.out; have := HS4.out; omega)
  have hngr : gr ∉ f1 ++ (f2 ++ f3) := fun hm => by
    have hz := HSZ.out
    have hr := HGR.out
    have h4 := HGR4.out
    rcases List.mem_append.1 hm with h | h
    · have := (HF1.out.rng gr h).1; omega
    · rcases List.mem_append.1 h with h | h
      · have := (HG2.out.rng gr h).1; have := HS2.out; have := HS1.out; omega
      · have := (HH3.out.rng gr h).1; omega
  have hown : OwCn X3 w.heap.size c (.slice a1 c.C.length c1) (.slice a2 c.Q.length c2) (.slice a3 c.A.length c3) (f1 ++ (f2 ++ f3)) := ⟨f1, f2, f3, HF6.out.up HB0.out.size, HG6.out.up HB2.out.size, HH6.out.up HB4.out.size, rfl, hnd⟩
  have HOWN := Lib.hid hown
  have HNGR := Lib.hid hngr
  clear hnd hown hngr
  obtain ⟨wf, hwf⟩ : ∃ x, x = putW (X3) (gr) 0 [.slice a1 c.C.length c1, .int .i64 c.t, .slice a2 c.Q.length c2, .int .i64 c.n, .int .i64 c.k, .int .i64 c.d, .slice a3 c.A.length c3] := ⟨_, rfl⟩
  have kf := putW_all [.slice a1 c.C.length c1, .int .i64 c.t, .slice a2 c.Q.length c2, .int .i64 c.n, .int .i64 c.k, .int .i64 c.d, .slice a3 c.A.length c3] HR6.out rfl
  have bf := putW_below (b := gr) (by first | omega | simp) [.slice a1 c.C.length c1, .int .i64 c.t, .slice a2 c.Q.length c2, .int .i64 c.n, .int .i64 c.k, .int .i64 c.d, .slice a3 c.A.length c3] 0 _ HB6.out
  have of := HOWN.out.putAt (y := gr) [.slice a1 c.C.length c1, .int .i64 c.t, .slice a2 c.Q.length c2, .int .i64 c.n, .int .i64 c.k, .int .i64 c.d, .slice a3 c.A.length c3] HNGR.out 0
  rw [← hwf] at kf bf of
  have cf := hwf.symm
  simp only [putW, Nat.reduceAdd] at cf
  rw [cf]
  clear cf hwf
  have f0 := (cells_of_heap kf 0 (by simp)).1
  have f1 := (cells_of_heap kf 1 (by simp)).1
  have f2 := (cells_of_heap kf 2 (by simp)).1
  have f3 := (cells_of_heap kf 3 (by simp)).1
  have f4 := (cells_of_heap kf 4 (by simp)).1
  have f5 := (cells_of_heap kf 5 (by simp)).1
  have f6 := (cells_of_heap kf 6 (by simp)).1
  simp only [List.getElem_toArray, List.getElem_cons_zero, List.getElem_cons_succ] at f0 f1 f2 f3 f4 f5 f6
  refine bodyPost_ret (v := c.val (.slice a1 c.C.length c1) (.slice a2 c.Q.length c2) (.slice a3 c.A.length c3)) (by simp [results, Try.results46, go_sem, f0, f1, f2, f3, f4, f5, f6]) rfl ⟨a1, c1, a2, c2, a3, c3, _, rfl, of, bf⟩

end Go.Proofs.Ytagmdkblcgnddaa
