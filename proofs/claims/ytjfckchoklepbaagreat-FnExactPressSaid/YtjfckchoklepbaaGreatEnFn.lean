/- DERIVED. The laws' own functions on engines: two that are alike, marks. · The laws' toEngine: a copy of an engine in memory of its own. -/
import Derived.Test.YtjfckchoklepbaaGreatEnDef
import Derived.Test.YtjfckchoklepbaaGreatHdSpec
import Derived.Test.YtjfckchoklepbaaGreatRpLaw2
namespace Go.Proofs.YtjfckchoklepbaaGreat
open Go.RowKit

/-- What the laws ask of an engine's sizes. -/
structure EnSz (e : En) : Prop where
  l : e.L.length ≤ 1048576
  lr : ∀ l ∈ e.L, l.length ≤ 1048576
  lt : lenS e.L e.L.length ≤ 1048576
  f : e.F.length ≤ 1048576
  fr : ∀ l ∈ e.F, l.length ≤ 1048576
  ft : lenT e.F e.F.length ≤ 1048576
  h : e.H.length ≤ 1048576
theorem RdSt.shape {w : World} {v : Value} {L : List (List St)} (h : LdT w v L) : ∃ a cap, v = .slice a L.length cap := by
  rcases RdS.cases h with ⟨rfl, a, cap, rfl⟩ | ⟨b, off, cap, us, hpos, rfl, _⟩
  · exact ⟨a, cap, rfl⟩
  · exact ⟨_, cap, rfl⟩

set_option maxHeartbeats 2000000 in
set_option maxRecDepth 100000 in
theorem eqEngine_same (e : En) (a1 a2 a3 b1 b2 b3 : Value) (w : World) (hs : EnSz e) (ha : RdE w e a1 a2 a3) (hb : RdE w e b1 b2 b3) :
    Calls Tryz.prog 49 #[env e.k a1 a2 e.x a3 e.o e.p, env e.k b1 b2 e.x b3 e.o e.p] w fun r w' => r = .returned (.bool true) ∧ Below w.heap.size w w' := by
  obtain ⟨W, hW⟩ : ∃ W, W = (w.alloc (.cells #[.int .i64 e.k, a1, a2, .int .i64 e.x, a3, .int .i64 e.o, .bool e.p] 30)).alloc (.cells #[.int .i64 e.k, b1, b2, .int .i64 e.x, b3, .int .i64 e.o, .bool e.p] 30) := ⟨_, rfl⟩
  have hB0 : Below w.heap.size w W := by rw [hW]; exact ((Below.refl _ _).alloc (Nat.le_refl _) _).alloc (by simp) _
  have hXA : Bxd W w.heap.size [.int .i64 e.k, a1, a2, .int .i64 e.x, a3, .int .i64 e.o, .bool e.p] := by rw [hW]; exact (Bxd.new _ _ _).below ((Below.refl _ _).alloc (Nat.le_refl _) _) (by simp)
  have hXB : Bxd W (w.heap.size + 1) [.int .i64 e.k, b1, b2, .int .i64 e.x, b3, .int .i64 e.o, .bool e.p] := by
    have h := Bxd.new (w.alloc (.cells #[.int .i64 e.k, a1, a2, .int .i64 e.x, a3, .int .i64 e.o, .bool e.p] 30)) [.int .i64 e.k, b1, b2, .int .i64 e.x, b3, .int .i64 e.o, .bool e.p] 30
    rw [hW]; simpa using h
  have HS0 := Lib.hid (show w.heap.size + 1 < W.heap.size by rw [hW]; simp)
  have HA0 := Lib.hid (ha.below hB0)
  have HE0 := Lib.hid (hb.below hB0)
  have HB0 := Lib.hid hB0
  have HXA0 := Lib.hid hXA
  have HXB0 := Lib.hid hXB
  have HSz := Lib.hid hs
  have HW := Lib.hid hW
  clear hW hB0 ha hb hXA hXB hs
  go_enter Tryz.func49, Tryz.ntmps49
  go_upto_region 1 with (fail)
  rw [← HW.out]
  have x0 := HXA0.out.at 0 _ rfl
  have y0 := HXB0.out.at 0 _ rfl
  have x1 := HXA0.out.at 1 _ rfl
  have y1 := HXB0.out.at 1 _ rfl
  have x2 := HXA0.out.at 2 _ rfl
  have y2 := HXB0.out.at 2 _ rfl
  have x3 := HXA0.out.at 3 _ rfl
  have y3 := HXB0.out.at 3 _ rfl
  have x4 := HXA0.out.at 4 _ rfl
  have y4 := HXB0.out.at 4 _ rfl
  have x5 := HXA0.out.at 5 _ rfl
  have y5 := HXB0.out.at 5 _ rfl
  have x6 := HXA0.out.at 6 _ rfl
  have y6 := HXB0.out.at 6 _ rfl
  go_wp2_with fail
  refine (eqKeymap_same e.k a1 b1 e.L _ (Nat.le_trans HSz.out.l (by decide)) (fun l hl => (Nat.le_trans (HSz.out.lr l hl) (by decide))) HA0.out.map HE0.out.map).mono ?_
  rintro r w1 ⟨rfl, hb⟩
  have HB1 := Lib.hid (HB0.out.trans (hb.mono HB0.out.size))
  have HXA1 := Lib.hid (HXA0.out.below hb (Nat.lt_of_succ_lt HS0.out))
  have HXB1 := Lib.hid (HXB0.out.below hb HS0.out)
  have HS1 := Lib.hid (Nat.lt_of_lt_of_le HS0.out hb.size)
  have HA1 := Lib.hid (HA0.out.below hb)
  have HE1 := Lib.hid (HE0.out.below hb)
  clear hb x0 y0 x1 y1 x2 y2 x3 y3 x4 y4 x5 y5 x6 y6 HXA0 HXB0 HA0 HE0
  have x0 := HXA1.out.at 0 _ rfl
  have y0 := HXB1.out.at 0 _ rfl
  have x1 := HXA1.out.at 1 _ rfl
  have y1 := HXB1.out.at 1 _ rfl
  have x2 := HXA1.out.at 2 _ rfl
  have y2 := HXB1.out.at 2 _ rfl
  have x3 := HXA1.out.at 3 _ rfl
  have y3 := HXB1.out.at 3 _ rfl
  have x4 := HXA1.out.at 4 _ rfl
  have y4 := HXB1.out.at 4 _ rfl
  have x5 := HXA1.out.at 5 _ rfl
  have y5 := HXB1.out.at 5 _ rfl
  have x6 := HXA1.out.at 6 _ rfl
  have y6 := HXB1.out.at 6 _ rfl
  go_wp2_with fail
  refine (eqStepSS_same a2 b2 e.F _ (Nat.le_trans HSz.out.f (by decide)) (fun l hl => (Nat.le_trans (HSz.out.fr l hl) (by decide))) HA1.out.mac HE1.out.mac).mono ?_
  rintro r w2 ⟨rfl, hb⟩
  have HB2 := Lib.hid (HB1.out.trans (hb.mono HB1.out.size))
  have HXA2 := Lib.hid (HXA1.out.below hb (Nat.lt_of_succ_lt HS1.out))
  have HXB2 := Lib.hid (HXB1.out.below hb HS1.out)
  have HS2 := Lib.hid (Nat.lt_of_lt_of_le HS1.out hb.size)
  have HA2 := Lib.hid (HA1.out.below hb)
  have HE2 := Lib.hid (HE1.out.below hb)
  clear hb x0 y0 x1 y1 x2 y2 x3 y3 x4 y4 x5 y5 x6 y6 HXA1 HXB1 HA1 HE1
  have x0 := HXA2.out.at 0 _ rfl
  have y0 := HXB2.out.at 0 _ rfl
  have x1 := HXA2.out.at 1 _ rfl
  have y1 := HXB2.out.at 1 _ rfl
  have x2 := HXA2.out.at 2 _ rfl
  have y2 := HXB2.out.at 2 _ rfl
  have x3 := HXA2.out.at 3 _ rfl
  have y3 := HXB2.out.at 3 _ rfl
  have x4 := HXA2.out.at 4 _ rfl
  have y4 := HXB2.out.at 4 _ rfl
  have x5 := HXA2.out.at 5 _ rfl
  have y5 := HXB2.out.at 5 _ rfl
  have x6 := HXA2.out.at 6 _ rfl
  have y6 := HXB2.out.at 6 _ rfl
  go_wp2_with fail
  refine (eqHeldS_same a3 b3 e.H _ (Nat.le_trans HSz.out.h (by decide)) HA2.out.held HE2.out.held).mono ?_
  rintro r w3 ⟨rfl, hb⟩
  have HB3 := Lib.hid (HB2.out.trans (hb.mono HB2.out.size))
  have HXA3 := Lib.hid (HXA2.out.below hb (Nat.lt_of_succ_lt HS2.out))
  have HXB3 := Lib.hid (HXB2.out.below hb HS2.out)
  have HS3 := Lib.hid (Nat.lt_of_lt_of_le HS2.out hb.size)
  have HA3 := Lib.hid (HA2.out.below hb)
  have HE3 := Lib.hid (HE2.out.below hb)
  clear hb x0 y0 x1 y1 x2 y2 x3 y3 x4 y4 x5 y5 x6 y6 HXA2 HXB2 HA2 HE2
  have x0 := HXA3.out.at 0 _ rfl
  have y0 := HXB3.out.at 0 _ rfl
  have x1 := HXA3.out.at 1 _ rfl
  have y1 := HXB3.out.at 1 _ rfl
  have x2 := HXA3.out.at 2 _ rfl
  have y2 := HXB3.out.at 2 _ rfl
  have x3 := HXA3.out.at 3 _ rfl
  have y3 := HXB3.out.at 3 _ rfl
  have x4 := HXA3.out.at 4 _ rfl
  have y4 := HXB3.out.at 4 _ rfl
  have x5 := HXA3.out.at 5 _ rfl
  have y5 := HXB3.out.at 5 _ rfl
  have x6 := HXA3.out.at 6 _ rfl
  have y6 := HXB3.out.at 6 _ rfl
  go_wp2
  go_ret
  exact ⟨rfl, HB3.out⟩

theorem Bxd.turn {w w' : World} {b : Nat} {vs : List Value} {f : List Nat} (h : Bxd w b vs) (ht : Turn w w' f) (hb : b < w.heap.size) (hn : b ∉ f) : Bxd w' b vs := fun j hj => by
  rw [World.cell?_of_block (w := w) (ht.block b hb hn)]; exact h j hj
/-- How many numbers an engine's data has in memory. -/
def lenE (e : En) : Nat := lenS e.L e.L.length * 4 + (lenT e.F e.F.length * 3 + e.H.length * 5)
def mkEn (q : Int) (e : En) : En := { e with L := mkS q e.L, F := mkTS (q + ((lenS e.L e.L.length * 4 : Nat) : Int)) e.F, H := marksHd (q + ((lenS e.L e.L.length * 4 : Nat) : Int) + ((lenT e.F e.F.length * 3 : Nat) : Int)) e.H.length }
set_option maxHeartbeats 2000000 in
set_option maxRecDepth 100000 in
theorem markEngine_own (B : Nat) (e : En) (u1 u2 u3 : Value) (fp : List Nat) (q q2 : Int) (hq : q2 = q + (lenE e : Int)) (w : World) (hs : EnSz e) (hk : 0 ≤ q) (hk' : q ≤ 10) (h : OwE w B e u1 u2 u3 fp) :
    Calls Tryz.prog 51 #[env e.k u1 u2 e.x u3 e.o e.p, .int .i64 q] w fun r w' => r = .returned (.int .i64 q2) ∧ OwE w' B (mkEn q e) u1 u2 u3 fp ∧ Turn w w' fp := by
  have hrng := h.rng
  obtain ⟨f1, f2, f3, h1, h2, h3, rfl, hn⟩ := h
  obtain ⟨hn1, hn23, hd1⟩ := List.nodup_append.1 hn
  obtain ⟨hn2, hn3, hd2⟩ := List.nodup_append.1 hn23
  obtain ⟨W, hW⟩ : ∃ W, W = w.alloc (.cells #[.int .i64 e.k, u1, u2, .int .i64 e.x, u3, .int .i64 e.o, .bool e.p] 30) := ⟨_, rfl⟩
  have hB0 : Below w.heap.size w W := by rw [hW]; exact below_alloc1 _ _
  have hX0 : Bxd W w.heap.size [.int .i64 e.k, u1, u2, .int .i64 e.x, u3, .int .i64 e.o, .bool e.p] := by rw [hW]; exact Bxd.new _ _ _
  have hg : w.heap.size < W.heap.size := by rw [hW]; simp
  have N1 := Lib.hid (show w.heap.size ∉ f1 from fun hm => by have := (hrng _ (List.mem_append_left _ hm)).2; omega)
  have N2 := Lib.hid (show w.heap.size ∉ f2 from fun hm => by have := (hrng _ (List.mem_append_right _ (List.mem_append_left _ hm))).2; omega)
  have A12 := Lib.hid (show ∀ b ∈ f2, b ∉ f1 from fun b hb hb' => hd1 b hb' b (List.mem_append_left _ hb) rfl)
  have A13 := Lib.hid (show ∀ b ∈ f3, b ∉ f1 from fun b hb hb' => hd1 b hb' b (List.mem_append_right _ hb) rfl)
  have A23 := Lib.hid (show ∀ b ∈ f3, b ∉ f2 from fun b hb hb' => hd2 b hb' b hb rfl)
  have A21 := Lib.hid (show ∀ b ∈ f1, b ∉ f2 from fun b hb hb' => hd1 b hb b (List.mem_append_left _ hb') rfl)
  have A31 := Lib.hid (show ∀ b ∈ f1, b ∉ f3 from fun b hb hb' => hd1 b hb b (List.mem_append_right _ hb') rfl)
  have A32 := Lib.hid (show ∀ b ∈ f2, b ∉ f3 from fun b hb hb' => hd2 b hb b hb' rfl)
  have H1 := Lib.hid (h1.below hB0)
  have H2 := Lib.hid (h2.below hB0)
  have H3 := Lib.hid (h3.below hB0)
  have HT0 := Lib.hid (Turn.of_below hB0 (f1 ++ (f2 ++ f3)))
  have HX0 := Lib.hid hX0
  have HG := Lib.hid hg
  have HSz := Lib.hid hs
  have HN := Lib.hid hn
  obtain ⟨p1, hp1⟩ : ∃ p : Int, p = q + ((lenS e.L e.L.length * 4 : Nat) : Int) := ⟨_, rfl⟩
  obtain ⟨p2, hp2⟩ : ∃ p : Int, p = p1 + ((lenT e.F e.F.length * 3 : Nat) : Int) := ⟨_, rfl⟩
  have hb1 := hs.lt
  have hb2 := hs.ft
  have hq3 : q2 = p2 + ((e.H.length * 5 : Nat) : Int) := by rw [hq, hp2, hp1, lenE]; omega
  have HK1 := Lib.hid (show 0 ≤ p1 ∧ p1 ≤ 1000000000 by omega)
  have HK2 := Lib.hid (show 0 ≤ p2 ∧ p2 ≤ 1099511627776 by omega)
  have HP1 := Lib.hid hp1
  have HP2 := Lib.hid hp2
  have HQ3 := Lib.hid hq3
  have HW := Lib.hid hW
  clear hW hB0 hX0 hg h1 h2 h3 hs hn hn1 hn23 hd1 hn2 hn3 hd2 hrng hp1 hp2 hb1 hb2 hq3 hq
  go_enter Tryz.func51, Tryz.ntmps51
  go_upto_region 1 with (fail)
  rw [← HW.out]
  have x0 := HX0.out.at 0 _ rfl
  have x1 := HX0.out.at 1 _ rfl
  have x2 := HX0.out.at 2 _ rfl
  have x3 := HX0.out.at 3 _ rfl
  have x4 := HX0.out.at 4 _ rfl
  have x5 := HX0.out.at 5 _ rfl
  have x6 := HX0.out.at 6 _ rfl
  go_wp2_with fail
  refine (markKeymap_own B e.k u1 e.L f1 q _ HSz.out.l HSz.out.lt hk (by omega) H1.out).mono ?_
  rw [← HP1.out]
  rintro r w1 ⟨rfl, ho, ht⟩
  have H11 := Lib.hid ho
  have H21 := Lib.hid (H2.out.turn ht A12.out)
  have H31 := Lib.hid (H3.out.turn ht A13.out)
  have HX1 := Lib.hid (HX0.out.turn ht HG.out N1.out)
  have HG1 := Lib.hid (Nat.lt_of_lt_of_le HG.out ht.size)
  have HT1 := Lib.hid (HT0.out.trans (ht.mono (fun x hx => List.mem_append_left _ hx)))
  clear ho ht x0 x1 x2 x3 x4 x5 x6
  have x0 := HX1.out.at 0 _ rfl
  have x1 := HX1.out.at 1 _ rfl
  have x2 := HX1.out.at 2 _ rfl
  have x3 := HX1.out.at 3 _ rfl
  have x4 := HX1.out.at 4 _ rfl
  have x5 := HX1.out.at 5 _ rfl
  have x6 := HX1.out.at 6 _ rfl
  go_wp2_with fail
  refine (markStepSS_own B u2 e.F f2 p1 _ HSz.out.f HSz.out.ft HK1.out.1 HK1.out.2 H21.out).mono ?_
  rw [← HP2.out]
  rintro r w2 ⟨rfl, ho, ht⟩
  have H12 := Lib.hid (H11.out.turn ht A21.out)
  have H22 := Lib.hid ho
  have H32 := Lib.hid (H31.out.turn ht A23.out)
  have HX2 := Lib.hid (HX1.out.turn ht HG1.out N2.out)
  have HT2 := Lib.hid (HT1.out.trans (ht.mono (fun x hx => List.mem_append_right _ (List.mem_append_left _ hx))))
  clear ho ht x0 x1 x2 x3 x4 x5 x6
  have x0 := HX2.out.at 0 _ rfl
  have x1 := HX2.out.at 1 _ rfl
  have x2 := HX2.out.at 2 _ rfl
  have x3 := HX2.out.at 3 _ rfl
  have x4 := HX2.out.at 4 _ rfl
  have x5 := HX2.out.at 5 _ rfl
  have x6 := HX2.out.at 6 _ rfl
  go_wp2_with fail
  refine (markHeldS_law B u3 e.H f3 p2 _ HSz.out.h HK2.out.1 HK2.out.2 H32.out).mono ?_
  rw [← HQ3.out]
  rintro r w3 ⟨rfl, ho, ht⟩
  have H13 := Lib.hid (H12.out.turn ht A31.out)
  have H23 := Lib.hid (H22.out.turn ht A32.out)
  have H33 := Lib.hid ho
  have HT3 := Lib.hid (HT2.out.trans (ht.mono (fun x hx => List.mem_append_right _ (List.mem_append_right _ hx))))
  clear ho ht x0 x1 x2 x3 x4 x5 x6
  go_wp2
  go_ret
  refine ⟨rfl, ⟨f1, f2, f3, H13.out, ?_, ?_, rfl, HN.out⟩, HT3.out⟩
  · show LoT _ B u2 (mkTS (q + ((lenS e.L e.L.length * 4 : Nat) : Int)) e.F) f2
    rw [← HP1.out]; exact H23.out
  · show OwF _ B _ 5 u3 (marksHd (q + ((lenS e.L e.L.length * 4 : Nat) : Int) + ((lenT e.F e.F.length * 3 : Nat) : Int)) e.H.length).length (flatHd (marksHd (q + ((lenS e.L e.L.length * 4 : Nat) : Int) + ((lenT e.F e.F.length * 3 : Nat) : Int)) e.H.length)) f3
    rw [← HP1.out, ← HP2.out, marksHd_len]; exact H33.out

set_option maxHeartbeats 2000000 in
set_option maxRecDepth 100000 in
theorem heldEngine_any (e : En) (u1 u2 u3 : Value) (q q2 : Int) (hq : q2 = q + (lenE e : Int)) (w : World) (hs : EnSz e) (hk : 0 ≤ q) (hk' : q ≤ 10) (h : RdE w (mkEn q e) u1 u2 u3) :
    Calls Tryz.prog 53 #[env e.k u1 u2 e.x u3 e.o e.p, .int .i64 q] w fun r w' => r = .returned (.int .i64 q2) ∧ Below w.heap.size w w' := by
  obtain ⟨h1, h2, h3⟩ := h
  obtain ⟨p1, hp1⟩ : ∃ p : Int, p = q + ((lenS e.L e.L.length * 4 : Nat) : Int) := ⟨_, rfl⟩
  obtain ⟨p2, hp2⟩ : ∃ p : Int, p = p1 + ((lenT e.F e.F.length * 3 : Nat) : Int) := ⟨_, rfl⟩
  have hb1 := hs.lt
  have hb2 := hs.ft
  have hq3 : q2 = p2 + ((e.H.length * 5 : Nat) : Int) := by rw [hq, hp2, hp1, lenE]; omega
  have H1 := Lib.hid (show LdS w u1 (mkS q e.L) from h1)
  have H2 := Lib.hid (show LdT w u2 (mkTS p1 e.F) from by rw [hp1]; exact h2)
  have h3' : RdN w u3 e.H.length (flatHd (marksHd p2 e.H.length)) := by
    have h4 : RdN w u3 (marksHd (q + ((lenS e.L e.L.length * 4 : Nat) : Int) + ((lenT e.F e.F.length * 3 : Nat) : Int)) e.H.length).length (flatHd (marksHd (q + ((lenS e.L e.L.length * 4 : Nat) : Int) + ((lenT e.F e.F.length * 3 : Nat) : Int)) e.H.length)) := h3
    rw [marksHd_len, ← hp1, ← hp2] at h4; exact h4
  have H3 := Lib.hid h3'
  have g1 : ¬ p1 < 0 := by omega
  have g2 : ¬ p2 < 0 := by omega
  have g3 : ¬ q2 < 0 := by omega
  have HSz := Lib.hid hs
  have HK1 := Lib.hid (show 0 ≤ p1 ∧ p1 ≤ 1000000000 by omega)
  have HK2 := Lib.hid (show 0 ≤ p2 ∧ p2 ≤ 1099511627776 by omega)
  have HP1 := Lib.hid hp1
  have HP2 := Lib.hid hp2
  have HQ3 := Lib.hid hq3
  clear h1 h2 h3 h3' hs hp1 hp2 hb1 hb2 hq3 hq
  obtain ⟨W, hW⟩ : ∃ W, W = w.alloc (.cells #[.int .i64 e.k, u1, u2, .int .i64 e.x, u3, .int .i64 e.o, .bool e.p] 30) := ⟨_, rfl⟩
  have HB0 := Lib.hid (show Below w.heap.size w W by rw [hW]; exact below_alloc1 _ _)
  have HX0 := Lib.hid (show Bxd W w.heap.size [.int .i64 e.k, u1, u2, .int .i64 e.x, u3, .int .i64 e.o, .bool e.p] by rw [hW]; exact Bxd.new _ _ _)
  have HG0 := Lib.hid (show w.heap.size < W.heap.size by rw [hW]; simp)
  have HW := Lib.hid hW
  clear hW
  go_enter Tryz.func53, Tryz.ntmps53
  go_upto_region 1 with (fail)
  rw [← HW.out]
  have x0 := HX0.out.at 0 _ rfl
  have x1 := HX0.out.at 1 _ rfl
  have x2 := HX0.out.at 2 _ rfl
  have x3 := HX0.out.at 3 _ rfl
  have x4 := HX0.out.at 4 _ rfl
  have x5 := HX0.out.at 5 _ rfl
  have x6 := HX0.out.at 6 _ rfl
  go_wp2_with fail
  refine (heldKeymap_any e.k u1 e.L q _ HSz.out.l HSz.out.lt hk (by omega) (H1.out.below HB0.out)).mono ?_
  rw [← HP1.out]
  rintro r w1 ⟨rfl, hb⟩
  have HB1 := Lib.hid (HB0.out.trans (hb.mono HB0.out.size))
  have HX1 := Lib.hid (HX0.out.below hb HG0.out)
  clear hb x0 x1 x2 x3 x4 x5 x6
  have x0 := HX1.out.at 0 _ rfl
  have x1 := HX1.out.at 1 _ rfl
  have x2 := HX1.out.at 2 _ rfl
  have x3 := HX1.out.at 3 _ rfl
  have x4 := HX1.out.at 4 _ rfl
  have x5 := HX1.out.at 5 _ rfl
  have x6 := HX1.out.at 6 _ rfl
  go_wp2_with fail
  refine (heldStepSS_any u2 e.F p1 _ HSz.out.f HSz.out.ft HK1.out.1 HK1.out.2 (H2.out.below HB1.out)).mono ?_
  rw [← HP2.out]
  rintro r v0 ⟨rfl, rfl⟩
  go_wp2_with fail
  refine (heldHeldS_any u3 e.H.length p2 _ HSz.out.h HK2.out.1 HK2.out.2 (H3.out.below HB1.out)).mono ?_
  rw [← HQ3.out]
  rintro r v0 ⟨rfl, rfl⟩
  go_wp2
  go_ret
  exact ⟨rfl, HB1.out⟩

/-- How many elements an engine's slices have. -/
def totE (e : En) : Nat := (e.L.length + lenS e.L e.L.length) + (e.F.length + lenT e.F e.F.length) + e.H.length
set_option maxHeartbeats 2000000 in
set_option maxRecDepth 100000 in
theorem szEngine_any (e : En) (u1 u2 u3 : Value) (r : Int) (hr : r = if totE e ≤ 1048576 then 1048576 - (totE e : Int) else -1) (w : World) (hn1 : e.L.length ≤ maxLen) (hm1 : ∀ l ∈ e.L, l.length ≤ maxLen) (hn2 : e.F.length ≤ maxLen) (hm2 : ∀ l ∈ e.F, l.length ≤ maxLen) (hn3 : e.H.length ≤ maxLen) (h : RdE w e u1 u2 u3) :
    Calls Tryz.prog 47 #[env e.k u1 u2 e.x u3 e.o e.p, .int .i64 1048576] w fun e w' => e = .returned (.int .i64 r) ∧ Below w.heap.size w w' := by
  obtain ⟨h1, h2, h3⟩ := h
  obtain ⟨a3, c3, rfl⟩ := RdN.shape h3
  obtain ⟨nL, hnL⟩ : ∃ x, x = e.L.length + lenS e.L e.L.length := ⟨_, rfl⟩
  obtain ⟨nF, hnF⟩ : ∃ x, x = e.F.length + lenT e.F e.F.length := ⟨_, rfl⟩
  obtain ⟨nH, hnH⟩ : ∃ x, x = e.H.length := ⟨_, rfl⟩
  have ht : totE e = nL + nF + nH := by rw [totE, hnL, hnF, hnH]
  rw [ht] at hr
  have H1 := Lib.hid h1
  have H2 := Lib.hid h2
  have HN1 := Lib.hid hn1
  have HM1 := Lib.hid hm1
  have HN2 := Lib.hid hn2
  have HM2 := Lib.hid hm2
  have HN3 := Lib.hid (show nH ≤ maxLen by rw [hnH]; exact hn3)
  rw [← hnH]
  have HnL := Lib.hid hnL
  have HnF := Lib.hid hnF
  have HR := Lib.hid hr
  clear h1 h2 h3 hn1 hm1 hn2 hm2 hn3 ht hnL hnF hnH hr
  obtain ⟨W, hW⟩ : ∃ W, W = w.alloc (.cells #[.int .i64 e.k, u1, u2, .int .i64 e.x , .slice a3 nH c3, .int .i64 e.o, .bool e.p] 91) := ⟨_, rfl⟩
  have HB0 := Lib.hid (show Below w.heap.size w W by rw [hW]; exact below_alloc1 _ _)
  have HX0 := Lib.hid (show Bxd W w.heap.size [.int .i64 e.k, u1, u2, .int .i64 e.x , .slice a3 nH c3, .int .i64 e.o, .bool e.p] by rw [hW]; exact Bxd.new _ _ _)
  have HG0 := Lib.hid (show w.heap.size < W.heap.size by rw [hW]; simp)
  have HW := Lib.hid hW
  clear hW
  go_enter Tryz.func47, Tryz.ntmps47
  go_upto_region 1 with (fail)
  rw [← HW.out]
  have x0 := HX0.out.at 0 _ rfl
  have x1 := HX0.out.at 1 _ rfl
  have x2 := HX0.out.at 2 _ rfl
  have x3 := HX0.out.at 3 _ rfl
  have x4 := HX0.out.at 4 _ rfl
  have x5 := HX0.out.at 5 _ rfl
  have x6 := HX0.out.at 6 _ rfl
  go_wp2_with fail
  refine (szKeymap_any e.k u1 e.L _ HN1.out HM1.out (H1.out.below HB0.out)).mono ?_
  rw [← HnL.out]
  by_cases g1 : nL ≤ 1048576
  · rw [if_pos g1]
    obtain ⟨X, hX⟩ : ∃ X : Nat, X = 1048576 - nL := ⟨_, rfl⟩
    rw [show (1048576 : Int) - (nL : Int) = (X : Nat) by omega]
    have HXX := Lib.hid (show X + nL = 1048576 by omega)
    clear hX
    rintro r1 w1 ⟨rfl, hb⟩
    have HB1 := Lib.hid (HB0.out.trans (hb.mono HB0.out.size))
    have HX1 := Lib.hid (HX0.out.below hb HG0.out)
    clear hb x0 x1 x2 x3 x4 x5 x6
    have x0 := HX1.out.at 0 _ rfl
    have x1 := HX1.out.at 1 _ rfl
    have x2 := HX1.out.at 2 _ rfl
    have x3 := HX1.out.at 3 _ rfl
    have x4 := HX1.out.at 4 _ rfl
    have x5 := HX1.out.at 5 _ rfl
    have x6 := HX1.out.at 6 _ rfl
    go_wp2_with fail
    refine (szStepSS_any X (by have := HXX.out; omega) u2 e.F _ HN2.out HM2.out (H2.out.below HB1.out)).mono ?_
    rw [← HnF.out]
    by_cases g2 : nF ≤ X
    · rw [if_pos g2]
      obtain ⟨Y, hY⟩ : ∃ Y : Nat, Y = X - nF := ⟨_, rfl⟩
      rw [show (X : Int) - (nF : Int) = (Y : Nat) by omega]
      have HYY := Lib.hid (show Y + nF = X by omega)
      clear hY
      rintro r2 v0 ⟨rfl, rfl⟩
      go_wp2_with fail
      refine (szHeldS_any a3 nH c3 (Y : Nat) _ (by omega) (by have := HXX.out; have := HYY.out; omega) HN3.out).mono ?_
      by_cases g3 : nH ≤ Y
      · rw [if_neg (by omega)]
        have hr0 : ((Y : Nat) : Int) - (nH : Int) = r := by have := HXX.out; have := HYY.out; rw [HR.out, if_pos (by omega)]; omega
        have hrn : ¬ r < 0 := by rw [← hr0]; omega
        rw [hr0]
        clear hr0
        rintro r3 v0 ⟨rfl, rfl⟩
        go_wp2
        go_ret
        exact ⟨rfl, HB1.out⟩
      · rw [if_pos (by omega)]
        have hr0 : r = -1 := by have := HXX.out; have := HYY.out; rw [HR.out, if_neg (by omega)]
        subst hr0
        rintro r3 v0 ⟨rfl, rfl⟩
        go_wp2
        go_ret
        exact ⟨rfl, HB1.out⟩
    · rw [if_neg g2]
      have hr0 : r = -1 := by have := HXX.out; rw [HR.out, if_neg (by omega)]
      subst hr0
      rintro r2 v0 ⟨rfl, rfl⟩
      go_wp2
      go_ret
      exact ⟨rfl, HB1.out⟩
  · rw [if_neg g1]
    have hr0 : r = -1 := by rw [HR.out, if_neg (by omega)]
    subst hr0
    rintro r1 w1 ⟨rfl, hb⟩
    have HB1 := Lib.hid (HB0.out.trans (hb.mono HB0.out.size))
    clear hb x0 x1 x2 x3 x4 x5 x6
    go_wp2
    go_ret
    exact ⟨rfl, HB1.out⟩
end Go.Proofs.YtjfckchoklepbaaGreat

namespace Go.Proofs.YtjfckchoklepbaaGreat
open Go.RowKit

theorem nodup3 {f1 f2 f3 : List Nat} {a b b' c c' d : Nat} (n1 : f1.Nodup) (n2 : f2.Nodup) (n3 : f3.Nodup) (h1 : ∀ x ∈ f1, a ≤ x ∧ x < b) (h2 : ∀ x ∈ f2, b' ≤ x ∧ x < c) (h3 : ∀ x ∈ f3, c' ≤ x ∧ x < d) (hb : b ≤ b') (hc : c ≤ c') (hbc : b ≤ c') : (f1 ++ (f2 ++ f3)).Nodup := by
  refine List.nodup_append.2 ⟨n1, List.nodup_append.2 ⟨n2, n3, fun x hx y hy e => ?_⟩, fun x hx y hy e => ?_⟩
  · have := h2 x hx; have := h3 y hy; omega
  · rcases List.mem_append.1 hy with hy | hy
    · have := h1 x hx; have := h2 y hy; omega
    · have := h1 x hx; have := h3 y hy; omega
/-- A copy of an engine. -/
def EnO (e : En) (w : World) (r : Ending) (w' : World) : Prop := ∃ a1 c1 a2 c2 a3 c3 fp, r = .returned (env e.k (.slice a1 e.L.length c1) (.slice a2 e.F.length c2) e.x (.slice a3 e.H.length c3) e.o e.p) ∧ OwE w' w.heap.size e (.slice a1 e.L.length c1) (.slice a2 e.F.length c2) (.slice a3 e.H.length c3) fp ∧ Below w.heap.size w w'

set_option maxHeartbeats 4000000 in
set_option maxRecDepth 100000 in
theorem toEngine_any (e : En) (u1 u2 u3 : Value) (w : World) (hs : EnSz e) (h : RdE w e u1 u2 u3) :
    Calls Tryz.prog 48 #[env e.k u1 u2 e.x u3 e.o e.p] w (EnO e w) := by
  obtain ⟨W, hW⟩ : ∃ W, W = ((w.alloc (.cells #[.int .i64 e.k, u1, u2, .int .i64 e.x, u3, .int .i64 e.o, .bool e.p] 91)).alloc (.cells #[.int .i64 0, .slice none 0 0, .slice none 0 0, .int .i64 0, .slice none 0 0, .int .i64 0, .bool false] 30)).alloc (.cells #[.int .i64 0, .slice none 0 0, .slice none 0 0, .int .i64 0, .slice none 0 0, .int .i64 0, .bool false] 30) := ⟨_, rfl⟩
  obtain ⟨gr, hgr⟩ : ∃ g, g = w.heap.size + 1 := ⟨_, rfl⟩
  obtain ⟨go, hgo⟩ : ∃ g, g = w.heap.size + 1 + 1 := ⟨_, rfl⟩
  have HB0 := Lib.hid (show Below w.heap.size w W by rw [hW]; exact (((Below.refl _ _).alloc (Nat.le_refl _) _).alloc (by simp) _).alloc (by simp; omega) _)
  have HX0 := Lib.hid (show W.heap[w.heap.size]? = some (.cells #[.int .i64 e.k, u1, u2, .int .i64 e.x, u3, .int .i64 e.o, .bool e.p] 91 (0, 0)) by
    rw [hW, Below.heap_alloc _ _ _ (by simp; omega), Below.heap_alloc _ _ _ (by simp)]; exact heap_alloc_new w _)
  have HR0 := Lib.hid (show W.heap[gr]? = some (.cells #[.int .i64 0, .slice none 0 0, .slice none 0 0, .int .i64 0, .slice none 0 0, .int .i64 0, .bool false] 30 (0, 0)) by
    rw [hW, hgr, Below.heap_alloc _ _ _ (by simp)]; simpa using heap_alloc_new (w.alloc (.cells #[.int .i64 e.k, u1, u2, .int .i64 e.x, u3, .int .i64 e.o, .bool e.p] 91)) _)
  have HO0 := Lib.hid (show W.heap[go]? = some (.cells #[.int .i64 0, .slice none 0 0, .slice none 0 0, .int .i64 0, .slice none 0 0, .int .i64 0, .bool false] 30 (0, 0)) by
    rw [hW, hgo]; simpa using heap_alloc_new ((w.alloc (.cells #[.int .i64 e.k, u1, u2, .int .i64 e.x, u3, .int .i64 e.o, .bool e.p] 91)).alloc (.cells #[.int .i64 0, .slice none 0 0, .slice none 0 0, .int .i64 0, .slice none 0 0, .int .i64 0, .bool false] 30)) _)
  have HSZ := Lib.hid (show W.heap.size = w.heap.size + 1 + 1 + 1 by rw [hW]; simp)
  have HGR := Lib.hid hgr
  have HGO := Lib.hid hgo
  have HR := Lib.hid h
  have HSz := Lib.hid hs
  go_enter Tryz.func48, Tryz.ntmps48
  go_upto_region 2 with (fail)
  rw [← hW, ← hgo, ← hgr]
  clear hW hgr hgo h hs
  have x0 := (cells_of_heap HX0.out 0 (by simp)).1
  have x1 := (cells_of_heap HX0.out 1 (by simp)).1
  simp only [List.getElem_toArray, List.getElem_cons_zero, List.getElem_cons_succ] at x0 x1
  go_wp2_with fail
  refine (toKeymap_any e.k u1 e.L _ HSz.out.l HSz.out.lr (HR.out.map.below HB0.out)).mono ?_
  rintro r w1 ⟨a1, c1, f1, rfl, h1, hb⟩
  have HN1 := Lib.hid h1.nodup
  have HF1 := Lib.hid h1
  have HB1 := Lib.hid (HB0.out.trans (hb.mono HB0.out.size))
  have HX1 := Lib.hid ((hb.block w.heap.size (by have := HSZ.out; omega)).trans HX0.out)
  have HR1 := Lib.hid ((hb.block gr (by have := HSZ.out; have := HGR.out; omega)).trans HR0.out)
  have HO1 := Lib.hid ((hb.block go (by have := HSZ.out; have := HGO.out; omega)).trans HO0.out)
  have HS1 := Lib.hid hb.size
  clear h1 hb x0 x1
  obtain ⟨o0, p0⟩ := cells_of_heap HO1.out 0 (by simp)
  obtain ⟨o1, p1⟩ := cells_of_heap HO1.out 1 (by simp)
  go_upto_region 3 with (fail)
  obtain ⟨X1, hX1⟩ : ∃ x, x = (w1.setCell ⟨go, 0, none⟩ (.int .i64 e.k)).setCell ⟨go, 1, none⟩ (.slice a1 e.L.length c1) := ⟨_, rfl⟩
  have ht : Turn w1 X1 [go] := by rw [hX1]; exact (Turn.of_grown (grown_set w1 go 0 _)).trans (Turn.of_grown (grown_set _ go 1 _))
  have hne1 : w.heap.size ∉ [go] := by have := HGO.out; simp; omega
  have hne2 : gr ∉ [go] := by have := HGO.out; have := HGR.out; simp; omega
  have HO2 := Lib.hid (show X1.heap[go]? = some (.cells #[.int .i64 e.k, .slice a1 e.L.length c1, .slice none 0 0, .int .i64 0, .slice none 0 0, .int .i64 0, .bool false] 30 (0, 0)) by rw [hX1]; exact heap_setCell_same _ go 1 _ _ _ (heap_setCell_same w1 go 0 _ _ _ HO1.out))
  have HX2 := Lib.hid (blk_turn HX1.out ht hne1)
  have HR2 := Lib.hid (blk_turn HR1.out ht hne2)
  have HF2 := Lib.hid (HF1.out.turn ht (fun b hb hm => by have := (HF1.out.rng b hb).1; have := HSZ.out; have := HGO.out; rw [List.mem_singleton] at hm; omega))
  have HB2 := Lib.hid (HB1.out.trans (ht.below (fun b hb => by rw [List.mem_singleton] at hb; have := HGO.out; have := HB1.out; have := HSZ.out; have := HS1.out; have : w.heap.size ≤ b := by omega
                                                               exact this) (by have := HB1.out.size; exact this)))
  have HS2 := Lib.hid (show X1.heap.size = w1.heap.size by rw [hX1]; simp)
  rw [← hX1]
  clear hX1 ht hne1 hne2 o0 o1 p0 p1
  have x2 := (cells_of_heap HX2.out 2 (by simp)).1
  simp only [List.getElem_toArray, List.getElem_cons_zero, List.getElem_cons_succ] at x2
  go_wp2_with fail
  refine (toStepSS_any u2 e.F _ HSz.out.f HSz.out.fr (HR.out.mac.below HB2.out)).mono ?_
  rintro r w2 ⟨s2, f2, rfl, h2, hb⟩
  obtain ⟨a2, c2, rfl⟩ := RdSt.shape h2.rd
  have HN2 := Lib.hid h2.nodup
  have HG2 := Lib.hid h2
  have hgx : w.heap.size < X1.heap.size := (Array.getElem?_eq_some_iff.mp HX2.out).1
  have hgr : gr < X1.heap.size := (Array.getElem?_eq_some_iff.mp HR2.out).1
  have hgo : go < X1.heap.size := (Array.getElem?_eq_some_iff.mp HO2.out).1
  have HB3 := Lib.hid (HB2.out.trans (hb.mono HB2.out.size))
  have HX3 := Lib.hid ((hb.block w.heap.size hgx).trans HX2.out)
  have HR3 := Lib.hid ((hb.block gr hgr).trans HR2.out)
  have HO3 := Lib.hid ((hb.block go hgo).trans HO2.out)
  have HF3 := Lib.hid (HF2.out.below hb)
  have HS3 := Lib.hid hb.size
  have HGO2 := Lib.hid hgo
  clear h2 hb x2 hgx hgr hgo
  obtain ⟨o2, p2⟩ := cells_of_heap HO3.out 2 (by simp)
  obtain ⟨o3, p3⟩ := cells_of_heap HO3.out 3 (by simp)
  have x3 := (cells_of_heap HX3.out 3 (by simp)).1
  simp only [List.getElem_toArray, List.getElem_cons_zero, List.getElem_cons_succ] at x3
  have hne : ¬ w.heap.size = go := by have := HGO.out; omega
  go_upto_region 5 with (fail)
  obtain ⟨X2, hX2⟩ : ∃ x, x = (w2.setCell ⟨go, 2, none⟩ (.slice a2 e.F.length c2)).setCell ⟨go, 3, none⟩ (.int .i64 e.x) := ⟨_, rfl⟩
  have ht : Turn w2 X2 [go] := by rw [hX2]; exact (Turn.of_grown (grown_set w2 go 2 _)).trans (Turn.of_grown (grown_set _ go 3 _))
  have hne1 : w.heap.size ∉ [go] := by have := HGO.out; simp; omega
  have hne2 : gr ∉ [go] := by have := HGO.out; have := HGR.out; simp; omega
  have HO4 := Lib.hid (show X2.heap[go]? = some (.cells #[.int .i64 e.k, .slice a1 e.L.length c1, .slice a2 e.F.length c2, .int .i64 e.x, .slice none 0 0, .int .i64 0, .bool false] 30 (0, 0)) by rw [hX2]; exact heap_setCell_same _ go 3 _ _ _ (heap_setCell_same w2 go 2 _ _ _ HO3.out))
  have HX4 := Lib.hid (blk_turn HX3.out ht hne1)
  have HR4 := Lib.hid (blk_turn HR3.out ht hne2)
  have HF4 := Lib.hid (HF3.out.turn ht (fun b hb hm => by have := (HF1.out.rng b hb).1; have := HSZ.out; have := HGO.out; rw [List.mem_singleton] at hm; omega))
  have HG4 := Lib.hid (HG2.out.turn ht (fun b hb hm => by have := (HG2.out.rng b hb).1; have := HGO2.out; rw [List.mem_singleton] at hm; omega))
  have HB4 := Lib.hid (HB3.out.trans (ht.below (fun b hb => show w.heap.size ≤ b by rw [List.mem_singleton] at hb; have := HGO.out; omega) HB3.out.size))
  have HS4 := Lib.hid (show X2.heap.size = w2.heap.size by rw [hX2]; simp)
  rw [← hX2]
  clear hX2 ht hne1 hne2 o2 o3 p2 p3 x3
  have x4 := (cells_of_heap HX4.out 4 (by simp)).1
  simp only [List.getElem_toArray, List.getElem_cons_zero, List.getElem_cons_succ] at x4
  go_wp2_with fail
  refine (toHeldS_law u3 e.H _ HSz.out.h (HR.out.held.below HB4.out)).mono ?_
  rintro r w3 ⟨a3, c3, f3, rfl, h3, hb⟩
  have HN3 := Lib.hid h3.nodup
  have HH3 := Lib.hid h3
  have hgx : w.heap.size < X2.heap.size := (Array.getElem?_eq_some_iff.mp HX4.out).1
  have hgr : gr < X2.heap.size := (Array.getElem?_eq_some_iff.mp HR4.out).1
  have hgo : go < X2.heap.size := (Array.getElem?_eq_some_iff.mp HO4.out).1
  have HB5 := Lib.hid (HB4.out.trans (hb.mono HB4.out.size))
  have HX5 := Lib.hid ((hb.block w.heap.size hgx).trans HX4.out)
  have HR5 := Lib.hid ((hb.block gr hgr).trans HR4.out)
  have HO5 := Lib.hid ((hb.block go hgo).trans HO4.out)
  have HF5 := Lib.hid (HF4.out.below hb)
  have HG5 := Lib.hid (HG4.out.below hb)
  have HGO4 := Lib.hid hgo
  have HGR4 := Lib.hid hgr
  clear h3 hb x4 hgx hgr hgo
  obtain ⟨o4, p4⟩ := cells_of_heap HO5.out 4 (by simp)
  obtain ⟨o5, p5⟩ := cells_of_heap HO5.out 5 (by simp)
  obtain ⟨o6, p6⟩ := cells_of_heap HO5.out 6 (by simp)
  have x5 := (cells_of_heap HX5.out 5 (by simp)).1
  have x6 := (cells_of_heap HX5.out 6 (by simp)).1
  simp only [List.getElem_toArray, List.getElem_cons_zero, List.getElem_cons_succ] at x5 x6
  go_upto_region 8 with (fail)
  obtain ⟨X3, hX3⟩ : ∃ x, x = ((w3.setCell ⟨go, 4, none⟩ (.slice a3 e.H.length c3)).setCell ⟨go, 5, none⟩ (.int .i64 e.o)).setCell ⟨go, 6, none⟩ (.bool e.p) := ⟨_, rfl⟩
  have ht : Turn w3 X3 [go] := by rw [hX3]; exact ((Turn.of_grown (grown_set w3 go 4 _)).trans (Turn.of_grown (grown_set _ go 5 _))).trans (Turn.of_grown (grown_set _ go 6 _))
  have hne2 : gr ∉ [go] := by have := HGO.out; have := HGR.out; simp; omega
  have HO6 := Lib.hid (show X3.heap[go]? = some (.cells #[.int .i64 e.k, .slice a1 e.L.length c1, .slice a2 e.F.length c2, .int .i64 e.x, .slice a3 e.H.length c3, .int .i64 e.o, .bool e.p] 30 (0, 0)) by rw [hX3]; exact heap_setCell_same _ go 6 _ _ _ (heap_setCell_same _ go 5 _ _ _ (heap_setCell_same w3 go 4 _ _ _ HO5.out)))
  have HR6 := Lib.hid (blk_turn HR5.out ht hne2)
  have HF6 := Lib.hid (HF5.out.turn ht (fun b hb hm => by have := (HF1.out.rng b hb).1; have := HSZ.out; have := HGO.out; rw [List.mem_singleton] at hm; omega))
  have HG6 := Lib.hid (HG5.out.turn ht (fun b hb hm => by have := (HG2.out.rng b hb).1; have := HGO2.out; rw [List.mem_singleton] at hm; omega))
  have HH6 := Lib.hid (HH3.out.turn ht (fun b hb hm => by have := (HH3.out.rng b hb).1; have := HGO4.out; rw [List.mem_singleton] at hm; omega))
  have HB6 := Lib.hid (HB5.out.trans (ht.below (fun b hb => show w.heap.size ≤ b by rw [List.mem_singleton] at hb; have := HGO.out; omega) HB5.out.size))
  rw [← hX3]
  clear hX3 ht hne2 o4 o5 o6 p4 p5 p6 x5 x6
  have y0 := (cells_of_heap HO6.out 0 (by simp)).1
  have y1 := (cells_of_heap HO6.out 1 (by simp)).1
  have y2 := (cells_of_heap HO6.out 2 (by simp)).1
  have y3 := (cells_of_heap HO6.out 3 (by simp)).1
  have y4 := (cells_of_heap HO6.out 4 (by simp)).1
  have y5 := (cells_of_heap HO6.out 5 (by simp)).1
  have y6 := (cells_of_heap HO6.out 6 (by simp)).1
  simp only [List.getElem_toArray, List.getElem_cons_zero, List.getElem_cons_succ] at y0 y1 y2 y3 y4 y5 y6
  obtain ⟨z0, q0⟩ := cells_of_heap HR6.out 0 (by simp)
  obtain ⟨z1, q1⟩ := cells_of_heap HR6.out 1 (by simp)
  obtain ⟨z2, q2⟩ := cells_of_heap HR6.out 2 (by simp)
  obtain ⟨z3, q3⟩ := cells_of_heap HR6.out 3 (by simp)
  obtain ⟨z4, q4⟩ := cells_of_heap HR6.out 4 (by simp)
  obtain ⟨z5, q5⟩ := cells_of_heap HR6.out 5 (by simp)
  obtain ⟨z6, q6⟩ := cells_of_heap HR6.out 6 (by simp)
  go_wp2
  clear y0 y1 y2 y3 y4 y5 y6 z0 z1 z2 z3 z4 z5 z6 q0 q1 q2 q3 q4 q5 q6
  have hgr0 : w.heap.size ≤ gr := by have := HGR.out; omega
  have hnd := nodup3 HN1.out HN2.out HN3.out HF1.out.rng HG2.out.rng HH3.out.rng (by have := HS2.out; omega) (by have := HS4.out; omega) (by have := HS2.out; have := HS3.out; have := HS4.out; omega)
  have hngr : gr ∉ f1 ++ (f2 ++ f3) := fun hm => by
    have hz := HSZ.out
    have hr := HGR.out
    have h4 := HGR4.out
    rcases List.mem_append.1 hm with h | h
    · have := (HF1.out.rng gr h).1; omega
    · rcases List.mem_append.1 h with h | h
      · have := (HG2.out.rng gr h).1; have := HS2.out; have := HS1.out; omega
      · have := (HH3.out.rng gr h).1; omega
  have hown : OwE X3 w.heap.size e (.slice a1 e.L.length c1) (.slice a2 e.F.length c2) (.slice a3 e.H.length c3) (f1 ++ (f2 ++ f3)) := ⟨f1, f2, f3, HF6.out.base HB0.out.size, HG6.out.base HB2.out.size, owF_base HH6.out HB4.out.size, rfl, hnd⟩
  have HOWN := Lib.hid hown
  have HNGR := Lib.hid hngr
  clear hnd hown hngr
  obtain ⟨wf, hwf⟩ : ∃ x, x = putW (X3) (gr) 0 [.int .i64 e.k, .slice a1 e.L.length c1, .slice a2 e.F.length c2, .int .i64 e.x, .slice a3 e.H.length c3, .int .i64 e.o, .bool e.p] := ⟨_, rfl⟩
  have kf := putW_all [.int .i64 e.k, .slice a1 e.L.length c1, .slice a2 e.F.length c2, .int .i64 e.x, .slice a3 e.H.length c3, .int .i64 e.o, .bool e.p] HR6.out rfl
  have bf := putW_below (b := gr) (by first | omega | simp) [.int .i64 e.k, .slice a1 e.L.length c1, .slice a2 e.F.length c2, .int .i64 e.x, .slice a3 e.H.length c3, .int .i64 e.o, .bool e.p] 0 _ HB6.out
  have of := HOWN.out.putAt (y := gr) [.int .i64 e.k, .slice a1 e.L.length c1, .slice a2 e.F.length c2, .int .i64 e.x, .slice a3 e.H.length c3, .int .i64 e.o, .bool e.p] HNGR.out 0
  rw [← hwf] at kf bf of
  have cf := hwf.symm
  simp only [putW, Nat.reduceAdd] at cf
  rw [cf]
  clear cf hwf
  have f0 := (cells_of_heap kf 0 (by simp)).1
  have f1 := (cells_of_heap kf 1 (by simp)).1
  have f2 := (cells_of_heap kf 2 (by simp)).1
  have f3 := (cells_of_heap kf 3 (by simp)).1
  have f4 := (cells_of_heap kf 4 (by simp)).1
  have f5 := (cells_of_heap kf 5 (by simp)).1
  have f6 := (cells_of_heap kf 6 (by simp)).1
  simp only [List.getElem_toArray, List.getElem_cons_zero, List.getElem_cons_succ] at f0 f1 f2 f3 f4 f5 f6
  refine bodyPost_ret (v := env e.k (.slice a1 e.L.length c1) (.slice a2 e.F.length c2) e.x (.slice a3 e.H.length c3) e.o e.p) (by simp [results, Tryz.results48, go_sem, f0, f1, f2, f3, f4, f5, f6]) rfl ⟨a1, c1, a2, c2, a3, c3, _, rfl, of, bf⟩

end Go.Proofs.YtjfckchoklepbaaGreat
