/- DERIVED. The program's release, to the engine behind the pointer: the key is taken from the held ones, in their own memory; the reports that change are returned in memory of their own. Called with a key that is held. · The program's Release: the engine without the key, and the reports that change. Called with any engine of at most 1048576 layers, macros, steps and held keys. -/
import Derived.Test.YtbpopgplpipfeaaGreatEnCha
import Derived.Test.YtbpopgplpipfeaaGreatEnImpl
import Derived.Test.YtbpopgplpipfeaaGreatEnNewI
namespace Go.Proofs.YtbpopgplpipfeaaGreat
open Go.RowKit

/-- One owned report in a row of its own. -/
theorem owZ_one {w : World} {B : Nat} {m : Int} {z : List Int} {a : Option Addr} {c : Nat} {fq : List Nat} (h : OwC w B (.row [.int .i64]) (.slice a z.length c) (.row (ones z)) fq) (hn : fq.Nodup) (hB : B ≤ w.heap.size) :
    OwZ rpF (w.alloc (.cells #[.int .i64 m, .slice a z.length c] 47)) B 1 (.slice (some ⟨w.heap.size, 0, none⟩) 1 1) [(m, z)] (w.heap.size :: fq) := by
  have hk := heap_alloc_new w (.cells #[.int .i64 m, .slice a z.length c] 47)
  have hr := h.rng
  refine ⟨[.slice a z.length c], [fq], ⟨⟨rfl, .inr ⟨w.heap.size, 0, 1, _, _, rfl, hB, hk, by simp, rfl⟩⟩, rfl, rfl, ?_, ?_⟩, by simp [ownFp, Value.ownBlock]⟩
  · intro j hj
    obtain rfl : j = 0 := by simpa using hj
    exact h.turn (Turn.of_below (below_alloc1 _ _) []) (fun _ _ hm => by simp at hm)
  · rw [show ownFp (Value.slice (some ⟨w.heap.size, 0, none⟩) 1 1) = [w.heap.size] by simp [ownFp, Value.ownBlock]]
    refine List.nodup_append.2 ⟨by simp, by simpa using hn, fun x hx y hy e => ?_⟩
    rw [List.mem_singleton] at hx
    have := (hr y (by simpa using hy)).2
    omega
theorem owC_ints_nodup {w : World} {B : Nat} {v : Value} {z : List Int} {fp : List Nat} (h : OwC w B (.row [.int .i64]) v (.row (ones z)) fp) : fp.Nodup := by
  simp only [OwC] at h
  obtain ⟨rs, hc, hl, h⟩ := h
  rcases h with ⟨_, _, rfl⟩ | ⟨g, cap, cur, t, fps, hv, hB, hh, hs, rfl, hf, h⟩
  · simp
  · have hall : ∀ f ∈ fps, f = [] := fun f hfm => by
      obtain ⟨i, hi, rfl⟩ := List.getElem_of_mem hfm
      have h2 := h i (by omega) hi
      simp only [OwL] at h2
      obtain ⟨v, vs', c, cs', f, f', -, -, hfe, h3, h4⟩ := h2
      rw [hfe, h3.1, h4.2.2]; rfl
    have : fps.flatten = [] := List.flatten_eq_nil_iff.2 hall
    rw [this]; simp
-- release
theorem OwE.heldIn {w w' : World} {B : Nat} {e : En} {u1 u2 u3 v : Value} {fp : List Nat} {H' : List Hd} (h : OwE w B e u1 u2 u3 fp) (h3 : OwF w' B 43 5 v H'.length (flatHd H') (ownFp u3)) (ht : Turn w w' (ownFp u3)) :
    OwE w' B ⟨e.k, e.L, e.F, e.x, H', e.o, e.p⟩ u1 u2 v fp := by
  obtain ⟨f1, f2, f3, h1, h2, h0, rfl, hn⟩ := h
  obtain rfl : f3 = ownFp u3 := h0.2
  obtain ⟨hn1, hn23, hd1⟩ := List.nodup_append.1 hn
  obtain ⟨hn2, hn3, hd2⟩ := List.nodup_append.1 hn23
  exact ⟨f1, f2, ownFp u3, h1.turn ht (fun b hb hb' => hd1 b hb b (List.mem_append_right _ hb') rfl), h2.turn ht (fun b hb hb' => hd2 b hb b hb' rfl), h3, rfl, hn⟩
theorem delHd_n (B g cap n : Nat) (l : List Hd) (i : Nat) (p q : Int) (w : World) (hn : n = l.length) (hp : p = i) (hq : q = (i : Int) + 1) (hi : i < n) (hl : n ≤ 1048576) (h : w.ownsRow B 43 5 (.slice (some ⟨g, 0, none⟩) n cap) n (flatHd l)) :
    Calls Tryz.prog 102 #[.slice (some ⟨g, 0, none⟩) n cap, .int .i64 p, .int .i64 q] w fun e w' => e = .returned (.slice (some ⟨g, 0, none⟩) (n - 1) cap) ∧
      w'.ownsRow B 43 5 (.slice (some ⟨g, 0, none⟩) (n - 1) cap) (n - 1) (flatHd (l.eraseIdx i)) ∧ w.grownBy w' (some g) := by
  subst hn; exact delHd_any B g cap l i p q w hp hq hi hl h
theorem OwE.heldFp {w : World} {B : Nat} {e : En} {u1 u2 u3 : Value} {fp : List Nat} (h : OwE w B e u1 u2 u3 fp) : OwF w B 43 5 u3 e.H.length (flatHd e.H) (ownFp u3) ∧ ∀ b ∈ ownFp u3, b ∈ fp := by
  obtain ⟨f1, f2, f3, h1, h2, h3, rfl, hn⟩ := h
  obtain rfl : f3 = ownFp u3 := h3.2
  exact ⟨h3, fun b hb => List.mem_append_right _ (List.mem_append_right _ hb)⟩
/-- What a press or a release behind a pointer does: the engine's box, what it owns, the reports, apart. -/
def PtO (e : En) (rs : List Rv) (y B : Nat) (u1 u2 : Value) (fp : List Nat) (w : World) (x : Ending) (w' : World) : Prop := ∃ a3 c3 fp' a4 c4 fq, x = .returned (.slice a4 rs.length c4) ∧
  w'.heap[y]? = some (.cells #[.int .i64 e.k, u1, u2, .int .i64 e.x, .slice a3 e.H.length c3, .int .i64 e.o, .bool e.p] 30 (0, 0)) ∧ OwE w' B e u1 u2 (.slice a3 e.H.length c3) fp' ∧ (∀ b ∈ fp', b ∈ fp ∨ w.heap.size ≤ b) ∧
  OwZ rpF w' w.heap.size 1 (.slice a4 rs.length c4) rs fq ∧ (∀ b ∈ fp', b ∉ fq) ∧ Turn w w' (y :: fp)

set_option maxRecDepth 100000 in
set_option maxHeartbeats 16000000 in
theorem release_any (e : En) (a1 a2 a3 : Option Addr) (c1 c2 c3 : Nat) (fp : List Nat) (y B : Nat) (key : Int) (w : World) (hs : EnSz e) (hk : 0 ≤ haI e.H key) (hyf : y ∉ fp)
    (hy : w.heap[y]? = some (.cells #[.int .i64 e.k, .slice a1 e.L.length c1, .slice a2 e.F.length c2, .int .i64 e.x, .slice a3 e.H.length c3, .int .i64 e.o, .bool e.p] 30 (0, 0)))
    (h : OwE w B e (.slice a1 e.L.length c1) (.slice a2 e.F.length c2) (.slice a3 e.H.length c3) fp) :
    Calls Tryz.prog 53 #[.pointer (some ⟨y, 0, none⟩), .int .i64 key] w (PtO (relE e key) (relR e key) y B (.slice a1 e.L.length c1) (.slice a2 e.F.length c2) fp w) := by
  obtain ⟨i, hi, hil⟩ : ∃ i : Nat, haI e.H key = (i : Int) ∧ i = haH e.H key ∧ i < e.H.length := by
    rcases haI_cases e.H key with h | ⟨h, h2⟩
    · omega
    · exact ⟨haH e.H key, h, rfl, h2⟩
  obtain ⟨hih, hil⟩ := hil
  have hw := h.rng
  obtain ⟨k, L, F, fx, H, o, p⟩ := e
  obtain ⟨rs, hrs⟩ : ∃ l, l = relR ⟨k, L, F, fx, H, o, p⟩ key := ⟨_, rfl⟩
  rw [← hrs]
  rw [relR, relE] at hrs
  rw [relE]
  simp only at hi hih hil hy h hrs ⊢
  rw [← hih] at hrs ⊢
  obtain ⟨nL, hnL⟩ : ∃ n, n = L.length := ⟨_, rfl⟩
  obtain ⟨nF, hnF⟩ : ∃ n, n = F.length := ⟨_, rfl⟩
  obtain ⟨nH, hnH⟩ : ∃ n, n = H.length := ⟨_, rfl⟩
  rw [← hnL, ← hnF, ← hnH] at hy h
  rw [← hnL, ← hnF]
  rw [← hnH] at hil
  obtain ⟨H', hH'⟩ : ∃ l, l = H.eraseIdx i := ⟨_, rfl⟩
  rw [← hH'] at hrs ⊢
  have hHs : H.length ≤ 1048576 := hs.h
  have hnl : nH ≤ 1048576 := by rw [hnH]; exact hHs
  have hl' : H'.length = nH - 1 := by rw [hH', hnH]; exact List.length_eraseIdx_of_lt (by rw [← hnH]; exact hil)
  obtain ⟨g3, c3', hsl, -, -, -, -⟩ := owns_some (show w.ownsRow B 43 5 (.slice a3 nH c3) nH (flatHd H) from by have := h.heldFp.1.1; rw [show (⟨k, L, F, fx, H, o, p⟩ : En).H.length = nH from hnH.symm] at this; exact this) (by omega)
  obtain ⟨rfl, rfl⟩ : a3 = some ⟨g3, 0, none⟩ ∧ c3 = c3' := by injection hsl with e1 e2 e3; exact ⟨e1, e3⟩
  obtain ⟨m0, hm0⟩ : ∃ m : Int, m = (rofM H : Nat) := ⟨_, rfl⟩
  obtain ⟨z0, hz0⟩ : ∃ z, z = rofK H := ⟨_, rfl⟩
  obtain ⟨m1, hm1⟩ : ∃ m : Int, m = (rofM H' : Nat) := ⟨_, rfl⟩
  obtain ⟨z1, hz1⟩ : ∃ z, z = rofK H' := ⟨_, rfl⟩
  have hrs2 : rs = chgV (m0, z0) [(m1, z1)] := by rw [hrs, hm0, hz0, hm1, hz1]; rfl
  have H0 := Lib.hid (show ((rofM H : Nat) : Int) = m0 ∧ rofK H = z0 from ⟨hm0.symm, hz0.symm⟩)
  have H1 := Lib.hid (show ((rofM H' : Nat) : Int) = m1 ∧ rofK H' = z1 from ⟨hm1.symm, hz1.symm⟩)
  have HL0 := Lib.hid (show z0.length ≤ 1048576 by rw [hz0]; have := rofK_len H; omega)
  have HL1 := Lib.hid (show z1.length ≤ 1048576 by rw [hz1]; have := rofK_len H'; omega)
  have Hrs := Lib.hid hrs2
  have HI := Lib.hid (show haI H key = (i : Int) from hi)
  have HIL := Lib.hid hil
  have HNH := Lib.hid hnH
  have HH' := Lib.hid hH'
  have HL' := Lib.hid hl'
  have HY := Lib.hid hy
  have HE := Lib.hid h
  have HYF := Lib.hid hyf
  have HWf := Lib.hid hw
  have HS := Lib.hid hs
  have hHm : H.length ≤ maxLen := by unfold maxLen; omega
  have hHm' : H'.length ≤ maxLen := by rw [hl']; unfold maxLen; omega
  clear hi hih hil hnL hnF hnH hH' hl' hy h hrs hrs2 hm0 hz0 hm1 hz1 hyf hw hs hsl hk
  go_enter Tryz.func53, Tryz.ntmps53
  obtain ⟨y4, y4'⟩ := cells_of_heap HY.out 4 (by simp)
  simp only [List.getElem_toArray, List.getElem_cons_zero, List.getElem_cons_succ] at y4
  go_wp2_with fail
  refine (implReportOf_any (.slice (some ⟨g3, 0, none⟩) nH c3) H _ hHm (by have := HE.out.rd.held; rw [show (⟨k, L, F, fx, H, o, p⟩ : En).H.length = nH from HNH.out.symm] at this; rw [← HNH.out]; exact this)).mono ?_
  rw [H0.out.1, H0.out.2]
  rintro r w1 ⟨ua, uc, f0, rfl, hu, hb⟩
  have HB1 := Lib.hid hb
  have HU0 := Lib.hid hu
  have HUR := Lib.hid (show ∀ b ∈ f0, w.heap.size ≤ b from fun b hb => (hu.rng b hb).1)
  clear y4 y4'
  clear hb hu
  go_upto_region 2 with (fail)
  obtain ⟨W1, hW1⟩ : ∃ W, W = w1.alloc (.cells #[.int .i64 m0, .slice ua z0.length uc] 47) := ⟨_, rfl⟩
  obtain ⟨s, hsv⟩ : ∃ s, s = w1.heap.size := ⟨_, rfl⟩
  rw [← hW1, ← hsv]
  have hb1 : Below w1.heap.size w1 W1 := by rw [hW1]; exact below_alloc1 _ _
  have HS1 := Lib.hid (show W1.heap[s]? = some (.cells #[.int .i64 m0, .slice ua z0.length uc] 47 (0, 0)) by rw [hW1, hsv]; exact heap_alloc_new w1 _)
  have HBW1 := Lib.hid (HB1.out.trans (hb1.mono HB1.out.size))
  have HU1 := Lib.hid (HU0.out.below hb1)
  have HSW := Lib.hid (show w.heap.size ≤ s by rw [hsv]; exact HB1.out.size)
  clear hW1 hsv hb1 HU0 HB1
  have HY1 := Lib.hid (blk_below HY.out HBW1.out)
  obtain ⟨y0, y0'⟩ := cells_of_heap HY1.out 0 (by simp)
  obtain ⟨y1, y1'⟩ := cells_of_heap HY1.out 1 (by simp)
  obtain ⟨y2, y2'⟩ := cells_of_heap HY1.out 2 (by simp)
  obtain ⟨y3, y3'⟩ := cells_of_heap HY1.out 3 (by simp)
  obtain ⟨y4, y4'⟩ := cells_of_heap HY1.out 4 (by simp)
  obtain ⟨y5, y5'⟩ := cells_of_heap HY1.out 5 (by simp)
  obtain ⟨y6, y6'⟩ := cells_of_heap HY1.out 6 (by simp)
  simp only [List.getElem_toArray, List.getElem_cons_zero, List.getElem_cons_succ] at y0 y1 y2 y3 y4 y5 y6
  go_wp2_with fail
  refine (implHeldAt_any k (.slice a1 nL c1) (.slice a2 nF c2) fx (.slice (some ⟨g3, 0, none⟩) nH c3) o p H key _ hHm (by have := (HE.out.below HBW1.out).rd.held; rw [show (⟨k, L, F, fx, H, o, p⟩ : En).H.length = nH from HNH.out.symm] at this; rw [← HNH.out]; exact this)).mono ?_
  rw [HI.out]
  rintro r w2 ⟨rfl, hb⟩
  have HBW2 := Lib.hid (HBW1.out.trans (hb.mono HBW1.out.size))
  have HU2 := Lib.hid (HU1.out.below hb)
  have HS2 := Lib.hid (blk_below HS1.out hb)
  have HY2 := Lib.hid (blk_below HY1.out hb)
  have HSL := Lib.hid (show s < w2.heap.size from (Array.getElem?_eq_some_iff.mp HS2.out).1)
  clear y0 y0' y1 y1' y2 y2' y3 y3' y4 y4' y5 y5' y6 y6'
  clear hb HU1 HS1 HY1 HBW1
  have HE2 := Lib.hid (HE.out.below HBW2.out)
  obtain ⟨y4, y4'⟩ := cells_of_heap HY2.out 4 (by simp)
  simp only [List.getElem_toArray, List.getElem_cons_zero, List.getElem_cons_succ] at y4
  have hin : (i : Int) + 1 ≤ 9223372036854775807 := by have := HIL.out; omega
  have hi0 : -9223372036854775808 ≤ (i : Int) + 1 := by omega
  go_wp2_with fail
  have hgf : g3 ∈ fp := (HE.out.heldFp).2 g3 (by simp [ownFp, Value.ownBlock])
  have hgy : g3 ≠ y := fun e => HYF.out (e ▸ hgf)
  have hgs : g3 ≠ s := fun e => by have := (HWf.out g3 hgf).2; have := HSW.out; omega
  have hys : y ≠ s := fun e => by have := (Array.getElem?_eq_some_iff.mp HY.out).1; have := HSW.out; omega
  refine (delHd_n B g3 c3 nH H i _ _ _ HNH.out rfl rfl HIL.out hnl (by have := HE2.out.heldFp.1.1; rw [show (⟨k, L, F, fx, H, o, p⟩ : En).H.length = nH from HNH.out.symm] at this; exact this)).mono ?_
  rw [← HH'.out]
  rintro r w3 ⟨rfl, ho3, hg3⟩
  obtain ⟨n', hn'⟩ : ∃ n, n = nH - 1 := ⟨_, rfl⟩
  rw [← hn'] at ho3 ⊢
  have HN' := Lib.hid (show n' = H'.length by rw [hn', HL'.out])
  have hle3 : w2.heap.size ≤ w3.heap.size := hg3.size
  have HY3 := Lib.hid ((hg3.block y (Array.getElem?_eq_some_iff.mp HY2.out).1 (fun e => hgy (Option.some.inj e).symm)).trans HY2.out)
  have HS3a := Lib.hid ((hg3.block s HSL.out (fun e => hgs (Option.some.inj e).symm)).trans HS2.out)
  have hf3 : OwF w3 B 43 5 (.slice (some ⟨g3, 0, none⟩) n' c3) H'.length (flatHd H') (ownFp (.slice (some ⟨g3, 0, none⟩) nH c3)) := by rw [← HN'.out]; exact ⟨ho3, rfl⟩
  have he3 : OwE w3 B ⟨k, L, F, fx, H', o, p⟩ (.slice a1 nL c1) (.slice a2 nF c2) (.slice (some ⟨g3, 0, none⟩) n' c3) fp := HE2.out.heldIn hf3 (Turn.of_grown hg3)
  have hu3 := HU2.out.turn (Turn.of_grown hg3) (fun b hb hm => by rw [List.mem_singleton] at hm; have := HUR.out b hb; have := (HWf.out g3 hgf).2; omega)
  have ht3 : Turn w w3 (y :: fp) := (Turn.of_below HBW2.out _).trans ((Turn.of_grown hg3).mono (fun x hx => by rw [List.mem_singleton] at hx; subst hx; exact List.mem_cons_of_mem _ hgf))
  clear hn' ho3 hf3 y4 y4' hin hi0
  obtain ⟨y4, y4'⟩ := cells_of_heap HY3.out 4 (by simp)
  simp only [List.getElem_toArray, List.getElem_cons_zero, List.getElem_cons_succ] at y4
  go_upto_region 4 with (fail)
  obtain ⟨W3, hW3⟩ : ∃ W, W = w3.setCell ⟨y, 4, none⟩ (.slice (some ⟨g3, 0, none⟩) n' c3) := ⟨_, rfl⟩
  rw [← hW3]
  have hty : Turn w3 W3 [y] := by rw [hW3]; exact Turn.of_grown (grown_set _ _ _ _)
  have HK3 := Lib.hid (show W3.heap[y]? = some (.cells #[.int .i64 k, .slice a1 nL c1, .slice a2 nF c2, .int .i64 fx, .slice (some ⟨g3, 0, none⟩) n' c3, .int .i64 o, .bool p] 30 (0, 0)) by rw [hW3]; exact heap_setCell_same w3 y 4 _ _ _ HY3.out)
  have HS3 := Lib.hid (show W3.heap[s]? = some (.cells #[.int .i64 m0, .slice ua z0.length uc] 47 (0, 0)) from blk_turn HS3a.out hty (fun hm => by rw [List.mem_singleton] at hm; exact hys hm.symm))
  have HE3 := Lib.hid (he3.turn hty (fun b hb hm => by rw [List.mem_singleton] at hm; subst hm; exact HYF.out hb))
  have hyl : y < w.heap.size := (Array.getElem?_eq_some_iff.mp HY.out).1
  have HU3 := Lib.hid (owC_rd (hu3.turn hty (fun b hb hm => by rw [List.mem_singleton] at hm; have := HUR.out b hb; omega)))
  have HT3 := Lib.hid (ht3.trans (hty.mono (fun x hx => by rw [List.mem_singleton] at hx; subst hx; exact List.mem_cons_self)))
  have HWW := Lib.hid (show w.heap.size ≤ W3.heap.size from HT3.out.size)
  have X0 := Lib.hid (Below.refl W3.heap.size W3)
  clear hW3 hty he3 ht3 hu3 hle3 hg3 y4 y4' HY3 HS3a HY2 HS2 HE2 HU2 HE HSL
  obtain ⟨y4, y4'⟩ := cells_of_heap HK3.out 4 (by simp)
  simp only [List.getElem_toArray, List.getElem_cons_zero, List.getElem_cons_succ] at y4
  obtain ⟨b0, b0'⟩ := cells_of_heap HS3.out 0 (by simp)
  obtain ⟨b1, b1'⟩ := cells_of_heap HS3.out 1 (by simp)
  simp only [List.getElem_toArray, List.getElem_cons_zero, List.getElem_cons_succ] at b0 b1
  go_region_law (first
    | (go_simp; go_at_call 18; have z9 := X0; clear z9; refine (implReportOf_any (.slice (some ⟨g3, 0, none⟩) n' c3) H' _ hHm' (by have := (HE3.out.rd.below (by first | exact X0.out | exact X0.out.drew | exact X0.out.drew.drew | exact X0.out.alloc X0.out.size _ | exact (X0.out.alloc X0.out.size _).drew)).held; rw [show (⟨k, L, F, fx, H', o, p⟩ : En).H.length = n' from HN'.out.symm] at this; rw [← HN'.out]; exact this)).mono ?_; rw [H1.out.1, H1.out.2]; rintro e v1 ⟨ub, qc, f1, rfl, hu, hb⟩; have hbr : Below W3.heap.size W3 v1 := below_via (by first | exact X0.out | exact X0.out.drew | exact X0.out.drew.drew | exact X0.out.alloc X0.out.size _ | exact (X0.out.alloc X0.out.size _).drew) hb; have KA := blk_below HS3.out hbr; obtain ⟨d0, -⟩ := cells_of_heap KA 0 (by simp); obtain ⟨d1, -⟩ := cells_of_heap KA 1 (by simp); simp only [List.getElem_toArray, List.getElem_cons_zero, List.getElem_cons_succ] at d0 d1; clear KA;  have hbra := hbr.alloc hbr.size (.cells #[.int .i64 m1, .slice ub z1.length qc] 47); have KA := blk_below HS3.out hbra; obtain ⟨e0, -⟩ := cells_of_heap KA 0 (by simp); obtain ⟨e1, -⟩ := cells_of_heap KA 1 (by simp); simp only [List.getElem_toArray, List.getElem_cons_zero, List.getElem_cons_succ] at e0 e1; clear KA;  clear hbra; have HO1 := Lib.hid (owZ_one (m := m1) (OwC.base _ _ _ _ hu (show W3.heap.size ≤ _ from Below.size (by first | exact X0.out | exact X0.out.drew | exact X0.out.drew.drew | exact X0.out.alloc X0.out.size _ | exact (X0.out.alloc X0.out.size _).drew))) (owC_ints_nodup hu) hbr.size); have X1 := Lib.hid hbr; clear hbr hb hu X0)
    | (go_simp; go_at_call 97; have z9 := X1; clear z9; refine (changesAfter_any m0 z0 ua uc (.slice (some ⟨v1.heap.size, 0, none⟩) 1 1) [(m1, z1)] _ W3.heap.size _ (by simp) (by intro r hr; rw [List.mem_singleton] at hr; subst hr; exact HL1.out) HL0.out (by simp; exact Nat.le_succ_of_le X1.out.size) (HU3.out.below (X1.out.alloc X1.out.size _)) HO1.out).mono ?_; rw [← Hrs.out]; rintro e v2 ⟨a4, c4, fq, rfl, hq, hfq, hb⟩; have hbr : Below W3.heap.size W3 v2 := (X1.out.alloc X1.out.size (.cells #[.int .i64 m1, .slice ub z1.length qc] 47)).trans (hb.mono (by simp; exact Nat.le_succ_of_le X1.out.size)); have KA := blk_below HS3.out hbr; obtain ⟨l0, -⟩ := cells_of_heap KA 0 (by simp); obtain ⟨l1, -⟩ := cells_of_heap KA 1 (by simp); simp only [List.getElem_toArray, List.getElem_cons_zero, List.getElem_cons_succ] at l0 l1; clear KA;  have HQ := Lib.hid hq; have X2 := Lib.hid hbr; clear hbr hb hq hfq))
  all_goals
    have HK4 := Lib.hid (blk_below HK3.out X2.out)
    have HE4 := Lib.hid (HE3.out.below X2.out)
    have HT4 := Lib.hid (HT3.out.trans (Turn.of_below X2.out _))
    have HDJ := Lib.hid (show ∀ b ∈ fp, b ∉ fq from fun b hb hm => by have := (HWf.out b hb).2; have := (HQ.out.rng b hm).1; have := HWW.out; omega)
    have HQ4 := Lib.hid (HQ.out.base HWW.out)
    clear HQ X2 X1 y4 y4' b0 b0' b1 b1' d0 d1 e0 e1 l0 l1
    go_wp2
    go_ret
    exact ⟨_, c3, fp, a4, c4, fq, rfl, by rw [← HN'.out]; exact HK4.out, by rw [← HN'.out]; exact HE4.out, fun b hb => .inl hb, HQ4.out, HDJ.out, HT4.out⟩
end Go.Proofs.YtbpopgplpipfeaaGreat

namespace Go.Proofs.YtbpopgplpipfeaaGreat
open Go.RowKit

theorem owZ_nil (w : World) (B : Nat) : OwZ rpF w B 1 (.slice none 0 0) [] [] :=
  ⟨[], [], ⟨⟨rfl, .inl ⟨rfl, rfl⟩⟩, rfl, rfl, fun _ hj => absurd hj (Nat.not_lt_zero _), List.nodup_nil⟩, rfl⟩
set_option maxRecDepth 100000 in
set_option maxHeartbeats 16000000 in
theorem implRelease_any (e : En) (u1 u2 u3 : Value) (key : Int) (w : World) (hs : EnSz e) (h : RdE w e u1 u2 u3) :
    Calls Tryz.prog 15 #[env e.k u1 u2 e.x u3 e.o e.p, .int .i64 key] w (PrO (relV e key) w) := by
  obtain ⟨t, ht⟩ : ∃ t, t = relV e key := ⟨_, rfl⟩
  rw [← ht]
  rw [relV, relB] at ht
  obtain ⟨b, hbv⟩ : ∃ b, b = okEn e := ⟨_, rfl⟩
  obtain ⟨kk, hkk⟩ : ∃ q, q = haI e.H key := ⟨_, rfl⟩
  rw [← hbv, ← hkk] at ht
  have HT := Lib.hid ht
  have HBV := Lib.hid hbv
  have HKK := Lib.hid hkk
  clear ht hbv hkk
  obtain ⟨h1, h2, h3⟩ := h
  obtain ⟨k, L, F, fx, H, o, p⟩ := e
  simp only at h1 h2 h3 ⊢
  obtain ⟨a1, c1, rfl⟩ := RdS.shape h1
  obtain ⟨a2, c2, rfl⟩ := RdSt.shape h2
  obtain ⟨a3, c3, rfl⟩ := RdN.shape h3
  obtain ⟨nL, hnL⟩ : ∃ n, n = L.length := ⟨_, rfl⟩
  obtain ⟨nF, hnF⟩ : ∃ n, n = F.length := ⟨_, rfl⟩
  obtain ⟨nH, hnH⟩ : ∃ n, n = H.length := ⟨_, rfl⟩
  have HRd := Lib.hid (show ∀ w', Below w.heap.size w w' → RdE w' ⟨k, L, F, fx, H, o, p⟩ (.slice a1 nL c1) (.slice a2 nF c2) (.slice a3 nH c3) from fun w' hw => ⟨by rw [hnL]; exact h1.below hw, by rw [hnF]; exact h2.below hw, by rw [hnH]; exact h3.below hw⟩)
  have HNL := Lib.hid hnL
  have HNF := Lib.hid hnF
  have HNH := Lib.hid hnH
  have HS := Lib.hid hs
  rw [← hnL, ← hnF, ← hnH]
  obtain ⟨g, hg⟩ : ∃ g, g = w.heap.size := ⟨_, rfl⟩
  obtain ⟨U, hU⟩ : ∃ U, U = (w.alloc (.cells #[.int .i64 k, .slice a1 nL c1, .slice a2 nF c2, .int .i64 fx, .slice a3 nH c3, .int .i64 o, .bool p] 30)).alloc (.cells #[.int .i64 0, .slice none 0 0, .slice none 0 0, .int .i64 0, .slice none 0 0, .int .i64 0, .bool false] 30) := ⟨_, rfl⟩
  have HX0 := Lib.hid (show U.heap[g]? = some (.cells #[.int .i64 k, .slice a1 nL c1, .slice a2 nF c2, .int .i64 fx, .slice a3 nH c3, .int .i64 o, .bool p] 30 (0, 0)) by rw [hU, hg, Below.heap_alloc _ _ _ (by simp)]; exact heap_alloc_new w _)
  have HR0 := Lib.hid (show U.heap[g + 1]? = some (.cells #[.int .i64 0, .slice none 0 0, .slice none 0 0, .int .i64 0, .slice none 0 0, .int .i64 0, .bool false] 30 (0, 0)) by rw [hU, hg]; simpa using heap_alloc_new (w.alloc (.cells #[.int .i64 k, .slice a1 nL c1, .slice a2 nF c2, .int .i64 fx, .slice a3 nH c3, .int .i64 o, .bool p] 30)) _)
  have HB0 := Lib.hid (show Below w.heap.size w U by rw [hU]; exact ((Below.refl _ _).alloc (Nat.le_refl _) _).alloc (by simp) _)
  have HG := Lib.hid hg
  have HU := Lib.hid hU
  have hle : w.heap.size ≤ g + 1 := by rw [hg]; omega
  clear h1 h2 h3 hnL hnF hnH hs hg hU
  go_enter Tryz.func15, Tryz.ntmps15
  go_upto_region 1 with (fail)
  rw [← HU.out, ← HG.out]
  obtain ⟨x0, x0'⟩ := cells_of_heap HX0.out 0 (by simp)
  obtain ⟨x1, x1'⟩ := cells_of_heap HX0.out 1 (by simp)
  obtain ⟨x2, x2'⟩ := cells_of_heap HX0.out 2 (by simp)
  obtain ⟨x3, x3'⟩ := cells_of_heap HX0.out 3 (by simp)
  obtain ⟨x4, x4'⟩ := cells_of_heap HX0.out 4 (by simp)
  obtain ⟨x5, x5'⟩ := cells_of_heap HX0.out 5 (by simp)
  obtain ⟨x6, x6'⟩ := cells_of_heap HX0.out 6 (by simp)
  simp only [List.getElem_toArray, List.getElem_cons_zero, List.getElem_cons_succ] at x0 x1 x2 x3 x4 x5 x6
  go_wp2_with fail
  refine (implIsEngine_any ⟨k, L, F, fx, H, o, p⟩ (.slice a1 nL c1) (.slice a2 nF c2) (.slice a3 nH c3) _ HS.out (HRd.out _ HB0.out)).mono ?_
  rw [← HBV.out]
  rintro r w1 ⟨rfl, hb⟩
  have HB1 := Lib.hid (HB0.out.trans (hb.mono HB0.out.size))
  have HX1 := Lib.hid (blk_below HX0.out hb)
  have HR1 := Lib.hid (blk_below HR0.out hb)
  clear x0 x0' x1 x1' x2 x2' x3 x3' x4 x4' x5 x5' x6 x6'
  clear hb
  cases b
  · obtain rfl : t = ⟨en0, [], false⟩ := HT.out
    obtain ⟨r0, r0'⟩ := cells_of_heap HR1.out 0 (by simp)
    obtain ⟨r1, r1'⟩ := cells_of_heap HR1.out 1 (by simp)
    obtain ⟨r2, r2'⟩ := cells_of_heap HR1.out 2 (by simp)
    obtain ⟨r3, r3'⟩ := cells_of_heap HR1.out 3 (by simp)
    obtain ⟨r4, r4'⟩ := cells_of_heap HR1.out 4 (by simp)
    obtain ⟨r5, r5'⟩ := cells_of_heap HR1.out 5 (by simp)
    obtain ⟨r6, r6'⟩ := cells_of_heap HR1.out 6 (by simp)
    simp only [List.getElem_toArray, List.getElem_cons_zero, List.getElem_cons_succ] at r0 r1 r2 r3 r4 r5 r6
    go_wp2
    clear r0 r0' r1 r1' r2 r2' r3 r3' r4 r4' r5 r5' r6 r6'
    obtain ⟨wf, hwf⟩ : ∃ x, x = putW (w1) (g + 1) 0 [.int .i64 0, .slice none 0 0, .slice none 0 0, .int .i64 0, .slice none 0 0, .int .i64 0, .bool false] := ⟨_, rfl⟩
    have kf := putW_all [.int .i64 0, .slice none 0 0, .slice none 0 0, .int .i64 0, .slice none 0 0, .int .i64 0, .bool false] HR1.out rfl
    have bf := putW_below (b := g + 1) (by first | omega | simp) [.int .i64 0, .slice none 0 0, .slice none 0 0, .int .i64 0, .slice none 0 0, .int .i64 0, .bool false] 0 _ HB1.out
    rw [← hwf] at kf bf
    have cf := hwf.symm
    simp only [putW, Nat.reduceAdd] at cf
    rw [cf]
    clear cf hwf
    have f0 := (cells_of_heap kf 0 (by simp)).1
    have f1 := (cells_of_heap kf 1 (by simp)).1
    have f2 := (cells_of_heap kf 2 (by simp)).1
    have f3 := (cells_of_heap kf 3 (by simp)).1
    have f4 := (cells_of_heap kf 4 (by simp)).1
    have f5 := (cells_of_heap kf 5 (by simp)).1
    have f6 := (cells_of_heap kf 6 (by simp)).1
    simp only [List.getElem_toArray, List.getElem_cons_zero, List.getElem_cons_succ] at f0 f1 f2 f3 f4 f5 f6
    refine bodyPost_ret (v := .tuple #[env 0 (.slice none 0 0) (.slice none 0 0) 0 (.slice none 0 0) 0 false, .slice none 0 0, .bool false]) (by simp [results, Tryz.results15, go_sem, f0, f1, f2, f3, f4, f5, f6]) rfl ⟨none, 0, none, 0, none, 0, _, none, 0, _, rfl, OwE.zero _ _, owZ_nil _ _, (fun _ h => by cases h), bf⟩
  · have HOK := Lib.hid HBV.out.symm
    obtain ⟨x0, x0'⟩ := cells_of_heap HX1.out 0 (by simp)
    obtain ⟨x1, x1'⟩ := cells_of_heap HX1.out 1 (by simp)
    obtain ⟨x2, x2'⟩ := cells_of_heap HX1.out 2 (by simp)
    obtain ⟨x3, x3'⟩ := cells_of_heap HX1.out 3 (by simp)
    obtain ⟨x4, x4'⟩ := cells_of_heap HX1.out 4 (by simp)
    obtain ⟨x5, x5'⟩ := cells_of_heap HX1.out 5 (by simp)
    obtain ⟨x6, x6'⟩ := cells_of_heap HX1.out 6 (by simp)
    simp only [List.getElem_toArray, List.getElem_cons_zero, List.getElem_cons_succ] at x0 x1 x2 x3 x4 x5 x6
    go_wp2_with fail
    refine (implHeldAt_any k (.slice a1 nL c1) (.slice a2 nF c2) fx (.slice a3 nH c3) o p H key _ (by have : H.length ≤ 1048576 := HS.out.h; unfold maxLen; omega) (HRd.out _ HB1.out).held).mono ?_
    rw [show haI H key = kk from HKK.out.symm]
    rintro r w2 ⟨rfl, hb⟩
    have HB2 := Lib.hid (HB1.out.trans (hb.mono HB1.out.size))
    have HX2 := Lib.hid (blk_below HX1.out hb)
    have HR2 := Lib.hid (blk_below HR1.out hb)
    clear x0 x0' x1 x1' x2 x2' x3 x3' x4 x4' x5 x5' x6 x6'
    clear hb
    by_cases hk : 0 ≤ kk
    · have hk' : ¬ kk < 0 := by omega
      have HT2 := Lib.hid (show t = ⟨relE ⟨k, L, F, fx, H, o, p⟩ key, relR ⟨k, L, F, fx, H, o, p⟩ key, true⟩ by rw [HT.out, Bool.true_and, decide_eq_true hk]; rfl)
      obtain ⟨x0, x0'⟩ := cells_of_heap HX2.out 0 (by simp)
      obtain ⟨x1, x1'⟩ := cells_of_heap HX2.out 1 (by simp)
      obtain ⟨x2, x2'⟩ := cells_of_heap HX2.out 2 (by simp)
      obtain ⟨x3, x3'⟩ := cells_of_heap HX2.out 3 (by simp)
      obtain ⟨x4, x4'⟩ := cells_of_heap HX2.out 4 (by simp)
      obtain ⟨x5, x5'⟩ := cells_of_heap HX2.out 5 (by simp)
      obtain ⟨x6, x6'⟩ := cells_of_heap HX2.out 6 (by simp)
      simp only [List.getElem_toArray, List.getElem_cons_zero, List.getElem_cons_succ] at x0 x1 x2 x3 x4 x5 x6
      go_wp2_with fail
      refine (implCopyEngine_any ⟨k, L, F, fx, H, o, p⟩ (.slice a1 nL c1) (.slice a2 nF c2) (.slice a3 nH c3) _ HS.out (HRd.out _ HB2.out)).mono ?_
      rintro r w3 ⟨b1, d1, b2, d2, b3, d3, fp, rfl, hown, hb⟩
      have HB3 := Lib.hid (HB2.out.trans (hb.mono HB2.out.size))
      have HX3 := Lib.hid (blk_below HX2.out hb)
      have HR3 := Lib.hid (blk_below HR2.out hb)
      clear x0 x0' x1 x1' x2 x2' x3 x3' x4 x4' x5 x5' x6 x6'
      have HOW := Lib.hid hown
      have HS23 := Lib.hid hb.size
      rw [show (⟨k, L, F, fx, H, o, p⟩ : En).L.length = nL from HNL.out.symm, show (⟨k, L, F, fx, H, o, p⟩ : En).F.length = nF from HNF.out.symm, show (⟨k, L, F, fx, H, o, p⟩ : En).H.length = nH from HNH.out.symm] at HOW ⊢
      clear hb hown HT
      go_upto_region 4 with (fail)
      obtain ⟨W4, hW4⟩ : ∃ W, W = w3.alloc (.cells #[.int .i64 k, .slice b1 nL d1, .slice b2 nF d2, .int .i64 fx, .slice b3 nH d3, .int .i64 o, .bool p] 30) := ⟨_, rfl⟩
      obtain ⟨y, hy⟩ : ∃ y, y = w3.heap.size := ⟨_, rfl⟩
      rw [← hW4, ← hy]
      have hb4 : Below w3.heap.size w3 W4 := by rw [hW4]; exact below_alloc1 _ _
      have k4 : RlW w W4 g y #[.int .i64 k, .slice a1 nL c1, .slice a2 nF c2, .int .i64 fx, .slice a3 nH c3, .int .i64 o, .bool p] #[.int .i64 k, .slice b1 nL d1, .slice b2 nF d2, .int .i64 fx, .slice b3 nH d3, .int .i64 o, .bool p] := ⟨blk_below HX3.out hb4, blk_below HR3.out hb4, by rw [hW4, hy]; exact heap_alloc_new w3 _, HB3.out.trans (hb4.mono HB3.out.size), HG.out, by rw [hy]; exact (Array.getElem?_eq_some_iff.mp HR3.out).1⟩
      have HOW4 := Lib.hid ((HOW.out.below hb4).base HB2.out.size)
      have HYF := Lib.hid (show y ∉ fp from fun hm => by have := (HOW.out.rng y hm).2; omega)
      have HGF := Lib.hid (show g + 1 ∉ y :: fp from fun hm => by
        rcases List.mem_cons.1 hm with h | h
        · have := k4.hy; omega
        · have := (HOW.out.rng _ h).1; have := (Array.getElem?_eq_some_iff.mp HR2.out).1; omega)
      have HFW := Lib.hid (show ∀ b ∈ y :: fp, w.heap.size ≤ b from fun b hm => by
        rcases List.mem_cons.1 hm with h | h
        · rw [h, hy]; exact HB3.out.size
        · exact Nat.le_trans HB2.out.size (HOW.out.rng _ h).1)
      have HFG := Lib.hid (show ∀ b, b ∈ fp ∨ W4.heap.size ≤ b → b ≠ g + 1 from fun b hm => by
        rcases hm with h | h
        · have := (HOW.out.rng _ h).1; have := (Array.getElem?_eq_some_iff.mp HR2.out).1; omega
        · have := k4.hy; have := k4.lt; omega)
      have K4 := Lib.hid k4
      clear hW4 hy hb4 k4 HOW HX3 HR3 HX2 HR2 HX1 HR1 HX0 HR0
      go_wp2_with fail
      refine (release_any ⟨k, L, F, fx, H, o, p⟩ b1 b2 b3 d1 d2 d3 fp y w.heap.size key _ HS.out (by rw [show haI (⟨k, L, F, fx, H, o, p⟩ : En).H key = kk from HKK.out.symm]; exact hk) HYF.out (by rw [← HNL.out, ← HNF.out, ← HNH.out]; exact K4.out.ho) (by rw [← HNL.out, ← HNF.out, ← HNH.out]; exact HOW4.out)).mono ?_
      rw [← HNL.out, ← HNF.out]
      rintro r w5 ⟨a4, c4, fp', a5, c5, fq, rfl, hy5, he5, hf5, hq5, hd5, ht5⟩
      obtain ⟨rs, hrs⟩ : ∃ l, l = relR ⟨k, L, F, fx, H, o, p⟩ key := ⟨_, rfl⟩
      rw [← hrs] at hq5 ⊢
      obtain ⟨H', hH'⟩ : ∃ l, l = (relE ⟨k, L, F, fx, H, o, p⟩ key).H := ⟨_, rfl⟩
      obtain ⟨n4, hn4⟩ : ∃ n, n = H'.length := ⟨_, rfl⟩
      have hre : relE ⟨k, L, F, fx, H, o, p⟩ key = ⟨k, L, F, fx, H', o, p⟩ := by rw [hH']; rfl
      rw [hre] at he5 hy5
      rw [show (⟨k, L, F, fx, H', o, p⟩ : En).H.length = n4 from hn4.symm] at he5 hy5
      have HTL := Lib.hid (show t = ⟨⟨k, L, F, fx, H', o, p⟩, rs, true⟩ by rw [HT2.out, hre, hrs])
      have HK5 := Lib.hid (show w5.heap[y]? = some (.cells #[.int .i64 k, .slice b1 nL d1, .slice b2 nF d2, .int .i64 fx, .slice a4 n4 c4, .int .i64 o, .bool p] 30 (0, 0)) from hy5)
      have HR5 := Lib.hid (blk_turn K4.out.hr ht5 HGF.out)
      have HB5 := Lib.hid (K4.out.hb.trans (ht5.below HFW.out K4.out.hb.size))
      have HE5 := Lib.hid he5
      have HQ5 := Lib.hid (hq5.base K4.out.hb.size)
      have HD5 := Lib.hid hd5
      have HNG := Lib.hid (show g + 1 ∉ fp' from fun hm => HFG.out _ (hf5 _ hm) rfl)
      have HNQ := Lib.hid (show g + 1 ∉ fq from fun hm => HFG.out _ (.inr (hq5.rng _ hm).1) rfl)
      have HN4 := Lib.hid hn4
      clear hrs hH' hn4 hre hy5 he5 hf5 hq5 hd5 ht5 HT2 HOW4
      obtain ⟨y0, y0'⟩ := cells_of_heap HK5.out 0 (by simp)
      obtain ⟨y1, y1'⟩ := cells_of_heap HK5.out 1 (by simp)
      obtain ⟨y2, y2'⟩ := cells_of_heap HK5.out 2 (by simp)
      obtain ⟨y3, y3'⟩ := cells_of_heap HK5.out 3 (by simp)
      obtain ⟨y4, y4'⟩ := cells_of_heap HK5.out 4 (by simp)
      obtain ⟨y5, y5'⟩ := cells_of_heap HK5.out 5 (by simp)
      obtain ⟨y6, y6'⟩ := cells_of_heap HK5.out 6 (by simp)
      simp only [List.getElem_toArray, List.getElem_cons_zero, List.getElem_cons_succ] at y0 y1 y2 y3 y4 y5 y6
      obtain ⟨r0, r0'⟩ := cells_of_heap HR5.out 0 (by simp)
      obtain ⟨r1, r1'⟩ := cells_of_heap HR5.out 1 (by simp)
      obtain ⟨r2, r2'⟩ := cells_of_heap HR5.out 2 (by simp)
      obtain ⟨r3, r3'⟩ := cells_of_heap HR5.out 3 (by simp)
      obtain ⟨r4, r4'⟩ := cells_of_heap HR5.out 4 (by simp)
      obtain ⟨r5, r5'⟩ := cells_of_heap HR5.out 5 (by simp)
      obtain ⟨r6, r6'⟩ := cells_of_heap HR5.out 6 (by simp)
      simp only [List.getElem_toArray, List.getElem_cons_zero, List.getElem_cons_succ] at r0 r1 r2 r3 r4 r5 r6
      go_wp2
      clear y0 y0' y1 y1' y2 y2' y3 y3' y4 y4' y5 y5' y6 y6'
      clear r0 r0' r1 r1' r2 r2' r3 r3' r4 r4' r5 r5' r6 r6'
      have hz4 := HQ5.out.putAt (y := g + 1) [.int .i64 k, .slice b1 nL d1, .slice b2 nF d2, .int .i64 fx, .slice a4 n4 c4, .int .i64 o, .bool p] HNQ.out 0
      obtain ⟨wf, hwf⟩ : ∃ x, x = putW (w5) (g + 1) 0 [.int .i64 k, .slice b1 nL d1, .slice b2 nF d2, .int .i64 fx, .slice a4 n4 c4, .int .i64 o, .bool p] := ⟨_, rfl⟩
      have kf := putW_all [.int .i64 k, .slice b1 nL d1, .slice b2 nF d2, .int .i64 fx, .slice a4 n4 c4, .int .i64 o, .bool p] HR5.out rfl
      have bf := putW_below (b := g + 1) (by first | omega | simp) [.int .i64 k, .slice b1 nL d1, .slice b2 nF d2, .int .i64 fx, .slice a4 n4 c4, .int .i64 o, .bool p] 0 _ HB5.out
      have of := (show OwE (putW w5 (g + 1) 0 [.int .i64 k, .slice b1 nL d1, .slice b2 nF d2, .int .i64 fx, .slice a4 n4 c4, .int .i64 o, .bool p]) w.heap.size ⟨k, L, F, fx, H', o, p⟩ (.slice b1 nL d1) (.slice b2 nF d2) (.slice a4 n4 c4) fp' ∧ OwZ rpF (putW w5 (g + 1) 0 [.int .i64 k, .slice b1 nL d1, .slice b2 nF d2, .int .i64 fx, .slice a4 n4 c4, .int .i64 o, .bool p]) w.heap.size 1 (.slice a5 rs.length c5) rs fq from ⟨HE5.out.putAt (y := g + 1) [.int .i64 k, .slice b1 nL d1, .slice b2 nF d2, .int .i64 fx, .slice a4 n4 c4, .int .i64 o, .bool p] HNG.out 0, hz4⟩)
      rw [← hwf] at kf bf of
      have cf := hwf.symm
      simp only [putW, Nat.reduceAdd] at cf
      rw [cf]
      clear cf hwf
      have f0 := (cells_of_heap kf 0 (by simp)).1
      have f1 := (cells_of_heap kf 1 (by simp)).1
      have f2 := (cells_of_heap kf 2 (by simp)).1
      have f3 := (cells_of_heap kf 3 (by simp)).1
      have f4 := (cells_of_heap kf 4 (by simp)).1
      have f5 := (cells_of_heap kf 5 (by simp)).1
      have f6 := (cells_of_heap kf 6 (by simp)).1
      simp only [List.getElem_toArray, List.getElem_cons_zero, List.getElem_cons_succ] at f0 f1 f2 f3 f4 f5 f6
      refine bodyPost_ret (v := .tuple #[env k (.slice b1 nL d1) (.slice b2 nF d2) fx (.slice a4 n4 c4) o p, .slice a5 rs.length c5, .bool true]) (by simp [results, Tryz.results15, go_sem, f0, f1, f2, f3, f4, f5, f6]) rfl (by rw [HTL.out]; exact ⟨b1, d1, b2, d2, a4, c4, fp', a5, c5, fq, by rw [HNL.out, HNF.out, HN4.out], by rw [HNL.out, HNF.out, HN4.out] at of; exact of.1, of.2, HD5.out, bf⟩)
    · have hk' : kk < 0 := by omega
      obtain rfl : t = ⟨en0, [], false⟩ := by rw [HT.out, decide_eq_false hk]; rfl
      obtain ⟨r0, r0'⟩ := cells_of_heap HR2.out 0 (by simp)
      obtain ⟨r1, r1'⟩ := cells_of_heap HR2.out 1 (by simp)
      obtain ⟨r2, r2'⟩ := cells_of_heap HR2.out 2 (by simp)
      obtain ⟨r3, r3'⟩ := cells_of_heap HR2.out 3 (by simp)
      obtain ⟨r4, r4'⟩ := cells_of_heap HR2.out 4 (by simp)
      obtain ⟨r5, r5'⟩ := cells_of_heap HR2.out 5 (by simp)
      obtain ⟨r6, r6'⟩ := cells_of_heap HR2.out 6 (by simp)
      simp only [List.getElem_toArray, List.getElem_cons_zero, List.getElem_cons_succ] at r0 r1 r2 r3 r4 r5 r6
      go_wp2
      clear r0 r0' r1 r1' r2 r2' r3 r3' r4 r4' r5 r5' r6 r6'
      obtain ⟨wf, hwf⟩ : ∃ x, x = putW (w2) (g + 1) 0 [.int .i64 0, .slice none 0 0, .slice none 0 0, .int .i64 0, .slice none 0 0, .int .i64 0, .bool false] := ⟨_, rfl⟩
      have kf := putW_all [.int .i64 0, .slice none 0 0, .slice none 0 0, .int .i64 0, .slice none 0 0, .int .i64 0, .bool false] HR2.out rfl
      have bf := putW_below (b := g + 1) (by first | omega | simp) [.int .i64 0, .slice none 0 0, .slice none 0 0, .int .i64 0, .slice none 0 0, .int .i64 0, .bool false] 0 _ HB2.out
      rw [← hwf] at kf bf
      have cf := hwf.symm
      simp only [putW, Nat.reduceAdd] at cf
      rw [cf]
      clear cf hwf
      have f0 := (cells_of_heap kf 0 (by simp)).1
      have f1 := (cells_of_heap kf 1 (by simp)).1
      have f2 := (cells_of_heap kf 2 (by simp)).1
      have f3 := (cells_of_heap kf 3 (by simp)).1
      have f4 := (cells_of_heap kf 4 (by simp)).1
      have f5 := (cells_of_heap kf 5 (by simp)).1
      have f6 := (cells_of_heap kf 6 (by simp)).1
      simp only [List.getElem_toArray, List.getElem_cons_zero, List.getElem_cons_succ] at f0 f1 f2 f3 f4 f5 f6
      refine bodyPost_ret (v := .tuple #[env 0 (.slice none 0 0) (.slice none 0 0) 0 (.slice none 0 0) 0 false, .slice none 0 0, .bool false]) (by simp [results, Tryz.results15, go_sem, f0, f1, f2, f3, f4, f5, f6]) rfl ⟨none, 0, none, 0, none, 0, _, none, 0, _, rfl, OwE.zero _ _, owZ_nil _ _, (fun _ h => by cases h), bf⟩

end Go.Proofs.YtbpopgplpipfeaaGreat
