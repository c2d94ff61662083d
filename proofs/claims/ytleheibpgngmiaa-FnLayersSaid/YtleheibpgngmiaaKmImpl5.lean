/- DERIVED. The program's PackAction and UnpackAction: each returns what a plain function says. -/
import Derived.Test.YtleheibpgngmiaaKmSpec2
import Derived.Test.YtleheibpgngmiaaAcImpl
import Derived.Deep.RegionHeld3
namespace Go.Proofs.Ytleheibpgngmiaa
open Go.RowKit

set_option maxRecDepth 100000 in
theorem implPackAction_any (k c m n : Int) (w : World) : Calls Try.prog 31 #[acv k c m n] w fun e w' => ∃ u, e = .returned u ∧ w'.ownsRow w.heap.size 5 1 u (packV ⟨k, c, m, n⟩).length ((packV ⟨k, c, m, n⟩).map (.int .u8)) ∧ Below w.heap.size w w' := by
  obtain ⟨v, hv⟩ : ∃ v, v = okAc k c m n := ⟨_, rfl⟩
  obtain ⟨r, hr⟩ : ∃ r, r = packV ⟨k, c, m, n⟩ := ⟨_, rfl⟩
  have hr2 := hr
  rw [packV] at hr2
  simp only [] at hr2
  rw [← hv] at hr2
  rw [← hr]
  have HV := Lib.hid hv
  have HR := Lib.hid hr2
  clear hv hr hr2
  obtain ⟨W, hW⟩ : ∃ W, W = w.alloc (.cells #[.int .i64 k, .int .i64 c, .int .i64 m, .int .i64 n] 31) := ⟨_, rfl⟩
  have HX0 := Lib.hid (show Bxd W w.heap.size [.int .i64 k, .int .i64 c, .int .i64 m, .int .i64 n] by rw [hW]; exact Bxd.new _ _ _)
  have HB0 := Lib.hid (show Below w.heap.size w W by rw [hW]; exact (Below.refl _ _).alloc (Nat.le_refl _) _)
  have HS0 := Lib.hid (show w.heap.size < W.heap.size by rw [hW]; simp)
  have HW := Lib.hid hW
  clear hW
  go_enter Try.func31, Try.ntmps31
  go_wp2_with fail
  rw [← HW.out]
  have c0 := HX0.out.at 0 _ rfl
  have c1 := HX0.out.at 1 _ rfl
  have c2 := HX0.out.at 2 _ rfl
  have c3 := HX0.out.at 3 _ rfl
  refine (implIsAction_q k c m n v HV.out _).mono ?_
  rintro e w1 ⟨rfl, hb⟩
  have HB := Lib.hid (HB0.out.trans (hb.mono HB0.out.size))
  have HX1 := Lib.hid (HX0.out.below hb HS0.out)
  clear hb c0 c1 c2 c3
  have c0 := HX1.out.at 0 _ rfl
  have c1 := HX1.out.at 1 _ rfl
  have c2 := HX1.out.at 2 _ rfl
  have c3 := HX1.out.at 3 _ rfl
  cases v
  · have hr3 : r = [] := HR.out
    subst hr3
    go_wp2
    go_ret
    exact ⟨_, rfl, World.ownsRow_nil _ _ _ _, HB.out⟩
  · have hr3 : r = [16 * k + n, c, m] := HR.out
    subst hr3
    obtain ⟨⟨k0, k1⟩, ⟨l0, l1⟩, ⟨m0, m1⟩, n0, n3⟩ := okAc_lim2 HV.out.symm
    have u0 : IntKind.u8.wrap (16 * k + n) = 16 * k + n := by rw [IntKind.wrap_u8]; omega
    have u1 : IntKind.u8.wrap c = c := by rw [IntKind.wrap_u8]; omega
    have u2 : IntKind.u8.wrap m = m := by rw [IntKind.wrap_u8]; omega
    clear l0 l1 m0 m1
    go_wp2
    go_ret
    exact ⟨_, rfl, World.ownsRow_lit (e := 5) (size := 1) w1 #[.int .u8 (16 * k + n), .int .u8 c, .int .u8 m] 3 HB.out.size (by simp [maxLen]) rfl, HB.out.alloc HB.out.size _⟩

set_option maxRecDepth 100000 in
theorem implUnpackAction_any (v : Value) (zs : List Int) (w : World) (hl : zs.length ≤ maxLen) (hz : ∀ z ∈ zs, 0 ≤ z ∧ z < 256) (h : Rd w v (zs.map (.int .u8))) : Calls Try.prog 37 #[v] w fun e w' => e = .returned (.tuple #[acv (unpackV zs).1.k (unpackV zs).1.c (unpackV zs).1.m (unpackV zs).1.n, .bool (unpackV zs).2]) ∧ Below w.heap.size w w' := by
  unfold maxLen at hl
  obtain ⟨r, hr⟩ : ∃ r, r = unpackV zs := ⟨_, rfl⟩
  rw [← hr]
  have HR := Lib.hid hr
  clear hr
  obtain ⟨V, hV⟩ : ∃ V, V = w.alloc (.cells #[.int .i64 0, .int .i64 0, .int .i64 0, .int .i64 0] 31) := ⟨_, rfl⟩
  have HG0 := Lib.hid (show V.heap[w.heap.size]? = some (.cells #[.int .i64 0, .int .i64 0, .int .i64 0, .int .i64 0] 31 (0, 0)) by rw [hV]; exact heap_alloc_new w _)
  have HB0 := Lib.hid (show Below w.heap.size w V by rw [hV]; exact (Below.refl _ _).alloc (Nat.le_refl _) _)
  have HS0 := Lib.hid (show w.heap.size < V.heap.size by rw [hV]; simp)
  have HV2 := Lib.hid hV
  clear hV
  have hlen : ∀ a n cap, v = .slice a n cap → n = zs.length := fun a n cap e => by rw [e] at h; simpa using h.len
  by_cases h3 : zs.length = 3
  · match zs, h3 with
    | [z0, z1, z2], _ =>
    have b0 := hz z0 (by simp)
    have b1 := hz z1 (by simp)
    have b2 := hz z2 (by simp)
    rcases h.cases with ⟨hx, _⟩ | ⟨hx, b, off, cap, rfl, hlt, hc⟩
    · simp at hx
    · have c0 := hc 0 (by simp)
      have c1 := hc 1 (by simp)
      have c2 := hc 2 (by simp)
      simp only [List.map_cons, List.getElem_cons_zero, List.getElem_cons_succ, Nat.add_zero, List.length_cons, List.length_map, List.length_nil, Nat.zero_add, Nat.reduceAdd] at c0 c1 c2 ⊢
      have c0 := (HB0.out.cell (p := ⟨b, off, none⟩) hlt).trans c0
      have c1 := (HB0.out.cell (p := ⟨b, off + 1, none⟩) hlt).trans c1
      have c2 := (HB0.out.cell (p := ⟨b, off + 2, none⟩) hlt).trans c2
      clear hc hx hlen hz h hl
      obtain ⟨Q, hQ⟩ : ∃ Q, Q = z0 / 16 := ⟨_, rfl⟩
      obtain ⟨M, hM⟩ : ∃ M, M = z0 % 16 := ⟨_, rfl⟩
      have q1 : Int.tdiv z0 16 = Q := by rw [hQ]; exact Int.tdiv_eq_ediv_of_nonneg b0.1
      have q2 : Int.tmod z0 16 = M := by rw [hM]; exact Int.tmod_eq_emod_of_nonneg b0.1
      have wz0 : IntKind.i64.wrap z0 = z0 := IntWalk.i64_in _ ⟨by omega, by omega⟩
      have wz1 : IntKind.i64.wrap z1 = z1 := IntWalk.i64_in _ ⟨by omega, by omega⟩
      have wz2 : IntKind.i64.wrap z2 = z2 := IntWalk.i64_in _ ⟨by omega, by omega⟩
      have wq : IntKind.i64.wrap Q = Q := IntWalk.i64_in _ ⟨by omega, by omega⟩
      have wm : IntKind.i64.wrap M = M := IntWalk.i64_in _ ⟨by omega, by omega⟩
      have wq8 : IntKind.u8.wrap Q = Q := by rw [IntKind.wrap_u8]; omega
      have wm8 : IntKind.u8.wrap M = M := by rw [IntKind.wrap_u8]; omega
      obtain ⟨vo, hvo⟩ : ∃ vo, vo = okAc Q z1 z2 M := ⟨_, rfl⟩
      have hr2 : r = (if vo = true then (⟨Q, z1, z2, M⟩, true) else (⟨0, 0, 0, 0⟩, false)) := by rw [HR.out, hvo, hQ, hM]; rfl
      have HR2 := Lib.hid hr2
      have HVO := Lib.hid hvo
      clear hQ hM b0 b1 b2 hr2 hvo
      go_enter Try.func37, Try.ntmps37
      go_upto_region 3 with (fail)
      rw [← HV2.out]
      go_region_held3 (fun w' => w'.cell? ⟨b, off, none⟩ = some (.int .u8 z0) ∧ w'.cell? ⟨b, off + 1, none⟩ = some (.int .u8 z1) ∧ w'.cell? ⟨b, off + 2, none⟩ = some (.int .u8 z2)) (first | go_keep) (fail)
      all_goals
        obtain ⟨U, hU⟩ : ∃ U, U = (V.alloc (.cells #[.int .i64 Q, .int .i64 z1, .int .i64 z2, .int .i64 M] 31)).drew := ⟨_, rfl⟩
        have hbx : Bxd U V.heap.size [.int .i64 Q, .int .i64 z1, .int .i64 z2, .int .i64 M] := by rw [hU]; exact (Bxd.new V _ _).below (B := (V.alloc (.cells #[.int .i64 Q, .int .i64 z1, .int .i64 z2, .int .i64 M] 31)).heap.size) ((Below.refl _ _).drew) (by simp)
        have hbu : Below w.heap.size w U := by rw [hU]; exact (HB0.out.alloc HB0.out.size _).drew
        have hgs : V.heap.size < U.heap.size := by rw [hU]; simp
        have hgu : U.heap[w.heap.size]? = some (.cells #[.int .i64 0, .int .i64 0, .int .i64 0, .int .i64 0] 31 (0, 0)) := by rw [hU]; exact (((Below.refl V.heap.size V).alloc (Nat.le_refl _) _).drew.block _ HS0.out).trans HG0.out
        rw [← hU]
        have HXU := Lib.hid hbx
        have HBU := Lib.hid hbu
        have HGS := Lib.hid hgs
        have HGU := Lib.hid hgu
        clear hU hbx hbu hgs hgu c0 c1 c2
        have a0 := HXU.out.at 0 _ rfl
        have a1 := HXU.out.at 1 _ rfl
        have a2 := HXU.out.at 2 _ rfl
        have a3 := HXU.out.at 3 _ rfl
        go_wp2_with fail
        refine (implIsAction_q Q z1 z2 M vo HVO.out _).mono ?_
        rintro e w2 ⟨rfl, hb2⟩
        have HBB := Lib.hid (HBU.out.trans (hb2.mono HBU.out.size))
        have HX2 := Lib.hid (HXU.out.below hb2 HGS.out)
        have HG2 := Lib.hid ((hb2.block _ (Nat.lt_trans HS0.out HGS.out)).trans HGU.out)
        clear hb2 a0 a1 a2 a3
        have a0 := HX2.out.at 0 _ rfl
        have a1 := HX2.out.at 1 _ rfl
        have a2 := HX2.out.at 2 _ rfl
        have a3 := HX2.out.at 3 _ rfl
        obtain ⟨y0, p0⟩ := cells_of_heap HG2.out 0 (by simp)
        obtain ⟨y1, p1⟩ := cells_of_heap HG2.out 1 (by simp)
        obtain ⟨y2, p2⟩ := cells_of_heap HG2.out 2 (by simp)
        obtain ⟨y3, p3⟩ := cells_of_heap HG2.out 3 (by simp)
        cases vo
        · have HRr := Lib.hid (show r = (⟨0, 0, 0, 0⟩, false) from HR2.out)
          go_wp2
          clear y0 y1 y2 y3 p0 p1 p2 p3 a0 a1 a2 a3
          obtain ⟨wf, hwf⟩ : ∃ x, x = putW (w2) (w.heap.size) 0 [.int .i64 0, .int .i64 0, .int .i64 0, .int .i64 0] := ⟨_, rfl⟩
          have kf := putW_all [.int .i64 0, .int .i64 0, .int .i64 0, .int .i64 0] HG2.out rfl
          have bf := putW_below (b := w.heap.size) (by first | omega | simp) [.int .i64 0, .int .i64 0, .int .i64 0, .int .i64 0] 0 _ HBB.out
          rw [← hwf] at kf bf
          have cf := hwf.symm
          simp only [putW, Nat.reduceAdd] at cf
          rw [cf]
          clear cf hwf
          have f0 := (cells_of_heap kf 0 (by simp)).1
          have f1 := (cells_of_heap kf 1 (by simp)).1
          have f2 := (cells_of_heap kf 2 (by simp)).1
          have f3 := (cells_of_heap kf 3 (by simp)).1
          simp only [List.getElem_toArray, List.getElem_cons_zero, List.getElem_cons_succ] at f0 f1 f2 f3
          refine bodyPost_ret (v := .tuple #[acv 0 0 0 0, .bool false]) (by simp [results, Try.results37, go_sem, f0, f1, f2, f3]) rfl ⟨by rw [HRr.out], bf⟩
        · have HRr := Lib.hid (show r = (⟨Q, z1, z2, M⟩, true) from HR2.out)
          go_wp2
          clear y0 y1 y2 y3 p0 p1 p2 p3 a0 a1 a2 a3
          obtain ⟨wf, hwf⟩ : ∃ x, x = putW (w2) (w.heap.size) 0 [.int .i64 Q, .int .i64 z1, .int .i64 z2, .int .i64 M] := ⟨_, rfl⟩
          have kf := putW_all [.int .i64 Q, .int .i64 z1, .int .i64 z2, .int .i64 M] HG2.out rfl
          have bf := putW_below (b := w.heap.size) (by first | omega | simp) [.int .i64 Q, .int .i64 z1, .int .i64 z2, .int .i64 M] 0 _ HBB.out
          rw [← hwf] at kf bf
          have cf := hwf.symm
          simp only [putW, Nat.reduceAdd] at cf
          rw [cf]
          clear cf hwf
          have f0 := (cells_of_heap kf 0 (by simp)).1
          have f1 := (cells_of_heap kf 1 (by simp)).1
          have f2 := (cells_of_heap kf 2 (by simp)).1
          have f3 := (cells_of_heap kf 3 (by simp)).1
          simp only [List.getElem_toArray, List.getElem_cons_zero, List.getElem_cons_succ] at f0 f1 f2 f3
          refine bodyPost_ret (v := .tuple #[acv Q z1 z2 M, .bool true]) (by simp [results, Try.results37, go_sem, f0, f1, f2, f3]) rfl ⟨by rw [HRr.out], bf⟩
  · have HRr := Lib.hid (show r = (⟨0, 0, 0, 0⟩, false) by rw [HR.out, unpackV, if_neg h3])
    have hsh : ∃ a cap, v = .slice a zs.length cap := by obtain ⟨a, cap, rfl, _⟩ := h; exact ⟨a, cap, by simp⟩
    obtain ⟨a, cap, rfl⟩ := hsh
    obtain ⟨N, hN⟩ : ∃ N, N = zs.length := ⟨_, rfl⟩
    rw [← hN] at h3 hl ⊢
    clear h hz hlen hN
    obtain ⟨y0, p0⟩ := cells_of_heap HG0.out 0 (by simp)
    obtain ⟨y1, p1⟩ := cells_of_heap HG0.out 1 (by simp)
    obtain ⟨y2, p2⟩ := cells_of_heap HG0.out 2 (by simp)
    obtain ⟨y3, p3⟩ := cells_of_heap HG0.out 3 (by simp)
    go_enter Try.func37, Try.ntmps37
    go_upto_region 1 with (fail)
    rw [← HV2.out]
    go_wp2
    clear y0 y1 y2 y3 p0 p1 p2 p3
    obtain ⟨wf, hwf⟩ : ∃ x, x = putW (V) (w.heap.size) 0 [.int .i64 0, .int .i64 0, .int .i64 0, .int .i64 0] := ⟨_, rfl⟩
    have kf := putW_all [.int .i64 0, .int .i64 0, .int .i64 0, .int .i64 0] HG0.out rfl
    have bf := putW_below (b := w.heap.size) (by first | omega | simp) [.int .i64 0, .int .i64 0, .int .i64 0, .int .i64 0] 0 _ HB0.out
    rw [← hwf] at kf bf
    have cf := hwf.symm
    simp only [putW, Nat.reduceAdd] at cf
    rw [cf]
    clear cf hwf
    have f0 := (cells_of_heap kf 0 (by simp)).1
    have f1 := (cells_of_heap kf 1 (by simp)).1
    have f2 := (cells_of_heap kf 2 (by simp)).1
    have f3 := (cells_of_heap kf 3 (by simp)).1
    simp only [List.getElem_toArray, List.getElem_cons_zero, List.getElem_cons_succ] at f0 f1 f2 f3
    refine bodyPost_ret (v := .tuple #[acv 0 0 0 0, .bool false]) (by simp [results, Try.results37, go_sem, f0, f1, f2, f3]) rfl ⟨by rw [HRr.out], bf⟩
theorem implUnpackAction_q (v : Value) (zs : List Int) (r : Ac × Bool) (hr : r = unpackV zs) (w : World) (hl : zs.length ≤ maxLen) (hz : ∀ z ∈ zs, 0 ≤ z ∧ z < 256) (h : Rd w v (zs.map (.int .u8))) : Calls Try.prog 37 #[v] w fun e w' => e = .returned (.tuple #[acv r.1.k r.1.c r.1.m r.1.n, .bool r.2]) ∧ Below w.heap.size w w' := by
  rw [hr]; exact implUnpackAction_any v zs w hl hz h

end Go.Proofs.Ytleheibpgngmiaa
