/- DERIVED. The program's PackAction and UnpackAction: each returns what a plain function says. · The program's PackKeymap: a keymap's bytes. -/
import Derived.Test.YtleheibpgngmiaaDoorKmSpec
import Derived.Test.YtleheibpgngmiaaDoorAcImpl
import Derived.Deep.RegionHeld3
import Derived.Test.YtleheibpgngmiaaDoorKmSpec4
import Derived.Test.YtleheibpgngmiaaDoorKmImpl
namespace Go.Proofs.YtleheibpgngmiaaDoor
open Go.RowKit

set_option maxRecDepth 100000 in
theorem implPackAction_any (k c m n : Int) (w : World) : Calls Tryd.prog 20 #[acv k c m n] w fun e w' => ∃ u, e = .returned u ∧ w'.ownsRow w.heap.size 5 1 u (packV ⟨k, c, m, n⟩).length ((packV ⟨k, c, m, n⟩).map (.int .u8)) ∧ Below w.heap.size w w' := by
  obtain ⟨v, hv⟩ : ∃ v, v = okAc k c m n := ⟨_, rfl⟩
  obtain ⟨r, hr⟩ : ∃ r, r = packV ⟨k, c, m, n⟩ := ⟨_, rfl⟩
  have hr2 := hr
  rw [packV] at hr2
  simp only [] at hr2
  rw [← hv] at hr2
  rw [← hr]
  have HV := Lib.hid hv
  have HR := Lib.hid hr2
  clear hv hr hr2
  obtain ⟨W, hW⟩ : ∃ W, W = w.alloc (.cells #[.int .i64 k, .int .i64 c, .int .i64 m, .int .i64 n] 37) := ⟨_, rfl⟩
  have HX0 := Lib.hid (show Bxd W w.heap.size [.int .i64 k, .int .i64 c, .int .i64 m, .int .i64 n] by rw [hW]; exact Bxd.new _ _ _)
  have HB0 := Lib.hid (show Below w.heap.size w W by rw [hW]; exact (Below.refl _ _).alloc (Nat.le_refl _) _)
  have HS0 := Lib.hid (show w.heap.size < W.heap.size by rw [hW]; simp)
  have HW := Lib.hid hW
  clear hW
  go_enter Tryd.func20, Tryd.ntmps20
  go_wp2_with fail
  rw [← HW.out]
  have c0 := HX0.out.at 0 _ rfl
  have c1 := HX0.out.at 1 _ rfl
  have c2 := HX0.out.at 2 _ rfl
  have c3 := HX0.out.at 3 _ rfl
  refine (implIsAction_q k c m n v HV.out _).mono ?_
  rintro e w1 ⟨rfl, hb⟩
  have HB := Lib.hid (HB0.out.trans (hb.mono HB0.out.size))
  have HX1 := Lib.hid (HX0.out.below hb HS0.out)
  clear hb c0 c1 c2 c3
  have c0 := HX1.out.at 0 _ rfl
  have c1 := HX1.out.at 1 _ rfl
  have c2 := HX1.out.at 2 _ rfl
  have c3 := HX1.out.at 3 _ rfl
  cases v
  · have hr3 : r = [] := HR.out
    subst hr3
    go_wp2
    go_ret
    exact ⟨_, rfl, World.ownsRow_nil _ _ _ _, HB.out⟩
  · have hr3 : r = [16 * k + n, c, m] := HR.out
    subst hr3
    obtain ⟨⟨k0, k1⟩, ⟨l0, l1⟩, ⟨m0, m1⟩, n0, n3⟩ := okAc_lim2 HV.out.symm
    have u0 : IntKind.u8.wrap (16 * k + n) = 16 * k + n := by rw [IntKind.wrap_u8]; omega
    have u1 : IntKind.u8.wrap c = c := by rw [IntKind.wrap_u8]; omega
    have u2 : IntKind.u8.wrap m = m := by rw [IntKind.wrap_u8]; omega
    clear l0 l1 m0 m1
    go_wp2
    go_ret
    exact ⟨_, rfl, World.ownsRow_lit (e := 5) (size := 1) w1 #[.int .u8 (16 * k + n), .int .u8 c, .int .u8 m] 3 HB.out.size (by simp [maxLen]) rfl, HB.out.alloc HB.out.size _⟩

set_option maxRecDepth 100000 in
theorem implUnpackAction_any (v : Value) (zs : List Int) (w : World) (hl : zs.length ≤ maxLen) (hz : ∀ z ∈ zs, 0 ≤ z ∧ z < 256) (h : Rd w v (zs.map (.int .u8))) : Calls Tryd.prog 19 #[v] w fun e w' => e = .returned (.tuple #[acv (unpackV zs).1.k (unpackV zs).1.c (unpackV zs).1.m (unpackV zs).1.n, .bool (unpackV zs).2]) ∧ Below w.heap.size w w' := by
  unfold maxLen at hl
  obtain ⟨r, hr⟩ : ∃ r, r = unpackV zs := ⟨_, rfl⟩
  rw [← hr]
  have HR := Lib.hid hr
  clear hr
  obtain ⟨V, hV⟩ : ∃ V, V = w.alloc (.cells #[.int .i64 0, .int .i64 0, .int .i64 0, .int .i64 0] 37) := ⟨_, rfl⟩
  have HG0 := Lib.hid (show V.heap[w.heap.size]? = some (.cells #[.int .i64 0, .int .i64 0, .int .i64 0, .int .i64 0] 37 (0, 0)) by rw [hV]; exact heap_alloc_new w _)
  have HB0 := Lib.hid (show Below w.heap.size w V by rw [hV]; exact (Below.refl _ _).alloc (Nat.le_refl _) _)
  have HS0 := Lib.hid (show w.heap.size < V.heap.size by rw [hV]; simp)
  have HV2 := Lib.hid hV
  clear hV
  have hlen : ∀ a n cap, v = .slice a n cap → n = zs.length := fun a n cap e => by rw [e] at h; simpa using h.len
  by_cases h3 : zs.length = 3
  · match zs, h3 with
    | [z0, z1, z2], _ =>
    have b0 := hz z0 (by simp)
    have b1 := hz z1 (by simp)
    have b2 := hz z2 (by simp)
    rcases h.cases with ⟨hx, _⟩ | ⟨hx, b, off, cap, rfl, hlt, hc⟩
    · simp at hx
    · have c0 := hc 0 (by simp)
      have c1 := hc 1 (by simp)
      have c2 := hc 2 (by simp)
      simp only [List.map_cons, List.getElem_cons_zero, List.getElem_cons_succ, Nat.add_zero, List.length_cons, List.length_map, List.length_nil, Nat.zero_add, Nat.reduceAdd] at c0 c1 c2 ⊢
      have c0 := (HB0.out.cell (p := ⟨b, off, none⟩) hlt).trans c0
      have c1 := (HB0.out.cell (p := ⟨b, off + 1, none⟩) hlt).trans c1
      have c2 := (HB0.out.cell (p := ⟨b, off + 2, none⟩) hlt).trans c2
      clear hc hx hlen hz h hl
      obtain ⟨Q, hQ⟩ : ∃ Q, Q = z0 / 16 := ⟨_, rfl⟩
      obtain ⟨M, hM⟩ : ∃ M, M = z0 % 16 := ⟨_, rfl⟩
      have q1 : Int.tdiv z0 16 = Q := by rw [hQ]; exact Int.tdiv_eq_ediv_of_nonneg b0.1
      have q2 : Int.tmod z0 16 = M := by rw [hM]; exact Int.tmod_eq_emod_of_nonneg b0.1
      have wz0 : IntKind.i64.wrap z0 = z0 := IntWalk.i64_in _ ⟨by omega, by omega⟩
      have wz1 : IntKind.i64.wrap z1 = z1 := IntWalk.i64_in _ ⟨by omega, by omega⟩
      have wz2 : IntKind.i64.wrap z2 = z2 := IntWalk.i64_in _ ⟨by omega, by omega⟩
      have wq : IntKind.i64.wrap Q = Q := IntWalk.i64_in _ ⟨by omega, by omega⟩
      have wm : IntKind.i64.wrap M = M := IntWalk.i64_in _ ⟨by omega, by omega⟩
      have wq8 : IntKind.u8.wrap Q = Q := by rw [IntKind.wrap_u8]; omega
      have wm8 : IntKind.u8.wrap M = M := by rw [IntKind.wrap_u8]; omega
      obtain ⟨vo, hvo⟩ : ∃ vo, vo = okAc Q z1 z2 M := ⟨_, rfl⟩
      have hr2 : r = (if vo = true then (⟨Q, z1, z2, M⟩, true) else (⟨0, 0, 0, 0⟩, false)) := by rw [HR.out, hvo, hQ, hM]; rfl
      have HR2 := Lib.hid hr2
      have HVO := Lib.hid hvo
      clear hQ hM b0 b1 b2 hr2 hvo
      go_enter Tryd.func19, Tryd.ntmps19
      go_upto_region 3 with (fail)
      rw [← HV2.out]
      go_region_held3 (fun w' => w'.cell? ⟨b, off, none⟩ = some (.int .u8 z0) ∧ w'.cell? ⟨b, off + 1, none⟩ = some (.int .u8 z1) ∧ w'.cell? ⟨b, off + 2, none⟩ = some (.int .u8 z2)) (first | go_keep) (fail)
      all_goals
        obtain ⟨U, hU⟩ : ∃ U, U = (V.alloc (.cells #[.int .i64 Q, .int .i64 z1, .int .i64 z2, .int .i64 M] 37)).drew := ⟨_, rfl⟩
        have hbx : Bxd U V.heap.size [.int .i64 Q, .int .i64 z1, .int .i64 z2, .int .i64 M] := by rw [hU]; exact (Bxd.new V _ _).below (B := (V.alloc (.cells #[.int .i64 Q, .int .i64 z1, .int .i64 z2, .int .i64 M] 37)).heap.size) ((Below.refl _ _).drew) (by simp)
        have hbu : Below w.heap.size w U := by rw [hU]; exact (HB0.out.alloc HB0.out.size _).drew
        have hgs : V.heap.size < U.heap.size := by rw [hU]; simp
        have hgu : U.heap[w.heap.size]? = some (.cells #[.int .i64 0, .int .i64 0, .int .i64 0, .int .i64 0] 37 (0, 0)) := by rw [hU]; exact (((Below.refl V.heap.size V).alloc (Nat.le_refl _) _).drew.block _ HS0.out).trans HG0.out
        rw [← hU]
        have HXU := Lib.hid hbx
        have HBU := Lib.hid hbu
        have HGS := Lib.hid hgs
        have HGU := Lib.hid hgu
        clear hU hbx hbu hgs hgu c0 c1 c2
        have a0 := HXU.out.at 0 _ rfl
        have a1 := HXU.out.at 1 _ rfl
        have a2 := HXU.out.at 2 _ rfl
        have a3 := HXU.out.at 3 _ rfl
        go_wp2_with fail
        refine (implIsAction_q Q z1 z2 M vo HVO.out _).mono ?_
        rintro e w2 ⟨rfl, hb2⟩
        have HBB := Lib.hid (HBU.out.trans (hb2.mono HBU.out.size))
        have HX2 := Lib.hid (HXU.out.below hb2 HGS.out)
        have HG2 := Lib.hid ((hb2.block _ (Nat.lt_trans HS0.out HGS.out)).trans HGU.out)
        clear hb2 a0 a1 a2 a3
        have a0 := HX2.out.at 0 _ rfl
        have a1 := HX2.out.at 1 _ rfl
        have a2 := HX2.out.at 2 _ rfl
        have a3 := HX2.out.at 3 _ rfl
        obtain ⟨y0, p0⟩ := cells_of_heap HG2.out 0 (by simp)
        obtain ⟨y1, p1⟩ := cells_of_heap HG2.out 1 (by simp)
        obtain ⟨y2, p2⟩ := cells_of_heap HG2.out 2 (by simp)
        obtain ⟨y3, p3⟩ := cells_of_heap HG2.out 3 (by simp)
        cases vo
        · have HRr := Lib.hid (show r = (⟨0, 0, 0, 0⟩, false) from HR2.out)
          go_wp2
          clear y0 y1 y2 y3 p0 p1 p2 p3 a0 a1 a2 a3
          obtain ⟨wf, hwf⟩ : ∃ x, x = putW (w2) (w.heap.size) 0 [.int .i64 0, .int .i64 0, .int .i64 0, .int .i64 0] := ⟨_, rfl⟩
          have kf := putW_all [.int .i64 0, .int .i64 0, .int .i64 0, .int .i64 0] HG2.out rfl
          have bf := putW_below (b := w.heap.size) (by first | omega | simp) [.int .i64 0, .int .i64 0, .int .i64 0, .int .i64 0] 0 _ HBB.out
          rw [← hwf] at kf bf
          have cf := hwf.symm
          simp only [putW, Nat.reduceAdd] at cf
          rw [cf]
          clear cf hwf
          have f0 := (cells_of_heap kf 0 (by simp)).1
          have f1 := (cells_of_heap kf 1 (by simp)).1
          have f2 := (cells_of_heap kf 2 (by simp)).1
          have f3 := (cells_of_heap kf 3 (by simp)).1
          simp only [List.getElem_toArray, List.getElem_cons_zero, List.getElem_cons_succ] at f0 f1 f2 f3
          refine bodyPost_ret (v := .tuple #[acv 0 0 0 0, .bool false]) (by simp [results, Tryd.results19, go_sem, f0, f1, f2, f3]) rfl ⟨by rw [HRr.out], bf⟩
        · have HRr := Lib.hid (show r = (⟨Q, z1, z2, M⟩, true) from HR2.out)
          go_wp2
          clear y0 y1 y2 y3 p0 p1 p2 p3 a0 a1 a2 a3
          obtain ⟨wf, hwf⟩ : ∃ x, x = putW (w2) (w.heap.size) 0 [.int .i64 Q, .int .i64 z1, .int .i64 z2, .int .i64 M] := ⟨_, rfl⟩
          have kf := putW_all [.int .i64 Q, .int .i64 z1, .int .i64 z2, .int .i64 M] HG2.out rfl
          have bf := putW_below (b := w.heap.size) (by first | omega | simp) [.int .i64 Q, .int .i64 z1, .int .i64 z2, .int .i64 M] 0 _ HBB.out
          rw [← hwf] at kf bf
          have cf := hwf.symm
          simp only [putW, Nat.reduceAdd] at cf
          rw [cf]
          clear cf hwf
          have f0 := (cells_of_heap kf 0 (by simp)).1
          have f1 := (cells_of_heap kf 1 (by simp)).1
          have f2 := (cells_of_heap kf 2 (by simp)).1
          have f3 := (cells_of_heap kf 3 (by simp)).1
          simp only [List.getElem_toArray, List.getElem_cons_zero, List.getElem_cons_succ] at f0 f1 f2 f3
          refine bodyPost_ret (v := .tuple #[acv Q z1 z2 M, .bool true]) (by simp [results, Tryd.results19, go_sem, f0, f1, f2, f3]) rfl ⟨by rw [HRr.out], bf⟩
  · have HRr := Lib.hid (show r = (⟨0, 0, 0, 0⟩, false) by rw [HR.out, unpackV, if_neg h3])
    have hsh : ∃ a cap, v = .slice a zs.length cap := by obtain ⟨a, cap, rfl, _⟩ := h; exact ⟨a, cap, by simp⟩
    obtain ⟨a, cap, rfl⟩ := hsh
    obtain ⟨N, hN⟩ : ∃ N, N = zs.length := ⟨_, rfl⟩
    rw [← hN] at h3 hl ⊢
    clear h hz hlen hN
    obtain ⟨y0, p0⟩ := cells_of_heap HG0.out 0 (by simp)
    obtain ⟨y1, p1⟩ := cells_of_heap HG0.out 1 (by simp)
    obtain ⟨y2, p2⟩ := cells_of_heap HG0.out 2 (by simp)
    obtain ⟨y3, p3⟩ := cells_of_heap HG0.out 3 (by simp)
    go_enter Tryd.func19, Tryd.ntmps19
    go_upto_region 1 with (fail)
    rw [← HV2.out]
    go_wp2
    clear y0 y1 y2 y3 p0 p1 p2 p3
    obtain ⟨wf, hwf⟩ : ∃ x, x = putW (V) (w.heap.size) 0 [.int .i64 0, .int .i64 0, .int .i64 0, .int .i64 0] := ⟨_, rfl⟩
    have kf := putW_all [.int .i64 0, .int .i64 0, .int .i64 0, .int .i64 0] HG0.out rfl
    have bf := putW_below (b := w.heap.size) (by first | omega | simp) [.int .i64 0, .int .i64 0, .int .i64 0, .int .i64 0] 0 _ HB0.out
    rw [← hwf] at kf bf
    have cf := hwf.symm
    simp only [putW, Nat.reduceAdd] at cf
    rw [cf]
    clear cf hwf
    have f0 := (cells_of_heap kf 0 (by simp)).1
    have f1 := (cells_of_heap kf 1 (by simp)).1
    have f2 := (cells_of_heap kf 2 (by simp)).1
    have f3 := (cells_of_heap kf 3 (by simp)).1
    simp only [List.getElem_toArray, List.getElem_cons_zero, List.getElem_cons_succ] at f0 f1 f2 f3
    refine bodyPost_ret (v := .tuple #[acv 0 0 0 0, .bool false]) (by simp [results, Tryd.results19, go_sem, f0, f1, f2, f3]) rfl ⟨by rw [HRr.out], bf⟩
theorem implUnpackAction_q (v : Value) (zs : List Int) (r : Ac × Bool) (hr : r = unpackV zs) (w : World) (hl : zs.length ≤ maxLen) (hz : ∀ z ∈ zs, 0 ≤ z ∧ z < 256) (h : Rd w v (zs.map (.int .u8))) : Calls Tryd.prog 19 #[v] w fun e w' => e = .returned (.tuple #[acv r.1.k r.1.c r.1.m r.1.n, .bool r.2]) ∧ Below w.heap.size w w' := by
  rw [hr]; exact implUnpackAction_any v zs w hl hz h
end Go.Proofs.YtleheibpgngmiaaDoor

namespace Go.Proofs.YtleheibpgngmiaaDoor
open Go.RowKit

set_option maxRecDepth 100000 in
set_option maxHeartbeats 4000000 in
theorem implPackKeymap_any (keys : Int) (v : Value) (L : List (List Ac)) (w : World) (hn : L.length ≤ maxLen) (hm : ∀ l ∈ L, l.length ≤ maxLen) (h : LdS w v L) :
    Calls Tryd.prog 12 #[kmv keys v] w fun e w' => ∃ u, e = .returned u ∧ w'.ownsRow w.heap.size 5 1 u (packK keys L).length ((packK keys L).map (.int .u8)) ∧ Below w.heap.size w w' := by
  obtain ⟨i0, hi, hz0, hz1, hz2⟩ := info_parts info_u8
  obtain ⟨r, hr⟩ : ∃ r, r = packK keys L := ⟨_, rfl⟩
  obtain ⟨o, ho⟩ : ∃ o, o = okKm keys L := ⟨_, rfl⟩
  rw [← hr]
  have hr2 := hr
  rw [packK, ← ho] at hr2
  have HO := Lib.hid ho
  have HR := Lib.hid hr
  have HR2 := Lib.hid hr2
  have HN := Lib.hid hn
  have HM := Lib.hid hm
  have H := Lib.hid h
  obtain ⟨xa, xc, rfl⟩ := RdS.shape h
  clear hr hr2 hn hm h ho
  obtain ⟨n, hnl⟩ : ∃ n, n = L.length := ⟨_, rfl⟩
  have HNL := Lib.hid hnl
  rw [← hnl]
  clear hnl
  obtain ⟨W, hW⟩ : ∃ W, W = w.alloc (.cells #[.int .i64 keys, .slice xa n xc] 31) := ⟨_, rfl⟩
  have HX0 := Lib.hid (show Bxd W w.heap.size [.int .i64 keys, .slice xa n xc] by rw [hW]; exact Bxd.new _ _ _)
  have HB0 := Lib.hid (show Below w.heap.size w W by rw [hW]; exact (Below.refl _ _).alloc (Nat.le_refl _) _)
  have HS0 := Lib.hid (show w.heap.size < W.heap.size by rw [hW]; simp)
  have HW := Lib.hid hW
  clear hW
  go_enter Tryd.func12, Tryd.ntmps12
  go_wp2_with fail
  rw [← HW.out]
  have c0 := HX0.out.at 0 _ rfl
  have c1 := HX0.out.at 1 _ rfl
  refine (implIsKeymap_q keys _ L o HO.out _ HN.out HM.out (by rw [HNL.out]; exact H.out.below HB0.out)).mono ?_
  rintro e w1 ⟨rfl, hb⟩
  have HB := Lib.hid (hb.mono (Nat.le_refl _))
  clear hb c0 c1
  have c0 := (HX0.out.below HB.out HS0.out).at 0 _ rfl
  have c1 := (HX0.out.below HB.out HS0.out).at 1 _ rfl
  cases o
  · have hr3 : r = [] := HR2.out
    subst hr3
    go_wp2
    go_ret
    exact ⟨_, rfl, World.ownsRow_nil _ _ _ _, HB0.out.trans (HB.out.mono HB0.out.size)⟩
  · obtain ⟨⟨k1, k32⟩, ⟨l1, l4⟩, hall⟩ := okKm_at HO.out.symm
    have HRR := Lib.hid (show pkB keys L n 0 = r by rw [HNL.out, HR.out]; exact pkB_all keys L HO.out.symm)
    have hn4 : 1 ≤ n ∧ n ≤ 4 := by rw [HNL.out]; exact ⟨l1, l4⟩
    obtain ⟨n1, n4⟩ := hn4
    obtain ⟨K, rfl⟩ := Int.eq_ofNat_of_zero_le (show 0 ≤ keys by omega)
    have HAll := Lib.hid (show ∀ j, j < n → (lD L j).length = K from fun j hj => by have := (hall j (by rw [← HNL.out]; exact hj)).1; omega)
    have hK : K ≤ 32 := by omega
    have u0 : IntKind.u8.wrap (K : Int) = (K : Int) := by rw [IntKind.wrap_u8]; omega
    have u1 : IntKind.u8.wrap (n : Int) = (n : Int) := by rw [IntKind.wrap_u8]; omega
    rcases RdS.cases H.out with ⟨hnil, _⟩ | ⟨b, off, cap, us, hpos, hsl, hlt, hc⟩
    · exfalso; rw [hnil] at l1; simp at l1
    · obtain ⟨rfl, -, rfl⟩ := by simpa using hsl
      rw [← HNL.out] at hc
      have HC := Lib.hid hc
      have HLT := Lib.hid hlt
      clear hall l1 l4 hpos hsl hc hlt k1 k32
      go_upto_region 4 with (fail)
      obtain ⟨w2, hw2⟩ : ∃ w2, w2 = w1.alloc (.cells #[.int .u8 (K : Int), .int .u8 (n : Int)] 5) := ⟨_, rfl⟩
      obtain ⟨g2, hg2⟩ : ∃ g2, g2 = w1.heap.size := ⟨_, rfl⟩
      have hown2 : w2.ownsRow W.heap.size 5 1 (.slice (some ⟨g2, 0, none⟩) 2 2) 2 [.int .u8 (K : Int), .int .u8 (n : Int)] := by
        rw [hw2, hg2]; exact World.ownsRow_lit (e := 5) (size := 1) w1 #[.int .u8 (K : Int), .int .u8 (n : Int)] 2 HB.out.size (by simp [maxLen]) rfl
      have hb2 : Below W.heap.size W w2 := by rw [hw2]; exact HB.out.alloc HB.out.size _
      rw [← hw2, ← hg2]
      have ho2 : w2.ownsRow W.heap.size 5 1 (.slice (some ⟨g2, 0, none⟩) (pkB K L 0 0).length 2) (pkB K L 0 0).length ((pkB K L 0 0).map (.int .u8)) := by rw [pkB_zero, ← HNL.out]; exact hown2
      have e0 : (pkB K L 0 0).length = 2 := by rw [pkB_zero]; rfl
      have HB2 := Lib.hid hb2
      have HO2 := Lib.hid ho2
      have HE0 := Lib.hid e0
      clear hb2 hown2 ho2 e0 u0 u1 hw2 hg2 c0 c1
      have c1 := (HX0.out.below HB2.out HS0.out).at 1 _ rfl
      go_wp2
      clear c1
      go_loopw [3, 5, 7, 22] (fun u _ _ i wr => ∃ (j : Nat) (X : List Int) (a : Option Addr) (c : Nat), j ≤ n ∧ i = .int .i64 j ∧ X = pkB K L j 0 ∧ X.length ≤ 2 + 96 * j ∧ u = .slice a X.length c ∧ wr.ownsRow W.heap.size 5 1 (.slice a X.length c) X.length (X.map (.int .u8)) ∧ Below W.heap.size W wr) (fun _ _ _ i _ => n - (intOf i).toNat)
      case atStart => exact ⟨0, _, some ⟨g2, 0, none⟩, 2, Nat.zero_le _, rfl, rfl, by rw [HE0.out]; omega, by rw [HE0.out], HO2.out, HB2.out⟩
      case round =>
        obtain ⟨j, X, a, c, hj, rfl, hX, hXl, rfl, ho, hb⟩ := hrel
        have HO3 := Lib.hid ho
        have HB3 := Lib.hid hb
        have HX := Lib.hid hX
        have HXL := Lib.hid hXl
        have hbw0 := HB0.out.trans (hb.mono HB0.out.size)
        clear ho hb hX hXl
        by_cases hlt' : j < n
        · obtain ⟨d0, hrow⟩ := HC.out j hlt'
          obtain ⟨ua, uc, hu⟩ := RdN.shape hrow
          have hlen := HAll.out j hlt'
          rw [hu] at d0 hrow
          rw [hlen] at d0
          have HRow := Lib.hid hrow
          have HD := Lib.hid d0
          have HLen := Lib.hid hlen
          have d1 := (hbw0.cell (p := ⟨b, off + j, none⟩) HLT.out).trans d0
          clear hrow d0 hlen hu hbw0
          go_wp2
          clear d1
          go_loopw [3, 7, 28] (fun u _ kk wr => ∃ (k : Nat) (X : List Int) (a : Option Addr) (c : Nat), k ≤ K ∧ kk = .int .i64 k ∧ X = pkB K L j k ∧ X.length ≤ 2 + 96 * j + 3 * k ∧ u = .slice a X.length c ∧ wr.ownsRow W.heap.size 5 1 (.slice a X.length c) X.length (X.map (.int .u8)) ∧ Below W.heap.size W wr) (fun _ _ kk _ => K - (intOf kk).toNat)
          case atStart => exact ⟨0, X, a, c, Nat.zero_le _, rfl, HX.out, by have := HXL.out; omega, rfl, HO3.out, HB3.out⟩
          case round =>
            obtain ⟨k, Y, a', c', hk, rfl, hY, hYl, rfl, ho, hb⟩ := hrel
            have hbw := HB0.out.trans (hb.mono HB0.out.size)
            have HO4 := Lib.hid ho
            have HB4 := Lib.hid hb
            have HY := Lib.hid hY
            have HYL := Lib.hid hYl
            by_cases hkl : k < K
            · obtain ⟨b2, off2, rfl, hlt2, e0, e1, e2, e3⟩ := row_at HRow.out (k := k) (by rw [HLen.out]; exact hkl)
              have f0 := (hbw.cell (p := ⟨b2, off2 + k * 4, none⟩) hlt2).trans e0
              have f1 := (hbw.cell (p := ⟨b2, off2 + k * 4 + 1, none⟩) hlt2).trans e1
              have f2 := (hbw.cell (p := ⟨b2, off2 + k * 4 + 2, none⟩) hlt2).trans e2
              have f3 := (hbw.cell (p := ⟨b2, off2 + k * 4 + 3, none⟩) hlt2).trans e3
              have hst := pkB_step K L j k (by rw [HLen.out]; exact hkl)
              obtain ⟨A, hA⟩ : ∃ A, A = acD (lD L j) k := ⟨_, rfl⟩
              rw [← hA] at f0 f1 f2 f3 hst
              rw [← hY] at hst
              obtain ⟨P, hP⟩ : ∃ P, P = packV A := ⟨_, rfl⟩
              have hPl : P.length ≤ 3 := by rw [hP]; exact packV_len A
              rw [← hP] at hst
              have HST := Lib.hid hst
              have HP := Lib.hid hP
              have HPL := Lib.hid hPl
              obtain ⟨ak, ac, am, an⟩ := A
              simp only at f0 f1 f2 f3
              clear e0 e1 e2 e3 hA hY hYl ho hb hbw hst hP hPl
              go_upto_region 10 with (fail)
              obtain ⟨U, hU⟩ : ∃ U, U = wr.alloc (.cells #[.int .i64 ak, .int .i64 ac, .int .i64 am, .int .i64 an] 37) := ⟨_, rfl⟩
              obtain ⟨g, hg⟩ : ∃ g, g = wr.heap.size := ⟨_, rfl⟩
              have hbx : Bxd U g [.int .i64 ak, .int .i64 ac, .int .i64 am, .int .i64 an] := by rw [hU, hg]; exact Bxd.new _ _ _
              have HBU := Lib.hid (show Below W.heap.size W U by rw [hU]; exact HB4.out.alloc HB4.out.size _)
              have HOU4 := Lib.hid (show U.ownsRow W.heap.size 5 1 (.slice a' Y.length c') Y.length (Y.map (.int .u8)) by rw [hU]; exact HO4.out.alloc _)
              rw [← hU, ← hg]
              have a0 := hbx.at 0 _ rfl
              have a1 := hbx.at 1 _ rfl
              have a2 := hbx.at 2 _ rfl
              have a3 := hbx.at 3 _ rfl
              clear hU hg hbx f0 f1 f2 f3
              go_wp2_with fail
              refine (implPackAction_any ak ac am an _).mono ?_
              rw [← HP.out]
              rintro e w5 ⟨u5, rfl, hou, hb5⟩
              have HB5 := Lib.hid (HBU.out.trans (hb5.mono HBU.out.size))
              have HO5 := Lib.hid (owns_below HOU4.out hb5)
              have HOU := Lib.hid hou
              have hsz1 : W.heap.size ≤ w5.heap.size := HB5.out.size
              have b63 : Y.length + P.length ≤ maxLen := by have := HYL.out; have := HPL.out; unfold maxLen; omega
              have b47 : (Y.length + P.length) * 1 ≤ 140737488355328 := by have := HYL.out; have := HPL.out; omega
              clear hou hb5 a0 a1 a2 a3
              go_wp2_with (at_builtin; refine wpList_append_owns rfl _ _ 22 rfl W.heap.size 5 i0 (.int .u8 0) 1 1 Tryd.underlying22 hi hz0 hz1 hz2 rfl (by decide) _ _ _ rfl HO5.out _ _ _ _ rfl HOU.out (by intro u hu; obtain ⟨z, _, rfl⟩ := List.mem_map.1 hu; rfl) b63 b47 hsz1 ?_)
              intro v6 w6 hown6 hgrow
              rw [← List.length_append, ← List.map_append] at hown6
              obtain ⟨a6, c6, rfl⟩ := owns_shape hown6
              have HB6 := Lib.hid (HB5.out.grown hgrow hsz1 (fun q hq => (HO5.out.lt q hq).1))
              have HO6 := Lib.hid hown6
              clear hown6 hgrow b63 b47 hsz1
              go_wp2
              go_roundw
              case rel => exact ⟨k + 1, Y ++ P, a6, c6, by omega, by go_num, HST.out.symm, by rw [List.length_append]; have := HYL.out; have := HPL.out; omega, rfl, HO6.out, HB6.out⟩
              case measure => simp [intOf]; omega
            · obtain rfl : k = K := by omega
              have HRow2 := Lib.hid (pkB_row k L j k (by rw [← HNL.out]; exact hlt') HLen.out.symm)
              clear hY hYl ho hb hbw
              go_wp2
              go_roundw
              case rel => exact ⟨j + 1, Y, a', c', by omega, by go_num, by rw [HRow2.out]; exact HY.out, by have := HYL.out; omega, rfl, HO4.out, HB4.out⟩
              case measure => simp [intOf]; omega
        · obtain rfl : j = n := by omega
          have HRX := Lib.hid (show X = r from HX.out.trans HRR.out)
          go_wp2
          go_ret
          exact ⟨_, rfl, by rw [← HRX.out]; exact owns_base HO3.out HB0.out.size, HB0.out.trans (HB3.out.mono HB0.out.size)⟩

end Go.Proofs.YtleheibpgngmiaaDoor
