/- DERIVED. The reference's IsKeymap: it tells whether a keymap is valid. · The reference's PackAction, UnpackAction, LayerAt, ActionAt: each returns what a plain function says. · The reference's LayerAt and ActionAt: each returns what a plain function says. -/
import Derived.Test.YtjfckchoklepbaaGreatKm
import Derived.Test.YtjfckchoklepbaaGreatAcOk
import Derived.Test.YtjfckchoklepbaaGreatText
namespace Go.Proofs.YtjfckchoklepbaaGreat
open Go.RowKit

/-- What a walk knows of one action of a row. -/
theorem row_at {w : World} {ua : Option Addr} {m uc : Nat} {l : List Ac} (h : RdN w (.slice ua m uc) l.length (l.flatMap Ac.cells)) {k : Nat} (hk : k < l.length) : ∃ b off, ua = some ⟨b, off, none⟩ ∧ b < w.heap.size ∧
    w.cell? ⟨b, off + k * 4, none⟩ = some (.int .i64 (acD l k).k) ∧ w.cell? ⟨b, off + k * 4 + 1, none⟩ = some (.int .i64 (acD l k).c) ∧ w.cell? ⟨b, off + k * 4 + 2, none⟩ = some (.int .i64 (acD l k).m) ∧ w.cell? ⟨b, off + k * 4 + 3, none⟩ = some (.int .i64 (acD l k).n) := by
  rcases rd_acs (l := l) h with ⟨rfl, _⟩ | ⟨b, off, cap, _, hs, hlt, hc⟩
  · simp at hk
  · obtain ⟨rfl, rfl, rfl⟩ := by simpa using hs
    exact ⟨b, off, rfl, hlt, hc k hk⟩

set_option maxRecDepth 100000 in
set_option maxHeartbeats 4000000 in
theorem specIsKeymap_any (keys : Int) (v : Value) (L : List (List Ac)) (w : World) (hn : L.length ≤ maxLen) (hm : ∀ l ∈ L, l.length ≤ maxLen) (h : LdS w v L) :
    Calls Tryz.prog 167 #[kmv keys v] w fun e w' => e = .returned (.bool (okKm keys L)) ∧ Below w.heap.size w w' := by
  obtain ⟨r, hr⟩ : ∃ r, r = okKm keys L := ⟨_, rfl⟩
  rw [← hr]
  have HR := Lib.hid hr
  clear hr
  unfold maxLen at hn
  obtain ⟨B1, hB1⟩ : ∃ x, x = inB keys 1 32 := ⟨_, rfl⟩
  obtain ⟨B2, hB2⟩ : ∃ x, x = inB L.length 1 4 := ⟨_, rfl⟩
  have HB1 := Lib.hid hB1
  have HB2 := Lib.hid hB2
  clear hB1 hB2
  rcases RdS.cases h with ⟨rfl, a, cap, rfl⟩ | ⟨b, off, cap, us, hpos, rfl, hlt, hc⟩
  · clear h hm hn
    obtain rfl : r = false := by rw [HR.out, okKm, show inB ((([] : List (List Ac)).length : Nat) : Int) 1 4 = false from rfl, Bool.and_false, Bool.and_false]
    obtain ⟨W, hW⟩ : ∃ W, W = w.alloc (.cells #[.int .i64 keys, .slice a 0 cap] 26) := ⟨_, rfl⟩
    have HX0 := Lib.hid (show Bxd W w.heap.size [.int .i64 keys, .slice a 0 cap] by rw [hW]; exact Bxd.new _ _ _)
    have HB0 := Lib.hid (show Below w.heap.size w W by rw [hW]; exact (Below.refl _ _).alloc (Nat.le_refl _) _)
    have HS0 := Lib.hid (show w.heap.size < W.heap.size by rw [hW]; simp)
    have HW := Lib.hid hW
    clear hW
    go_enter Tryz.func167, Tryz.ntmps167
    go_wp2
    rw [← HW.out]
    have c0 := HX0.out.at 0 _ rfl
    have c1 := HX0.out.at 1 _ rfl
    refine wp_loop_rounds 1 ?_
    rw [rounds_succ]
    cases B1
    · go_wp2_with fail
      refine (inB_any keys 1 32 _).mono ?_
      rw [← HB1.out]
      rintro e w0 ⟨rfl, rfl⟩
      go_wp2
      go_ret
      exact ⟨rfl, HB0.out⟩
    · go_wp2_with fail
      refine (inB_any keys 1 32 _).mono ?_
      rw [← HB1.out]
      rintro e w0 ⟨rfl, rfl⟩
      go_wp2_with fail
      refine (inB_any 0 1 4 _).mono ?_
      rw [show inB 0 1 4 = false from rfl]
      rintro e w0 ⟨rfl, rfl⟩
      go_wp2
      go_ret
      exact ⟨rfl, HB0.out⟩
  · have HC := Lib.hid hc
    have HM := Lib.hid (fun j => lD_le hm j)
    obtain ⟨N, hN⟩ : ∃ N, N = L.length := ⟨_, rfl⟩
    rw [← hN] at hc hn hpos ⊢
    have HNN := Lib.hid hN
    clear h hc hm hN
    obtain ⟨W, hW⟩ : ∃ W, W = w.alloc (.cells #[.int .i64 keys, .slice (some ⟨b, off, none⟩) N cap] 26) := ⟨_, rfl⟩
    have HX0 := Lib.hid (show Bxd W w.heap.size [.int .i64 keys, .slice (some ⟨b, off, none⟩) N cap] by rw [hW]; exact Bxd.new _ _ _)
    have HB0 := Lib.hid (show Below w.heap.size w W by rw [hW]; exact (Below.refl _ _).alloc (Nat.le_refl _) _)
    have HS0 := Lib.hid (show w.heap.size < W.heap.size by rw [hW]; simp)
    have HW := Lib.hid hW
    clear hW
    go_enter Tryz.func167, Tryz.ntmps167
    go_wp2
    rw [← HW.out]
    have hbW : b < W.heap.size := Nat.lt_of_lt_of_le hlt HB0.out.size
    go_loopw [3, 4, 5] (fun i _ _ wr => ∃ (j : Nat), j ≤ N ∧ i = .int .i64 j ∧ layN keys L j = true ∧ Below W.heap.size W wr) (fun i _ _ _ => N - (intOf i).toNat)
    case atStart => exact ⟨0, Nat.zero_le _, rfl, rfl, Below.refl _ _⟩
    case round =>
      obtain ⟨j, hj, rfl, hlay, hb⟩ := hrel
      have c0 := (HX0.out.below hb HS0.out).at 0 _ rfl
      have c1 := (HX0.out.below hb HS0.out).at 1 _ rfl
      by_cases hlt' : j < N
      · obtain ⟨d0, hrow⟩ := HC.out j (by rw [← HNN.out]; exact hlt')
        obtain ⟨ua, uc, hu⟩ := RdN.shape hrow
        rw [hu] at d0 hrow
        have d1 := (hb.cell (p := ⟨b, off + j, none⟩) hbW).trans ((HB0.out.cell (p := ⟨b, off + j, none⟩) hlt).trans d0)
        have hml := HM.out j
        unfold maxLen at hml
        have hbad : layOk keys L j = false → r = false := fun h0 => by rw [HR.out]; exact okKm_no (by rw [← HNN.out]; exact hlt') h0
        obtain ⟨l, hl⟩ : ∃ l, l = lD L j := ⟨_, rfl⟩
        have hbad2 : layOk keys L j = (decide ((l.length : Int) = keys) && rowN N j l l.length) := by rw [layOk, ← hl, ← HNN.out]
        rw [← hl] at hml hrow d1
        obtain ⟨n, hnl⟩ : ∃ n, n = l.length := ⟨_, rfl⟩
        rw [← hnl] at hml d1 hbad2
        have HLay := Lib.hid hlay
        have HB := Lib.hid hb
        have HBad := Lib.hid hbad
        have HBad2 := Lib.hid hbad2
        have HNL := Lib.hid hnl
        have HRow := Lib.hid hrow
        clear hlay hb d0 hu hl hbad hbad2 hnl hrow
        by_cases hk : (n : Int) = keys
        · go_wp2
          go_quiet (fail)
          obtain ⟨wq, hq⟩ : ∃ x, x = wr.drewN nq := ⟨_, rfl⟩
          have hbq : Below W.heap.size W wq := by rw [hq]; exact below_drewN HB.out _
          rw [← hq]
          have HBQ := Lib.hid hbq
          have HRow2 := Lib.hid (HRow.out.below HB0.out)
          have HD := Lib.hid (show W.cell? ⟨b, off + j, none⟩ = some (.slice ua n uc) by rw [← d1]; exact (HB.out.cell (p := ⟨b, off + j, none⟩) hbW).symm)
          clear hq hbq c0 c1 d1
          go_wp2
          go_loopw [4, 5] (fun kk _ wi => ∃ k : Nat, k ≤ n ∧ kk = .int .i64 k ∧ rowN N j l k = true ∧ Below W.heap.size W wi) (fun kk _ _ => n - (intOf kk).toNat)
          case atStart => exact ⟨0, Nat.zero_le _, rfl, rfl, HBQ.out⟩
          case round =>
            obtain ⟨k, hkn, rfl, hrw, hb⟩ := hrel
            have c0 := (HX0.out.below hb HS0.out).at 0 _ rfl
            have c1 := (HX0.out.below hb HS0.out).at 1 _ rfl
            have d1 := (hb.cell (p := ⟨b, off + j, none⟩) hbW).trans HD.out
            by_cases hkl : k < n
            · obtain ⟨b2, off2, rfl, hlt2, e0, e1, e2, e3⟩ := row_at HRow2.out (k := k) (by rw [← HNL.out]; exact hkl)
              obtain ⟨ac, hac⟩ : ∃ a, a = acD l k := ⟨_, rfl⟩
              rw [← hac] at e0 e1 e2 e3
              have hrf : okA N j ac = false → r = false := fun h0 => HBad.out (by rw [HBad2.out, rowN_no (by rw [← hac]; exact h0) n hkl, Bool.and_false])
              have hnx : okA N j ac = true → rowN N j l (k + 1) = true := fun h0 => by rw [rowN, hrw, ← hac, h0]; rfl
              obtain ⟨ka, ca, ma, na⟩ := ac
              simp only at e0 e1 e2 e3
              have f0 := (hb.cell (p := ⟨b2, off2 + k * 4, none⟩) hlt2).trans e0
              have f1 := (hb.cell (p := ⟨b2, off2 + k * 4 + 1, none⟩) hlt2).trans e1
              have f2 := (hb.cell (p := ⟨b2, off2 + k * 4 + 2, none⟩) hlt2).trans e2
              have f3 := (hb.cell (p := ⟨b2, off2 + k * 4 + 3, none⟩) hlt2).trans e3
              obtain ⟨vo, hvo⟩ : ∃ vo, vo = okAc ka ca ma na := ⟨_, rfl⟩
              have hA : okA N j ⟨ka, ca, ma, na⟩ = (vo && (!(decide (ka = 1) && decide (j = 0)) && !(!decide (ka = 9) && decide ((N : Int) ≤ na)))) := by rw [hvo]; rfl
              rw [hA] at hrf hnx
              have HRF := Lib.hid hrf
              have HNX := Lib.hid hnx
              have HVO := Lib.hid hvo
              have HB := Lib.hid hb
              have HRW := Lib.hid hrw
              clear e0 e1 e2 e3 hac hrf hnx hvo hA hrw hb
              go_upto_region 10 with (fail)
              obtain ⟨U, hU⟩ : ∃ U, U = wr.alloc (.cells #[.int .i64 ka, .int .i64 ca, .int .i64 ma, .int .i64 na] 41) := ⟨_, rfl⟩
              obtain ⟨g, hg⟩ : ∃ g, g = wr.heap.size := ⟨_, rfl⟩
              have hbx : Bxd U g [.int .i64 ka, .int .i64 ca, .int .i64 ma, .int .i64 na] := by rw [hU, hg]; exact Bxd.new _ _ _
              have hbu : Below W.heap.size W U := by rw [hU]; exact HB.out.alloc HB.out.size _
              have hgs : g < U.heap.size := by rw [hU, hg]; simp
              rw [← hU, ← hg]
              have HXU := Lib.hid hbx
              have HBU := Lib.hid hbu
              have HGS := Lib.hid hgs
              clear hU hg hbx hbu hgs f0 f1 f2 f3 c0 c1 d1
              have a0 := HXU.out.at 0 _ rfl
              have a1 := HXU.out.at 1 _ rfl
              have a2 := HXU.out.at 2 _ rfl
              have a3 := HXU.out.at 3 _ rfl
              go_wp2_with fail
              refine (specIsAction_q ka ca ma na vo HVO.out _).mono ?_
              rintro e w2 ⟨rfl, hb2⟩
              have HBB := Lib.hid (HBU.out.trans (hb2.mono HBU.out.size))
              have HX2 := Lib.hid (HXU.out.below hb2 HGS.out)
              clear hb2 a0 a1 a2 a3
              have a0 := HX2.out.at 0 _ rfl
              have a3 := HX2.out.at 3 _ rfl
              have c1 := (HX0.out.below HBB.out HS0.out).at 1 _ rfl
              cases vo
              · obtain rfl : r = false := HRF.out (by simp)
                go_wp2
                go_ret
                exact ⟨rfl, HB0.out.trans (HBB.out.mono HB0.out.size)⟩
              · by_cases h1 : ka = 1
                · by_cases hj0 : j = 0
                  · obtain rfl : r = false := HRF.out (by simp [h1, hj0])
                    have j0 : ((j : Int) == 0) = true := by simp [hj0]
                    go_wp2
                    go_ret
                    exact ⟨rfl, HB0.out.trans (HBB.out.mono HB0.out.size)⟩
                  · have j0 : ((j : Int) == 0) = false := by simp; omega
                    by_cases hge : (N : Int) ≤ na
                    · obtain rfl : r = false := HRF.out (by simp [h1, hge])
                      go_wp2
                      go_ret
                      exact ⟨rfl, HB0.out.trans (HBB.out.mono HB0.out.size)⟩
                    · have HQ := Lib.hid (HNX.out (by simp [h1, hj0]; omega))
                      go_wp2
                      go_roundw
                      case rel => exact ⟨k + 1, by omega, by go_num, HQ.out, HBB.out⟩
                      case measure => simp [intOf]; omega
                · by_cases h9 : ka = 9
                  · have HQ := Lib.hid (HNX.out (by simp [h9]))
                    go_wp2
                    go_roundw
                    case rel => exact ⟨k + 1, by omega, by go_num, HQ.out, HBB.out⟩
                    case measure => simp [intOf]; omega
                  · by_cases hge : (N : Int) ≤ na
                    · obtain rfl : r = false := HRF.out (by simp [h9, hge])
                      go_wp2
                      go_ret
                      exact ⟨rfl, HB0.out.trans (HBB.out.mono HB0.out.size)⟩
                    · have HQ := Lib.hid (HNX.out (by simp [h1]; omega))
                      go_wp2
                      go_roundw
                      case rel => exact ⟨k + 1, by omega, by go_num, HQ.out, HBB.out⟩
                      case measure => simp [intOf]; omega
            · obtain rfl : k = n := by omega
              have HB := Lib.hid hb
              have HLN := Lib.hid (show layN keys L (j + 1) = true by rw [layN, HLay.out, HBad2.out, decide_eq_true hk, hrw]; rfl)
              clear hb hrw
              go_wp2
              go_roundw
              case rel => exact ⟨j + 1, by omega, by go_num, HLN.out, HB.out⟩
              case measure => simp [intOf]; omega
        · have hrf : r = false := HBad.out (by rw [HBad2.out, decide_eq_false hk, Bool.false_and])
          subst hrf
          go_wp2
          go_quiet (fail)
          go_wp2
          go_ret
          exact ⟨rfl, HB0.out.trans ((below_drewN HB.out _).mono HB0.out.size)⟩
      · obtain rfl : j = N := by omega
        have hrr : r = (B1 && B2) := by rw [HR.out, okKm, ← HNN.out, hlay, Bool.true_and, ← HB1.out, HB2.out, ← HNN.out]
        subst hrr
        have HB := Lib.hid hb
        have HQ := Lib.hid (show B2 = inB (j : Int) 1 4 by rw [HB2.out, ← HNN.out])
        clear hlay hb
        cases B1
        · go_wp2_with fail
          refine (inB_any keys 1 32 _).mono ?_
          rw [← HB1.out]
          rintro e w0 ⟨rfl, rfl⟩
          go_wp2
          go_ret
          exact ⟨rfl, HB0.out.trans (HB.out.mono HB0.out.size)⟩
        · go_wp2_with fail
          refine (inB_any keys 1 32 _).mono ?_
          rw [← HB1.out]
          rintro e w0 ⟨rfl, rfl⟩
          go_wp2_with fail
          refine (inB_any j 1 4 _).mono ?_
          rw [← HQ.out]
          rintro e w0 ⟨rfl, rfl⟩
          go_wp2
          go_ret
          exact ⟨ret_bool (by simp), HB0.out.trans (HB.out.mono HB0.out.size)⟩

theorem specIsKeymap_q (keys : Int) (v : Value) (L : List (List Ac)) (o : Bool) (ho : o = okKm keys L) (w : World) (hn : L.length ≤ maxLen) (hm : ∀ l ∈ L, l.length ≤ maxLen) (h : LdS w v L) :
    Calls Tryz.prog 167 #[kmv keys v] w fun e w' => e = .returned (.bool o) ∧ Below w.heap.size w w' := by
  rw [ho]; exact specIsKeymap_any keys v L w hn hm h
end Go.Proofs.YtjfckchoklepbaaGreat

namespace Go.Proofs.YtjfckchoklepbaaGreat
open Go.RowKit

/-- The bytes of an action. -/
def packV (a : Ac) : List Int := if okAc a.k a.c a.m a.n = true then [16 * a.k + a.n, a.c, a.m] else []
theorem okAc_lim2 {k c m n : Int} (h : okAc k c m n = true) : (0 ≤ k ∧ k ≤ 10) ∧ (0 ≤ c ∧ c ≤ 56) ∧ (0 ≤ m ∧ m ≤ 15) ∧ 0 ≤ n ∧ n ≤ 3 := by
  unfold okAc inB at h
  split at h
  · simp only [Bool.and_eq_true, decide_eq_true_eq] at h; omega
  split at h
  · simp only [Bool.and_eq_true, Bool.or_eq_true, decide_eq_true_eq] at h; omega
  split at h
  · simp only [Bool.and_eq_true, decide_eq_true_eq] at h; omega
  split at h
  · simp only [Bool.and_eq_true, decide_eq_true_eq] at h; omega
  split at h
  · simp only [Bool.and_eq_true, decide_eq_true_eq] at h; omega
  split at h
  · simp only [Bool.and_eq_true, decide_eq_true_eq] at h; omega
  split at h
  · simp only [Bool.and_eq_true, decide_eq_true_eq] at h; omega
  · exact absurd h (by decide)

/-- An action's bytes, read. -/
def unpackV (zs : List Int) : Ac × Bool :=
  if zs.length = 3 then
    (if okAc (zs.getD 0 0 / 16) (zs.getD 1 0) (zs.getD 2 0) (zs.getD 0 0 % 16) = true then (⟨zs.getD 0 0 / 16, zs.getD 1 0, zs.getD 2 0, zs.getD 0 0 % 16⟩, true) else (⟨0, 0, 0, 0⟩, false))
  else (⟨0, 0, 0, 0⟩, false)

set_option maxRecDepth 100000 in
set_option maxHeartbeats 4000000 in
theorem specLayerAt_any (keys on key : Int) (v : Value) (L : List (List Ac)) (w : World) (hn : L.length ≤ maxLen) (hm : ∀ l ∈ L, l.length ≤ maxLen) (h : LdS w v L) :
    Calls Tryz.prog 171 #[kmv keys v, .int .i64 on, .int .i64 key] w fun e w' => e = .returned (.int .i64 (laV keys L on key)) ∧ Below w.heap.size w w' := by
  obtain ⟨r, hr⟩ : ∃ r, r = laV keys L on key := ⟨_, rfl⟩
  obtain ⟨o, ho⟩ : ∃ o, o = okKm keys L := ⟨_, rfl⟩
  obtain ⟨p, hp⟩ : ∃ p, p = inB key 0 (keys - 1) := ⟨_, rfl⟩
  rw [← hr]
  have hr2 := hr
  rw [laV, ← ho, ← hp] at hr2
  have HO := Lib.hid ho
  have HP := Lib.hid hp
  have HR := Lib.hid hr2
  have HN := Lib.hid hn
  have HM := Lib.hid hm
  have H := Lib.hid h
  obtain ⟨xa, xc, rfl⟩ := RdS.shape h
  clear hr hr2 hn hm h ho hp
  obtain ⟨n, hnl⟩ : ∃ n, n = L.length := ⟨_, rfl⟩
  have HNL := Lib.hid hnl
  rw [← hnl]
  clear hnl
  obtain ⟨W, hW⟩ : ∃ W, W = w.alloc (.cells #[.int .i64 keys, .slice xa n xc] 26) := ⟨_, rfl⟩
  have HX0 := Lib.hid (show Bxd W w.heap.size [.int .i64 keys, .slice xa n xc] by rw [hW]; exact Bxd.new _ _ _)
  have HB0 := Lib.hid (show Below w.heap.size w W by rw [hW]; exact (Below.refl _ _).alloc (Nat.le_refl _) _)
  have HS0 := Lib.hid (show w.heap.size < W.heap.size by rw [hW]; simp)
  have HW := Lib.hid hW
  clear hW
  go_enter Tryz.func171, Tryz.ntmps171
  go_wp2_with fail
  rw [← HW.out]
  have c0 := HX0.out.at 0 _ rfl
  have c1 := HX0.out.at 1 _ rfl
  refine (specIsKeymap_q keys _ L o HO.out _ HN.out HM.out (by rw [HNL.out]; exact H.out.below HB0.out)).mono ?_
  rintro e w1 ⟨rfl, hb⟩
  have HB := Lib.hid (HB0.out.trans (hb.mono HB0.out.size))
  have HX1 := Lib.hid (HX0.out.below hb HS0.out)
  clear hb c0 c1
  have c0 := HX1.out.at 0 _ rfl
  have c1 := HX1.out.at 1 _ rfl
  cases o
  · obtain rfl : r = -1 := HR.out
    go_wp2
    go_ret
    exact ⟨rfl, HB.out⟩
  · obtain ⟨⟨k1, k32⟩, ⟨l1, l4⟩, hall⟩ := okKm_at HO.out.symm
    have hwr : IntKind.i64.wrap (keys - 1) = keys - 1 := IntWalk.i64_in _ ⟨by omega, by omega⟩
    cases p
    · obtain rfl : r = -1 := HR.out
      clear hall l1 l4
      go_wp2_with fail
      refine (inB_any key 0 (keys - 1) _).mono ?_
      rw [← HP.out]
      rintro e w0 ⟨rfl, rfl⟩
      go_wp2
      go_ret
      exact ⟨rfl, HB.out⟩
    · have hk := of_decide_eq_true (show decide (0 ≤ key ∧ key ≤ keys - 1) = true from HP.out.symm)
      obtain ⟨q, rfl⟩ := Int.eq_ofNat_of_zero_le hk.1
      have hq : ∀ j, j < n → q < (lD L j).length := fun j hj => by have := (hall j (by rw [← HNL.out]; exact hj)).1; omega
      have hrr : r = (laD L on q (n - 1) : Nat) := by rw [HR.out, HNL.out]; rfl
      have hn4 : 1 ≤ n ∧ n ≤ 4 := by rw [HNL.out]; exact ⟨l1, l4⟩
      obtain ⟨n1, n4⟩ := hn4
      have HRR := Lib.hid hrr
      have HQ := Lib.hid hq
      have HQ32 := Lib.hid (show q < 32 by omega)
      rcases RdS.cases (H.out.below HB.out) with ⟨hnil, _⟩ | ⟨b, off, cap, us, hpos, hsl, hlt, hc⟩
      · exfalso; rw [hnil] at l1; simp at l1
      · obtain ⟨rfl, -, rfl⟩ := by simpa using hsl
        rw [← HNL.out] at hc
        have HC := Lib.hid hc
        clear hall l1 l4 hk hq hrr hpos hsl hc hlt
        go_wp2_with fail
        refine (inB_any q 0 (keys - 1) _).mono ?_
        rw [← HP.out]
        rintro e w0 ⟨rfl, rfl⟩
        go_wp2
        obtain ⟨R, hR⟩ : ∃ R, R = laD L on q (n - 1) := ⟨_, rfl⟩
        have HRn := Lib.hid (show r = (R : Nat) by rw [HRR.out, hR])
        have HL1 := Lib.hid hR
        clear hR
        go_loopw [7] (fun i wr => ∃ k : Nat, k ≤ n - 1 ∧ i = .int .i64 k ∧ R = laD L on q k ∧ wr = w1) (fun i _ => (intOf i).toNat)
        case atStart => exact ⟨n - 1, Nat.le_refl _, by congr 1; omega, HL1.out, rfl⟩
        case round =>
          obtain ⟨k, hkn, rfl, hla, rfl⟩ := hrel
          by_cases hk0 : 0 < k
          · rw [laD_pos hk0] at hla
            obtain ⟨d0, hrow⟩ := HC.out k (by omega)
            obtain ⟨ua, uc, hu⟩ := RdN.shape hrow
            rw [hu] at d0 hrow
            obtain ⟨b2, off2, rfl, hlt2, e0, -, -, -⟩ := row_at hrow (HQ.out k (by omega))
            have hlq := HQ.out k (by omega)
            obtain ⟨x, hx⟩ : ∃ x, x = bits .and .i64 (on / 2 ^ k) 1 := ⟨_, rfl⟩
            obtain ⟨y, hy⟩ : ∃ y, y = (acD (lD L k) q).k := ⟨_, rfl⟩
            rw [bitOn, ← hx, ← hy] at hla
            rw [← hy] at e0
            have hx2 := hx.symm
            obtain ⟨m, hm⟩ : ∃ m, m = (lD L k).length := ⟨_, rfl⟩
            rw [← hm] at d0 hlq
            have HLA := Lib.hid hla
            clear hla hrow hu hx hy hm
            by_cases hx1 : x = 1
            · by_cases hy1 : y = 1
              · have HL2 := Lib.hid (show R = laD L on q (k - 1) by rw [HLA.out, if_neg (by simp [hy1])])
                go_wp2
                go_roundw
                case rel => exact ⟨k - 1, by omega, by congr 1; omega, HL2.out, by trivial⟩
                case measure => simp [intOf]; omega
              · have HL2 := Lib.hid (show R = k by rw [HLA.out, if_pos (by simp [hx1, hy1])])
                go_wp2
                go_ret
                exact ⟨ret_int (by rw [HRn.out, HL2.out]), HB.out⟩
            · have HL2 := Lib.hid (show R = laD L on q (k - 1) by rw [HLA.out, if_neg (by simp [hx1])])
              go_wp2
              go_roundw
              case rel => exact ⟨k - 1, by omega, by congr 1; omega, HL2.out, by trivial⟩
              case measure => simp [intOf]; omega
          · obtain rfl : k = 0 := by omega
            have HL2 := Lib.hid (show R = 0 from hla)
            clear hla
            go_wp2
            go_ret
            exact ⟨ret_int (by rw [HRn.out, HL2.out]; rfl), HB.out⟩

theorem specLayerAt_q (keys on key : Int) (v : Value) (L : List (List Ac)) (r : Int) (hr : r = laV keys L on key) (w : World) (hn : L.length ≤ maxLen) (hm : ∀ l ∈ L, l.length ≤ maxLen) (h : LdS w v L) :
    Calls Tryz.prog 171 #[kmv keys v, .int .i64 on, .int .i64 key] w fun e w' => e = .returned (.int .i64 r) ∧ Below w.heap.size w w' := by
  rw [hr]; exact specLayerAt_any keys on key v L w hn hm h

set_option maxRecDepth 100000 in
set_option maxHeartbeats 4000000 in
theorem specActionAt_any (keys on key : Int) (v : Value) (L : List (List Ac)) (w : World) (hn : L.length ≤ maxLen) (hm : ∀ l ∈ L, l.length ≤ maxLen) (h : LdS w v L) :
    Calls Tryz.prog 101 #[kmv keys v, .int .i64 on, .int .i64 key] w fun e w' => e = .returned (acv (atV keys L on key).k (atV keys L on key).c (atV keys L on key).m (atV keys L on key).n) ∧ Below w.heap.size w w' := by
  obtain ⟨r, hr⟩ : ∃ r, r = atV keys L on key := ⟨_, rfl⟩
  obtain ⟨lv, hlv⟩ : ∃ lv, lv = laV keys L on key := ⟨_, rfl⟩
  obtain ⟨o, ho⟩ : ∃ o, o = (okKm keys L && inB key 0 (keys - 1)) := ⟨_, rfl⟩
  rw [← hr]
  have hr2 := hr
  have hlv2 := hlv
  rw [atV, ← ho] at hr2
  rw [laV, ← ho] at hlv2
  have HO := Lib.hid ho
  have HLV := Lib.hid hlv
  have HLV2 := Lib.hid hlv2
  have HR := Lib.hid hr2
  have HN := Lib.hid hn
  have HM := Lib.hid hm
  have H := Lib.hid h
  obtain ⟨xa, xc, rfl⟩ := RdS.shape h
  clear hr hr2 hn hm h ho hlv hlv2
  obtain ⟨n, hnl⟩ : ∃ n, n = L.length := ⟨_, rfl⟩
  have HNL := Lib.hid hnl
  rw [← hnl]
  clear hnl
  obtain ⟨V, hV⟩ : ∃ V, V = (w.alloc (.cells #[.int .i64 keys, .slice xa n xc] 26)).alloc (.cells #[.int .i64 0, .int .i64 0, .int .i64 0, .int .i64 0] 41) := ⟨_, rfl⟩
  have hX : Bxd V w.heap.size [.int .i64 keys, .slice xa n xc] := by rw [hV]; exact (Bxd.new _ _ _).below ((Below.refl _ _).alloc (Nat.le_refl _) _) (by simp)
  have hG : V.heap[w.heap.size + 1]? = some (.cells #[.int .i64 0, .int .i64 0, .int .i64 0, .int .i64 0] 41 (0, 0)) := by rw [hV]; have := heap_alloc_new (w.alloc (.cells #[.int .i64 keys, .slice xa n xc] 26)) (.cells #[.int .i64 0, .int .i64 0, .int .i64 0, .int .i64 0] 41); simpa using this
  have hB : Below w.heap.size w V := by rw [hV]; exact ((Below.refl _ _).alloc (Nat.le_refl _) _).alloc (by simp) _
  have hS : w.heap.size + 1 < V.heap.size := by rw [hV]; simp
  have HV2 := Lib.hid hV
  have HX0 := Lib.hid hX
  have HG0 := Lib.hid hG
  have HB0 := Lib.hid hB
  have HS0 := Lib.hid hS
  clear hV hX hG hB hS
  go_enter Tryz.func101, Tryz.ntmps101
  go_wp2_with fail
  rw [← HV2.out]
  have c0 := HX0.out.at 0 _ rfl
  have c1 := HX0.out.at 1 _ rfl
  refine (specLayerAt_q keys on key _ L lv HLV.out _ HN.out HM.out (by rw [HNL.out]; exact H.out.below HB0.out)).mono ?_
  rintro e w1 ⟨rfl, hb⟩
  have HB := Lib.hid (HB0.out.trans (hb.mono HB0.out.size))
  have HX1 := Lib.hid (HX0.out.below hb (Nat.lt_of_succ_lt HS0.out))
  have HG1 := Lib.hid ((hb.block _ HS0.out).trans HG0.out)
  clear hb c0 c1
  have c0 := HX1.out.at 0 _ rfl
  have c1 := HX1.out.at 1 _ rfl
  obtain ⟨y0, q0⟩ := cells_of_heap HG1.out 0 (by simp)
  obtain ⟨y1, q1⟩ := cells_of_heap HG1.out 1 (by simp)
  obtain ⟨y2, q2⟩ := cells_of_heap HG1.out 2 (by simp)
  obtain ⟨y3, q3⟩ := cells_of_heap HG1.out 3 (by simp)
  cases o
  · have hr3 : r = ⟨0, 0, 0, 0⟩ := HR.out
    obtain rfl : lv = -1 := HLV2.out
    subst hr3
    go_wp2
    clear c0 c1 y0 y1 y2 y3 q0 q1 q2 q3
    obtain ⟨wf, hwf⟩ : ∃ x, x = putW (w1) (w.heap.size + 1) 0 [.int .i64 0, .int .i64 0, .int .i64 0, .int .i64 0] := ⟨_, rfl⟩
    have kf := putW_all [.int .i64 0, .int .i64 0, .int .i64 0, .int .i64 0] HG1.out rfl
    have bf := putW_below (b := w.heap.size + 1) (by first | omega | simp) [.int .i64 0, .int .i64 0, .int .i64 0, .int .i64 0] 0 _ HB.out
    rw [← hwf] at kf bf
    have cf := hwf.symm
    simp only [putW, Nat.reduceAdd] at cf
    rw [cf]
    clear cf hwf
    have f0 := (cells_of_heap kf 0 (by simp)).1
    have f1 := (cells_of_heap kf 1 (by simp)).1
    have f2 := (cells_of_heap kf 2 (by simp)).1
    have f3 := (cells_of_heap kf 3 (by simp)).1
    simp only [List.getElem_toArray, List.getElem_cons_zero, List.getElem_cons_succ] at f0 f1 f2 f3
    refine bodyPost_ret (v := acv 0 0 0 0) (by simp [results, Tryz.results101, go_sem, f0, f1, f2, f3]) rfl ⟨rfl, bf⟩
  · have ho := HO.out.symm
    rw [Bool.and_eq_true] at ho
    obtain ⟨⟨k1, k32⟩, ⟨l1, l4⟩, hall⟩ := okKm_at ho.1
    have hk := of_decide_eq_true (show decide (0 ≤ key ∧ key ≤ keys - 1) = true from ho.2)
    obtain ⟨q, rfl⟩ := Int.eq_ofNat_of_zero_le hk.1
    obtain ⟨R, hR⟩ : ∃ R, R = laD L on q (L.length - 1) := ⟨_, rfl⟩
    have hlv3 : lv = (R : Nat) := by rw [HLV2.out, hR]; rfl
    have hrr : r = acD (lD L R) q := by rw [HR.out, hR]; rfl
    have hRl : R < L.length := by have := laD_le L on q (L.length - 1); omega
    have hq : q < (lD L R).length := by have := (hall R hRl).1; omega
    subst hlv3
    rcases RdS.cases (H.out.below HB.out) with ⟨hnil, _⟩ | ⟨b, off, cap, us, hpos, hsl, hlt, hc⟩
    · exfalso; rw [hnil] at l1; simp at l1
    · obtain ⟨rfl, -, rfl⟩ := by simpa using hsl
      obtain ⟨d0, hrow⟩ := hc R hRl
      obtain ⟨ua, uc, hu⟩ := RdN.shape hrow
      rw [hu] at d0 hrow
      obtain ⟨b2, off2, rfl, hlt2, e0, e1, e2, e3⟩ := row_at hrow hq
      rw [← hrr] at e0 e1 e2 e3
      rw [← HNL.out] at hRl
      have hn4 : n ≤ 4 := by rw [HNL.out]; exact l4
      obtain ⟨m, hm⟩ : ∃ m, m = (lD L R).length := ⟨_, rfl⟩
      rw [← hm] at d0 hq
      have hq32 : q < 32 := by omega
      obtain ⟨rk, rc, rm, rn⟩ := r
      simp only at e0 e1 e2 e3
      clear hrow hu hm hrr hR hall l1 l4 hk ho hc hpos hsl k1 k32 hlt hlt2
      go_wp2
      clear c0 c1 y0 y1 y2 y3 q0 q1 q2 q3 d0 e0 e1 e2 e3
      obtain ⟨wf, hwf⟩ : ∃ x, x = putW (w1) (w.heap.size + 1) 0 [.int .i64 rk, .int .i64 rc, .int .i64 rm, .int .i64 rn] := ⟨_, rfl⟩
      have kf := putW_all [.int .i64 rk, .int .i64 rc, .int .i64 rm, .int .i64 rn] HG1.out rfl
      have bf := putW_below (b := w.heap.size + 1) (by first | omega | simp) [.int .i64 rk, .int .i64 rc, .int .i64 rm, .int .i64 rn] 0 _ HB.out
      rw [← hwf] at kf bf
      have cf := hwf.symm
      simp only [putW, Nat.reduceAdd] at cf
      rw [cf]
      clear cf hwf
      have f0 := (cells_of_heap kf 0 (by simp)).1
      have f1 := (cells_of_heap kf 1 (by simp)).1
      have f2 := (cells_of_heap kf 2 (by simp)).1
      have f3 := (cells_of_heap kf 3 (by simp)).1
      simp only [List.getElem_toArray, List.getElem_cons_zero, List.getElem_cons_succ] at f0 f1 f2 f3
      refine bodyPost_ret (v := acv rk rc rm rn) (by simp [results, Tryz.results101, go_sem, f0, f1, f2, f3]) rfl ⟨rfl, bf⟩

end Go.Proofs.YtjfckchoklepbaaGreat
