/- DERIVED. The program's MatchCombo. -/
import Derived.Test.YtagmdkblcgnddaaMaMath
import Derived.Test.YtagmdkblcgnddaaCnImpl2
import Derived.Deep.RegionHeld3
namespace Go.Proofs.Ytagmdkblcgnddaa
open Go.RowKit

theorem slice_one (b off N cap : Nat) (w : World) (h1 : 1 ≤ N) (h2 : N ≤ cap) (a5 : Option Addr) (ha : a5 = if cap = 1 then some ⟨b, off, none⟩ else some ⟨b, off + 3, none⟩) :
    (Instr.slice 25 (.slice (some ⟨b, off, none⟩) N cap) (some (.int .i64 1)) none none).run Try.prog w = .ok (.slice a5 (N - 1) (cap - 1)) w := by
  obtain ⟨i0, hi, hz0, hz1, hz2⟩ := info_parts info_ev
  have hel : Try.prog.elem 25 = 36 := by kernel_rfl
  have hu : Try.prog.underlying 25 = some (.slice (Try.prog.elem 25)) := by rw [hel]; exact Try.underlying25
  rw [run_slice_l w 25 (some ⟨b, off, none⟩) N cap hu .i64 1 (by decide) (by omega), hel]
  have hsz : (sizeOf 36).run Try.prog w = .ok 3 w := by simp [sizeOf, typeInfo, hi, hz1, Result.andThen]
  rw [hsz]
  simp only [Result.andThen, sliced]
  rw [ha]
  by_cases hc : cap = 1
  · subst hc; simp
  · rw [if_neg hc]
    simp [hc, Addr.add]
theorem swQ (t k : Int) (d v : Bool) (hv : v = swOk ⟨t, k, d⟩) (w : World) : Calls Try.prog 84 #[evv t k d] w fun e w' => e = .returned (.bool v) ∧ Below w.heap.size w w' := isSwitchEvent_q t k d v hv w
set_option maxRecDepth 100000 in
set_option maxHeartbeats 8000000 in
theorem implMatchCombo_q (u1 : Value) (l : List Cb) (t : Int) (u2 : Value) (Q : List Ev) (now x1 x2 x3 : Int) (hr : matV l t Q now = (x1, x2, x3)) (w : World) (hn1 : l.length ≤ maxLen) (hn2 : Q.length ≤ 1048576) (hcap1 : CapLe u1) (hcap2 : CapLe u2) (h1 : RdN w u1 l.length (flatCb l)) (h2 : RdN w u2 Q.length (flatEv Q)) :
    Calls Try.prog 32 #[u1, .int .i64 t, u2, .int .i64 now] w fun e w' => e = .returned (.tuple #[.int .i64 x1, .int .i64 x2, .int .i64 x3]) ∧ Below w.heap.size w w' := by
  obtain ⟨va, hva⟩ : ∃ v, v = okCbs l := ⟨_, rfl⟩
  obtain ⟨vb, hvb⟩ : ∃ v, v = inB t 1 200 := ⟨_, rfl⟩
  obtain ⟨a2, cap2, rfl⟩ := rdN_shape h2
  obtain ⟨N, hN⟩ : ∃ N, N = Q.length := ⟨_, rfl⟩
  have HVA := Lib.hid hva
  have HVB := Lib.hid hvb
  have HR := Lib.hid hr
  have H1 := Lib.hid h1
  have H2 := Lib.hid h2
  have HN1 := Lib.hid hn1
  have HNN := Lib.hid hN
  have HCap1 := Lib.hid hcap1
  have hcp : N ≤ cap2 := by rw [hN]; exact hcap2 _ _ _ rfl
  rw [← hN] at hn2 ⊢
  clear hva hvb hr h1 h2 hn1 hN hcap1 hcap2
  go_enter Try.func32, Try.ntmps32
  go_wp2_with fail
  refine (implIsCombos_q u1 l va HVA.out _ HN1.out HCap1.out H1.out).mono ?_
  rintro e w1 ⟨rfl, hb⟩
  have HB1 := Lib.hid hb
  clear hb
  cases va
  · skip
    have hq : matV l t Q now = noM := by cases Q with | nil => rfl | cons f r => rw [matV, ← HVA.out]; rfl
    have hq2 := HR.out.symm.trans hq
    obtain ⟨rfl, rfl, rfl⟩ : x1 = 0 ∧ x2 = 0 ∧ x3 = -1 := by simpa [noM] using hq2
    clear hq hq2
    go_wp2
    go_ret3
    exact ⟨rfl, HB1.out⟩
  · go_wp2_with fail
    refine (between_q t 1 200 vb HVB.out _).mono ?_
    rintro e w0 ⟨rfl, rfl⟩
    cases vb
    · skip
      have hq : matV l t Q now = noM := by cases Q with | nil => rfl | cons f r => rw [matV, ← HVA.out, ← HVB.out]; rfl
      have hq2 := HR.out.symm.trans hq
      obtain ⟨rfl, rfl, rfl⟩ : x1 = 0 ∧ x2 = 0 ∧ x3 = -1 := by simpa [noM] using hq2
      clear hq hq2
      go_wp2
      go_ret3
      exact ⟨rfl, HB1.out⟩
    · cases Q with
      | nil =>
        obtain rfl : N = 0 := HNN.out
        have hq : matV l t [] now = noM := by rfl
        have hq2 := HR.out.symm.trans hq
        obtain ⟨rfl, rfl, rfl⟩ : x1 = 0 ∧ x2 = 0 ∧ x3 = -1 := by simpa [noM] using hq2
        clear hq hq2
        go_wp2
        go_ret3
        exact ⟨rfl, HB1.out⟩
      | cons f r =>
        have hNr : N = r.length + 1 := HNN.out
        obtain ⟨b, off, rfl, hlt, c0, c1, c2⟩ := ev_at H2.out (j := 0) (by simp)
        have hf0 : evD (f :: r) 0 = f := rfl
        rw [hf0] at c0 c1 c2
        have hm : matV l t (f :: r) now = if (swOk f && f.d) = false then noM else if fitsV l (2 ^ f.k.toNat) = false then (1, f.t, -1) else matL l (f.t + t) now r (2 ^ f.k.toNat) 1 := by rw [matV, ← HVA.out, ← HVB.out, Bool.true_and, Bool.true_and]
        obtain ⟨ft, fk, fd⟩ := f
        simp only at c0 c1 c2 hm
        simp only [Nat.zero_mul, Nat.add_zero] at c0 c1 c2
        have hN0 : ((N : Int) == 0) = false := by rw [hNr]; simp; omega
        have hN1 : (0 : Int) < (N : Int) := by omega
        have r0 := (HB1.out.cell (p := ⟨b, off, none⟩) hlt).trans c0
        have r1 := (HB1.out.cell (p := ⟨b, off + 1, none⟩) hlt).trans c1
        have r2 := (HB1.out.cell (p := ⟨b, off + 2, none⟩) hlt).trans c2
        have HM := Lib.hid hm
        have HNr := Lib.hid hNr
        clear hm hNr hf0 c0 c1 c2
        obtain ⟨sv, hsv⟩ : ∃ v, v = swOk ⟨ft, fk, fd⟩ := ⟨_, rfl⟩
        have HSV := Lib.hid hsv
        clear hsv
        go_wp2_with fail
        refine (swQ ft fk fd sv HSV.out _).mono ?_
        rintro e w2 ⟨rfl, hb⟩
        have HB2 := Lib.hid (HB1.out.trans (hb.mono HB1.out.size))
        have hb2 := Nat.lt_of_lt_of_le hlt HB1.out.size
        have s0 := (hb.cell (p := ⟨b, off, none⟩) hb2).trans r0
        have s1 := (hb.cell (p := ⟨b, off + 1, none⟩) hb2).trans r1
        have s2 := (hb.cell (p := ⟨b, off + 2, none⟩) hb2).trans r2
        clear hb r0 r1 r2 hb2
        cases sv
        · skip
          have hq2 := HR.out.symm.trans (HM.out.trans (if_pos (by rw [← HSV.out]; rfl)))
          obtain ⟨rfl, rfl, rfl⟩ : x1 = 0 ∧ x2 = 0 ∧ x3 = -1 := by simpa [noM] using hq2
          clear hq2
          go_wp2
          go_ret3
          exact ⟨rfl, HB2.out⟩
        · cases fd
          · skip
            have hq2 := HR.out.symm.trans (HM.out.trans (if_pos (by simp)))
            obtain ⟨rfl, rfl, rfl⟩ : x1 = 0 ∧ x2 = 0 ∧ x3 = -1 := by simpa [noM] using hq2
            clear hq2
            go_wp2
            go_ret3
            exact ⟨rfl, HB2.out⟩
          · have hkey := swOk_key HSV.out.symm
            simp only at hkey
            obtain ⟨kn, rfl⟩ := Int.eq_ofNat_of_zero_le hkey.2.2.1
            have hk23 : kn ≤ 23 := by omega
            have hft : 0 ≤ ft ∧ ft ≤ 1000000 := by omega
            have ht1 : 1 ≤ t ∧ t ≤ 200 := of_decide_eq_true HVB.out.symm
            have HKey := Lib.hid (And.intro hft ht1)
            clear hkey
            have hw := wrap64_pow62 (k := kn) (by omega)
            have hp : 2 ^ kn < 16777216 := bit24 (by omega)
            obtain ⟨S0, hS0⟩ : ∃ p, p = 2 ^ kn := ⟨_, rfl⟩
            have hm2 : matV l t (⟨ft, (kn : Int), true⟩ :: r) now = if fitsV l S0 = false then (1, ft, -1) else matL l (ft + t) now r S0 1 := by rw [HM.out, if_neg (by rw [← HSV.out]; simp), Int.toNat_natCast, ← hS0]
            rw [← hS0] at hw hp
            have HM2 := Lib.hid (HR.out.symm.trans hm2)
            have HP := Lib.hid hp
            clear hm2 hS0 hp ht1 hft
            obtain ⟨fin, hfin⟩ : ∃ f, f = ft + t := ⟨_, rfl⟩
            have hfw : wrap64 (ft + t) = fin := by rw [hfin]; have := HKey.out; exact IntWalk.wrap64_in _ ⟨by omega, by omega⟩
            obtain ⟨fv, hfv⟩ : ∃ v, v = fitsV l S0 := ⟨_, rfl⟩
            have HFV := Lib.hid hfv
            have HFin := Lib.hid hfin
            clear hfv hfin
            go_upto_region 4 with (fail)
            obtain ⟨U, hU⟩ : ∃ U, U = w2.alloc (.cells #[.int .i64 ft, .int .i64 (kn : Int), .bool true] 36) := ⟨_, rfl⟩
            obtain ⟨g, hg⟩ : ∃ g, g = w2.heap.size := ⟨_, rfl⟩
            have hbx : Bxd U g [.int .i64 ft, .int .i64 (kn : Int), .bool true] := by rw [hU, hg]; exact Bxd.new _ _ _
            have hu : Below w2.heap.size w2 U := by rw [hU]; exact (Below.refl _ _).alloc (Nat.le_refl _) _
            have hgs : g < U.heap.size := by rw [hU, hg]; simp
            rw [← hU, ← hg]
            have HBU := Lib.hid (HB2.out.trans (hu.mono HB2.out.size))
            have HGX := Lib.hid hbx
            have HGS := Lib.hid hgs
            clear hU hg hbx hu hgs s0 s1 s2
            have g1 := HGX.out.at 1 _ rfl
            go_wp2_with fail
            refine (comboMapOf_q u1 l _ HVA.out.symm (H1.out.below HBU.out)).mono ?_
            rintro e w3 ⟨gm, nm, rfl, hge, hmp, hb⟩
            have HGE := Lib.hid (Nat.le_trans HBU.out.size hge)
            have HB3 := Lib.hid (HBU.out.trans (hb.mono HBU.out.size))
            have HG3 := Lib.hid (HGX.out.below hb HGS.out)
            have HGM := Lib.hid (Nat.lt_of_lt_of_le HGS.out hge)
            have HMP := Lib.hid hmp
            clear hge hb hmp g1
            go_wp2_with fail
            refine (narrow_q gm nm _ S0 _ HMP.out).mono ?_
            rintro e w4 ⟨rfl, hmp, hgr⟩
            have HMP4 := Lib.hid (show Mp w4 gm nm (Lk l S0) from hmp)
            have HB4 := Lib.hid (HB3.out.grown hgr HB3.out.size (fun q hq => by cases hq; exact HGE.out))
            have HG4 := Lib.hid (show Bxd w4 g [.int .i64 ft, .int .i64 (kn : Int), .bool true] from fun j hj => by rw [World.cell?_of_block (w := w3) (hgr.block g (Nat.lt_trans HGM.out HMP.out.lt) (fun e => by have e2 : g = gm := Option.some.inj e; have := HGM.out; omega))]; exact HG3.out j hj)
            clear hmp hgr
            have g0 := HG4.out.at 0 _ rfl
            obtain ⟨nl, hnl⟩ : ∃ n, n = (Lk l S0).length := ⟨_, rfl⟩
            have hl0 : ((nl : Int) == 0) = !fv := by rw [HFV.out, ← lk_len0, ← hnl]; simp [Bool.beq_eq_decide_eq]
            have HNL := Lib.hid hnl.symm
            clear hnl
            cases fv
            · have hq2 := HM2.out.trans (if_pos HFV.out.symm)
              obtain ⟨rfl, rfl, rfl⟩ : x1 = 1 ∧ x2 = ft ∧ x3 = -1 := by simpa using hq2
              clear hq2
              have hl1 : ((nl : Int) == 0) = true := hl0
              clear hl0
              go_upto_region 8 with (first | (at_len; refine wpList_mp_len _ rfl _ 112 rfl Try.underlying112 gm nm _ rfl HMP4.out nl HNL.out ?_) | fail)
              go_quiet (fail)
              go_wp2
              go_ret3
              exact ⟨rfl, below_drewN HB4.out _⟩
            · have HML := Lib.hid (show (x1, x2, x3) = matL l fin now r S0 1 by rw [HM2.out, if_neg (by rw [← HFV.out]; simp), HFin.out])
              have hl1 : ((nl : Int) == 0) = false := hl0
              clear hl0
              have hs1 : (1 : Int) ≤ (N : Int) := by omega
              have hs2 : (N : Int) ≤ (cap2 : Int) := by omega
              go_upto_region 10 with (first | (at_len; refine wpList_mp_len _ rfl _ 112 rfl Try.underlying112 gm nm _ rfl HMP4.out nl HNL.out ?_) | fail)
              rw [hfw]
              clear g0 hl1 hfw
              obtain ⟨a5, ha5⟩ : ∃ a : Option Addr, a = if cap2 = 1 then some ⟨b, off, none⟩ else some ⟨b, off + 3, none⟩ := ⟨_, rfl⟩
              have hsl : ∀ w : World, (Instr.slice 25 (.slice (some ⟨b, off, none⟩) N cap2) (some (.int .i64 1)) none none).run Try.prog w = .ok (.slice a5 (N - 1) (cap2 - 1)) w := fun w => slice_one b off N cap2 w (by omega) hcp a5 ha5
              have HA5 := Lib.hid (show 1 < N → a5 = some ⟨b, off + 3, none⟩ from fun h => by rw [ha5, if_neg (by omega)])
              clear ha5
              go_wp2
              go_loopw [70, 12, 15, 16, 17, 18, 19] (fun i s _ _ _ _ _ wr => ∃ (j S : Nat), j ≤ N - 1 ∧ i = .int .i64 (j : Int) ∧ s = .int .i64 (S : Int) ∧ S < 16777216 ∧ Mp wr gm nm (Lk l S) ∧ (x1, x2, x3) = matL l fin now (r.drop j) S (j + 1) ∧ Below w.heap.size w wr) (fun i _ _ _ _ _ _ _ => N - (intOf i).toNat)
              case atStart => exact ⟨0, S0, Nat.zero_le _, rfl, rfl, HP.out, HMP4.out, HML.out, HB4.out⟩
              case round =>
                obtain ⟨j, S, hj, rfl, rfl, hS, hmp, hd, hb⟩ := hrel
                have HB := Lib.hid hb
                have HMR := Lib.hid hmp
                clear hb hmp
                have HSE := Lib.hid (fun (n : Nat) (tt : Int) => settle_eq HVA.out.symm hS n tt)
                by_cases hlt' : j < N - 1
                · obtain rfl := HA5.out (by omega)
                  have hir : j < r.length := by have := HNr.out; omega
                  have hdrop : r.drop j = evD r j :: r.drop (j + 1) := by rw [List.drop_eq_getElem_cons hir, evD]; simp [List.getElem?_eq_getElem hir]
                  have hev : evD (⟨ft, (kn : Int), true⟩ :: r) (j + 1) = evD r j := rfl
                  obtain ⟨b', off', hbe, _, c0, c1, c2⟩ := ev_at H2.out (j := j + 1) (by have := HNr.out; simp; omega)
                  obtain ⟨rfl, rfl⟩ : b = b' ∧ off = off' := by simpa using hbe
                  rw [hev] at c0 c1 c2
                  rw [hdrop] at hd
                  obtain ⟨e, he⟩ : ∃ e, e = evD r j := ⟨_, rfl⟩
                  rw [← he] at c0 c1 c2 hd
                  obtain ⟨et, ek, ed⟩ := e
                  simp only at c0 c1 c2
                  rw [show off + (j + 1) * 3 = off + 3 + j * 3 by omega] at c0 c1 c2
                  rw [matL] at hd
                  simp only at hd
                  have r0 := (HB.out.cell (p := ⟨b, off + 3 + j * 3, none⟩) hlt).trans c0
                  have r1 := (HB.out.cell (p := ⟨b, off + 3 + j * 3 + 1, none⟩) hlt).trans c1
                  have r2 := (HB.out.cell (p := ⟨b, off + 3 + j * 3 + 2, none⟩) hlt).trans c2
                  have hij : (j : Int) < ((N - 1 : Nat) : Int) := by omega
                  have hij0 : (0 : Int) ≤ (j : Int) := by omega
                  have HD := Lib.hid hd
                  clear c0 c1 c2 hd hdrop hev hbe he hir
                  obtain ⟨ov, hov⟩ : ∃ v, v = swOk ⟨et, ek, ed⟩ := ⟨_, rfl⟩
                  have HOV := Lib.hid hov
                  go_upto_region 13 with (fail)
                  obtain ⟨U5, hU⟩ : ∃ U, U = wr.alloc (.cells #[.int .i64 et, .int .i64 ek, .bool ed] 36) := ⟨_, rfl⟩
                  obtain ⟨g5, hg⟩ : ∃ g, g = wr.heap.size := ⟨_, rfl⟩
                  have hbx : Bxd U5 g5 [.int .i64 et, .int .i64 ek, .bool ed] := by rw [hU, hg]; exact Bxd.new _ _ _
                  have hu : Below wr.heap.size wr U5 := by rw [hU]; exact (Below.refl _ _).alloc (Nat.le_refl _) _
                  have hgs : g5 < U5.heap.size := by rw [hU, hg]; simp
                  have hgg : gm < g5 := by rw [hg]; exact HMR.out.lt
                  rw [← hU, ← hg]
                  have HBU5 := Lib.hid (HB.out.trans (hu.mono HB.out.size))
                  have HGX5 := Lib.hid hbx
                  have HGS5 := Lib.hid hgs
                  have HGG := Lib.hid hgg
                  have HMU := Lib.hid (HMR.out.below hu)
                  clear hU hg hbx hu hgs hgg r0 r1 r2 hov
                  have g0 := HGX5.out.at 0 _ rfl
                  have g1 := HGX5.out.at 1 _ rfl
                  have g2 := HGX5.out.at 2 _ rfl
                  go_wp2_with fail
                  refine (swQ et ek ed ov HOV.out _).mono ?_
                  rintro e w6 ⟨rfl, hb⟩
                  have HB6 := Lib.hid (HBU5.out.trans (hb.mono HBU5.out.size))
                  have HG6 := Lib.hid (HGX5.out.below hb HGS5.out)
                  have HM6 := Lib.hid (HMU.out.below hb)
                  have HGS6 := Lib.hid (Nat.lt_of_lt_of_le HGS5.out hb.size)
                  clear hb g0 g1 g2
                  have g0 := HG6.out.at 0 _ rfl
                  have g1 := HG6.out.at 1 _ rfl
                  have g2 := HG6.out.at 2 _ rfl
                  cases ov
                  · have hq := HD.out.trans (if_pos HOV.out.symm)
                    obtain ⟨rfl, rfl, rfl⟩ : x1 = 0 ∧ x2 = 0 ∧ x3 = -1 := by simpa [noM] using hq
                    clear hq
                    go_wp2
                    go_ret3
                    exact ⟨rfl, HB6.out⟩
                  · have hd2 := HD.out.trans (if_neg (by rw [← HOV.out]; simp))
                    have hkey := swOk_key HOV.out.symm
                    simp only at hkey
                    obtain ⟨en, rfl⟩ := Int.eq_ofNat_of_zero_le hkey.2.2.1
                    have he23 : en ≤ 23 := by omega
                    clear hkey
                    have hw2 := wrap64_pow62 (k := en) (by omega)
                    have hp2 : 2 ^ en < 16777216 := bit24 (by omega)
                    have hx2 := or_nat S (2 ^ en) (by omega) (by omega)
                    have hx3 := or24 hS (show en < 24 by omega)
                    rw [Int.toNat_natCast] at hd2
                    obtain ⟨p, hpe⟩ : ∃ p, p = 2 ^ en := ⟨_, rfl⟩
                    rw [← hpe] at hw2 hp2 hx2 hx3 hd2
                    have hany := lk_any HVA.out.symm hS hx3
                    have hsub := lk_sub HVA.out.symm hS hx3
                    have hone := lk_one HVA.out.symm hx3
                    have hat := lk_at HVA.out.symm hx3
                    obtain ⟨S2, hS2⟩ : ∃ s, s = S ||| p := ⟨_, rfl⟩
                    rw [← hS2] at hx2 hx3 hd2 hany hsub hone hat
                    obtain ⟨f2, hf2⟩ : ∃ v, v = fitsV l S2 := ⟨_, rfl⟩
                    obtain ⟨q2, hq2⟩ : ∃ q, q = outV l S2 := ⟨_, rfl⟩
                    rw [← hf2, ← hq2] at hd2
                    rw [← hf2] at hany
                    rw [← hq2] at hone hat
                    obtain ⟨qx, qm⟩ := q2
                    simp only at hd2 hone hat
                    have HX3 := Lib.hid hx3
                    have HAny := Lib.hid hany.symm
                    have HSub := Lib.hid hsub
                    have HOne := Lib.hid hone
                    have HAt := Lib.hid hat
                    have HD2 := Lib.hid hd2
                    clear hpe hS2 hf2 hq2 hd2 hx3 hp2 hany hsub hone hat
                    have hcast : ((j + 1 : Nat) : Int) = (j : Int) + 1 := by omega
                    have HCast := Lib.hid hcast
                    clear hcast
                    by_cases hte : fin ≤ et
                    · have HQ := Lib.hid (HD2.out.trans (if_pos hte))
                      rcases Int.lt_or_eq_of_le hte with hlt2 | hlt2
                      · go_wp2_with fail
                        refine (settle_q gm nm _ S hS (((j + 1 : Nat) : Int) : Int) fin x1 x2 x3 (HQ.out.trans (HSE.out _ _)) _ HM6.out).mono ?_
                        rintro e w9 ⟨rfl, rfl⟩
                        go_wp2
                        go_ret3
                        exact ⟨rfl, HB6.out⟩
                      · subst hlt2
                        go_wp2_with fail
                        refine (settle_q gm nm _ S hS (((j + 1 : Nat) : Int) : Int) fin x1 x2 x3 (HQ.out.trans (HSE.out _ _)) _ HM6.out).mono ?_
                        rintro e w9 ⟨rfl, rfl⟩
                        go_wp2
                        go_ret3
                        exact ⟨rfl, HB6.out⟩
                    · have hd3 := HD2.out.trans (if_neg hte)
                      have HD3 := Lib.hid hd3
                      have hmin : et ≤ fin := by omega
                      clear hd3
                      cases ed
                      · have HQ := Lib.hid (HD3.out.trans (if_pos (by simp)))
                        go_wp2_with fail
                        refine (settle_q gm nm _ S hS (((j + 1 : Nat) : Int) : Int) et x1 x2 x3 (HQ.out.trans (HSE.out _ _)) _ HM6.out).mono ?_
                        rintro e w9 ⟨rfl, rfl⟩
                        go_wp2
                        go_ret3
                        exact ⟨rfl, HB6.out⟩
                      · go_wp2_with fail
                        refine (canBecome_q gm nm _ S2 f2 HAny.out _ HM6.out).mono ?_
                        rintro e w7 ⟨rfl, hb⟩
                        have HB7 := Lib.hid (HB6.out.trans (hb.mono HB6.out.size))
                        have HG7 := Lib.hid (HG6.out.below hb HGS6.out)
                        have HM7 := Lib.hid (HM6.out.below hb)
                        have HGS7 := Lib.hid (Nat.lt_of_lt_of_le HGS6.out hb.size)
                        clear hb g0 g1 g2
                        have g0 := HG7.out.at 0 _ rfl
                        cases f2
                        · have HQ := Lib.hid (HD3.out.trans (if_pos (by simp)))
                          go_wp2_with fail
                          refine (settle_q gm nm _ S hS (((j + 1 : Nat) : Int) : Int) et x1 x2 x3 (HQ.out.trans (HSE.out _ _)) _ HM7.out).mono ?_
                          rintro e w9 ⟨rfl, rfl⟩
                          go_wp2
                          go_ret3
                          exact ⟨rfl, HB7.out⟩
                        · have HD4 := Lib.hid (HD3.out.trans (if_neg (by simp)))
                          go_wp2_with fail
                          refine (narrow_q gm nm _ S2 _ HM7.out).mono ?_
                          rintro e w8 ⟨rfl, hmp, hgr⟩
                          have HM8 := Lib.hid (show Mp w8 gm nm (Lk l S2) by rw [← HSub.out]; exact hmp)
                          have HB8 := Lib.hid (HB7.out.grown hgr HB7.out.size (fun q hq => by cases hq; exact HGE.out))
                          have HG8 := Lib.hid (show Bxd w8 g5 [.int .i64 et, .int .i64 (en : Int), .bool true] from fun j hj => by rw [World.cell?_of_block (w := w7) (hgr.block g5 HGS7.out (fun e => by have e2 : g5 = gm := Option.some.inj e; have := HGG.out; omega))]; exact HG7.out j hj)
                          clear hmp hgr g0
                          have g0 := HG8.out.at 0 _ rfl
                          obtain ⟨nl, hnl⟩ : ∃ n, n = (Lk l S2).length := ⟨_, rfl⟩
                          have hlen : ∀ ty, (Builtin.len_ #[112] ty #[.map (some gm)]).run Try.prog w8 = .ok (.int .i64 (nl : Int)) w8 := fun ty => HM8.out.lenRun 112 Try.underlying112 nl hnl.symm ty
                          have hon2 : ((mpAt (Lk l S2) (S2 : Int)).isSome && ((nl : Int) == 1)) = (decide (0 ≤ qx) && !qm) := by rw [← HOne.out, ← hnl]; congr 1; simp [Bool.beq_eq_decide_eq]; omega
                          have HON := Lib.hid hon2
                          clear hnl hon2
                          by_cases hqx : qx < 0
                          · go_upto_region 21 with (first | (at_lookup; refine wpList_mp_look_ok _ rfl _ _ 112 rfl Try.underlying112 gm nm _ rfl HM8.out (S2 : Int) rfl (wfI_of (by have := HX3.out; omega)) 0 (by rw [HAt.out, if_pos hqx]; rfl) false (by rw [HAt.out, if_pos hqx]; rfl) ?_) | fail)
                            have HQ := Lib.hid (HD4.out.trans (if_neg (by rw [decide_eq_false (by omega)]; simp)))
                            clear g0
                            go_wp2
                            try go_frame
                            go_roundw
                            case rel => exact ⟨j + 1, S2, by omega, by go_num, rfl, HX3.out, HM8.out, HQ.out, HB8.out⟩
                            case measure => simp [intOf]; omega
                          · have HNQ := Lib.hid hqx
                            go_upto_region 21 with (first | (at_lookup; refine wpList_mp_look_ok _ rfl _ _ 112 rfl Try.underlying112 gm nm _ rfl HM8.out (S2 : Int) rfl (wfI_of (by have := HX3.out; omega)) qx (by rw [HAt.out, if_neg (by have := HNQ.out; omega)]; rfl) true (by rw [HAt.out, if_neg (by have := HNQ.out; omega)]; rfl) ?_) | fail)
                            have hon3 : ((nl : Int) == 1) = !qm := by have h := HON.out; rw [HAt.out, if_neg (by have := HNQ.out; omega), decide_eq_true (by have := HNQ.out; omega)] at h; simpa using h
                            cases qm
                            · have hon4 : ((nl : Int) == 1) = true := hon3
                              clear hon3
                              have hq := HD4.out.trans (if_pos (by rw [decide_eq_true (show 0 ≤ qx by have := HNQ.out; omega)]; rfl))
                              obtain ⟨rfl, rfl, rfl⟩ : x1 = ((j + 1 + 1 : Nat) : Int) ∧ x2 = et ∧ x3 = qx := by simpa using hq
                              clear hq
                              go_upto_region 22 with (fail)
                              go_quiet (fail)
                              go_wp2
                              go_ret3
                              exact ⟨by simp; omega, below_drewN HB8.out _⟩
                            · have hon4 : ((nl : Int) == 1) = false := hon3
                              clear hon3
                              have HQ := Lib.hid (HD4.out.trans (if_neg (by simp)))
                              clear g0
                              go_wp2
                              try go_frame
                              go_roundw
                              case rel => exact ⟨j + 1, S2, by omega, by go_num, rfl, HX3.out, HM8.out, HQ.out, HB8.out⟩
                              case measure => simp [intOf]; omega
                · obtain rfl : j = N - 1 := by omega
                  rw [List.drop_of_length_le (by have := HNr.out; omega), matL] at hd
                  by_cases hnow : now < fin
                  · rw [if_pos hnow] at hd
                    obtain ⟨rfl, rfl, rfl⟩ : x1 = 0 ∧ x2 = 0 ∧ x3 = -1 := by simpa [noM] using hd
                    clear hd
                    go_wp2
                    go_ret3
                    exact ⟨rfl, HB.out⟩
                  · rw [if_neg hnow, show N - 1 + 1 = N by omega] at hd
                    have HQ := Lib.hid hd
                    clear hd
                    go_wp2_with fail
                    refine (settle_q gm nm _ S hS ((N : Int) : Int) fin x1 x2 x3 (HQ.out.trans (HSE.out _ _)) _ HMR.out).mono ?_
                    rintro e w9 ⟨rfl, rfl⟩
                    go_wp2
                    go_ret3
                    exact ⟨rfl, HB.out⟩

end Go.Proofs.Ytagmdkblcgnddaa
