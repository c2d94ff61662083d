/- DERIVED. The laws FnStable, FnFewer and FnSteady: each, called with any slice of bytes, returns true and changes nothing that was there. -/
import Derived.Test.YtdlcpijiekhafaaDebLawD
import Derived.Test.YtdlcpijiekhafaaPut
import Derived.Deep.DeepCutAuto
namespace Go.Proofs.Ytdlcpijiekhafaa
open Go.RowKit

theorem owC_base {w : World} {B B' : Nat} {u : Value} {zs : List Int} {fp : List Nat} (h : OwC w B (.row [.int .i64]) u (.row (ones zs)) fp) (hB : B' ≤ B) : OwC w B' (.row [.int .i64]) u (.row (ones zs)) fp := by
  obtain ⟨rs, hc, hl, h⟩ := h.rowInv
  rw [OwC]
  refine ⟨rs, hc, hl, ?_⟩
  rcases h with h | ⟨g, cap, cur, t, fps, hv, hg, hh, hs, hf, hfl, hr⟩
  · exact .inl h
  · refine .inr ⟨g, cap, cur, t, fps, hv, Nat.le_trans hB hg, hh, hs, hf, hfl, fun i hi hi' => ?_⟩
    obtain ⟨v, vs', c, cs', f, f', e1, e2, e3, h1, h2⟩ := (hr i hi hi').consInv
    obtain ⟨rfl, n, rfl, rfl⟩ := h1.intInv
    obtain ⟨rfl, rfl, rfl⟩ := h2.nilInv
    rw [e1, e2, e3]
    exact OwL.cons (OwC.mkInt _ _) OwL.nil
set_option maxHeartbeats 2000000 in
set_option maxRecDepth 100000 in
theorem lawStable_walk (a0 : Option Addr) (len cap : Nat) (bs : List Int) (w : World) (hlen : bs.length = len) (hz : ∀ z ∈ bs, (Lit.int .u8 z).wf = true) (h : Rd w (.slice a0 len cap) (bs.map (.int .u8))) : Calls Try.prog 4 #[.slice a0 len cap] w fun e w' => e = .returned (.bool true) ∧ Below w.heap.size w w' := by
  by_cases hbig : (1048576 : Int) < len
  · go_enter Try.func4, Try.ntmps4
    go_wp2_with fail
    refine (big_any a0 len cap _).mono ?_
    rw [decide_eq_true hbig]
    rintro e w0 ⟨rfl, rfl⟩
    go_wp2
    go_ret
    exact ⟨rfl, Below.refl _ _⟩
  · have HZ := Lib.hid (fun z (m : z ∈ bs) => wf_byte (hz z m))
    have HL := Lib.hid (show bs.length ≤ 1099511627776 by omega)
    have HR := Lib.hid h
    have HBG := Lib.hid (decide_eq_false hbig)
    clear hz hlen h hbig
    have HB0 := Lib.hid (Below.refl w.heap.size w)
    go_enter Try.func4, Try.ntmps4
    go_wp2_with fail
    refine (big_any a0 len cap _).mono ?_
    rw [HBG.out]
    rintro e v0 ⟨rfl, rfl⟩
    go_wp2_with fail
    refine (MakeDebouncer_law _ bs _ HL.out HZ.out HR.out).mono ?_
    rintro e w1 ⟨k, t, N, a, c, fp, al, cl, fl, ys, rfl, hd, h1, h2, hb⟩
    have HB1 := Lib.hid (HB0.out.trans (hb.mono HB0.out.size))
    have HS1 := Lib.hid hb.size
    have Ra := Lib.hid (h1.range _ _ _ _)
    have Oa_1 := Lib.hid h1
    have Rl := Lib.hid (h2.range _ _ _ _)
    have Ol_1 := Lib.hid h2
    clear hb h1 h2
    have HD := Lib.hid hd
    obtain ⟨k0, k2, t1, t5, n1, n4, hyl, -⟩ := hd
    go_upto_region 5 with (fail)
    obtain ⟨w2, hw⟩ : ∃ x, x = w1.alloc (.cells #[.int .i64 0, .int .i64 t, .int .i64 N, .int .i64 0, .int .i64 0, .slice a N c] 26) := ⟨_, rfl⟩
    have hb : Below w1.heap.size w1 w2 := by rw [hw]; exact below_alloc1 _ _
    have hk : w2.heap[w1.heap.size]? = some (.cells #[.int .i64 0, .int .i64 t, .int .i64 N, .int .i64 0, .int .i64 0, .slice a N c] 26 (0, 0)) := by rw [hw]; exact heap_alloc_new _ _
    rw [← hw]
    have HB2 := Lib.hid (HB1.out.trans (hb.mono HB1.out.size))
    have HS2 := Lib.hid (show w1.heap.size < w2.heap.size from (Array.getElem?_eq_some_iff.mp hk).1)
    have Oa_2 := Lib.hid (Oa_1.out.below hb)
    have Ol_2 := Lib.hid (Ol_1.out.below hb)
    clear Oa_1 Ol_1
    have Kd_2 := Lib.hid hk
    clear hb hk hw
    have hR := HD.out.out (q := 0) (by omega) (by omega)
    obtain ⟨S, hS⟩ : ∃ x, x = (runN 0 t N 0 0 (List.replicate N 99) ys ys.length).1 := ⟨_, rfl⟩
    obtain ⟨Lx, hL⟩ : ∃ x, x = (runN 0 t N 0 0 (List.replicate N 99) ys ys.length).2.1 := ⟨_, rfl⟩
    obtain ⟨A, hA⟩ : ∃ x, x = (runN 0 t N 0 0 (List.replicate N 99) ys ys.length).2.2 := ⟨_, rfl⟩
    obtain ⟨o, ho⟩ : ∃ x, x = runShown 0 t N 0 0 (List.replicate N 99) ys ys.length := ⟨_, rfl⟩
    rw [← hS, ← hL, ← hA, ← ho] at hR
    have hol : o.length = ys.length := by rw [ho, runShown_len]
    have HSx := Lib.hid hS
    have HLx := Lib.hid hL
    have HAx := Lib.hid hA
    have HOX := Lib.hid ho
    have HOL := Lib.hid hol
    have HRR := Lib.hid hR
    clear hS hL hA ho hol hR
    have cd0 := (cells_of_heap Kd_2.out 0 (by simp)).1
    have cd1 := (cells_of_heap Kd_2.out 1 (by simp)).1
    have cd2 := (cells_of_heap Kd_2.out 2 (by simp)).1
    have cd3 := (cells_of_heap Kd_2.out 3 (by simp)).1
    have cd4 := (cells_of_heap Kd_2.out 4 (by simp)).1
    have cd5 := (cells_of_heap Kd_2.out 5 (by simp)).1
    go_wp2_with fail
    refine (implRun_law 0 t N 0 0 (.slice a N c) (List.replicate N 99) _ _ ys _ _ true _ HRR.out (by simp; omega) (owC_rd Oa_2.out) (by omega) (owC_rd Ol_2.out)).mono ?_
    rintro e w3 ⟨ax, cx, fx, ao, co, fo, rfl, hx, hxo, -, hb⟩
    clear cd0 cd1 cd2 cd3 cd4 cd5
    have HB3 := Lib.hid (HB2.out.trans (hb.mono HB2.out.size))
    have HS3 := Lib.hid hb.size
    have Kd_3 := Lib.hid (blk_below Kd_2.out hb)
    have Oa_3 := Lib.hid (Oa_2.out.below hb)
    have Ol_3 := Lib.hid (Ol_2.out.below hb)
    clear Kd_2 Oa_2 Ol_2
    have Rx := Lib.hid (hx.range _ _ _ _)
    have Ox_3 := Lib.hid hx
    have Ro := Lib.hid (hxo.range _ _ _ _)
    have Oo_3 := Lib.hid hxo
    clear hb hx hxo
    go_upto_region 6 with (fail)
    obtain ⟨w4, hw⟩ : ∃ x, x = w3.alloc (.cells #[.int .i64 0, .int .i64 t, .int .i64 N, .int .i64 S, .int .i64 Lx, .slice ax A.length cx] 26) := ⟨_, rfl⟩
    have hb : Below w3.heap.size w3 w4 := by rw [hw]; exact below_alloc1 _ _
    have hk : w4.heap[w3.heap.size]? = some (.cells #[.int .i64 0, .int .i64 t, .int .i64 N, .int .i64 S, .int .i64 Lx, .slice ax A.length cx] 26 (0, 0)) := by rw [hw]; exact heap_alloc_new _ _
    rw [← hw]
    have HB4 := Lib.hid (HB3.out.trans (hb.mono HB3.out.size))
    have HS4 := Lib.hid (show w3.heap.size < w4.heap.size from (Array.getElem?_eq_some_iff.mp hk).1)
    have Kd_4 := Lib.hid (blk_below Kd_3.out hb)
    have Oa_4 := Lib.hid (Oa_3.out.below hb)
    have Ol_4 := Lib.hid (Ol_3.out.below hb)
    have Ox_4 := Lib.hid (Ox_3.out.below hb)
    have Oo_4 := Lib.hid (Oo_3.out.below hb)
    clear Kd_3 Oa_3 Ol_3 Ox_3 Oo_3
    have Kx_4 := Lib.hid hk
    clear hb hk hw
    have hne : ((o.length : Int) != (ys.length : Int)) = false := by rw [HOL.out]; simp
    have hne2 : ((o.length : Int) == (ys.length : Int)) = true := by rw [HOL.out]; simp
    have hRd := owC_rd Ol_4.out
    have cd0 := (cells_of_heap Kd_4.out 0 (by simp)).1
    have cd1 := (cells_of_heap Kd_4.out 1 (by simp)).1
    have cd2 := (cells_of_heap Kd_4.out 2 (by simp)).1
    have cd3 := (cells_of_heap Kd_4.out 3 (by simp)).1
    have cd4 := (cells_of_heap Kd_4.out 4 (by simp)).1
    have cd5 := (cells_of_heap Kd_4.out 5 (by simp)).1
    have cx0 := (cells_of_heap Kx_4.out 0 (by simp)).1
    have cx1 := (cells_of_heap Kx_4.out 1 (by simp)).1
    have cx2 := (cells_of_heap Kx_4.out 2 (by simp)).1
    have cx3 := (cells_of_heap Kx_4.out 3 (by simp)).1
    have cx4 := (cells_of_heap Kx_4.out 4 (by simp)).1
    have cx5 := (cells_of_heap Kx_4.out 5 (by simp)).1
    have HRd := Lib.hid hRd
    clear hRd
    go_wp2
    go_loop [8] (fun i => ∃ q : Nat, q ≤ N ∧ i = .int .i64 q) (fun i => N - (intOf i).toNat)
    case atStart => exact ⟨0, Nat.zero_le _, rfl⟩
    case round =>
      obtain ⟨q, hq, rfl⟩ := hrel
      by_cases hlt : q < N
      · obtain ⟨e1, e2⟩ := HD.out.stable hlt
        rw [← HSx.out] at e1
        obtain ⟨v, hv⟩ : ∃ v, v = stableV ys t q := ⟨_, rfl⟩
        obtain ⟨f, hf⟩ : ∃ f, f = stableB ys t q := ⟨_, rfl⟩
        rw [← hv] at e1 e2
        rw [← hf] at e2
        have HV := Lib.hid hv
        have HF := Lib.hid hf
        clear hv hf
        cases v
        · have e3 : bits .and .i64 (S / 2 ^ q) 1 = 0 := by rw [e1]; rfl
          clear e1 e2
          go_wp2_with fail
          refine (implLastStable_any _ ys t q _ (by omega) HRd.out).mono ?_
          rw [← HV.out, ← HF.out]
          rintro e v0 ⟨rfl, rfl⟩
          go_wp2
          go_round
          case rel => exact ⟨q + 1, by omega, by go_num⟩
          case measure => simp [intOf]; omega
        · have e3 : bits .and .i64 (S / 2 ^ q) 1 = 1 := by rw [e1]; rfl
          obtain rfl : f = true := e2 rfl
          clear e1 e2
          go_wp2_with fail
          refine (implLastStable_any _ ys t q _ (by omega) HRd.out).mono ?_
          rw [← HV.out, ← HF.out]
          rintro e v0 ⟨rfl, rfl⟩
          go_wp2
          go_round
          case rel => exact ⟨q + 1, by omega, by go_num⟩
          case measure => simp [intOf]; omega
      · obtain rfl : q = N := by omega
        go_wp2
        go_ret
        exact ⟨rfl, HB4.out⟩

set_option maxHeartbeats 2000000 in
set_option maxRecDepth 100000 in
theorem lawFewer_walk (a0 : Option Addr) (len cap : Nat) (bs : List Int) (w : World) (hlen : bs.length = len) (hz : ∀ z ∈ bs, (Lit.int .u8 z).wf = true) (h : Rd w (.slice a0 len cap) (bs.map (.int .u8))) : Calls Try.prog 5 #[.slice a0 len cap] w fun e w' => e = .returned (.bool true) ∧ Below w.heap.size w w' := by
  by_cases hbig : (1048576 : Int) < len
  · go_enter Try.func5, Try.ntmps5
    go_wp2_with fail
    refine (big_any a0 len cap _).mono ?_
    rw [decide_eq_true hbig]
    rintro e w0 ⟨rfl, rfl⟩
    go_wp2
    go_ret
    exact ⟨rfl, Below.refl _ _⟩
  · have HZ := Lib.hid (fun z (m : z ∈ bs) => wf_byte (hz z m))
    have HL := Lib.hid (show bs.length ≤ 1099511627776 by omega)
    have HR := Lib.hid h
    have HBG := Lib.hid (decide_eq_false hbig)
    clear hz hlen h hbig
    have HB0 := Lib.hid (Below.refl w.heap.size w)
    go_enter Try.func5, Try.ntmps5
    go_wp2_with fail
    refine (big_any a0 len cap _).mono ?_
    rw [HBG.out]
    rintro e v0 ⟨rfl, rfl⟩
    go_wp2_with fail
    refine (MakeDebouncer_law _ bs _ HL.out HZ.out HR.out).mono ?_
    rintro e w1 ⟨k, t, N, a, c, fp, al, cl, fl, ys, rfl, hd, h1, h2, hb⟩
    have HB1 := Lib.hid (HB0.out.trans (hb.mono HB0.out.size))
    have HS1 := Lib.hid hb.size
    have Ra := Lib.hid (h1.range _ _ _ _)
    have Oa_1 := Lib.hid h1
    have Rl := Lib.hid (h2.range _ _ _ _)
    have Ol_1 := Lib.hid h2
    clear hb h1 h2
    have HD := Lib.hid hd
    obtain ⟨k0, k2, t1, t5, n1, n4, hyl, -⟩ := hd
    go_upto_region 4 with (fail)
    obtain ⟨w2, hw⟩ : ∃ x, x = w1.alloc (.cells #[.int .i64 k, .int .i64 t, .int .i64 N, .int .i64 0, .int .i64 0, .slice a N c] 26) := ⟨_, rfl⟩
    have hb : Below w1.heap.size w1 w2 := by rw [hw]; exact below_alloc1 _ _
    have hk : w2.heap[w1.heap.size]? = some (.cells #[.int .i64 k, .int .i64 t, .int .i64 N, .int .i64 0, .int .i64 0, .slice a N c] 26 (0, 0)) := by rw [hw]; exact heap_alloc_new _ _
    rw [← hw]
    have HB2 := Lib.hid (HB1.out.trans (hb.mono HB1.out.size))
    have HS2 := Lib.hid (show w1.heap.size < w2.heap.size from (Array.getElem?_eq_some_iff.mp hk).1)
    have Oa_2 := Lib.hid (Oa_1.out.below hb)
    have Ol_2 := Lib.hid (Ol_1.out.below hb)
    clear Oa_1 Ol_1
    have Kd_2 := Lib.hid hk
    clear hb hk hw
    have hR := HD.out.out (q := k) HD.out.k0 HD.out.k2
    obtain ⟨S, hS⟩ : ∃ x, x = (runN k t N 0 0 (List.replicate N 99) ys ys.length).1 := ⟨_, rfl⟩
    obtain ⟨Lx, hL⟩ : ∃ x, x = (runN k t N 0 0 (List.replicate N 99) ys ys.length).2.1 := ⟨_, rfl⟩
    obtain ⟨A, hA⟩ : ∃ x, x = (runN k t N 0 0 (List.replicate N 99) ys ys.length).2.2 := ⟨_, rfl⟩
    obtain ⟨o, ho⟩ : ∃ x, x = runShown k t N 0 0 (List.replicate N 99) ys ys.length := ⟨_, rfl⟩
    rw [← hS, ← hL, ← hA, ← ho] at hR
    have hol : o.length = ys.length := by rw [ho, runShown_len]
    have HSx := Lib.hid hS
    have HLx := Lib.hid hL
    have HAx := Lib.hid hA
    have HOX := Lib.hid ho
    have HOL := Lib.hid hol
    have HRR := Lib.hid hR
    clear hS hL hA ho hol hR
    have cd0 := (cells_of_heap Kd_2.out 0 (by simp)).1
    have cd1 := (cells_of_heap Kd_2.out 1 (by simp)).1
    have cd2 := (cells_of_heap Kd_2.out 2 (by simp)).1
    have cd3 := (cells_of_heap Kd_2.out 3 (by simp)).1
    have cd4 := (cells_of_heap Kd_2.out 4 (by simp)).1
    have cd5 := (cells_of_heap Kd_2.out 5 (by simp)).1
    go_wp2_with fail
    refine (implRun_law k t N 0 0 (.slice a N c) (List.replicate N 99) _ _ ys _ _ true _ HRR.out (by simp; omega) (owC_rd Oa_2.out) (by omega) (owC_rd Ol_2.out)).mono ?_
    rintro e w3 ⟨ax, cx, fx, ao, co, fo, rfl, hx, hxo, -, hb⟩
    clear cd0 cd1 cd2 cd3 cd4 cd5
    have HB3 := Lib.hid (HB2.out.trans (hb.mono HB2.out.size))
    have HS3 := Lib.hid hb.size
    have Kd_3 := Lib.hid (blk_below Kd_2.out hb)
    have Oa_3 := Lib.hid (Oa_2.out.below hb)
    have Ol_3 := Lib.hid (Ol_2.out.below hb)
    clear Kd_2 Oa_2 Ol_2
    have Rx := Lib.hid (hx.range _ _ _ _)
    have Ox_3 := Lib.hid hx
    have Ro := Lib.hid (hxo.range _ _ _ _)
    have Oo_3 := Lib.hid hxo
    clear hb hx hxo
    go_upto_region 5 with (fail)
    obtain ⟨w4, hw⟩ : ∃ x, x = w3.alloc (.cells #[.int .i64 k, .int .i64 t, .int .i64 N, .int .i64 S, .int .i64 Lx, .slice ax A.length cx] 26) := ⟨_, rfl⟩
    have hb : Below w3.heap.size w3 w4 := by rw [hw]; exact below_alloc1 _ _
    have hk : w4.heap[w3.heap.size]? = some (.cells #[.int .i64 k, .int .i64 t, .int .i64 N, .int .i64 S, .int .i64 Lx, .slice ax A.length cx] 26 (0, 0)) := by rw [hw]; exact heap_alloc_new _ _
    rw [← hw]
    have HB4 := Lib.hid (HB3.out.trans (hb.mono HB3.out.size))
    have HS4 := Lib.hid (show w3.heap.size < w4.heap.size from (Array.getElem?_eq_some_iff.mp hk).1)
    have Kd_4 := Lib.hid (blk_below Kd_3.out hb)
    have Oa_4 := Lib.hid (Oa_3.out.below hb)
    have Ol_4 := Lib.hid (Ol_3.out.below hb)
    have Ox_4 := Lib.hid (Ox_3.out.below hb)
    have Oo_4 := Lib.hid (Oo_3.out.below hb)
    clear Kd_3 Oa_3 Ol_3 Ox_3 Oo_3
    have Kx_4 := Lib.hid hk
    clear hb hk hw
    have cd0 := (cells_of_heap Kd_4.out 0 (by simp)).1
    have cd1 := (cells_of_heap Kd_4.out 1 (by simp)).1
    have cd2 := (cells_of_heap Kd_4.out 2 (by simp)).1
    have cd3 := (cells_of_heap Kd_4.out 3 (by simp)).1
    have cd4 := (cells_of_heap Kd_4.out 4 (by simp)).1
    have cd5 := (cells_of_heap Kd_4.out 5 (by simp)).1
    have HRl := Lib.hid (owC_rd Ol_4.out)
    have HRo := Lib.hid (owC_rd Oo_4.out)
    go_wp2
    clear cd0 cd1 cd2 cd3 cd4 cd5
    go_loopw [8] (fun i wr => ∃ q : Nat, q ≤ N ∧ i = .int .i64 q ∧ Below w4.heap.size w4 wr) (fun i _ => N - (intOf i).toNat)
    case atStart => exact ⟨0, Nat.zero_le _, rfl, Below.refl _ _⟩
    case round =>
      obtain ⟨q, hq, rfl, hb⟩ := hrel
      have HB := Lib.hid hb
      have hkd := blk_below Kd_4.out hb
      have d0 := (cells_of_heap hkd 0 (by simp)).1
      have d1 := (cells_of_heap hkd 1 (by simp)).1
      have d2 := (cells_of_heap hkd 2 (by simp)).1
      by_cases hlt : q < N
      · obtain ⟨e1, e2⟩ := HD.out.fewer hlt
        rw [← HOX.out] at e1 e2
        obtain ⟨cs, hcs⟩ : ∃ x, x = countV o q := ⟨_, rfl⟩
        obtain ⟨cl', hcl⟩ : ∃ x, x = countV ys q := ⟨_, rfl⟩
        rw [← hcs, ← hcl] at e1
        have HCS := Lib.hid hcs
        have HCL := Lib.hid hcl
        have E2 := Lib.hid e2
        have hgt : ¬ cl' < cs := by omega
        have hol : o.length ≤ 1048576 := by rw [HOL.out]; omega
        clear hb hkd hcs hcl e1 e2
        go_wp2_with fail
        refine (implCountChanges_any _ o q _ hol (HRo.out.below HB.out)).mono ?_
        rw [← HCS.out]
        rintro e v1 ⟨rfl, hb⟩
        have HB1 := Lib.hid (HB.out.trans (hb.mono HB.out.size))
        clear hb d0 d1 d2
        go_wp2_with fail
        refine (implCountChanges_any _ ys q _ (by omega) (HRl.out.below HB1.out)).mono ?_
        rw [← HCL.out]
        rintro e v2 ⟨rfl, hb⟩
        have HB2 := Lib.hid (HB1.out.trans (hb.mono HB1.out.size))
        clear hb
        have hkd := blk_below Kd_4.out HB2.out
        have d0 := (cells_of_heap hkd 0 (by simp)).1
        have d1 := (cells_of_heap hkd 1 (by simp)).1
        have d2 := (cells_of_heap hkd 2 (by simp)).1
        clear hkd
        by_cases hk2 : k = 2
        · have hkk : (k == 2) = true := by rw [hk2]; rfl
          have HSP := Lib.hid (E2.out hk2)
          clear hk2
          go_wp2_with fail
          refine (implIsSpaced_any _ o q t _ hol (HRo.out.below HB2.out)).mono ?_
          rw [HSP.out]
          rintro e v3 ⟨rfl, hb⟩
          have HB3 := Lib.hid (HB2.out.trans (hb.mono HB2.out.size))
          clear hb d0 d1 d2
          go_wp2
          go_roundw
          case rel => exact ⟨q + 1, by omega, by go_num, HB3.out⟩
          case measure => simp [intOf]; omega
        · have hkk : (k == 2) = false := beq_false_of_ne hk2
          clear hk2
          go_wp2
          go_roundw
          case rel => exact ⟨q + 1, by omega, by go_num, HB2.out⟩
          case measure => simp [intOf]; omega
      · obtain rfl : q = N := by omega
        clear hb hkd
        go_wp2
        go_ret
        exact ⟨rfl, HB4.out.trans (HB.out.mono HB4.out.size)⟩

set_option maxHeartbeats 2000000 in
set_option maxRecDepth 100000 in
theorem lawSteady_walk (a0 : Option Addr) (len cap : Nat) (bs : List Int) (w : World) (hlen : bs.length = len) (hz : ∀ z ∈ bs, (Lit.int .u8 z).wf = true) (h : Rd w (.slice a0 len cap) (bs.map (.int .u8))) : Calls Try.prog 3 #[.slice a0 len cap] w fun e w' => e = .returned (.bool true) ∧ Below w.heap.size w w' := by
  by_cases hbig : (1048576 : Int) < len
  · go_enter Try.func3, Try.ntmps3
    go_wp2_with fail
    refine (big_any a0 len cap _).mono ?_
    rw [decide_eq_true hbig]
    rintro e w0 ⟨rfl, rfl⟩
    go_wp2
    go_ret
    exact ⟨rfl, Below.refl _ _⟩
  · have HZ := Lib.hid (fun z (m : z ∈ bs) => wf_byte (hz z m))
    have HL := Lib.hid (show bs.length ≤ 1099511627776 by omega)
    have HR := Lib.hid h
    have HBG := Lib.hid (decide_eq_false hbig)
    clear hz hlen h hbig
    have HB0 := Lib.hid (Below.refl w.heap.size w)
    go_enter Try.func3, Try.ntmps3
    go_wp2_with fail
    refine (big_any a0 len cap _).mono ?_
    rw [HBG.out]
    rintro e v0 ⟨rfl, rfl⟩
    go_wp2_with fail
    refine (MakeDebouncer_law _ bs _ HL.out HZ.out HR.out).mono ?_
    rintro e w1 ⟨k, t, N, a, c, fp, al, cl, fl, ys, rfl, hd, h1, h2, hb⟩
    have HB1 := Lib.hid (HB0.out.trans (hb.mono HB0.out.size))
    have HS1 := Lib.hid hb.size
    have Ra := Lib.hid (h1.range _ _ _ _)
    have Oa_1 := Lib.hid h1
    have Rl := Lib.hid (h2.range _ _ _ _)
    have Ol_1 := Lib.hid h2
    clear hb h1 h2
    have HD := Lib.hid hd
    obtain ⟨k0, k2, t1, t5, n1, n4, hyl, -⟩ := hd
    go_upto_region 4 with (fail)
    obtain ⟨w2, hw⟩ : ∃ x, x = w1.alloc (.cells #[.int .i64 k, .int .i64 t, .int .i64 N, .int .i64 0, .int .i64 0, .slice a N c] 26) := ⟨_, rfl⟩
    have hb : Below w1.heap.size w1 w2 := by rw [hw]; exact below_alloc1 _ _
    have hk : w2.heap[w1.heap.size]? = some (.cells #[.int .i64 k, .int .i64 t, .int .i64 N, .int .i64 0, .int .i64 0, .slice a N c] 26 (0, 0)) := by rw [hw]; exact heap_alloc_new _ _
    rw [← hw]
    have HB2 := Lib.hid (HB1.out.trans (hb.mono HB1.out.size))
    have HS2 := Lib.hid (show w1.heap.size < w2.heap.size from (Array.getElem?_eq_some_iff.mp hk).1)
    have Oa_2 := Lib.hid (Oa_1.out.below hb)
    have Ol_2 := Lib.hid (Ol_1.out.below hb)
    clear Oa_1 Ol_1
    have Kd_2 := Lib.hid hk
    clear hb hk hw
    have hR := HD.out.out (q := k) HD.out.k0 HD.out.k2
    obtain ⟨S, hS⟩ : ∃ x, x = (runN k t N 0 0 (List.replicate N 99) ys ys.length).1 := ⟨_, rfl⟩
    obtain ⟨Lx, hL⟩ : ∃ x, x = (runN k t N 0 0 (List.replicate N 99) ys ys.length).2.1 := ⟨_, rfl⟩
    obtain ⟨A, hA⟩ : ∃ x, x = (runN k t N 0 0 (List.replicate N 99) ys ys.length).2.2 := ⟨_, rfl⟩
    obtain ⟨o, ho⟩ : ∃ x, x = runShown k t N 0 0 (List.replicate N 99) ys ys.length := ⟨_, rfl⟩
    rw [← hS, ← hL, ← hA, ← ho] at hR
    have hol : o.length = ys.length := by rw [ho, runShown_len]
    have HSx := Lib.hid hS
    have HLx := Lib.hid hL
    have HAx := Lib.hid hA
    have HOX := Lib.hid ho
    have HOL := Lib.hid hol
    have HRR := Lib.hid hR
    clear hS hL hA ho hol hR
    have hokx := HD.out.ok HD.out.k0 HD.out.k2 ys.length
    rw [← HSx.out, ← HLx.out, ← HAx.out] at hokx
    have hal : A.length = N := by obtain ⟨N', S', L', e1, _, _, _, _, _, _, _, _, hl, _⟩ := okDeb_nat hokx; omega
    have HOK := Lib.hid hokx
    have HAL := Lib.hid hal
    clear hokx hal
    have cd0 := (cells_of_heap Kd_2.out 0 (by simp)).1
    have cd1 := (cells_of_heap Kd_2.out 1 (by simp)).1
    have cd2 := (cells_of_heap Kd_2.out 2 (by simp)).1
    have cd3 := (cells_of_heap Kd_2.out 3 (by simp)).1
    have cd4 := (cells_of_heap Kd_2.out 4 (by simp)).1
    have cd5 := (cells_of_heap Kd_2.out 5 (by simp)).1
    go_wp2_with fail
    refine (implRun_law k t N 0 0 (.slice a N c) (List.replicate N 99) _ _ ys _ _ true _ HRR.out (by simp; omega) (owC_rd Oa_2.out) (by omega) (owC_rd Ol_2.out)).mono ?_
    rintro e w3 ⟨ax, cx, fx, ao, co, fo, rfl, hx, hxo, -, hb⟩
    clear cd0 cd1 cd2 cd3 cd4 cd5
    have HB3 := Lib.hid (HB2.out.trans (hb.mono HB2.out.size))
    have HS3 := Lib.hid hb.size
    have Kd_3 := Lib.hid (blk_below Kd_2.out hb)
    have Oa_3 := Lib.hid (Oa_2.out.below hb)
    have Ol_3 := Lib.hid (Ol_2.out.below hb)
    clear Kd_2 Oa_2 Ol_2
    have Rx := Lib.hid (hx.range _ _ _ _)
    have Ox_3 := Lib.hid hx
    have Ro := Lib.hid (hxo.range _ _ _ _)
    have Oo_3 := Lib.hid hxo
    clear hb hx hxo
    go_upto_region 5 with (fail)
    obtain ⟨w4, hw⟩ : ∃ x, x = w3.alloc (.cells #[.int .i64 k, .int .i64 t, .int .i64 N, .int .i64 S, .int .i64 Lx, .slice ax A.length cx] 26) := ⟨_, rfl⟩
    have hb : Below w3.heap.size w3 w4 := by rw [hw]; exact below_alloc1 _ _
    have hk : w4.heap[w3.heap.size]? = some (.cells #[.int .i64 k, .int .i64 t, .int .i64 N, .int .i64 S, .int .i64 Lx, .slice ax A.length cx] 26 (0, 0)) := by rw [hw]; exact heap_alloc_new _ _
    rw [← hw]
    have HB4 := Lib.hid (HB3.out.trans (hb.mono HB3.out.size))
    have HS4 := Lib.hid (show w3.heap.size < w4.heap.size from (Array.getElem?_eq_some_iff.mp hk).1)
    have Kd_4 := Lib.hid (blk_below Kd_3.out hb)
    have Oa_4 := Lib.hid (Oa_3.out.below hb)
    have Ol_4 := Lib.hid (Ol_3.out.below hb)
    have Ox_4 := Lib.hid (Ox_3.out.below hb)
    have Oo_4 := Lib.hid (Oo_3.out.below hb)
    clear Kd_3 Oa_3 Ol_3 Ox_3 Oo_3
    have Kx_4 := Lib.hid hk
    clear hb hk hw
    have hw := wrap64_pow62 (k := N) (by omega)
    have hpn := pow_nat N
    have hp4 : 2 ^ N ≤ 2 ^ 4 := Nat.pow_le_pow_right (by decide) n4
    have hp0 : 0 < 2 ^ N := Nat.two_pow_pos N
    obtain ⟨p, hp⟩ : ∃ p, p = 2 ^ N := ⟨_, rfl⟩
    rw [← hp] at hw hpn hp4 hp0
    have HPN := Lib.hid hpn
    have HP := Lib.hid hp
    clear hp hpn
    have cd0 := (cells_of_heap Kd_4.out 0 (by simp)).1
    have cd1 := (cells_of_heap Kd_4.out 1 (by simp)).1
    have cd2 := (cells_of_heap Kd_4.out 2 (by simp)).1
    have cd3 := (cells_of_heap Kd_4.out 3 (by simp)).1
    have cd4 := (cells_of_heap Kd_4.out 4 (by simp)).1
    have cd5 := (cells_of_heap Kd_4.out 5 (by simp)).1
    go_wp2_with fail
    refine (MakeNumber_draw _ bs 3 (p : Int) _ HL.out HZ.out (HR.out.below HB4.out) (by omega) (by omega)).mono ?_
    rintro e w5 ⟨raw, rfl, r0, r1, hb⟩
    clear cd0 cd1 cd2 cd3 cd4 cd5
    have HB5 := Lib.hid (HB4.out.trans (hb.mono HB4.out.size))
    have HS5 := Lib.hid hb.size
    have Kd_5 := Lib.hid (blk_below Kd_4.out hb)
    have Kx_5 := Lib.hid (blk_below Kx_4.out hb)
    have Oa_5 := Lib.hid (Oa_4.out.below hb)
    have Ol_5 := Lib.hid (Ol_4.out.below hb)
    have Ox_5 := Lib.hid (Ox_4.out.below hb)
    have Oo_5 := Lib.hid (Oo_4.out.below hb)
    clear Kd_4 Kx_4 Oa_4 Ol_4 Ox_4 Oo_4
    clear hb
    obtain ⟨T, hT⟩ := Int.eq_ofNat_of_zero_le (show 0 ≤ t by omega)
    have HTT := Lib.hid hT
    clear hT
    obtain ⟨bx, hbx⟩ : ∃ x, x = w3.heap.size := ⟨_, rfl⟩
    obtain ⟨bd, hbd⟩ : ∃ x, x = w1.heap.size := ⟨_, rfl⟩
    have hfx : ∀ b ∈ fx, b ≠ bx := fun b hb => by have := Rx.out b hb; omega
    have hbase : w.heap.size ≤ bx := by have := HB3.out.size; omega
    have hdx : bd < bx := by have := HS2.out; have := HS3.out; omega
    have hkx := Kx_5.out
    have hkd := Kd_5.out
    rw [← hbx] at hkx ⊢
    rw [← hbd] at hkd ⊢
    rw [HAL.out] at hkx
    have hox := Ox_5.out
    rw [HAL.out] at hox
    have HKX := Lib.hid hkx
    have HKD := Lib.hid hkd
    have HOXX := Lib.hid hox
    have HFX := Lib.hid hfx
    have HBX := Lib.hid hbx
    have HBD := Lib.hid hbd
    clear hkx hkd hox hfx hbx hbd
    go_upto_region 8 with (fail)
    go_wp2
    go_loopw [9] (fun i wr => ∃ (j : Nat) (aj : Option Addr) (cj : Nat) (fj : List Nat), j ≤ T ∧ i = .int .i64 j ∧ wr.heap[bx]? = some (.cells #[.int .i64 k, .int .i64 t, .int .i64 N, .int .i64 (runN k t N S Lx A (List.replicate T raw) j).1, .int .i64 (runN k t N S Lx A (List.replicate T raw) j).2.1, .slice aj N cj] 26 (0, 0)) ∧ wr.heap[bd]? = some (.cells #[.int .i64 k, .int .i64 t, .int .i64 N, .int .i64 0, .int .i64 0, .slice a N c] 26 (0, 0)) ∧ OwC wr w.heap.size (.row [.int .i64]) (.slice aj N cj) (.row (ones (runN k t N S Lx A (List.replicate T raw) j).2.2)) fj ∧ (∀ b ∈ fj, b ≠ bx) ∧ Below w.heap.size w wr) (fun i _ => T - (intOf i).toNat)
    case atStart => exact ⟨0, _, _, _, Nat.zero_le _, rfl, HKX.out, HKD.out, owC_base HOXX.out (by have := HB2.out.size; omega), HFX.out, HB5.out⟩
    case round =>
      obtain ⟨j, aj, cj, fj, hj, rfl, hkx, hkd, hox, hfj, hb⟩ := hrel
      have hin : ∀ i, i < j → inB ((List.replicate T raw).getD i 0) 0 (2 ^ ((N : Nat) : Int).toNat - 1) = true := fun i hi => by
        rw [rep_get (show i < T by omega)]; exact decide_eq_true ⟨r0, by simp only [Int.toNat_natCast]; rw [HPN.out]; omega⟩
      have hokj := runN_ok (xs := List.replicate T raw) HOK.out j hin
      have hbxl : bx < wr.heap.size := (Array.getElem?_eq_some_iff.mp hkx).1
      have hbdl : bd < wr.heap.size := (Array.getElem?_eq_some_iff.mp hkd).1
      have d1 : wr.cell? ⟨bd, 1, none⟩ = some (.int .i64 t) := (cells_of_heap hkd 1 (by simp)).1
      by_cases hlt : j < T
      · have hltT : (j : Int) < t := by have := HTT.out; omega
        have hnx : runN k t N S Lx A (List.replicate T raw) (j + 1) = (((shownTo k t raw.toNat (runN k t N S Lx A (List.replicate T raw) j).2.1.toNat (runN k t N S Lx A (List.replicate T raw) j).1.toNat (runN k t N S Lx A (List.replicate T raw) j).2.2 N : Nat) : Int), raw, agesTo k t raw.toNat (runN k t N S Lx A (List.replicate T raw) j).2.1.toNat (runN k t N S Lx A (List.replicate T raw) j).1.toNat (runN k t N S Lx A (List.replicate T raw) j).2.2 N) := by
          rw [runN, rep_get (show j < T from hlt)]; simp
        obtain ⟨st, hst⟩ : ∃ st, st = runN k t N S Lx A (List.replicate T raw) j := ⟨_, rfl⟩
        rw [← hst] at hkx hox hokj hnx
        obtain ⟨s1, l1, as1⟩ := st
        simp only at hkx hox hokj hnx
        have has1 : as1.length = N := by obtain ⟨N', S', L', e1, _, _, _, _, _, _, _, _, hl, _⟩ := okDeb_nat hokj; omega
        have hstep : okStep k t N s1 l1 as1 raw = true := by
          rw [okStep, hokj, Bool.true_and]
          exact decide_eq_true ⟨r0, by simp only [Int.toNat_natCast]; rw [HPN.out]; omega⟩
        have hnok := okDeb_step hstep
        obtain ⟨sN, hsN⟩ : ∃ sN : Int, sN = (shownTo k t raw.toNat l1.toNat s1.toNat as1 N : Nat) := ⟨_, rfl⟩
        obtain ⟨aN, haN⟩ : ∃ aN, aN = agesTo k t raw.toNat l1.toNat s1.toNat as1 N := ⟨_, rfl⟩
        rw [← hsN, ← haN] at hnx
        simp only [Int.toNat_natCast] at hnok
        rw [← hsN, ← haN] at hnok
        have haNl : aN.length = N := by rw [haN]; simp [agesTo]
        have c0 := (cells_of_heap hkx 0 (by simp)).1
        have c1 := (cells_of_heap hkx 1 (by simp)).1
        have c2 := (cells_of_heap hkx 2 (by simp)).1
        have c3 := (cells_of_heap hkx 3 (by simp)).1
        have c4 := (cells_of_heap hkx 4 (by simp)).1
        have c5 := (cells_of_heap hkx 5 (by simp)).1
        have HKx := Lib.hid hkx
        have HKd := Lib.hid hkd
        have HOx := Lib.hid hox
        have HB := Lib.hid hb
        have HNX := Lib.hid hnx
        have HSTEP := Lib.hid hstep
        have HNOK := Lib.hid hnok
        have HSN := Lib.hid hsN
        have HAN := Lib.hid haN
        have HANL := Lib.hid haNl
        have HAS := Lib.hid has1
        clear hkx hkd hox hb hnx hstep hnok hsN haN haNl has1 hfj hokj hst hin
        go_wp2_with fail
        refine (implDebounceStep_any k t N s1 l1 (.slice aj N cj) as1 raw _ (by rw [HAS.out]; unfold maxLen; omega) (owC_rd HOx.out)).mono ?_
        intro e w5 hp
        rw [StepDeb, HSTEP.out, if_pos rfl] at hp
        obtain ⟨u', rfl, ho5, hb5⟩ := hp
        simp only [Int.toNat_natCast] at ho5 ⊢
        rw [← HSN.out]
        rw [← HAN.out] at ho5
        obtain ⟨a', c', f', rfl, ho5'⟩ := owC_len ho5 (by rw [HANL.out]; omega)
        rw [HANL.out] at ho5' ⊢
        have hkx5 := blk_below HKx.out hb5
        have hkd5 := blk_below HKd.out hb5
        have hB5 := HB.out.trans (hb5.mono HB.out.size)
        have hf5 := ho5'.range _ _ _ _
        have hsz5 := hb5.size
        have hlow := HB.out.size
        clear c0 c1 c2 c3 c4 c5 d1 ho5
        go_upto_region 12 with (fail)
        obtain ⟨w6, hw6⟩ : ∃ w6, w6 = w5.alloc (.cells #[.int .i64 k, .int .i64 t, .int .i64 N, .int .i64 sN, .int .i64 raw, .slice a' N c'] 26) := ⟨_, rfl⟩
        have hal6 : Below w5.heap.size w5 w6 := by rw [hw6]; exact below_alloc1 _ _
        have hy6 : w6.heap[w5.heap.size]? = some (.cells #[.int .i64 k, .int .i64 t, .int .i64 N, .int .i64 sN, .int .i64 raw, .slice a' N c'] 26 (0, 0)) := by rw [hw6]; exact heap_alloc_new w5 _
        rw [← hw6]
        have HKx6 := Lib.hid (blk_below hkx5 hal6)
        have HKd6 := Lib.hid (blk_below hkd5 hal6)
        have HO6 := Lib.hid (ho5'.below hal6)
        have HB6 := Lib.hid (hB5.trans (hal6.mono hB5.size))
        have HF := Lib.hid hf5
        have HY6 := Lib.hid hy6
        have HS65 := Lib.hid hal6.size
        have y0 := (cells_of_heap hy6 0 (by simp)).1
        have y1 := (cells_of_heap hy6 1 (by simp)).1
        have y2 := (cells_of_heap hy6 2 (by simp)).1
        have y3 := (cells_of_heap hy6 3 (by simp)).1
        have y4 := (cells_of_heap hy6 4 (by simp)).1
        have y5 := (cells_of_heap hy6 5 (by simp)).1
        clear hkx5 hkd5 hB5 hf5 hal6 hy6 hw6 ho5' hb5
        go_wp2_with fail
        refine (implIsDebouncer_any k t N sN raw _ aN _ (by rw [HANL.out]; unfold maxLen; omega) (owC_rd HO6.out)).mono ?_
        rw [HNOK.out]
        rintro e w7 ⟨rfl, hb7⟩
        have hkx7 := blk_below HKx6.out hb7
        have hy7 := blk_below HY6.out hb7
        have HKd7 := Lib.hid (blk_below HKd6.out hb7)
        have HO7 := Lib.hid (HO6.out.below hb7)
        have HB7 := Lib.hid (HB6.out.trans (hb7.mono HB6.out.size))
        have HKx7 := Lib.hid hkx7
        clear y0 y1 y2 y3 y4 y5 hb7
        have y0 := (cells_of_heap hy7 0 (by simp)).1
        have y1 := (cells_of_heap hy7 1 (by simp)).1
        have y2 := (cells_of_heap hy7 2 (by simp)).1
        have y3 := (cells_of_heap hy7 3 (by simp)).1
        have y4 := (cells_of_heap hy7 4 (by simp)).1
        have y5 := (cells_of_heap hy7 5 (by simp)).1
        obtain ⟨x0, v0⟩ := cells_of_heap hkx7 0 (by simp)
        obtain ⟨x1, v1⟩ := cells_of_heap hkx7 1 (by simp)
        obtain ⟨x2, v2⟩ := cells_of_heap hkx7 2 (by simp)
        obtain ⟨x3, v3⟩ := cells_of_heap hkx7 3 (by simp)
        obtain ⟨x4, v4⟩ := cells_of_heap hkx7 4 (by simp)
        obtain ⟨x5, v5⟩ := cells_of_heap hkx7 5 (by simp)
        clear hkx7 hy7
        go_upto_region 10 with (fail)
        obtain ⟨wf, ewf⟩ : ∃ x, x = putW w7 bx 0 [.int .i64 k, .int .i64 t, .int .i64 N, .int .i64 sN, .int .i64 raw, .slice a' N c'] := ⟨_, rfl⟩
        have cwf := ewf.symm
        simp only [putW, Nat.reduceAdd] at cwf
        rw [cwf]
        clear cwf y0 y1 y2 y3 y4 y5 x0 x1 x2 x3 x4 x5 v0 v1 v2 v3 v4 v5
        have K1 := Lib.hid (show wf.heap[bx]? = some (.cells #[.int .i64 k, .int .i64 t, .int .i64 N, .int .i64 sN, .int .i64 raw, .slice a' N c'] 26 (0, 0)) by rw [ewf]; exact putW_all _ HKx7.out rfl)
        have K2 := Lib.hid (show wf.heap[bd]? = some (.cells #[.int .i64 k, .int .i64 t, .int .i64 N, .int .i64 0, .int .i64 0, .slice a N c] 26 (0, 0)) by rw [ewf]; exact (putW_other (by omega) _ _ _).trans HKd7.out)
        have K3 := Lib.hid (show Below w.heap.size w wf by rw [ewf]; exact putW_below hbase _ _ _ HB7.out)
        have K4 := Lib.hid (show OwC wf wr.heap.size (.row [.int .i64]) (.slice a' N c') (.row (ones aN)) f' by rw [ewf]; exact HO7.out.turn (Turn.of_grown (putW_grown _ _ _)) (fun b hb hb' => by have := (HF.out b hb).1; simp at hb'; omega))
        clear ewf
        go_wp2
        go_roundw
        case rel =>
          refine ⟨j + 1, a', c', f', by omega, by go_num, by rw [HNX.out]; exact K1.out, K2.out, by rw [HNX.out]; exact owC_base K4.out hlow, fun b hb => ?_, K3.out⟩
          have := (HF.out b hb).1
          omega
        case measure => simp [intOf]; omega
      · obtain rfl : j = T := by omega
        have hltT : ¬ (j : Int) < t := by have := HTT.out; omega
        obtain ⟨e1, e2⟩ := steady_end (raw := raw) HOK.out HTT.out.symm r0 (by rw [HPN.out]; exact r1)
        rw [e1, e2] at hkx
        have c3 := (cells_of_heap hkx 3 (by simp)).1
        have c4 := (cells_of_heap hkx 4 (by simp)).1
        have HB := Lib.hid hb
        clear hkx hkd hox hfj hb e1 e2 hokj hin
        go_wp2
        go_ret
        exact ⟨rfl, HB.out⟩

end Go.Proofs.Ytdlcpijiekhafaa
