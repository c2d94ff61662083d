/- DERIVED. MakeKymap of the reference: a valid keymap of so many keys; and FnLayers over the program's contracts as premises. -/
import Derived.Test.YtleheibpgngmiaaKmDraw2
import Derived.Test.YtleheibpgngmiaaBig
import Derived.Laws.StructEq
namespace Go.Proofs.Ytleheibpgngmiaa
open Go.RowKit

/-- A valid keymap of K keys, in memory of its own. -/
def KmMade (K : Nat) (w : World) (e : Ending) (w' : World) : Prop :=
  ∃ L a cap fp, e = .returned (kmv K (.slice a L.length cap)) ∧ okKm (K : Int) L = true ∧ LoS w' w.heap.size (.slice a L.length cap) L fp ∧ Below w.heap.size w w'
set_option maxHeartbeats 2000000 in
theorem MakeKeymap_draw (v : Value) (zs : List Int) (k : Int) (K : Nat) (w : World) (hl : zs.length ≤ 1099511627776) (hz : ∀ z ∈ zs, 0 ≤ z ∧ z < 256) (h : Rd w v (zs.map (.int .u8))) (k1 : 1 ≤ K) (k32 : K ≤ 32) :
    Calls Try.prog 13 #[v, .int .i64 k, .int .i64 K] w (KmMade K w) := by
  have HZ := Lib.hid hz
  have HL := Lib.hid hl
  have HR := Lib.hid h
  clear hz hl h
  obtain ⟨V, hV⟩ : ∃ V, V = w.alloc (.cells #[.int .i64 0, .slice none 0 0] 26) := ⟨_, rfl⟩
  have HG0 := Lib.hid (show V.heap[w.heap.size]? = some (.cells #[.int .i64 0, .slice none 0 0] 26 (0, 0)) by rw [hV]; exact heap_alloc_new w _)
  have HB0 := Lib.hid (show Below w.heap.size w V by rw [hV]; exact (Below.refl _ _).alloc (Nat.le_refl _) _)
  have HS0 := Lib.hid (show w.heap.size < V.heap.size by rw [hV]; simp)
  have HV2 := Lib.hid hV
  clear hV
  go_enter Try.func13, Try.ntmps13
  go_wp2_with fail
  rw [← HV2.out]
  refine (l24New_draw v zs k _ HL.out HZ.out (HR.out.below HB0.out)).mono ?_
  rintro e w1 ⟨rfl, hd, hb, hlt⟩
  have HD := Lib.hid hd
  have HB1 := Lib.hid (HB0.out.trans (hb.mono HB0.out.size))
  have HG1 := Lib.hid ((hb.block _ HS0.out).trans HG0.out)
  have HS1 := Lib.hid (Nat.lt_of_lt_of_le HS0.out hb.size)
  have HVl := Lib.hid hb.size
  clear hd hb hlt
  go_wp2_with fail
  refine (l18Draw_draw K HD.out k1 k32).mono ?_
  rintro e w2 ⟨L, a, cap, fp, rfl, hok, hos, hd, hg⟩
  have hb := low_of_grown (B := V.heap.size) hg (Nat.le_refl _) HVl.out
  have HB2 := Lib.hid (HB1.out.trans (hb.mono HB0.out.size))
  have HG2 := Lib.hid ((hb.block _ HS0.out).trans HG1.out)
  have HOS := Lib.hid hos
  have HOK := Lib.hid hok
  obtain ⟨N, hN⟩ : ∃ N, N = L.length := ⟨_, rfl⟩
  rw [← hN]
  have HN := Lib.hid hN
  clear hd hg hb hos hok hN
  obtain ⟨y0, q0⟩ := cells_of_heap HG2.out 0 (by simp)
  obtain ⟨y1, q1⟩ := cells_of_heap HG2.out 1 (by simp)
  go_wp2
  clear y0 q0 y1 q1
  obtain ⟨wf, hwf⟩ : ∃ wz, wz = putW w2 w.heap.size 0 [.int .i64 K, .slice a N cap] := ⟨_, rfl⟩
  have kf := putW_all [.int .i64 K, .slice a N cap] HG2.out rfl
  have hbf := putW_below (b := w.heap.size) (Nat.le_refl _) [.int .i64 K, .slice a N cap] 0 _ HB2.out
  have hof := (OwS.put (b := w.heap.size) [.int .i64 K, .slice a N cap] 0 HOS.out HS1.out).base (Nat.le_of_lt HS1.out)
  rw [← hwf] at kf hbf hof
  have cf := hwf.symm
  simp only [putW, Nat.reduceAdd] at cf
  rw [cf]
  clear cf hwf
  have f0 := (cells_of_heap kf 0 (by simp)).1
  have f1 := (cells_of_heap kf 1 (by simp)).1
  simp only [List.getElem_toArray, List.getElem_cons_zero, List.getElem_cons_succ] at f0 f1
  refine bodyPost_ret (v := kmv K (.slice a N cap)) (by simp [results, Try.results13, go_sem, f0, f1]) rfl ⟨L, a, cap, fp, by rw [HN.out], HOK.out, ?_, hbf⟩
  exact hof

theorem laD_props {L : List (List Ac)} {on : Int} {key : Nat} : ∀ (m I : Nat), laD L on key m = I → (I ≠ 0 → bitOn on I = true ∧ (acD (lD L I) key).k ≠ 1) ∧ ∀ p, I < p → p ≤ m → bitOn on p = true → (acD (lD L p) key).k = 1
  | 0, I, h => by
    have h0 : I = 0 := h.symm
    exact ⟨fun h2 => absurd h0 h2, fun p hp hm => by omega⟩
  | m + 1, I, h => by
    rw [laD] at h
    split at h
    · rename_i hc
      subst h
      simp only [Bool.and_eq_true, Bool.not_eq_true', decide_eq_false_iff_not] at hc
      exact ⟨fun _ => hc, fun p hp hm => by omega⟩
    · rename_i hc
      obtain ⟨h1, h2⟩ := laD_props m I h
      refine ⟨h1, fun p hp hm hb => ?_⟩
      rcases Nat.lt_or_ge p (m + 1) with h3 | h3
      · exact h2 p hp (by omega) hb
      · obtain rfl : p = m + 1 := by omega
        simp only [Bool.and_eq_true, Bool.not_eq_true', decide_eq_false_iff_not, not_and, Decidable.not_not] at hc
        exact hc hb

set_option maxHeartbeats 8000000 in
set_option maxRecDepth 100000 in
theorem lawLayers_walk (a0 : Option Addr) (len cap0 : Nat) (bs : List Int) (w : World) (hlen : bs.length = len) (hz : ∀ z ∈ bs, (Lit.int .u8 z).wf = true) (h : Rd w (.slice a0 len cap0) (bs.map (.int .u8)))
    (hI1 : ∀ (keys on key : Int) (v : Value) (L : List (List Ac)) (r : Int), r = laV keys L on key → ∀ w', Below w.heap.size w w' → L.length ≤ maxLen → (∀ l ∈ L, l.length ≤ maxLen) → LdS w' v L → Calls Try.prog 15 #[kmv keys v, .int .i64 on, .int .i64 key] w' fun e w'' => e = .returned (.int .i64 r) ∧ Below w'.heap.size w' w'')
    (hI2 : ∀ (keys on key : Int) (v : Value) (L : List (List Ac)) (r : Ac), r = atV keys L on key → ∀ w', Below w.heap.size w w' → L.length ≤ maxLen → (∀ l ∈ L, l.length ≤ maxLen) → LdS w' v L → Calls Try.prog 16 #[kmv keys v, .int .i64 on, .int .i64 key] w' fun e w'' => e = .returned (acv r.k r.c r.m r.n) ∧ Below w'.heap.size w' w'') :
    Calls Try.prog 3 #[.slice a0 len cap0] w fun e w' => e = .returned (.bool true) ∧ Below w.heap.size w w' := by
  by_cases hbig : (1048576 : Int) < len
  · go_enter Try.func3, Try.ntmps3
    go_wp2_with fail
    refine (big_any a0 len cap0 _).mono ?_
    rw [decide_eq_true hbig]
    rintro e w0 ⟨rfl, rfl⟩
    go_wp2
    go_ret
    exact ⟨rfl, Below.refl _ _⟩
  · have HZ := Lib.hid (fun z (m : z ∈ bs) => wf_byte (hz z m))
    have HL := Lib.hid (show bs.length ≤ 1099511627776 by omega)
    have HR := Lib.hid h
    have HBG := Lib.hid (decide_eq_false hbig)
    have HI1 := Lib.hid hI1
    have HI2 := Lib.hid hI2
    clear hz hlen h hbig hI1 hI2
    have HB0 := Lib.hid (Below.refl w.heap.size w)
    go_enter Try.func3, Try.ntmps3
    go_wp2_with fail
    refine (big_any a0 len cap0 _).mono ?_
    rw [HBG.out]
    rintro e v0 ⟨rfl, rfl⟩
    go_wp2_with fail
    refine (MakeKeymap_draw _ bs 9 4 _ HL.out HZ.out HR.out (by omega) (by omega)).mono ?_
    rintro e w1 ⟨L, a, cap, fp, rfl, hok, hos, hb⟩
    obtain ⟨N, hN⟩ : ∃ N, N = L.length := ⟨_, rfl⟩
    have hlim := okKm_at hok
    have n1 : 1 ≤ N := by omega
    have n4 : N ≤ 4 := by omega
    have HLr := Lib.hid (show ∀ l ∈ L, l.length ≤ maxLen from fun l hl => by
      obtain ⟨j, hj, rfl⟩ := List.getElem_of_mem hl
      have h1 := (hlim.2.2 j hj).1
      have h2 : lD L j = L[j] := by unfold lD; rw [List.getD_eq_getElem?_getD, List.getElem?_eq_getElem hj]; rfl
      rw [h2] at h1
      unfold maxLen; omega)
    rw [← hN] at hos ⊢
    have HOK := Lib.hid hok
    have HNN := Lib.hid hN
    have HB1 := Lib.hid (HB0.out.trans (hb.mono HB0.out.size))
    have HRD1 := Lib.hid (show LdS w1 (.slice a N cap) L from OwS.rd hos)
    clear hok hN hlim hos hb
    go_upto_region 4 with (fail)
    obtain ⟨gm, hgm⟩ : ∃ g, g = w1.heap.size := ⟨_, rfl⟩
    obtain ⟨w2, hw2⟩ : ∃ x, x = w1.alloc (.cells #[.int .i64 4, .slice a N cap] 26) := ⟨_, rfl⟩
    have hb2 : Below w1.heap.size w1 w2 := by rw [hw2]; exact (Below.refl _ _).alloc (Nat.le_refl _) _
    have HM2 := Lib.hid (show w2.heap[gm]? = some (.cells #[.int .i64 4, .slice a N cap] 26 (0, 0)) by rw [hw2, hgm]; exact heap_alloc_new _ _)
    have HB2 := Lib.hid (HB1.out.trans (hb2.mono HB1.out.size))
    have HRD2 := Lib.hid (HRD1.out.below hb2)
    rw [← hw2, ← hgm]
    clear hw2 hb2 hgm
    go_wp2_with fail
    refine (MakeNumber_draw _ bs 10 16 _ HL.out HZ.out (HR.out.below HB2.out) (by omega) (by omega)).mono ?_
    rintro e w3 ⟨on, rfl, on0, on1, hb⟩
    have hgl : gm < w2.heap.size := (Array.getElem?_eq_some_iff.mp HM2.out).1
    have HB3 := Lib.hid (HB2.out.trans (hb.mono HB2.out.size))
    have HM3 := Lib.hid ((hb.block gm hgl).trans HM2.out)
    have HRD3 := Lib.hid (HRD2.out.below hb)
    have hgl3 := Nat.lt_of_lt_of_le hgl hb.size
    clear hb hgl
    have m0 := (cells_of_heap HM3.out 0 (by simp)).1
    have m1 := (cells_of_heap HM3.out 1 (by simp)).1
    simp only [List.getElem_toArray, List.getElem_cons_zero, List.getElem_cons_succ] at m0 m1
    go_wp2_with fail
    refine (MakeNumber_draw _ bs 11 4 _ HL.out HZ.out (HR.out.below HB3.out) (by omega) (by omega)).mono ?_
    rintro e w4 ⟨k, rfl, k0, k1, hb⟩
    obtain ⟨k, rfl⟩ := Int.eq_ofNat_of_zero_le k0
    have HB4 := Lib.hid (HB3.out.trans (hb.mono HB3.out.size))
    have HM4 := Lib.hid ((hb.block gm hgl3).trans HM3.out)
    have HRD4 := Lib.hid (HRD3.out.below hb)
    have hgl4 := Nat.lt_of_lt_of_le hgl3 hb.size
    clear hb hgl3 m0 m1 k0
    have m0 := (cells_of_heap HM4.out 0 (by simp)).1
    have m1 := (cells_of_heap HM4.out 1 (by simp)).1
    simp only [List.getElem_toArray, List.getElem_cons_zero, List.getElem_cons_succ] at m0 m1
    have hin : inB (k : Int) 0 (4 - 1) = true := decide_eq_true (by omega)
    obtain ⟨I, hI⟩ : ∃ I, laD L on k (N - 1) = I := ⟨_, rfl⟩
    have hIN : I ≤ N - 1 := by rw [← hI]; exact laD_le _ _ _ _
    have hprops := laD_props (N - 1) I hI
    have hla : (I : Int) = laV 4 L on k := by
      rw [laV, show okKm 4 L = true from HOK.out, hin, Int.toNat_natCast, ← HNN.out, hI]; rfl
    obtain ⟨y, hy⟩ : ∃ y, y = acD (lD L I) k := ⟨_, rfl⟩
    have hat : y = atV 4 L on k := by
      rw [atV, show okKm 4 L = true from HOK.out, hin, Int.toNat_natCast, ← HNN.out, hI, hy]; rfl
    have hallI := (okKm_at HOK.out).2.2
    rw [← HNN.out] at hallI
    have hy1 : y.k ≠ 1 := by
      rcases Nat.eq_zero_or_pos I with h0 | h0
      · have h2 := (hallI 0 (by omega)).2 k (by have := (hallI 0 (by omega)).1; omega)
        rw [h0] at hy
        rw [hy]
        intro e
        unfold okA at h2
        rw [e] at h2
        simp at h2
      · rw [hy]; exact (hprops.1 (by omega)).2
    have hrl : ∀ p, p < N → k < (lD L p).length := fun p hp => by have := (hallI p hp).1; omega
    have HLA := Lib.hid hla
    have HAT := Lib.hid hat
    have HY := Lib.hid hy
    have HY1 := Lib.hid hy1
    have HP := Lib.hid hprops
    have HRL := Lib.hid hrl
    have HI := Lib.hid hI
    clear hla hat hy hy1 hprops hallI hin hrl hI
    go_wp2_with fail
    refine (HI1.out 4 on k _ L I HLA.out _ HB4.out (by rw [← HNN.out]; unfold maxLen; omega) HLr.out HRD4.out).mono ?_
    rintro e w5 ⟨rfl, hb⟩
    have HB5 := Lib.hid (HB4.out.trans (hb.mono HB4.out.size))
    have HM5 := Lib.hid ((hb.block gm hgl4).trans HM4.out)
    have HRD5 := Lib.hid (HRD4.out.below hb)
    have hgl5 := Nat.lt_of_lt_of_le hgl4 hb.size
    clear hb hgl4 m0 m1
    have m0 := (cells_of_heap HM5.out 0 (by simp)).1
    have m1 := (cells_of_heap HM5.out 1 (by simp)).1
    simp only [List.getElem_toArray, List.getElem_cons_zero, List.getElem_cons_succ] at m0 m1
    go_wp2_with fail
    refine (HI2.out 4 on k _ L y HAT.out _ HB5.out (by rw [← HNN.out]; unfold maxLen; omega) HLr.out HRD5.out).mono ?_
    rintro e w6 ⟨rfl, hb⟩
    have HB6 := Lib.hid (HB5.out.trans (hb.mono HB5.out.size))
    have HM6 := Lib.hid ((hb.block gm hgl5).trans HM5.out)
    have HRD6 := Lib.hid (HRD5.out.below hb)
    have hgl6 := Nat.lt_of_lt_of_le hgl5 hb.size
    clear hb hgl5 m0 m1
    go_upto_region 8 with (fail)
    obtain ⟨gy, hgy⟩ : ∃ g, g = w6.heap.size := ⟨_, rfl⟩
    obtain ⟨w7, hw7⟩ : ∃ x, x = w6.alloc (.cells #[.int .i64 y.k, .int .i64 y.c, .int .i64 y.m, .int .i64 y.n] 31) := ⟨_, rfl⟩
    have hb7 : Below w6.heap.size w6 w7 := by rw [hw7]; exact (Below.refl _ _).alloc (Nat.le_refl _) _
    have hy7 : w7.heap[gy]? = some (.cells #[.int .i64 y.k, .int .i64 y.c, .int .i64 y.m, .int .i64 y.n] 31 (0, 0)) := by rw [hw7, hgy]; exact heap_alloc_new _ _
    have HB7 := Lib.hid (HB6.out.trans (hb7.mono HB6.out.size))
    have HM7 := Lib.hid ((hb7.block gm hgl6).trans HM6.out)
    have HRD7 := HRD6.out.below hb7
    rw [← hw7, ← hgy]
    clear hw7 hb7 hgy
    have m1 := (cells_of_heap HM7.out 1 (by simp)).1
    have y0 := (cells_of_heap hy7 0 (by simp)).1
    have y1 := (cells_of_heap hy7 1 (by simp)).1
    have y2 := (cells_of_heap hy7 2 (by simp)).1
    have y3 := (cells_of_heap hy7 3 (by simp)).1
    simp only [List.getElem_toArray, List.getElem_cons_zero, List.getElem_cons_succ] at m1 y0 y1 y2 y3
    clear hy7
    rcases RdS.cases HRD7 with ⟨hnil, _⟩ | ⟨b, off, cp, us, hpos, hsl, hlt, hc⟩
    · exfalso; have := HNN.out; rw [hnil] at this; simp at this; omega
    · have hsl2 : a = some ⟨b, off, none⟩ ∧ cap = cp := by have := HNN.out; simpa [this] using hsl
      obtain ⟨rfl, rfl⟩ := hsl2
      rw [← HNN.out] at hc
      have HC := Lib.hid hc
      have hci := hc I (by omega)
      obtain ⟨d0, hrow⟩ := hci
      obtain ⟨ua, uc, hu⟩ := RdN.shape hrow
      rw [hu] at d0 hrow
      obtain ⟨b2, off2, rfl, hlt2, e0, e1, e2, e3⟩ := row_at hrow (HRL.out I (by omega))
      rw [← HY.out] at e0 e1 e2 e3
      have hlq := HRL.out I (by omega)
      obtain ⟨mr, hmr⟩ : ∃ m, m = (lD L I).length := ⟨_, rfl⟩
      rw [← hmr] at d0 hlq
      obtain ⟨yk, yc, ym, yn⟩ := y
      simp only at y0 y1 y2 y3 e0 e1 e2 e3
      have hyk : ¬ yk = 1 := HY1.out
      have hyb : (yk == 1) = false := by simpa using hyk
      have i0 : ¬ (I : Int) < 0 := by omega
      have i1 : (I : Int) < (N : Int) := by omega
      have i1' : ¬ (N : Int) ≤ (I : Int) := by omega
      have i2 : (0 : Int) ≤ (I : Int) := by omega
      have hcq : (k : Int) < (mr : Int) := by omega
      have k2 : (0 : Int) ≤ (k : Int) := by omega
      clear hc hrow hu hmr hlt hlt2 hpos hsl HRD7 hyk
      go_cut [63] (fun s wx => s = .bool false ∧ Below w7.heap.size w7 wx)
      case first =>
        by_cases hI0 : I = 0
        · have hd : ¬ (0 : Int) < (I : Int) := by omega
          have hdb : decide (0 < I) = false := decide_eq_false (by omega)
          clear hI0
          go_quiet (fail)
          go_wp2
          go_meet
          exact ⟨rfl, below_drewN (Below.refl _ _) _⟩
        · have hd : (0 : Int) < (I : Int) := by omega
          have hbit := of_decide_eq_true (show decide (bits .and .i64 (on / 2 ^ I) 1 = 1) = true from (HP.out.1 hI0).1)
          have hdb : decide (0 < I) = true := decide_eq_true (by omega)
          clear hI0
          go_quiet (fail)
          go_wp2
          go_meet
          exact ⟨rfl, below_drewN (Below.refl _ _) _⟩
      case rest =>
        obtain ⟨rfl, hb⟩ := hcut
        obtain ⟨w8, hw8⟩ : ∃ x, x = wc := ⟨_, rfl⟩
        subst hw8
        have HB8 := Lib.hid (HB7.out.trans (hb.mono HB7.out.size))
        have hgl7 : gm < w7.heap.size := (Array.getElem?_eq_some_iff.mp HM7.out).1
        have HM8 := Lib.hid ((hb.block gm hgl7).trans HM7.out)
        have hc8 : ∀ p, p < N → ∃ (b3 off3 : Nat) (m3 c3 : Nat), w8.cell? ⟨b, off + p, none⟩ = some (.slice (some ⟨b3, off3, none⟩) m3 c3) ∧ k < m3 ∧ w8.cell? ⟨b3, off3 + k * 4, none⟩ = some (.int .i64 (acD (lD L p) k).k) := fun p hp => by
          obtain ⟨d0, hrow⟩ := HC.out p hp
          obtain ⟨ua, uc, hu⟩ := RdN.shape hrow
          rw [hu] at d0 hrow
          obtain ⟨b3, off3, rfl, hlt3, e0, -, -, -⟩ := row_at hrow (HRL.out p hp)
          exact ⟨b3, off3, _, _, (hb.cell (p := ⟨b, off + p, none⟩) (World.block_lt_of_cell? w7 _ d0)).trans d0, HRL.out p hp, (hb.cell (p := ⟨b3, off3 + k * 4, none⟩) hlt3).trans e0⟩
        have HC8 := Lib.hid hc8
        clear hc8 hb d0 e0 e1 e2 e3 y0 y1 y2 y3 m1
        have m1 := (cells_of_heap HM8.out 1 (by simp)).1
        simp only [List.getElem_toArray, List.getElem_cons_zero, List.getElem_cons_succ] at m1
        go_wp2
        go_loopw [8] (fun i wr => ∃ p : Nat, I < p ∧ p ≤ N ∧ i = .int .i64 (p : Int) ∧ wr = w8) (fun i _ => N - (intOf i).toNat)
        case atStart => exact ⟨I + 1, by omega, by omega, by go_num, rfl⟩
        case round =>
          obtain ⟨p, hp1, hp2, rfl, rfl⟩ := hrel
          by_cases hpN : p < N
          · have hpN' : (p : Int) < (N : Int) := by omega
            obtain ⟨b3, off3, m3, c3, f0, f1, f2⟩ := HC8.out p hpN
            have f1' : (k : Int) < (m3 : Int) := by omega
            have p0 : (0 : Int) ≤ (p : Int) := by omega
            obtain ⟨x, hx⟩ : ∃ x, x = bits .and .i64 (on / 2 ^ p) 1 := ⟨_, rfl⟩
            obtain ⟨z, hz⟩ : ∃ z, z = (acD (lD L p) k).k := ⟨_, rfl⟩
            have hx2 := hx.symm
            have HPP := Lib.hid (show x = 1 → z = 1 from fun e => by rw [hz]; exact HP.out.2 p hp1 (by omega) (by rw [bitOn]; exact decide_eq_true (by rw [← hx, e])))
            rw [← hz] at f2
            clear hx hz
            by_cases hx1 : x = 1
            · have hz1 := HPP.out hx1
              go_wp2
              go_roundw
              case rel => exact ⟨p + 1, by omega, by omega, by go_num, trivial⟩
              case measure => simp [intOf]; omega
            · go_wp2
              go_roundw
              case rel => exact ⟨p + 1, by omega, by omega, by go_num, trivial⟩
              case measure => simp [intOf]; omega
          · obtain rfl : p = N := by omega
            go_wp2
            go_ret
            exact ⟨rfl, HB8.out⟩

end Go.Proofs.Ytleheibpgngmiaa
