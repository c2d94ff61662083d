/- DERIVED. FnKeymaps: keymaps are read from their texts and from their bytes, and an action that is set is there, and all others are as they were; over the program's contracts as premises. -/
import Derived.Test.YtleheibpgngmiaaDoorKmMath
import Derived.Test.YtleheibpgngmiaaDoorKmNum
import Derived.Test.YtleheibpgngmiaaDoorAcFol
namespace Go.Proofs.YtleheibpgngmiaaDoor
open Go.RowKit

theorem owF_cap2 {w : World} {B : Nat} {T : TypeId} {a : Option Addr} {n c : Nat} {xs : List Value} {fp : List Nat} (h : OwF w B T 1 (.slice a n c) n xs fp) : n ≤ c := by
  rcases h.1.2 with ⟨_, h0⟩ | ⟨g, cap, cur, hs, _, _, hnc, _⟩
  · omega
  · simp only [Value.slice.injEq] at hs; omega
theorem kmS_size {K : Nat} {L : List (List Ac)} (h : okKm (K : Int) L = true) : (kmS K L).size ≤ 1048576 := by
  obtain ⟨⟨-, k32⟩, ⟨-, l4⟩, -⟩ := okKm_at h
  have hb : barS.size = 3 := rfl
  have h1 : ∀ s ∈ L.map rowT, s.size ≤ 352 := fun s hs => by
    obtain ⟨l, hl, rfl⟩ := List.mem_map.1 hs
    have h2 := rowT_size l
    have h3 := (okKm_all h l hl).1
    omega
  have h4 := jn_le 352 (L.map rowT) barS h1 (L.map rowT).length (Nat.le_refl _)
  rw [List.length_map, hb] at h4
  have h5 : L.length * (352 + 3) ≤ 4 * (352 + 3) := Nat.mul_le_mul_right _ l4
  rw [kmS, if_pos h]
  have e : (joined (L.map rowT) barS).size = (jn (L.map rowT) barS (L.map rowT).length).length := rfl
  rw [e, List.length_map]
  omega
/-- An action that does not fit into the layers names a layer that is not there. -/
theorem set_not {K : Nat} {L : List (List Ac)} {i q : Nat} {a : Ac} (h : okKm (K : Int) L = true) (hi : i < L.length) (hq : q < K) (ha : AcFit a 4) (hs : setOk K L i q a = false) : (L.length : Int) ≤ a.n := by
  by_cases hok : okA L.length i a = true
  · exfalso
    have h1 := okKm_set h hi hq hok
    unfold setOk at hs
    have p1 : inB (i : Int) 0 ((L.length : Int) - 1) = true := decide_eq_true (by omega)
    have p2 : inB (q : Int) 0 ((K : Int) - 1) = true := decide_eq_true (by omega)
    rw [h, p1, p2, Int.toNat_natCast, Int.toNat_natCast, h1] at hs
    exact absurd hs (by decide)
  · unfold okA at hok
    rw [ha.ok] at hok
    have := ha.np
    simp at hok
    omega
theorem set_yes {K : Nat} {L : List (List Ac)} {i q : Nat} {a : Ac} (hs : setOk K L i q a = true) : okKm (K : Int) (setL L i q a) = true := by
  unfold setOk at hs
  rw [Int.toNat_natCast, Int.toNat_natCast] at hs
  simp only [Bool.and_eq_true] at hs
  exact hs.2.2.2
theorem setL_len (L : List (List Ac)) (i q : Nat) (a : Ac) : (setL L i q a).length = L.length := by simp [setL]
theorem setL_at {L : List (List Ac)} {i q : Nat} {a : Ac} (hi : i < L.length) (hq : q < (lD L i).length) (p k : Nat) (hk : k < (lD L p).length) : (lD (setL L i q a) p).length = (lD L p).length ∧ acD (lD (setL L i q a) p) k = if p = i ∧ k = q then a else acD (lD L p) k := by
  rw [setL, lD_set hi]
  by_cases e : p = i
  · subst e
    rw [if_pos rfl]
    refine ⟨by simp, ?_⟩
    unfold acD
    rw [List.getD_eq_getElem?_getD, List.getElem?_set]
    by_cases e2 : q = k
    · subst e2
      rw [if_pos rfl, if_pos hq, if_pos ⟨rfl, rfl⟩]; rfl
    · rw [if_neg e2, if_neg (fun h => e2 h.2.symm), ← List.getD_eq_getElem?_getD]
  · rw [if_neg e, if_neg (fun h => e h.1)]
    exact ⟨rfl, rfl⟩
/-- The program's contracts on keymaps, at every later world. -/
structure KmContracts (w : World) : Prop where
  fmt : ∀ (u : Value) (L : List (List Ac)) (T : ByteArray) (w' : World), T = kmS (4 : Nat) L → Below w.heap.size w w' → L.length ≤ maxLen → (∀ l ∈ L, l.length ≤ maxLen) → LdS w' u L → Calls Tryd.prog 30 #[kmv (4 : Nat) u] w' fun e w'' => e = .returned (.string T) ∧ Below w'.heap.size w' w''
  prs : ∀ (s : ByteArray) (r : Kmr) (w' : World), r = kmP s → Below w.heap.size w w' → s.size ≤ 1048576 → Calls Tryd.prog 29 #[.string s] w' (KmOut r w')
  pck : ∀ (u : Value) (L : List (List Ac)) (zs : List Int) (w' : World), zs = packK (4 : Nat) L → Below w.heap.size w w' → L.length ≤ maxLen → (∀ l ∈ L, l.length ≤ maxLen) → LdS w' u L → Calls Tryd.prog 12 #[kmv (4 : Nat) u] w' (ByOut zs w')
  unp : ∀ (a : Option Addr) (c : Nat) (zs : List Int) (r : Kmr) (w' : World), r = unK zs → Below w.heap.size w w' → zs.length ≤ maxLen → (∀ z ∈ zs, 0 ≤ z ∧ z < 256) → zs.length ≤ c → Rd w' (.slice a zs.length c) (zs.map (.int .u8)) → Calls Tryd.prog 31 #[.slice a zs.length c] w' (KmOut r w')
  set : ∀ (u : Value) (L : List (List Ac)) (layer key k c m n : Int) (r : Kmr) (w' : World), r = setV (4 : Nat) L layer key ⟨k, c, m, n⟩ → Below w.heap.size w w' → L.length ≤ maxLen → (∀ l ∈ L, l.length ≤ maxLen) → LdS w' u L → Calls Tryd.prog 32 #[kmv (4 : Nat) u, .int .i64 layer, .int .i64 key, acv k c m n] w' (KmOut r w')
  isk : ∀ (u : Value) (L : List (List Ac)) (b : Bool) (w' : World), b = okKm (4 : Nat) L → Below w.heap.size w w' → L.length ≤ maxLen → (∀ l ∈ L, l.length ≤ maxLen) → LdS w' u L → Calls Tryd.prog 33 #[kmv (4 : Nat) u] w' fun e w'' => e = .returned (.bool b) ∧ Below w'.heap.size w' w''

set_option maxHeartbeats 16000000 in
set_option maxRecDepth 100000 in
theorem lawKeymaps_walk (a0 : Option Addr) (len cap0 : Nat) (bs : List Int) (w : World) (hlen : bs.length = len) (hz : ∀ z ∈ bs, (Lit.int .u8 z).wf = true) (h : Rd w (.slice a0 len cap0) (bs.map (.int .u8))) (hC : KmContracts w) : Calls Tryd.prog 5 #[.slice a0 len cap0] w fun e w' => e = .returned (.bool true) ∧ Below w.heap.size w w' := by
  by_cases hbig : (1048576 : Int) < len
  · go_enter Tryd.func5, Tryd.ntmps5
    go_wp2_with fail
    refine (big_any a0 len cap0 _).mono ?_
    rw [decide_eq_true hbig]
    rintro e w0 ⟨rfl, rfl⟩
    go_wp2
    go_ret
    exact ⟨rfl, Below.refl _ _⟩
  · have HZ := Lib.hid (fun z (m : z ∈ bs) => wf_byte (hz z m))
    have HL := Lib.hid (show bs.length ≤ 1099511627776 by omega)
    have HR := Lib.hid h
    have HBG := Lib.hid (decide_eq_false hbig)
    have HC := Lib.hid hC
    clear hz hlen h hbig hC
    have HB0 := Lib.hid (Below.refl w.heap.size w)
    go_enter Tryd.func5, Tryd.ntmps5
    go_wp2_with fail
    refine (big_any a0 len cap0 _).mono ?_
    rw [HBG.out]
    rintro e v0 ⟨rfl, rfl⟩
    go_wp2_with fail
    refine (MakeKeymap_draw _ bs 6 4 _ HL.out HZ.out HR.out (by omega) (by omega)).mono ?_
    rintro e w1 ⟨L, ma, mc, mf, rfl, hok, hos, hb⟩
    have HB1 := Lib.hid (HB0.out.trans (hb.mono HB0.out.size))
    have HS1 := Lib.hid hb.size
    clear hb
    have hlim := okKm_at hok
    obtain ⟨N, hN⟩ : ∃ N, N = L.length := ⟨_, rfl⟩
    rw [← hN] at hos ⊢
    have n1 : 1 ≤ N := by omega
    have n4 : N ≤ 4 := by omega
    have HN := Lib.hid hN
    have HOK := Lib.hid (show okKm ((4 : Nat) : Int) L = true from hok)
    have HLN := Lib.hid (show L.length ≤ maxLen by unfold maxLen; omega)
    have HLR := Lib.hid (show ∀ l ∈ L, l.length ≤ maxLen from fun l hl => by have := okKm_rows (K := 4) hok l hl; unfold maxLen; omega)
    have Om_1 := Lib.hid (show LdS w1 (.slice ma N mc) L from OwS.rd hos)
    obtain ⟨T, hT⟩ : ∃ T, T = kmS (4 : Nat) L := ⟨_, rfl⟩
    have HT := Lib.hid hT
    have HTS := Lib.hid (show T.size ≤ 1048576 by rw [hT]; exact kmS_size HOK.out)
    have HTP := Lib.hid (show (⟨(4 : Nat), L, true⟩ : Kmr) = kmP T by rw [hT]; exact (kmP_kmS HOK.out).symm)
    obtain ⟨bz, hbz⟩ : ∃ z, z = packK (4 : Nat) L := ⟨_, rfl⟩
    have HBZ := Lib.hid hbz
    have HBL := Lib.hid (show bz.length ≤ maxLen by rw [hbz]; have := packK_len2 (K := 4) HOK.out; unfold maxLen; omega)
    have HBB := Lib.hid (show ∀ z ∈ bz, 0 ≤ z ∧ z < 256 by rw [hbz]; exact packK_bytes)
    have HBU := Lib.hid (show (⟨(4 : Nat), L, true⟩ : Kmr) = unK bz by rw [hbz]; exact (unK_packK HOK.out).symm)
    clear hok hos hlim hN hT hbz
    go_upto_region 4 with (fail)
    obtain ⟨w2, hw⟩ : ∃ x, x = w1.alloc (.cells #[.int .i64 4, .slice ma N mc] 31) := ⟨_, rfl⟩
    have hb : Below w1.heap.size w1 w2 := by rw [hw]; exact below_alloc1 _ _
    have hk : w2.heap[w1.heap.size]? = some (.cells #[.int .i64 4, .slice ma N mc] 31 (0, 0)) := by rw [hw]; exact heap_alloc_new _ _
    rw [← hw]
    have HB2 := Lib.hid (HB1.out.trans (hb.mono HB1.out.size))
    have HS2 := Lib.hid (show w1.heap.size < w2.heap.size from (Array.getElem?_eq_some_iff.mp hk).1)
    have Om_2 := Lib.hid (Om_1.out.below hb)
    clear Om_1
    have Km_2 := Lib.hid hk
    clear hb hk hw
    have cm0 := (cells_of_heap Km_2.out 0 (by simp)).1
    have cm1 := (cells_of_heap Km_2.out 1 (by simp)).1
    go_wp2_with fail
    refine (HC.out.fmt _ L T _ HT.out HB2.out HLN.out HLR.out Om_2.out).mono ?_
    rintro e w3 ⟨rfl, hb⟩
    clear cm0 cm1
    have HB3 := Lib.hid (HB2.out.trans (hb.mono HB2.out.size))
    have HS3 := Lib.hid hb.size
    have Km_3 := Lib.hid (blk_below Km_2.out hb)
    have Om_3 := Lib.hid (Om_2.out.below hb)
    clear Km_2 Om_2
    clear hb
    go_wp2_with fail
    refine (HC.out.prs T _ _ HTP.out HB3.out HTS.out).mono ?_
    rintro e w4 ⟨xa, xc, xf, rfl, hos, hb⟩
    have HB4 := Lib.hid (HB3.out.trans (hb.mono HB3.out.size))
    have HS4 := Lib.hid hb.size
    have Km_4 := Lib.hid (blk_below Km_3.out hb)
    have Om_4 := Lib.hid (Om_3.out.below hb)
    clear Km_3 Om_3
    clear hb
    simp only at hos ⊢
    rw [← HN.out] at hos ⊢
    have Ox_4 := Lib.hid (show LdS w4 (.slice xa N xc) L from OwS.rd hos)
    clear hos
    go_upto_region 5 with (fail)
    obtain ⟨w5, hw⟩ : ∃ x, x = w4.alloc (.cells #[.int .i64 4, .slice xa N xc] 31) := ⟨_, rfl⟩
    have hb : Below w4.heap.size w4 w5 := by rw [hw]; exact below_alloc1 _ _
    have hk : w5.heap[w4.heap.size]? = some (.cells #[.int .i64 4, .slice xa N xc] 31 (0, 0)) := by rw [hw]; exact heap_alloc_new _ _
    rw [← hw]
    have HB5 := Lib.hid (HB4.out.trans (hb.mono HB4.out.size))
    have HS5 := Lib.hid (show w4.heap.size < w5.heap.size from (Array.getElem?_eq_some_iff.mp hk).1)
    have Km_5 := Lib.hid (blk_below Km_4.out hb)
    have Om_5 := Lib.hid (Om_4.out.below hb)
    have Ox_5 := Lib.hid (Ox_4.out.below hb)
    clear Km_4 Om_4 Ox_4
    have Kx_5 := Lib.hid hk
    clear hb hk hw
    have cm0 := (cells_of_heap Km_5.out 0 (by simp)).1
    have cm1 := (cells_of_heap Km_5.out 1 (by simp)).1
    go_wp2_with fail
    refine (HC.out.pck _ L bz _ HBZ.out HB5.out HLN.out HLR.out Om_5.out).mono ?_
    rintro e w6 ⟨pa, pc, pf, rfl, hbo, hb⟩
    clear cm0 cm1
    have HB6 := Lib.hid (HB5.out.trans (hb.mono HB5.out.size))
    have HS6 := Lib.hid hb.size
    have Km_6 := Lib.hid (blk_below Km_5.out hb)
    have Kx_6 := Lib.hid (blk_below Kx_5.out hb)
    have Om_6 := Lib.hid (Om_5.out.below hb)
    have Ox_6 := Lib.hid (Ox_5.out.below hb)
    clear Km_5 Kx_5 Om_5 Ox_5
    clear hb
    have HPC := Lib.hid (owF_cap2 hbo)
    have HPR := Lib.hid (OwF.rd1 hbo)
    clear hbo
    go_wp2_with fail
    refine (HC.out.unp pa pc bz _ _ HBU.out HB6.out HBL.out HBB.out HPC.out HPR.out).mono ?_
    rintro e w7 ⟨ya, yc, yf, rfl, hos, hb⟩
    have HB7 := Lib.hid (HB6.out.trans (hb.mono HB6.out.size))
    have HS7 := Lib.hid hb.size
    have Km_7 := Lib.hid (blk_below Km_6.out hb)
    have Kx_7 := Lib.hid (blk_below Kx_6.out hb)
    have Om_7 := Lib.hid (Om_6.out.below hb)
    have Ox_7 := Lib.hid (Ox_6.out.below hb)
    clear Km_6 Kx_6 Om_6 Ox_6
    clear hb
    simp only at hos ⊢
    rw [← HN.out] at hos ⊢
    have Oy_7 := Lib.hid (show LdS w7 (.slice ya N yc) L from OwS.rd hos)
    clear hos
    go_upto_region 6 with (fail)
    obtain ⟨w8, hw⟩ : ∃ x, x = w7.alloc (.cells #[.int .i64 4, .slice ya N yc] 31) := ⟨_, rfl⟩
    have hb : Below w7.heap.size w7 w8 := by rw [hw]; exact below_alloc1 _ _
    have hk : w8.heap[w7.heap.size]? = some (.cells #[.int .i64 4, .slice ya N yc] 31 (0, 0)) := by rw [hw]; exact heap_alloc_new _ _
    rw [← hw]
    have HB8 := Lib.hid (HB7.out.trans (hb.mono HB7.out.size))
    have HS8 := Lib.hid (show w7.heap.size < w8.heap.size from (Array.getElem?_eq_some_iff.mp hk).1)
    have Km_8 := Lib.hid (blk_below Km_7.out hb)
    have Kx_8 := Lib.hid (blk_below Kx_7.out hb)
    have Om_8 := Lib.hid (Om_7.out.below hb)
    have Ox_8 := Lib.hid (Ox_7.out.below hb)
    have Oy_8 := Lib.hid (Oy_7.out.below hb)
    clear Km_7 Kx_7 Om_7 Ox_7 Oy_7
    have Ky_8 := Lib.hid hk
    clear hb hk hw
    go_wp2_with fail
    refine (MakeAction_draw _ bs _ HL.out HZ.out (HR.out.below HB8.out)).mono ?_
    rintro e w9 ⟨⟨k, c, m, n⟩, rfl, hfit, hb⟩
    have HB9 := Lib.hid (HB8.out.trans (hb.mono HB8.out.size))
    have HS9 := Lib.hid hb.size
    have Km_9 := Lib.hid (blk_below Km_8.out hb)
    have Kx_9 := Lib.hid (blk_below Kx_8.out hb)
    have Ky_9 := Lib.hid (blk_below Ky_8.out hb)
    have Om_9 := Lib.hid (Om_8.out.below hb)
    have Ox_9 := Lib.hid (Ox_8.out.below hb)
    have Oy_9 := Lib.hid (Oy_8.out.below hb)
    clear Km_8 Kx_8 Ky_8 Om_8 Ox_8 Oy_8
    clear hb
    simp only
    have HFIT := Lib.hid hfit
    clear hfit
    go_upto_region 7 with (fail)
    obtain ⟨w10, hw⟩ : ∃ x, x = w9.alloc (.cells #[.int .i64 k, .int .i64 c, .int .i64 m, .int .i64 n] 37) := ⟨_, rfl⟩
    have hb : Below w9.heap.size w9 w10 := by rw [hw]; exact below_alloc1 _ _
    have hk : w10.heap[w9.heap.size]? = some (.cells #[.int .i64 k, .int .i64 c, .int .i64 m, .int .i64 n] 37 (0, 0)) := by rw [hw]; exact heap_alloc_new _ _
    rw [← hw]
    have HB10 := Lib.hid (HB9.out.trans (hb.mono HB9.out.size))
    have HS10 := Lib.hid (show w9.heap.size < w10.heap.size from (Array.getElem?_eq_some_iff.mp hk).1)
    have Km_10 := Lib.hid (blk_below Km_9.out hb)
    have Kx_10 := Lib.hid (blk_below Kx_9.out hb)
    have Ky_10 := Lib.hid (blk_below Ky_9.out hb)
    have Om_10 := Lib.hid (Om_9.out.below hb)
    have Ox_10 := Lib.hid (Ox_9.out.below hb)
    have Oy_10 := Lib.hid (Oy_9.out.below hb)
    clear Km_9 Kx_9 Ky_9 Om_9 Ox_9 Oy_9
    have Ka_10 := Lib.hid hk
    clear hb hk hw
    have cm0 := (cells_of_heap Km_10.out 0 (by simp)).1
    have cm1 := (cells_of_heap Km_10.out 1 (by simp)).1
    go_wp2_with fail
    refine (MakeNumber_draw _ bs 7 (N : Int) _ HL.out HZ.out (HR.out.below HB10.out) (by omega) (by omega)).mono ?_
    rintro e w11 ⟨i, rfl, i0, i1, hb⟩
    clear cm0 cm1
    have HB11 := Lib.hid (HB10.out.trans (hb.mono HB10.out.size))
    have HS11 := Lib.hid hb.size
    have Km_11 := Lib.hid (blk_below Km_10.out hb)
    have Kx_11 := Lib.hid (blk_below Kx_10.out hb)
    have Ky_11 := Lib.hid (blk_below Ky_10.out hb)
    have Ka_11 := Lib.hid (blk_below Ka_10.out hb)
    have Om_11 := Lib.hid (Om_10.out.below hb)
    have Ox_11 := Lib.hid (Ox_10.out.below hb)
    have Oy_11 := Lib.hid (Oy_10.out.below hb)
    clear Km_10 Kx_10 Ky_10 Ka_10 Om_10 Ox_10 Oy_10
    clear hb
    obtain ⟨i, rfl⟩ := Int.eq_ofNat_of_zero_le i0
    have hiN : i < N := by omega
    clear i0 i1
    have cm0 := (cells_of_heap Km_11.out 0 (by simp)).1
    have cm1 := (cells_of_heap Km_11.out 1 (by simp)).1
    go_wp2_with fail
    refine (MakeNumber_draw _ bs 8 4 _ HL.out HZ.out (HR.out.below HB11.out) (by omega) (by omega)).mono ?_
    rintro e w12 ⟨q, rfl, q0, q1, hb⟩
    clear cm0 cm1
    have HB12 := Lib.hid (HB11.out.trans (hb.mono HB11.out.size))
    have HS12 := Lib.hid hb.size
    have Km_12 := Lib.hid (blk_below Km_11.out hb)
    have Kx_12 := Lib.hid (blk_below Kx_11.out hb)
    have Ky_12 := Lib.hid (blk_below Ky_11.out hb)
    have Ka_12 := Lib.hid (blk_below Ka_11.out hb)
    have Om_12 := Lib.hid (Om_11.out.below hb)
    have Ox_12 := Lib.hid (Ox_11.out.below hb)
    have Oy_12 := Lib.hid (Oy_11.out.below hb)
    clear Km_11 Kx_11 Ky_11 Ka_11 Om_11 Ox_11 Oy_11
    clear hb
    obtain ⟨q, rfl⟩ := Int.eq_ofNat_of_zero_le q0
    have hq4 : q < 4 := by omega
    clear q0 q1
    obtain ⟨so, hso⟩ : ∃ s, s = setOk (4 : Nat) L (i : Int) (q : Int) ⟨k, c, m, n⟩ := ⟨_, rfl⟩
    have HSO := Lib.hid hso
    have HHI := Lib.hid (show i < L.length by rw [← HN.out]; exact hiN)
    cases so
    · skip
      have HSV := Lib.hid (show (⟨0, [], false⟩ : Kmr) = setV (4 : Nat) L (i : Int) (q : Int) ⟨k, c, m, n⟩ by rw [setV, ← hso]; rfl)
      have hnn := set_not HOK.out HHI.out hq4 HFIT.out hso.symm
      rw [← HN.out] at hnn
      simp only at hnn
      clear hso
      have cm0 := (cells_of_heap Km_12.out 0 (by simp)).1
      have cm1 := (cells_of_heap Km_12.out 1 (by simp)).1
      have ca0 := (cells_of_heap Ka_12.out 0 (by simp)).1
      have ca1 := (cells_of_heap Ka_12.out 1 (by simp)).1
      have ca2 := (cells_of_heap Ka_12.out 2 (by simp)).1
      have ca3 := (cells_of_heap Ka_12.out 3 (by simp)).1
      go_wp2_with fail
      refine (HC.out.set _ L (i : Int) (q : Int) k c m n _ _ HSV.out HB12.out HLN.out HLR.out Om_12.out).mono ?_
      rintro e w13 ⟨za, zc, zf, rfl, hos, hb⟩
      clear cm0 cm1 ca0 ca1 ca2 ca3
      have HB13 := Lib.hid (HB12.out.trans (hb.mono HB12.out.size))
      have HS13 := Lib.hid hb.size
      have Km_13 := Lib.hid (blk_below Km_12.out hb)
      have Kx_13 := Lib.hid (blk_below Kx_12.out hb)
      have Ky_13 := Lib.hid (blk_below Ky_12.out hb)
      have Ka_13 := Lib.hid (blk_below Ka_12.out hb)
      have Om_13 := Lib.hid (Om_12.out.below hb)
      have Ox_13 := Lib.hid (Ox_12.out.below hb)
      have Oy_13 := Lib.hid (Oy_12.out.below hb)
      clear Km_12 Kx_12 Ky_12 Ka_12 Om_12 Ox_12 Oy_12
      clear hb
      clear hos
      simp only
      go_upto_region 10 with (fail)
      obtain ⟨w14, hw⟩ : ∃ x, x = w13.alloc (.cells #[.int .i64 0, .slice za 0 zc] 31) := ⟨_, rfl⟩
      have hb : Below w13.heap.size w13 w14 := by rw [hw]; exact below_alloc1 _ _
      have hk : w14.heap[w13.heap.size]? = some (.cells #[.int .i64 0, .slice za 0 zc] 31 (0, 0)) := by rw [hw]; exact heap_alloc_new _ _
      rw [← hw]
      have HB14 := Lib.hid (HB13.out.trans (hb.mono HB13.out.size))
      have HS14 := Lib.hid (show w13.heap.size < w14.heap.size from (Array.getElem?_eq_some_iff.mp hk).1)
      have Km_14 := Lib.hid (blk_below Km_13.out hb)
      have Kx_14 := Lib.hid (blk_below Kx_13.out hb)
      have Ky_14 := Lib.hid (blk_below Ky_13.out hb)
      have Ka_14 := Lib.hid (blk_below Ka_13.out hb)
      have Om_14 := Lib.hid (Om_13.out.below hb)
      have Ox_14 := Lib.hid (Ox_13.out.below hb)
      have Oy_14 := Lib.hid (Oy_13.out.below hb)
      clear Km_13 Kx_13 Ky_13 Ka_13 Om_13 Ox_13 Oy_13
      have Kz_14 := Lib.hid hk
      clear hb hk hw
      have cm0 := (cells_of_heap Km_14.out 0 (by simp)).1
      have cm1 := (cells_of_heap Km_14.out 1 (by simp)).1
      have cx0 := (cells_of_heap Kx_14.out 0 (by simp)).1
      have cx1 := (cells_of_heap Kx_14.out 1 (by simp)).1
      have cy0 := (cells_of_heap Ky_14.out 0 (by simp)).1
      have cy1 := (cells_of_heap Ky_14.out 1 (by simp)).1
      have cz0 := (cells_of_heap Kz_14.out 0 (by simp)).1
      have cz1 := (cells_of_heap Kz_14.out 1 (by simp)).1
      have ca0 := (cells_of_heap Ka_14.out 0 (by simp)).1
      have ca1 := (cells_of_heap Ka_14.out 1 (by simp)).1
      have ca2 := (cells_of_heap Ka_14.out 2 (by simp)).1
      have ca3 := (cells_of_heap Ka_14.out 3 (by simp)).1
      go_wp2_with fail
      refine (HC.out.isk _ L true _ HOK.out.symm HB14.out HLN.out HLR.out Om_14.out).mono ?_
      rintro e w15 ⟨rfl, hb⟩
      clear cm0 cm1 cx0 cx1 cy0 cy1 cz0 cz1 ca0 ca1 ca2 ca3
      have HB15 := Lib.hid (HB14.out.trans (hb.mono HB14.out.size))
      have HS15 := Lib.hid hb.size
      have Km_15 := Lib.hid (blk_below Km_14.out hb)
      have Kx_15 := Lib.hid (blk_below Kx_14.out hb)
      have Ky_15 := Lib.hid (blk_below Ky_14.out hb)
      have Ka_15 := Lib.hid (blk_below Ka_14.out hb)
      have Kz_15 := Lib.hid (blk_below Kz_14.out hb)
      have Om_15 := Lib.hid (Om_14.out.below hb)
      have Ox_15 := Lib.hid (Ox_14.out.below hb)
      have Oy_15 := Lib.hid (Oy_14.out.below hb)
      clear Km_14 Kx_14 Ky_14 Ka_14 Kz_14 Om_14 Ox_14 Oy_14
      clear hb
      have cm0 := (cells_of_heap Km_15.out 0 (by simp)).1
      have cm1 := (cells_of_heap Km_15.out 1 (by simp)).1
      have cx0 := (cells_of_heap Kx_15.out 0 (by simp)).1
      have cx1 := (cells_of_heap Kx_15.out 1 (by simp)).1
      have cy0 := (cells_of_heap Ky_15.out 0 (by simp)).1
      have cy1 := (cells_of_heap Ky_15.out 1 (by simp)).1
      have cz0 := (cells_of_heap Kz_15.out 0 (by simp)).1
      have cz1 := (cells_of_heap Kz_15.out 1 (by simp)).1
      have ca0 := (cells_of_heap Ka_15.out 0 (by simp)).1
      have ca1 := (cells_of_heap Ka_15.out 1 (by simp)).1
      have ca2 := (cells_of_heap Ka_15.out 2 (by simp)).1
      have ca3 := (cells_of_heap Ka_15.out 3 (by simp)).1
      go_wp2_with fail
      refine (sameMap_same 4 _ _ N _ _ L _ HN.out HOK.out Ox_15.out Om_15.out).mono ?_
      rintro e w16 ⟨rfl, hb⟩
      clear cm0 cm1 cx0 cx1 cy0 cy1 cz0 cz1 ca0 ca1 ca2 ca3
      have HB16 := Lib.hid (HB15.out.trans (hb.mono HB15.out.size))
      have HS16 := Lib.hid hb.size
      have Km_16 := Lib.hid (blk_below Km_15.out hb)
      have Kx_16 := Lib.hid (blk_below Kx_15.out hb)
      have Ky_16 := Lib.hid (blk_below Ky_15.out hb)
      have Ka_16 := Lib.hid (blk_below Ka_15.out hb)
      have Kz_16 := Lib.hid (blk_below Kz_15.out hb)
      have Om_16 := Lib.hid (Om_15.out.below hb)
      have Ox_16 := Lib.hid (Ox_15.out.below hb)
      have Oy_16 := Lib.hid (Oy_15.out.below hb)
      clear Km_15 Kx_15 Ky_15 Ka_15 Kz_15 Om_15 Ox_15 Oy_15
      clear hb
      have cm0 := (cells_of_heap Km_16.out 0 (by simp)).1
      have cm1 := (cells_of_heap Km_16.out 1 (by simp)).1
      have cx0 := (cells_of_heap Kx_16.out 0 (by simp)).1
      have cx1 := (cells_of_heap Kx_16.out 1 (by simp)).1
      have cy0 := (cells_of_heap Ky_16.out 0 (by simp)).1
      have cy1 := (cells_of_heap Ky_16.out 1 (by simp)).1
      have cz0 := (cells_of_heap Kz_16.out 0 (by simp)).1
      have cz1 := (cells_of_heap Kz_16.out 1 (by simp)).1
      have ca0 := (cells_of_heap Ka_16.out 0 (by simp)).1
      have ca1 := (cells_of_heap Ka_16.out 1 (by simp)).1
      have ca2 := (cells_of_heap Ka_16.out 2 (by simp)).1
      have ca3 := (cells_of_heap Ka_16.out 3 (by simp)).1
      go_wp2_with fail
      refine (sameMap_same 4 _ _ N _ _ L _ HN.out HOK.out Oy_16.out Om_16.out).mono ?_
      rintro e w17 ⟨rfl, hb⟩
      clear cm0 cm1 cx0 cx1 cy0 cy1 cz0 cz1 ca0 ca1 ca2 ca3
      have HB17 := Lib.hid (HB16.out.trans (hb.mono HB16.out.size))
      have HS17 := Lib.hid hb.size
      have Km_17 := Lib.hid (blk_below Km_16.out hb)
      have Kx_17 := Lib.hid (blk_below Kx_16.out hb)
      have Ky_17 := Lib.hid (blk_below Ky_16.out hb)
      have Ka_17 := Lib.hid (blk_below Ka_16.out hb)
      have Kz_17 := Lib.hid (blk_below Kz_16.out hb)
      have Om_17 := Lib.hid (Om_16.out.below hb)
      have Ox_17 := Lib.hid (Ox_16.out.below hb)
      have Oy_17 := Lib.hid (Oy_16.out.below hb)
      clear Km_16 Kx_16 Ky_16 Ka_16 Kz_16 Om_16 Ox_16 Oy_16
      clear hb
      have cm0 := (cells_of_heap Km_17.out 0 (by simp)).1
      have cm1 := (cells_of_heap Km_17.out 1 (by simp)).1
      have ca0 := (cells_of_heap Ka_17.out 0 (by simp)).1
      have ca1 := (cells_of_heap Ka_17.out 1 (by simp)).1
      have ca2 := (cells_of_heap Ka_17.out 2 (by simp)).1
      have ca3 := (cells_of_heap Ka_17.out 3 (by simp)).1
      simp only [List.getElem_toArray, List.getElem_cons_zero, List.getElem_cons_succ] at cm0 cm1 ca0 ca1 ca2 ca3
      go_wp2
      go_ret
      exact ⟨ret_bool (by simp <;> omega), HB17.out⟩
    · skip
      have HSV := Lib.hid (show (⟨(4 : Nat), setL L i q ⟨k, c, m, n⟩, true⟩ : Kmr) = setV (4 : Nat) L (i : Int) (q : Int) ⟨k, c, m, n⟩ by rw [setV, ← hso]; rfl)
      have hok2 := set_yes hso.symm
      have hsl := setL_len L i q ⟨k, c, m, n⟩
      have hsr := setL_at (a := ⟨k, c, m, n⟩) HHI.out (q := q) (by have := ((okKm_at HOK.out).2.2 i HHI.out).1; omega)
      obtain ⟨Z, hZ⟩ : ∃ Z, setL L i q ⟨k, c, m, n⟩ = Z := ⟨_, rfl⟩
      rw [hZ] at hok2 hsl hsr
      have HSV2 := Lib.hid (show (⟨(4 : Nat), Z, true⟩ : Kmr) = setV (4 : Nat) L (i : Int) (q : Int) ⟨k, c, m, n⟩ by rw [← hZ]; exact HSV.out)
      have HOK2 := Lib.hid hok2
      have HZN := Lib.hid (show N = Z.length by rw [hsl, HN.out])
      have HZA := Lib.hid hsr
      have HZL := Lib.hid (show Z.length ≤ maxLen by rw [hsl]; exact HLN.out)
      have HZR := Lib.hid (show ∀ l ∈ Z, l.length ≤ maxLen from fun l hl => by have := okKm_rows (K := 4) hok2 l hl; unfold maxLen; omega)
      clear hso hok2 hsl hsr hZ HSV
      have cm0 := (cells_of_heap Km_12.out 0 (by simp)).1
      have cm1 := (cells_of_heap Km_12.out 1 (by simp)).1
      have ca0 := (cells_of_heap Ka_12.out 0 (by simp)).1
      have ca1 := (cells_of_heap Ka_12.out 1 (by simp)).1
      have ca2 := (cells_of_heap Ka_12.out 2 (by simp)).1
      have ca3 := (cells_of_heap Ka_12.out 3 (by simp)).1
      go_wp2_with fail
      refine (HC.out.set _ L (i : Int) (q : Int) k c m n _ _ HSV2.out HB12.out HLN.out HLR.out Om_12.out).mono ?_
      rintro e w13 ⟨za, zc, zf, rfl, hos, hb⟩
      clear cm0 cm1 ca0 ca1 ca2 ca3
      have HB13 := Lib.hid (HB12.out.trans (hb.mono HB12.out.size))
      have HS13 := Lib.hid hb.size
      have Km_13 := Lib.hid (blk_below Km_12.out hb)
      have Kx_13 := Lib.hid (blk_below Kx_12.out hb)
      have Ky_13 := Lib.hid (blk_below Ky_12.out hb)
      have Ka_13 := Lib.hid (blk_below Ka_12.out hb)
      have Om_13 := Lib.hid (Om_12.out.below hb)
      have Ox_13 := Lib.hid (Ox_12.out.below hb)
      have Oy_13 := Lib.hid (Oy_12.out.below hb)
      clear Km_12 Kx_12 Ky_12 Ka_12 Om_12 Ox_12 Oy_12
      clear hb
      simp only at hos ⊢
      rw [← HZN.out] at hos ⊢
      have Oz_13 := Lib.hid (show LdS w13 (.slice za N zc) Z from OwS.rd hos)
      clear hos
      go_upto_region 10 with (fail)
      obtain ⟨w14, hw⟩ : ∃ x, x = w13.alloc (.cells #[.int .i64 4, .slice za N zc] 31) := ⟨_, rfl⟩
      have hb : Below w13.heap.size w13 w14 := by rw [hw]; exact below_alloc1 _ _
      have hk : w14.heap[w13.heap.size]? = some (.cells #[.int .i64 4, .slice za N zc] 31 (0, 0)) := by rw [hw]; exact heap_alloc_new _ _
      rw [← hw]
      have HB14 := Lib.hid (HB13.out.trans (hb.mono HB13.out.size))
      have HS14 := Lib.hid (show w13.heap.size < w14.heap.size from (Array.getElem?_eq_some_iff.mp hk).1)
      have Km_14 := Lib.hid (blk_below Km_13.out hb)
      have Kx_14 := Lib.hid (blk_below Kx_13.out hb)
      have Ky_14 := Lib.hid (blk_below Ky_13.out hb)
      have Ka_14 := Lib.hid (blk_below Ka_13.out hb)
      have Om_14 := Lib.hid (Om_13.out.below hb)
      have Ox_14 := Lib.hid (Ox_13.out.below hb)
      have Oy_14 := Lib.hid (Oy_13.out.below hb)
      have Oz_14 := Lib.hid (Oz_13.out.below hb)
      clear Km_13 Kx_13 Ky_13 Ka_13 Om_13 Ox_13 Oy_13 Oz_13
      have Kz_14 := Lib.hid hk
      clear hb hk hw
      have cm0 := (cells_of_heap Km_14.out 0 (by simp)).1
      have cm1 := (cells_of_heap Km_14.out 1 (by simp)).1
      have cx0 := (cells_of_heap Kx_14.out 0 (by simp)).1
      have cx1 := (cells_of_heap Kx_14.out 1 (by simp)).1
      have cy0 := (cells_of_heap Ky_14.out 0 (by simp)).1
      have cy1 := (cells_of_heap Ky_14.out 1 (by simp)).1
      have cz0 := (cells_of_heap Kz_14.out 0 (by simp)).1
      have cz1 := (cells_of_heap Kz_14.out 1 (by simp)).1
      have ca0 := (cells_of_heap Ka_14.out 0 (by simp)).1
      have ca1 := (cells_of_heap Ka_14.out 1 (by simp)).1
      have ca2 := (cells_of_heap Ka_14.out 2 (by simp)).1
      have ca3 := (cells_of_heap Ka_14.out 3 (by simp)).1
      go_wp2_with fail
      refine (HC.out.isk _ L true _ HOK.out.symm HB14.out HLN.out HLR.out Om_14.out).mono ?_
      rintro e w15 ⟨rfl, hb⟩
      clear cm0 cm1 cx0 cx1 cy0 cy1 cz0 cz1 ca0 ca1 ca2 ca3
      have HB15 := Lib.hid (HB14.out.trans (hb.mono HB14.out.size))
      have HS15 := Lib.hid hb.size
      have Km_15 := Lib.hid (blk_below Km_14.out hb)
      have Kx_15 := Lib.hid (blk_below Kx_14.out hb)
      have Ky_15 := Lib.hid (blk_below Ky_14.out hb)
      have Ka_15 := Lib.hid (blk_below Ka_14.out hb)
      have Kz_15 := Lib.hid (blk_below Kz_14.out hb)
      have Om_15 := Lib.hid (Om_14.out.below hb)
      have Ox_15 := Lib.hid (Ox_14.out.below hb)
      have Oy_15 := Lib.hid (Oy_14.out.below hb)
      have Oz_15 := Lib.hid (Oz_14.out.below hb)
      clear Km_14 Kx_14 Ky_14 Ka_14 Kz_14 Om_14 Ox_14 Oy_14 Oz_14
      clear hb
      have cm0 := (cells_of_heap Km_15.out 0 (by simp)).1
      have cm1 := (cells_of_heap Km_15.out 1 (by simp)).1
      have cx0 := (cells_of_heap Kx_15.out 0 (by simp)).1
      have cx1 := (cells_of_heap Kx_15.out 1 (by simp)).1
      have cy0 := (cells_of_heap Ky_15.out 0 (by simp)).1
      have cy1 := (cells_of_heap Ky_15.out 1 (by simp)).1
      have cz0 := (cells_of_heap Kz_15.out 0 (by simp)).1
      have cz1 := (cells_of_heap Kz_15.out 1 (by simp)).1
      have ca0 := (cells_of_heap Ka_15.out 0 (by simp)).1
      have ca1 := (cells_of_heap Ka_15.out 1 (by simp)).1
      have ca2 := (cells_of_heap Ka_15.out 2 (by simp)).1
      have ca3 := (cells_of_heap Ka_15.out 3 (by simp)).1
      go_wp2_with fail
      refine (sameMap_same 4 _ _ N _ _ L _ HN.out HOK.out Ox_15.out Om_15.out).mono ?_
      rintro e w16 ⟨rfl, hb⟩
      clear cm0 cm1 cx0 cx1 cy0 cy1 cz0 cz1 ca0 ca1 ca2 ca3
      have HB16 := Lib.hid (HB15.out.trans (hb.mono HB15.out.size))
      have HS16 := Lib.hid hb.size
      have Km_16 := Lib.hid (blk_below Km_15.out hb)
      have Kx_16 := Lib.hid (blk_below Kx_15.out hb)
      have Ky_16 := Lib.hid (blk_below Ky_15.out hb)
      have Ka_16 := Lib.hid (blk_below Ka_15.out hb)
      have Kz_16 := Lib.hid (blk_below Kz_15.out hb)
      have Om_16 := Lib.hid (Om_15.out.below hb)
      have Ox_16 := Lib.hid (Ox_15.out.below hb)
      have Oy_16 := Lib.hid (Oy_15.out.below hb)
      have Oz_16 := Lib.hid (Oz_15.out.below hb)
      clear Km_15 Kx_15 Ky_15 Ka_15 Kz_15 Om_15 Ox_15 Oy_15 Oz_15
      clear hb
      have cm0 := (cells_of_heap Km_16.out 0 (by simp)).1
      have cm1 := (cells_of_heap Km_16.out 1 (by simp)).1
      have cx0 := (cells_of_heap Kx_16.out 0 (by simp)).1
      have cx1 := (cells_of_heap Kx_16.out 1 (by simp)).1
      have cy0 := (cells_of_heap Ky_16.out 0 (by simp)).1
      have cy1 := (cells_of_heap Ky_16.out 1 (by simp)).1
      have cz0 := (cells_of_heap Kz_16.out 0 (by simp)).1
      have cz1 := (cells_of_heap Kz_16.out 1 (by simp)).1
      have ca0 := (cells_of_heap Ka_16.out 0 (by simp)).1
      have ca1 := (cells_of_heap Ka_16.out 1 (by simp)).1
      have ca2 := (cells_of_heap Ka_16.out 2 (by simp)).1
      have ca3 := (cells_of_heap Ka_16.out 3 (by simp)).1
      go_wp2_with fail
      refine (sameMap_same 4 _ _ N _ _ L _ HN.out HOK.out Oy_16.out Om_16.out).mono ?_
      rintro e w17 ⟨rfl, hb⟩
      clear cm0 cm1 cx0 cx1 cy0 cy1 cz0 cz1 ca0 ca1 ca2 ca3
      have HB17 := Lib.hid (HB16.out.trans (hb.mono HB16.out.size))
      have HS17 := Lib.hid hb.size
      have Km_17 := Lib.hid (blk_below Km_16.out hb)
      have Kx_17 := Lib.hid (blk_below Kx_16.out hb)
      have Ky_17 := Lib.hid (blk_below Ky_16.out hb)
      have Ka_17 := Lib.hid (blk_below Ka_16.out hb)
      have Kz_17 := Lib.hid (blk_below Kz_16.out hb)
      have Om_17 := Lib.hid (Om_16.out.below hb)
      have Ox_17 := Lib.hid (Ox_16.out.below hb)
      have Oy_17 := Lib.hid (Oy_16.out.below hb)
      have Oz_17 := Lib.hid (Oz_16.out.below hb)
      clear Km_16 Kx_16 Ky_16 Ka_16 Kz_16 Om_16 Ox_16 Oy_16 Oz_16
      clear hb
      have cm0 := (cells_of_heap Km_17.out 0 (by simp)).1
      have cm1 := (cells_of_heap Km_17.out 1 (by simp)).1
      have cx0 := (cells_of_heap Kx_17.out 0 (by simp)).1
      have cx1 := (cells_of_heap Kx_17.out 1 (by simp)).1
      have cy0 := (cells_of_heap Ky_17.out 0 (by simp)).1
      have cy1 := (cells_of_heap Ky_17.out 1 (by simp)).1
      have cz0 := (cells_of_heap Kz_17.out 0 (by simp)).1
      have cz1 := (cells_of_heap Kz_17.out 1 (by simp)).1
      have ca0 := (cells_of_heap Ka_17.out 0 (by simp)).1
      have ca1 := (cells_of_heap Ka_17.out 1 (by simp)).1
      have ca2 := (cells_of_heap Ka_17.out 2 (by simp)).1
      have ca3 := (cells_of_heap Ka_17.out 3 (by simp)).1
      go_wp2_with fail
      refine (HC.out.isk _ Z true _ HOK2.out.symm HB17.out HZL.out HZR.out Oz_17.out).mono ?_
      rintro e w18 ⟨rfl, hb⟩
      clear cm0 cm1 cx0 cx1 cy0 cy1 cz0 cz1 ca0 ca1 ca2 ca3
      have HB18 := Lib.hid (HB17.out.trans (hb.mono HB17.out.size))
      have HS18 := Lib.hid hb.size
      have Km_18 := Lib.hid (blk_below Km_17.out hb)
      have Kx_18 := Lib.hid (blk_below Kx_17.out hb)
      have Ky_18 := Lib.hid (blk_below Ky_17.out hb)
      have Ka_18 := Lib.hid (blk_below Ka_17.out hb)
      have Kz_18 := Lib.hid (blk_below Kz_17.out hb)
      have Om_18 := Lib.hid (Om_17.out.below hb)
      have Ox_18 := Lib.hid (Ox_17.out.below hb)
      have Oy_18 := Lib.hid (Oy_17.out.below hb)
      have Oz_18 := Lib.hid (Oz_17.out.below hb)
      clear Km_17 Kx_17 Ky_17 Ka_17 Kz_17 Om_17 Ox_17 Oy_17 Oz_17
      clear hb
      have cm0 := (cells_of_heap Km_18.out 0 (by simp)).1
      have cm1 := (cells_of_heap Km_18.out 1 (by simp)).1
      have cz0 := (cells_of_heap Kz_18.out 0 (by simp)).1
      have cz1 := (cells_of_heap Kz_18.out 1 (by simp)).1
      simp only [List.getElem_toArray, List.getElem_cons_zero, List.getElem_cons_succ] at cm0 cm1 cz0 cz1
      go_upto_region 16 with (fail)
      clear cm0 cm1 cz0 cz1
      obtain ⟨W, hWW⟩ : ∃ x, x = w18 := ⟨_, rfl⟩
      subst hWW
      have HRL := Lib.hid (show ∀ p, p < N → (lD L p).length = 4 from fun p hp => by have := ((okKm_at HOK.out).2.2 p (by rw [← HN.out]; exact hp)).1; omega)
      have hzl : ∀ p, p < N → (lD Z p).length = 4 := fun p hp => by rw [(HZA.out p 0 (by rw [HRL.out p hp]; omega)).1, HRL.out p hp]
      have HZL4 := Lib.hid hzl
      clear hzl
      obtain ⟨bm, om, rfl, hbm, hm⟩ := LdS.places Om_18.out HN.out (by omega) (fun p hp => by rw [HRL.out p hp]; omega)
      obtain ⟨bz2, oz, rfl, hbz, hz⟩ := LdS.places Oz_18.out HZN.out (by omega) (fun p hp => by rw [HZL4.out p hp]; omega)
      have HM := Lib.hid hm
      have HZZ := Lib.hid hz
      clear hm hz
      go_wp2
      go_loopw [13] (fun pv wr => ∃ p : Nat, p ≤ N ∧ pv = .int .i64 p ∧ Below W.heap.size W wr) (fun pv _ => N - (intOf pv).toNat)
      case atStart => exact ⟨0, Nat.zero_le _, rfl, Below.refl _ _⟩
      case round =>
        obtain ⟨p, hp, rfl, hb⟩ := hrel
        obtain ⟨W1, hW1⟩ : ∃ x, x = wr := ⟨_, rfl⟩
        subst hW1
        have a1 := (cells_of_heap (blk_below Km_18.out hb) 1 (by simp)).1
        simp only [List.getElem_toArray, List.getElem_cons_zero, List.getElem_cons_succ] at a1
        by_cases hlt : p < N
        · have hlt' : (p : Int) < (N : Int) := by omega
          have p0 : (0 : Int) ≤ (p : Int) := by omega
          obtain ⟨bm3, om3, cm3, d0, hm3, hmk⟩ := HM.out p hlt
          obtain ⟨bz3, oz3, cz3, e0, hz3, hzk⟩ := HZZ.out p hlt
          have hLp := HRL.out p hlt
          have hZp := HZL4.out p hlt
          have HZP := Lib.hid (fun k hk => (HZA.out p k hk).2)
          rw [hLp] at d0 hmk
          rw [hZp] at e0 hzk
          have HMK := Lib.hid hmk
          have HZK := Lib.hid hzk
          have HLp := Lib.hid hLp
          have HB1 := Lib.hid hb
          clear hmk hzk hLp hZp hb
          go_wp2
          clear a1
          go_loopw [14] (fun qv wr => ∃ r : Nat, r ≤ 4 ∧ qv = .int .i64 r ∧ Below W.heap.size W wr) (fun qv _ => 4 - (intOf qv).toNat)
          case atStart => exact ⟨0, Nat.zero_le _, rfl, HB1.out⟩
          case round =>
            obtain ⟨r, hr, rfl, hb⟩ := hrel
            obtain ⟨W2, hW2⟩ : ∃ x, x = wr := ⟨_, rfl⟩
            subst hW2
            have a0 := (cells_of_heap (blk_below Km_18.out hb) 0 (by simp)).1
            have a1 := (cells_of_heap (blk_below Km_18.out hb) 1 (by simp)).1
            have b1 := (cells_of_heap (blk_below Kz_18.out hb) 1 (by simp)).1
            have c0 := (cells_of_heap (blk_below Ka_18.out hb) 0 (by simp)).1
            have c1 := (cells_of_heap (blk_below Ka_18.out hb) 1 (by simp)).1
            have c2 := (cells_of_heap (blk_below Ka_18.out hb) 2 (by simp)).1
            have c3 := (cells_of_heap (blk_below Ka_18.out hb) 3 (by simp)).1
            simp only [List.getElem_toArray, List.getElem_cons_zero, List.getElem_cons_succ] at a0 a1 b1 c0 c1 c2 c3
            by_cases hrl : r < 4
            · have hrl' : (r : Int) < 4 := by omega
              have r0 : (0 : Int) ≤ (r : Int) := by omega
              have f0 := (hb.cell (p := ⟨bm, om + p, none⟩) hbm).trans d0
              have g0 := (hb.cell (p := ⟨bz2, oz + p, none⟩) hbz).trans e0
              obtain ⟨m0, m1, m2, m3⟩ := HMK.out r hrl
              obtain ⟨z0, z1, z2, z3⟩ := HZK.out r hrl
              have hza := HZP.out r (by rw [HLp.out]; exact hrl)
              have s0 := (hb.cell (p := ⟨bz3, oz3 + r * 4, none⟩) hz3).trans z0
              have s1 := (hb.cell (p := ⟨bz3, oz3 + r * 4 + 1, none⟩) hz3).trans z1
              have s2 := (hb.cell (p := ⟨bz3, oz3 + r * 4 + 2, none⟩) hz3).trans z2
              have s3 := (hb.cell (p := ⟨bz3, oz3 + r * 4 + 3, none⟩) hz3).trans z3
              have t0 := (hb.cell (p := ⟨bm3, om3 + r * 4, none⟩) hm3).trans m0
              have t1 := (hb.cell (p := ⟨bm3, om3 + r * 4 + 1, none⟩) hm3).trans m1
              have t2 := (hb.cell (p := ⟨bm3, om3 + r * 4 + 2, none⟩) hm3).trans m2
              have t3 := (hb.cell (p := ⟨bm3, om3 + r * 4 + 3, none⟩) hm3).trans m3
              rw [hza] at s0 s1 s2 s3
              have HB2 := Lib.hid hb
              clear m0 m1 m2 m3 z0 z1 z2 z3 hza hb
              by_cases hpi : p = i ∧ r = q
              · rw [if_pos hpi] at s0 s1 s2 s3
                simp only at s0 s1 s2 s3
                have e1 : ((p : Int) == (i : Int)) = true := by simp; have := hpi.1; omega
                have e2 : ((r : Int) == (q : Int)) = true := by simp; have := hpi.2; omega
                have HPI := Lib.hid hpi
                clear hpi t0 t1 t2 t3
                go_upto_region 23 with (fail)
                go_cut [123] (fun s wx => s = .bool false ∧ Below W2.heap.size W2 wx)
                case first =>
                  go_quiet (fail)
                  go_wp2
                  go_meet
                  exact ⟨rfl, below_drewN (Below.refl _ _) _⟩
                case rest =>
                  obtain ⟨rfl, hb⟩ := hcut
                  have HB3 := Lib.hid (HB2.out.trans (hb.mono HB2.out.size))
                  clear hb a0 a1 b1 c0 c1 c2 c3 s0 s1 s2 s3 f0 g0
                  go_wp2
                  go_roundw
                  case rel => exact ⟨r + 1, by omega, by go_num, HB3.out⟩
                  case measure => simp [intOf]; omega
              · rw [if_neg hpi] at s0 s1 s2 s3
                obtain ⟨y, hy⟩ : ∃ y, y = acD (lD L p) r := ⟨_, rfl⟩
                rw [← hy] at s0 s1 s2 s3 t0 t1 t2 t3
                have HPI := Lib.hid hpi
                clear hpi hy
                by_cases hpe : p = i
                · have e1 : ((p : Int) == (i : Int)) = true := by simp; omega
                  have e2 : ((r : Int) == (q : Int)) = false := by simp; exact fun e => HPI.out ⟨hpe, by omega⟩
                  clear hpe
                  go_upto_region 25 with (fail)
                  go_cut [140] (fun s wx => s = .bool false ∧ Below W2.heap.size W2 wx)
                  case first =>
                    go_quiet (fail)
                    go_wp2
                    go_meet
                    exact ⟨rfl, below_drewN (Below.refl _ _) _⟩
                  case rest =>
                    obtain ⟨rfl, hb⟩ := hcut
                    have HB3 := Lib.hid (HB2.out.trans (hb.mono HB2.out.size))
                    clear hb a0 a1 b1 c0 c1 c2 c3 s0 s1 s2 s3 t0 t1 t2 t3 f0 g0
                    go_wp2
                    go_roundw
                    case rel => exact ⟨r + 1, by omega, by go_num, HB3.out⟩
                    case measure => simp [intOf]; omega
                · have e1 : ((p : Int) == (i : Int)) = false := by simp; omega
                  clear hpe
                  go_upto_region 25 with (fail)
                  go_cut [140] (fun s wx => s = .bool false ∧ Below W2.heap.size W2 wx)
                  case first =>
                    go_quiet (fail)
                    go_wp2
                    go_meet
                    exact ⟨rfl, below_drewN (Below.refl _ _) _⟩
                  case rest =>
                    obtain ⟨rfl, hb⟩ := hcut
                    have HB3 := Lib.hid (HB2.out.trans (hb.mono HB2.out.size))
                    clear hb a0 a1 b1 c0 c1 c2 c3 s0 s1 s2 s3 t0 t1 t2 t3 f0 g0
                    go_wp2
                    go_roundw
                    case rel => exact ⟨r + 1, by omega, by go_num, HB3.out⟩
                    case measure => simp [intOf]; omega
            · obtain rfl : r = 4 := by omega
              have HB3 := Lib.hid hb
              clear hb
              go_wp2
              go_roundw
              case rel => exact ⟨p + 1, by omega, by go_num, HB3.out⟩
              case measure => simp [intOf]; omega
        · obtain rfl : p = N := by omega
          have HB3 := Lib.hid (HB18.out.trans (hb.mono HB18.out.size))
          clear hb
          go_wp2
          go_ret
          exact ⟨rfl, HB3.out⟩

end Go.Proofs.YtleheibpgngmiaaDoor
