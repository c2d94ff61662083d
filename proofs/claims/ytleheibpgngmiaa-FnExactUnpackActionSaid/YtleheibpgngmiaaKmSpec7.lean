/- DERIVED. The reference's UnpackKeymap: the keymap whose bytes a list is. -/
import Derived.Test.YtleheibpgngmiaaKmSpec6
namespace Go.Proofs.Ytleheibpgngmiaa
open Go.RowKit

def unA (zs : List Int) (p : Nat) : Ac × Bool := unpackV [zs.getD p 0, zs.getD (p + 1) 0, zs.getD (p + 2) 0]
def unRow (zs : List Int) (p : Nat) : Nat → List Ac
  | 0 => []
  | k + 1 => unRow zs p k ++ [(unA zs (p + 3 * k)).1]
def unOkR (zs : List Int) (p : Nat) : Nat → Bool
  | 0 => true
  | k + 1 => unOkR zs p k && (unA zs (p + 3 * k)).2
def unL (zs : List Int) (K : Nat) : Nat → List (List Ac)
  | 0 => []
  | j + 1 => unL zs K j ++ [unRow zs (2 + 3 * K * j) K]
def unOkL (zs : List Int) (K : Nat) : Nat → Bool
  | 0 => true
  | j + 1 => unOkL zs K j && unOkR zs (2 + 3 * K * j) K
def unG (zs : List Int) (K N : Nat) : Kmr := if unOkL zs K N = true ∧ okKm K (unL zs K N) = true then ⟨K, unL zs K N, true⟩ else ⟨0, [], false⟩
def unK (zs : List Int) : Kmr := if 2 ≤ zs.length ∧ zs.length = 2 + 3 * (zs.getD 0 0).toNat * (zs.getD 1 0).toNat then unG zs (zs.getD 0 0).toNat (zs.getD 1 0).toNat else ⟨0, [], false⟩
theorem unRow_len (zs : List Int) (p : Nat) : ∀ k, (unRow zs p k).length = k
  | 0 => rfl
  | k + 1 => by rw [unRow, List.length_append, unRow_len zs p k]; rfl
theorem unL_len (zs : List Int) (K : Nat) : ∀ j, (unL zs K j).length = j
  | 0 => rfl
  | j + 1 => by rw [unL, List.length_append, unL_len zs K j]; rfl
theorem unL_rows (zs : List Int) (K : Nat) : ∀ j, ∀ l ∈ unL zs K j, l.length = K
  | 0, l, h => by simp [unL] at h
  | j + 1, l, h => by
    rw [unL, List.mem_append] at h
    rcases h with h | h
    · exact unL_rows zs K j l h
    · rw [List.mem_singleton.1 h]; exact unRow_len _ _ _
theorem unOkR_no {zs : List Int} {p k : Nat} (h : (unA zs (p + 3 * k)).2 = false) : ∀ m, k < m → unOkR zs p m = false
  | 0, hm => absurd hm (Nat.not_lt_zero _)
  | m + 1, hm => by
    rcases Nat.lt_or_ge k m with h2 | h2
    · rw [unOkR, unOkR_no h m h2, Bool.false_and]
    · obtain rfl : k = m := by omega
      rw [unOkR, h, Bool.and_false]
theorem unOkL_no {zs : List Int} {K j : Nat} (h : unOkR zs (2 + 3 * K * j) K = false) : ∀ m, j < m → unOkL zs K m = false
  | 0, hm => absurd hm (Nat.not_lt_zero _)
  | m + 1, hm => by
    rcases Nat.lt_or_ge j m with h2 | h2
    · rw [unOkL, unOkL_no h m h2, Bool.false_and]
    · obtain rfl : j = m := by omega
      rw [unOkL, h, Bool.and_false]
theorem unG_no {zs : List Int} {K N j : Nat} (hj : j < N) (h : unOkR zs (2 + 3 * K * j) K = false) : unG zs K N = ⟨0, [], false⟩ := by
  unfold unG
  rw [if_neg (fun e => by rw [unOkL_no h N hj] at e; exact absurd e.1 (by decide))]
theorem specUnpackAction_n (v : Value) (zs : List Int) (r : Ac × Bool) (hr : r = unpackV zs) (w : World) (hl : zs.length ≤ maxLen) (hz : ∀ z ∈ zs, 0 ≤ z ∧ z < 256) (h : Rd w v (zs.map (.int .u8))) : Calls Try.prog 35 #[v] w fun e w' => e = .returned (.tuple #[acv r.1.k r.1.c r.1.m r.1.n, .bool r.2]) ∧ Below w.heap.size w w' := by
  rw [hr]; exact specUnpackAction_any v zs w hl hz h

set_option maxRecDepth 100000 in
set_option maxHeartbeats 8000000 in
theorem specUnpackKeymap_any (a : Option Addr) (n cap : Nat) (zs : List Int) (w : World) (hn : n = zs.length) (hl : zs.length ≤ maxLen) (hcap : zs.length ≤ cap) (hz : ∀ z ∈ zs, 0 ≤ z ∧ z < 256) (h : Rd w (.slice a n cap) (zs.map (.int .u8))) :
    Calls Try.prog 40 #[.slice a n cap] w (KmOut (unK zs) w) := by
  subst hn
  obtain ⟨i0, hi, hz0, hz1, hz2⟩ := info_parts info_ac
  obtain ⟨i1, hI1, hy0, hy1, hy2⟩ := info_parts info_acs
  obtain ⟨r, hr⟩ : ∃ r, r = unK zs := ⟨_, rfl⟩
  rw [← hr]
  obtain ⟨V, hV⟩ : ∃ V, V = w.alloc (.cells #[.int .i64 0, .slice none 0 0] 26) := ⟨_, rfl⟩
  have HG0 := Lib.hid (show V.heap[w.heap.size]? = some (.cells #[.int .i64 0, .slice none 0 0] 26 (0, 0)) by rw [hV]; exact heap_alloc_new w _)
  have HB0 := Lib.hid (show Below w.heap.size w V by rw [hV]; exact (Below.refl _ _).alloc (Nat.le_refl _) _)
  have HS0 := Lib.hid (show V.heap.size = w.heap.size + 1 by rw [hV]; simp)
  have HV2 := Lib.hid hV
  have HNil := Lib.hid (show ∀ wx, Below w.heap.size w wx → r = ⟨0, [], false⟩ → KmOut r w (.returned (.tuple #[kmv 0 (.slice none 0 0), .bool false])) (putW wx w.heap.size 0 [.int .i64 0, .slice none 0 0]) from fun wx hx h => by
    rw [h]
    exact ⟨none, 0, _, rfl, OwB.done (OwB.start (World.ownsRow_nil _ _ _ _)) rfl, putW_below (by omega) _ _ _ hx⟩)
  clear hV
  unfold maxLen at hl
  obtain ⟨n, hnl⟩ : ∃ n, n = zs.length := ⟨_, rfl⟩
  have HNL := Lib.hid hnl
  rw [← hnl] at hl hcap ⊢
  have HR := Lib.hid hr
  have HZ := Lib.hid hz
  by_cases hn2 : n < 2
  · have HRr := Lib.hid (show r = ⟨0, [], false⟩ by rw [HR.out, unK, if_neg (fun e => by omega)])
    clear h hnl hr hz
    obtain ⟨y0, q0⟩ := cells_of_heap HG0.out 0 (by simp)
    obtain ⟨y1, q1⟩ := cells_of_heap HG0.out 1 (by simp)
    go_enter Try.func40, Try.ntmps40
    go_upto_region 1 with (fail)
    rw [← HV2.out]
    have hd : decide ((n : Int) < 2) = true := by simp; omega
    go_quiet (fail)
    go_wp2
    clear hd
    clear y0 q0 y1 q1
    obtain ⟨wf, hwf⟩ : ∃ x, x = putW (V.drewN nq) (w.heap.size) 0 [.int .i64 0, .slice none 0 0] := ⟨_, rfl⟩
    have kf := putW_all [.int .i64 0, .slice none 0 0] (show (V.drewN nq).heap[w.heap.size]? = some (.cells #[.int .i64 0, .slice none 0 0] 26 (0, 0)) from HG0.out) rfl
    have bf := putW_below (b := w.heap.size) (by first | omega | simp) [.int .i64 0, .slice none 0 0] 0 _ (below_drewN HB0.out nq)
    have of := HNil.out _ (below_drewN HB0.out nq) HRr.out
    rw [← hwf] at kf bf of
    have cf := hwf.symm
    simp only [putW, Nat.reduceAdd] at cf
    rw [cf]
    clear cf hwf
    have f0 := (cells_of_heap kf 0 (by simp)).1
    have f1 := (cells_of_heap kf 1 (by simp)).1
    simp only [List.getElem_toArray, List.getElem_cons_zero, List.getElem_cons_succ] at f0 f1
    refine bodyPost_ret (v := .tuple #[kmv 0 (.slice none 0 0), .bool false]) (by simp [results, Try.results40, go_sem, f0, f1]) rfl of
  · rcases h.cases with ⟨hx, _⟩ | ⟨hx, b, off, cap', hs, hlt, hc⟩
    · exfalso; rw [List.map_eq_nil_iff] at hx; rw [hx] at hnl; simp at hnl; omega
    · obtain ⟨rfl, rfl⟩ := by simpa using hs
      have hbyte : ∀ j, j < n → w.cell? ⟨b, off + j, none⟩ = some (.int .u8 (zs.getD j 0)) ∧ 0 ≤ zs.getD j 0 ∧ zs.getD j 0 < 256 := by
        intro j hj
        have hj' : j < zs.length := by omega
        rw [List.getD_eq_getElem?_getD, List.getElem?_eq_getElem hj']
        refine ⟨?_, hz _ (List.getElem_mem hj')⟩
        rw [hc j (by rw [List.length_map]; exact hj'), List.getElem_map]
        rfl
      obtain ⟨d0, e0, e1⟩ := hbyte 0 (by omega)
      obtain ⟨d1, e2, e3⟩ := hbyte 1 (by omega)
      obtain ⟨K, hK⟩ : ∃ K, K = (zs.getD 0 0).toNat := ⟨_, rfl⟩
      obtain ⟨N, hN⟩ : ∃ N, N = (zs.getD 1 0).toNat := ⟨_, rfl⟩
      have hz0 : zs.getD 0 0 = (K : Int) := by omega
      have hz1 : zs.getD 1 0 = (N : Int) := by omega
      rw [hz0] at d0 e1
      rw [hz1] at d1 e3
      have hK2 : K < 256 := by omega
      have hN2 : N < 256 := by omega
      rw [unK, ← hK, ← hN, ← hnl] at hr
      have HBy := Lib.hid hbyte
      have HLT := Lib.hid hlt
      have hKN : 3 * K * N ≤ 3 * 255 * 255 := Nat.mul_le_mul (Nat.mul_le_mul_left 3 (by omega)) (by omega)
      obtain ⟨P, hP⟩ : ∃ P, P = 3 * K * N := ⟨_, rfl⟩
      rw [← hP] at hKN hr
      have hPi : 3 * (K : Int) * (N : Int) = (P : Int) := by rw [hP]; simp
      have wK : IntKind.i64.wrap (K : Int) = K := IntWalk.i64_in _ ⟨by omega, by omega⟩
      have wN : IntKind.i64.wrap (N : Int) = N := IntWalk.i64_in _ ⟨by omega, by omega⟩
      have w3K : IntKind.i64.wrap (3 * (K : Int)) = 3 * (K : Int) := IntWalk.i64_in _ ⟨by omega, by omega⟩
      have wP : IntKind.i64.wrap (P : Int) = P := IntWalk.i64_in _ ⟨by omega, by omega⟩
      have w2P : IntKind.i64.wrap (2 + (P : Int)) = 2 + (P : Int) := IntWalk.i64_in _ ⟨by omega, by omega⟩
      have hd : decide ((n : Int) < 2) = false := by simp; omega
      have f0 := (HB0.out.cell (p := ⟨b, off, none⟩) hlt).trans d0
      have f1 := (HB0.out.cell (p := ⟨b, off + 1, none⟩) hlt).trans d1
      have hn0 : (0 : Int) < (n : Int) := by omega
      have hn1 : (1 : Int) < (n : Int) := by omega
      have HK := Lib.hid hz0
      have HN := Lib.hid hz1
      have HPE := Lib.hid hP
      clear h hx hs hc hz hbyte d0 d1 e0 e1 e2 e3 hK hN hz0 hz1 hlt hP hnl
      by_cases hlen : n = 2 + P
      · have hq : ((n : Int) == 2 + (P : Int)) = true := by simp; omega
        have hr2 : r = unG zs K N := by rw [hr, if_pos ⟨by omega, hlen⟩]
        have HR2 := Lib.hid hr2
        have HLN := Lib.hid hlen
        clear hr hr2 hlen
        go_enter Try.func40, Try.ntmps40
        go_upto_region 1 with (fail)
        rw [← HV2.out]
        go_quiet (fail)
        obtain ⟨V1, hV1⟩ : ∃ x, x = V.drewN nq := ⟨_, rfl⟩
        have hb1 : Below V.heap.size V V1 := by rw [hV1]; exact below_drewN (Below.refl _ _) _
        have hs1 : V1.heap.size = V.heap.size := by rw [hV1]; rfl
        rw [← hV1]
        have HB1 := Lib.hid (HB0.out.trans (hb1.mono HB0.out.size))
        have HG1 := Lib.hid ((hb1.block w.heap.size (by rw [HS0.out]; omega)).trans HG0.out)
        have HS1 := Lib.hid (show V1.heap.size = w.heap.size + 1 by rw [hs1, HS0.out])
        have g0 := (hb1.cell (p := ⟨b, off, none⟩) (Nat.lt_of_lt_of_le HLT.out HB0.out.size)).trans f0
        have g1 := (hb1.cell (p := ⟨b, off + 1, none⟩) (Nat.lt_of_lt_of_le HLT.out HB0.out.size)).trans f1
        clear hV1 hb1 hs1 f0 f1
        go_upto_region 5 with (fail)
        obtain ⟨gm, hgm⟩ : ∃ g, g = V1.heap.size := ⟨_, rfl⟩
        obtain ⟨U, hU⟩ : ∃ U, U = V1.alloc (.cells #[.int .i64 K, .slice none 0 0] 26) := ⟨_, rfl⟩
        have hgm1 : gm = V1.heap.size := hgm
        have hbU : Below V1.heap.size V1 U := by rw [hU]; exact (Below.refl _ _).alloc (Nat.le_refl _) _
        have HGm := Lib.hid (show U.heap[gm]? = some (.cells #[.int .i64 K, .slice none 0 0] 26 (0, 0)) by rw [hU, hgm1]; exact heap_alloc_new _ _)
        have HSU := Lib.hid (show U.heap.size = gm + 1 by rw [hU, hgm1]; simp)
        have HBU := Lib.hid (HB1.out.trans (hbU.mono HB1.out.size))
        have HGU := Lib.hid ((hbU.block w.heap.size (by rw [HS1.out]; omega)).trans HG1.out)
        have HGW := Lib.hid (show w.heap.size < gm by rw [hgm, HS1.out]; omega)
        rw [← hU, ← hgm]
        have hq3 : ((n : Int) != 2 + (P : Int)) = false := by rw [bne, hq]; rfl
        rw [hq3]
        clear hU hgm1 hbU g0 g1 wP w2P w3K hq hd hPi hgm hq3
        go_wp2
        go_loopw [3, 5, 6, 7, 8, 9, 10] (fun _ p i _ _ _ _ wr => ∃ (j : Nat) (us : List Value) (fps : List (List Nat)) (a : Option Addr) (c : Nat), j ≤ N ∧ i = .int .i64 j ∧ p = .int .i64 ((2 + 3 * K * j : Nat) : Int) ∧ wr.heap[gm]? = some (.cells #[.int .i64 K, .slice a j c] 26 (0, 0)) ∧ LoB wr U.heap.size (.slice a j c) j us (unL zs K j) fps ∧ unOkL zs K j = true ∧ Below gm U wr) (fun _ _ i _ _ _ _ _ => N - (intOf i).toNat)
        case atStart => exact ⟨0, [], [], none, 0, Nat.zero_le _, rfl, rfl, HGm.out, OwB.start (World.ownsRow_nil _ _ _ _), rfl, Below.refl _ _⟩
        case round =>
          obtain ⟨j, us, fps, a, c, hj, rfl, rfl, hgm, hob, hok, hb⟩ := hrel
          obtain ⟨W1, hW1⟩ : ∃ x, x = wr := ⟨_, rfl⟩
          subst hW1
          have hbw := HBU.out.trans (hb.mono (Nat.le_of_lt HGW.out))
          have hgms : gm < W1.heap.size := (Array.getElem?_eq_some_iff.mp hgm).1
          obtain ⟨p0, hp0⟩ : ∃ p, p = 2 + 3 * K * j := ⟨_, rfl⟩
          rw [← hp0]
          have f1 := (hbw.cell (p := ⟨b, off + 1, none⟩) HLT.out).trans (HBy.out 1 (by omega)).1
          rw [HN.out] at f1
          have hn1 : (1 : Int) < (n : Int) := by omega
          by_cases hlt' : j < N
          · have hpn : p0 + 3 * K ≤ n := by
              have h1 : 3 * K * (j + 1) ≤ 3 * K * N := Nat.mul_le_mul_left _ hlt'
              have h2 : 3 * K * (j + 1) = 3 * K * j + 3 * K := Nat.mul_succ _ _
              have := HPE.out
              have := HLN.out
              omega
            have HGmW := Lib.hid hgm
            have HOB := Lib.hid hob
            have HOK := Lib.hid hok
            have HB := Lib.hid hb
            have HBW := Lib.hid hbw
            have HP0 := Lib.hid hp0
            have HPN := Lib.hid hpn
            clear hgm hob hok hb hbw hp0 hpn
            go_upto_region 9 with (fail)
            obtain ⟨A0, hA0⟩ : ∃ x, x = W1.alloc (.cells #[] 31) := ⟨_, rfl⟩
            obtain ⟨ga, hga⟩ : ∃ g, g = W1.heap.size := ⟨_, rfl⟩
            have hbA : Below W1.heap.size W1 A0 := by rw [hA0]; exact (Below.refl _ _).alloc (Nat.le_refl _) _
            have hoA : A0.ownsRow W1.heap.size 31 4 (.slice (some ⟨ga, 0, none⟩) 0 0) 0 (flatAc (unRow zs p0 0)) := by rw [hA0, hga]; exact World.ownsRow_lit (e := 31) (size := 4) W1 #[] 0 (Nat.le_refl _) (by simp [maxLen]) rfl
            rw [← hA0, ← hga]
            have HBA := Lib.hid hbA
            have HOA := Lib.hid hoA
            clear hA0 hbA hoA f1 hga
            go_wp2
            go_loopw [3, 5, 7, 8, 9, 10] (fun _ p row kk _ _ wr => ∃ (k : Nat) (ra : Option Addr) (rc : Nat), k ≤ K ∧ kk = .int .i64 k ∧ p = .int .i64 ((p0 + 3 * k : Nat) : Int) ∧ row = .slice ra k rc ∧ wr.ownsRow W1.heap.size 31 4 (.slice ra k rc) k (flatAc (unRow zs p0 k)) ∧ unOkR zs p0 k = true ∧ Below W1.heap.size W1 wr) (fun _ _ _ kk _ _ _ => K - (intOf kk).toNat)
            case atStart => exact ⟨0, _, _, Nat.zero_le _, rfl, rfl, rfl, HOA.out, rfl, HBA.out⟩
            case round =>
              obtain ⟨k, ra, rc, hk, rfl, rfl, rfl, ho, hokr, hb2⟩ := hrel
              obtain ⟨W2, hW2⟩ : ∃ x, x = wr := ⟨_, rfl⟩
              subst hW2
              have m0 := (cells_of_heap ((hb2.block gm hgms).trans HGmW.out) 0 (by simp)).1
              have HO2 := Lib.hid ho
              have HOKR := Lib.hid hokr
              have HB2 := Lib.hid hb2
              clear ho hokr hb2
              by_cases hkl : k < K
              · obtain ⟨q, hq⟩ : ∃ q, q = p0 + 3 * k := ⟨_, rfl⟩
                rw [← hq]
                have hqn : q + 3 ≤ n := by have := HPN.out; omega
                have hq1 : (q : Int) + 3 ≤ (cap : Int) := by omega
                have hq2 : (q : Int) + 3 ≤ (n : Int) := by omega
                have HQ := Lib.hid hq
                have HQN := Lib.hid hqn
                have hcq : ¬ cap = q := by omega
                clear hq hqn
                obtain ⟨R, hR⟩ : ∃ R, R = unA zs q := ⟨_, rfl⟩
                have hbw2 : Below w.heap.size w W2 := HBW.out.trans (HB2.out.mono HBW.out.size)
                have hrd : Rd W2 (.slice (some ⟨b, off + q, none⟩) 3 (cap - q)) ([zs.getD q 0, zs.getD (q + 1) 0, zs.getD (q + 2) 0].map (.int .u8)) := by
                  refine ⟨_, _, rfl, .inr ⟨b, off + q, rfl, Nat.lt_of_lt_of_le HLT.out hbw2.size, fun x hx => ?_⟩⟩
                  have h0 := HQN.out
                  have hx3 : x = 0 ∨ x = 1 ∨ x = 2 := by simp at hx; omega
                  rcases hx3 with rfl | rfl | rfl
                  · exact (hbw2.cell (p := ⟨b, off + q, none⟩) HLT.out).trans (HBy.out q (by omega)).1
                  · exact (hbw2.cell (p := ⟨b, off + (q + 1), none⟩) HLT.out).trans (HBy.out (q + 1) (by omega)).1
                  · exact (hbw2.cell (p := ⟨b, off + (q + 2), none⟩) HLT.out).trans (HBy.out (q + 2) (by omega)).1
                have hby3 : ∀ z ∈ [zs.getD q 0, zs.getD (q + 1) 0, zs.getD (q + 2) 0], 0 ≤ z ∧ z < 256 := by
                  intro z hz
                  have h0 := HQN.out
                  simp only [List.mem_cons, List.not_mem_nil, or_false] at hz
                  rcases hz with rfl | rfl | rfl
                  · exact (HBy.out q (by omega)).2
                  · exact (HBy.out (q + 1) (by omega)).2
                  · exact (HBy.out (q + 2) (by omega)).2
                have HRA := Lib.hid hR
                have HBW2 := Lib.hid hbw2
                have HRd := Lib.hid hrd
                have HBy3 := Lib.hid hby3
                clear hR hbw2 hrd hby3
                go_wp2_with fail
                refine (specUnpackAction_n _ [zs.getD q 0, zs.getD (q + 1) 0, zs.getD (q + 2) 0] R HRA.out _ (by simp [maxLen]) HBy3.out HRd.out).mono ?_
                rintro e w5 ⟨rfl, hb5⟩
                obtain ⟨⟨ak, ac, am, an⟩, rb⟩ := R
                simp only
                have HB5 := Lib.hid (HB2.out.trans (hb5.mono HB2.out.size))
                have HO5 := Lib.hid (owns_below HO2.out hb5)
                clear hb5 m0
                go_upto_region 13 with (fail)
                obtain ⟨W6, hW6⟩ : ∃ x, x = w5.alloc (.cells #[.int .i64 ak, .int .i64 ac, .int .i64 am, .int .i64 an] 31) := ⟨_, rfl⟩
                obtain ⟨gx, hgx⟩ : ∃ g, g = w5.heap.size := ⟨_, rfl⟩
                have hb6 : Below w5.heap.size w5 W6 := by rw [hW6]; exact (Below.refl _ _).alloc (Nat.le_refl _) _
                have hx6 : Bxd W6 gx [.int .i64 ak, .int .i64 ac, .int .i64 am, .int .i64 an] := by rw [hW6, hgx]; exact Bxd.new _ _ _
                rw [← hW6, ← hgx]
                have HB6 := Lib.hid (HB5.out.trans (hb6.mono HB5.out.size))
                have HO6 := Lib.hid (owns_below HO5.out hb6)
                have HX6 := Lib.hid hx6
                clear hW6 hgx hb6 hx6
                cases rb
                · have hno : unOkR zs p0 K = false := unOkR_no (k := k) (by rw [← HQ.out, ← HRA.out]) K hkl
                  have HRr := Lib.hid (show r = ⟨0, [], false⟩ by rw [HR2.out]; exact unG_no hlt' (by rw [← HP0.out]; exact hno))
                  have HBX := Lib.hid (HBW.out.trans (HB6.out.mono HBW.out.size))
                  have HGX := Lib.hid ((HB6.out.block w.heap.size (by have := HGW.out; omega)).trans ((HB.out.block w.heap.size HGW.out).trans HGU.out))
                  obtain ⟨y0, q0⟩ := cells_of_heap HGX.out 0 (by simp)
                  obtain ⟨y1, q1⟩ := cells_of_heap HGX.out 1 (by simp)
                  clear hno
                  go_wp2
                  clear y0 q0 y1 q1
                  obtain ⟨wf, hwf⟩ : ∃ x, x = putW (W6) (w.heap.size) 0 [.int .i64 0, .slice none 0 0] := ⟨_, rfl⟩
                  have kf := putW_all [.int .i64 0, .slice none 0 0] HGX.out rfl
                  have bf := putW_below (b := w.heap.size) (by first | omega | simp) [.int .i64 0, .slice none 0 0] 0 _ HBX.out
                  have of := HNil.out _ HBX.out HRr.out
                  rw [← hwf] at kf bf of
                  have cf := hwf.symm
                  simp only [putW, Nat.reduceAdd] at cf
                  rw [cf]
                  clear cf hwf
                  have f0 := (cells_of_heap kf 0 (by simp)).1
                  have f1 := (cells_of_heap kf 1 (by simp)).1
                  simp only [List.getElem_toArray, List.getElem_cons_zero, List.getElem_cons_succ] at f0 f1
                  refine bodyPost_ret (v := .tuple #[kmv 0 (.slice none 0 0), .bool false]) (by simp [results, Try.results40, go_sem, f0, f1]) rfl of
                · have hst : flatAc (unRow zs p0 (k + 1)) = flatAc (unRow zs p0 k) ++ [.int .i64 ak, .int .i64 ac, .int .i64 am, .int .i64 an] := by
                    rw [unRow, flatAc_snoc, ← HQ.out, ← HRA.out]
                  have hok2 : unOkR zs p0 (k + 1) = true := by rw [unOkR, HOKR.out, ← HQ.out, ← HRA.out]; rfl
                  have HST := Lib.hid hst
                  have HOK2 := Lib.hid hok2
                  have x0 := HX6.out.at 0 _ rfl
                  have x1 := HX6.out.at 1 _ rfl
                  have x2 := HX6.out.at 2 _ rfl
                  have x3 := HX6.out.at 3 _ rfl
                  have b63 : k + 1 ≤ maxLen := by unfold maxLen; omega
                  have b47 : (k + 1) * 32 ≤ 140737488355328 := by omega
                  have hsz1 : W1.heap.size ≤ W6.heap.size + 1 := Nat.le_succ_of_le HB6.out.size
                  clear hst hok2
                  go_wp2_with (at_builtin; refine wpList_append_owns rfl _ _ 33 rfl W1.heap.size 31 i0 (.agg #[.int .i64 0, .int .i64 0, .int .i64 0, .int .i64 0]) 4 32 Try.underlying33 hi hz0 hz1 hz2 rfl (by decide) _ _ _ rfl (HO6.out.alloc _) _ _ _ _ rfl (World.ownsRow_lit (e := 31) (size := 4) W6 #[.int .i64 ak, .int .i64 ac, .int .i64 am, .int .i64 an] 1 (Nat.le_refl _) (by simp [maxLen]) rfl) (by simp [Value.oneCell']) b63 b47 (by simp; exact hsz1) ?_)
                  intro v7 w7 hown7 hgrow
                  obtain ⟨a7, c7, rfl⟩ := owns_shape hown7
                  have HB7 := Lib.hid ((HB6.out.alloc HB6.out.size _).grown hgrow (by simp; exact hsz1) (fun q hq => (HO6.out.lt q hq).1))
                  have HO7 := Lib.hid (show w7.ownsRow W1.heap.size 31 4 (.slice a7 (k + 1) c7) (k + 1) (flatAc (unRow zs p0 (k + 1))) by rw [HST.out]; exact hown7)
                  have hat : ((q : Int) + 3) = ((p0 + 3 * (k + 1) : Nat) : Int) := by have := HQ.out; omega
                  have HAT := Lib.hid hat
                  clear hown7 hgrow b63 b47 hsz1 x0 x1 x2 x3 hat
                  go_wp2
                  go_roundw
                  case rel => exact ⟨k + 1, a7, c7, by omega, by go_num, by rw [HAT.out], rfl, HO7.out, HOK2.out, HB7.out⟩
                  case measure => simp [intOf]; omega
              · obtain rfl : k = K := by omega
                have hlr := unRow_len zs p0 k
                have hgm2 := (HB2.out.block gm hgms).trans HGmW.out
                obtain ⟨o1, p1⟩ := cells_of_heap hgm2 1 (by simp)
                have hob2 := HOB.out.below HB2.out
                have hWU : U.heap.size ≤ W1.heap.size := HB.out.size
                have c63 : j + 1 ≤ maxLen := by unfold maxLen; omega
                have c47 : (j + 1) * 24 ≤ 140737488355328 := by omega
                have hsz1 : U.heap.size ≤ W2.heap.size + 1 := Nat.le_succ_of_le (Nat.le_trans hWU HB2.out.size)
                have HGm2 := Lib.hid hgm2
                have HOB2 := Lib.hid hob2
                have HLR := Lib.hid hlr
                have HWU := Lib.hid hWU
                clear hgm2 hob2 hlr hWU
                go_wp2_with (at_builtin; refine wpList_append_lies _ rfl _ _ 24 rfl U.heap.size 33 i1 (.slice none 0 0) 1 24 Try.underlying24 hI1 hy0 hy1 hy2 rfl (by decide) (.slice a j c) j us rfl (HOB2.out.own.alloc _) ⟨W2.heap.size, 0, none⟩ 1 1 [.slice ra k rc] rfl rfl (World.news_of_block (cs := #[.slice ra k rc]) (t := 33) (fr := (0, 0)) (heap_alloc_new W2 _)) (by simp [Value.oneCell']) (by decide) c63 c47 (by simp; exact hsz1) (W2.heap.size + 1) (by simp) ?_)
                intro g2 cap2 w4 hown2 hgrow2 hat2 hlt4
                have hb4 : Below U.heap.size W2 w4 := (((Below.refl W2.heap.size W2).alloc (Nat.le_refl _) _).mono (Nat.le_trans HWU.out HB2.out.size)).grown hgrow2 (by simp; exact hsz1) (fun q hq => (HOB2.out.own.lt q hq).1)
                have hgmU : gm < U.heap.size := by rw [HSU.out]; omega
                have hgm4 := (hb4.block gm hgmU).trans HGm2.out
                obtain ⟨o14, p14⟩ := cells_of_heap hgm4 1 (by simp)
                have hof : OwF (W2.alloc (.cells #[.slice ra k rc] 33)) U.heap.size 31 4 (.slice ra k rc) (unRow zs p0 k).length ((unRow zs p0 k).flatMap Ac.cells) (ownFp (.slice ra k rc)) := by
                  rw [HLR.out]
                  exact ⟨owns_base (HO2.out.alloc _) HWU.out, rfl⟩
                have hob3 := HOB2.out.below (w' := W2.alloc (.cells #[.slice ra k rc] 33)) ((Below.refl _ _).alloc (Nat.le_refl _) _)
                have hpush := OwB.push hob3 (unL_len zs k j).symm hof (fun x hx hx' => by have h1 := ((OwF.mk' HO2.out).rng x hx).1; have h2 := (HOB.out.rng x hx').2; omega) hown2 hgrow2 (by rcases hat2 with h1 | h1; exact .inl h1; exact .inr (by rw [h1]; simp))
                rw [HP0.out, show unL zs k j ++ [unRow zs (2 + 3 * k * j) k] = unL zs k (j + 1) from rfl] at hpush
                have hfin := hpush.turn (Turn.of_grown (grown_set w4 gm 1 (.slice (some ⟨g2, 0, none⟩) (j + 1) cap2))) (fun x hx hx' => by rw [List.mem_singleton] at hx'; have := (hpush.rng x hx).1; omega)
                have hgm5 := heap_setCell_same w4 gm 1 _ _ (.slice (some ⟨g2, 0, none⟩) (j + 1) cap2) hgm4
                have hb5 : Below gm U (w4.setCell ⟨gm, 1, none⟩ (.slice (some ⟨g2, 0, none⟩) (j + 1) cap2)) := ((HB.out.trans (HB2.out.mono (Nat.le_of_lt hgms))).trans (hb4.mono (by omega))).setCell (Nat.le_refl _) _
                have hokL : unOkL zs k (j + 1) = true := by rw [unOkL, HOK.out, ← HP0.out, HOKR.out]; rfl
                have hpp : (p0 : Int) + 3 * (k : Int) = ((2 + 3 * k * (j + 1) : Nat) : Int) := by have h1 := HP0.out; have h2 : 3 * k * (j + 1) = 3 * k * j + 3 * k := Nat.mul_succ _ _; omega
                have HF := Lib.hid hfin
                have HGm5 := Lib.hid hgm5
                have HB5 := Lib.hid hb5
                have HOKL := Lib.hid hokL
                have HPP := Lib.hid hpp
                clear hof hob3 hpush hfin hgm5 hb5 hokL hpp hgm4 hb4 hgmU hown2 hgrow2 hat2 hlt4 o1 p1 m0 c63 c47 hsz1
                go_wp2
                go_roundw
                case rel => exact ⟨j + 1, _, _, some ⟨g2, 0, none⟩, cap2, by omega, by go_num, by rw [HPP.out], by simpa using HGm5.out, HF.out, HOKL.out, HB5.out⟩
                case measure => simp [intOf]; omega
          · obtain rfl : j = N := by omega
            obtain ⟨L, hL⟩ : ∃ L, L = unL zs K j := ⟨_, rfl⟩
            have hLl : j = L.length := by rw [hL, unL_len]
            have hLr : ∀ l ∈ L, l.length ≤ maxLen := fun l hl => by rw [hL] at hl; rw [unL_rows zs K j l hl]; unfold maxLen; omega
            obtain ⟨o, ho⟩ : ∃ o, o = okKm K L := ⟨_, rfl⟩
            have hr3 : r = if o = true then ⟨K, L, true⟩ else ⟨0, [], false⟩ := by
              rw [HR2.out, unG, hok, ← hL, ← ho]
              cases o <;> simp
            rw [← hL] at hob
            have hos := OwB.done hob hLl
            have HOS := Lib.hid (show LoS W1 U.heap.size (.slice a L.length c) L (ownFp (.slice a j c) ++ fps.flatten) by rw [← hLl]; exact OwB.done hob hLl)
            have HR3 := Lib.hid hr3
            have HO := Lib.hid ho
            have HLL := Lib.hid hLl
            have HLR := Lib.hid hLr
            have HGm3 := Lib.hid hgm
            have HBW := Lib.hid hbw
            have HGr := Lib.hid ((hb.block w.heap.size HGW.out).trans HGU.out)
            have m0 := (cells_of_heap hgm 0 (by simp)).1
            have m1 := (cells_of_heap hgm 1 (by simp)).1
            clear hos hob hr3 ho hLl hLr hgm hbw hb hok hL hp0
            go_wp2_with fail
            refine (specIsKeymap_q K _ L o HO.out _ (by rw [← HLL.out]; unfold maxLen; omega) HLR.out (by rw [HLL.out]; exact HOS.out.rd)).mono ?_
            rintro e w5 ⟨rfl, hb5⟩
            have HB5 := Lib.hid (HBW.out.trans (hb5.mono HBW.out.size))
            have hgm5 := (hb5.block gm hgms).trans HGm3.out
            have HGr5 := Lib.hid ((hb5.block w.heap.size (by have := HGW.out; omega)).trans HGr.out)
            have HOS5 := Lib.hid (HOS.out.below hb5)
            clear m0 m1
            have m0 := (cells_of_heap hgm5 0 (by simp)).1
            have m1 := (cells_of_heap hgm5 1 (by simp)).1
            obtain ⟨y0, q0⟩ := cells_of_heap HGr5.out 0 (by simp)
            obtain ⟨y1, q1⟩ := cells_of_heap HGr5.out 1 (by simp)
            clear hb5 hgm5
            cases o
            · have HRr := Lib.hid (show r = ⟨0, [], false⟩ from HR3.out)
              go_wp2
              clear m0 m1 y0 q0 y1 q1
              obtain ⟨wf, hwf⟩ : ∃ x, x = putW (w5) (w.heap.size) 0 [.int .i64 0, .slice none 0 0] := ⟨_, rfl⟩
              have kf := putW_all [.int .i64 0, .slice none 0 0] HGr5.out rfl
              have bf := putW_below (b := w.heap.size) (by first | omega | simp) [.int .i64 0, .slice none 0 0] 0 _ HB5.out
              have of := HNil.out _ HB5.out HRr.out
              rw [← hwf] at kf bf of
              have cf := hwf.symm
              simp only [putW, Nat.reduceAdd] at cf
              rw [cf]
              clear cf hwf
              have f0 := (cells_of_heap kf 0 (by simp)).1
              have f1 := (cells_of_heap kf 1 (by simp)).1
              simp only [List.getElem_toArray, List.getElem_cons_zero, List.getElem_cons_succ] at f0 f1
              refine bodyPost_ret (v := .tuple #[kmv 0 (.slice none 0 0), .bool false]) (by simp [results, Try.results40, go_sem, f0, f1]) rfl of
            · have HRr := Lib.hid (show r = ⟨K, L, true⟩ from HR3.out)
              go_wp2
              clear m0 m1 y0 q0 y1 q1
              obtain ⟨wf, hwf⟩ : ∃ x, x = putW (w5) (w.heap.size) 0 [.int .i64 K, .slice a j c] := ⟨_, rfl⟩
              have kf := putW_all [.int .i64 K, .slice a j c] HGr5.out rfl
              have bf := putW_below (b := w.heap.size) (by first | omega | simp) [.int .i64 K, .slice a j c] 0 _ HB5.out
              have of := HOS5.out.put (b := w.heap.size) [.int .i64 K, .slice a j c] 0 (by have := HGW.out; have := HSU.out; omega)
              rw [← hwf] at kf bf of
              have cf := hwf.symm
              simp only [putW, Nat.reduceAdd] at cf
              rw [cf]
              clear cf hwf
              have f0 := (cells_of_heap kf 0 (by simp)).1
              have f1 := (cells_of_heap kf 1 (by simp)).1
              simp only [List.getElem_toArray, List.getElem_cons_zero, List.getElem_cons_succ] at f0 f1
              refine bodyPost_ret (v := .tuple #[kmv K (.slice a j c), .bool true]) (by simp [results, Try.results40, go_sem, f0, f1]) rfl (by rw [HRr.out]; exact ⟨a, c, _, by rw [← HLL.out], of.base HBU.out.size, bf⟩)
      · have hq : ((n : Int) == 2 + (P : Int)) = false := by simp; omega
        have HRr := Lib.hid (show r = ⟨0, [], false⟩ by rw [hr, if_neg (fun e => hlen e.2)])
        clear hr
        obtain ⟨y0, q0⟩ := cells_of_heap HG0.out 0 (by simp)
        obtain ⟨y1, q1⟩ := cells_of_heap HG0.out 1 (by simp)
        go_enter Try.func40, Try.ntmps40
        go_upto_region 1 with (fail)
        rw [← HV2.out]
        go_quiet (fail)
        go_wp2
        clear y0 q0 y1 q1 f0 f1
        obtain ⟨wf, hwf⟩ : ∃ x, x = putW (V.drewN nq) (w.heap.size) 0 [.int .i64 0, .slice none 0 0] := ⟨_, rfl⟩
        have kf := putW_all [.int .i64 0, .slice none 0 0] (show (V.drewN nq).heap[w.heap.size]? = some (.cells #[.int .i64 0, .slice none 0 0] 26 (0, 0)) from HG0.out) rfl
        have bf := putW_below (b := w.heap.size) (by first | omega | simp) [.int .i64 0, .slice none 0 0] 0 _ (below_drewN HB0.out nq)
        have of := HNil.out _ (below_drewN HB0.out nq) HRr.out
        rw [← hwf] at kf bf of
        have cf := hwf.symm
        simp only [putW, Nat.reduceAdd] at cf
        rw [cf]
        clear cf hwf
        have f0 := (cells_of_heap kf 0 (by simp)).1
        have f1 := (cells_of_heap kf 1 (by simp)).1
        simp only [List.getElem_toArray, List.getElem_cons_zero, List.getElem_cons_succ] at f0 f1
        refine bodyPost_ret (v := .tuple #[kmv 0 (.slice none 0 0), .bool false]) (by simp [results, Try.results40, go_sem, f0, f1]) rfl of

end Go.Proofs.Ytleheibpgngmiaa
