/- DERIVED. The program's unpackLayer: the actions whose bytes a list is. · The program's UnpackKeymap: the keymap whose bytes a list is. -/
import Derived.Test.YtleheibpgngmiaaDoorKmSpec7
import Derived.Test.YtleheibpgngmiaaDoorKmImpl
import Derived.Test.YtleheibpgngmiaaDoorKmImpl5
import Derived.Deep.DeepCutAuto
namespace Go.Proofs.YtleheibpgngmiaaDoor
open Go.RowKit

/-- What unpackLayer tells of K actions' bytes. -/
def unLay (xs : List Int) (K : Nat) : List Ac × Bool := if unOkR xs 0 K = true then (unRow xs 0 K, true) else ([], false)
theorem unLay_no {xs : List Int} {K k : Nat} (hk : k < K) (h : (unA xs (0 + 3 * k)).2 = false) : unLay xs K = ([], false) := by
  rw [unLay, unOkR_no h K hk]; rfl

set_option maxRecDepth 100000 in
set_option maxHeartbeats 8000000 in
theorem unpackLayer_any (a : Option Addr) (K cap n : Nat) (xs : List Int) (w : World) (hn : n = 3 * K) (hl : xs.length = n) (hK : K ≤ 255) (hcap : n ≤ cap) (hz : ∀ z ∈ xs, 0 ≤ z ∧ z < 256) (h : Rd w (.slice a n cap) (xs.map (.int .u8))) :
    Calls Tryd.prog 54 #[.slice a n cap] w fun e w' => ∃ ra rc, e = .returned (.tuple #[.slice ra (unLay xs K).1.length rc, .bool (unLay xs K).2]) ∧ w'.ownsRow w.heap.size 37 4 (.slice ra (unLay xs K).1.length rc) (unLay xs K).1.length (flatAc (unLay xs K).1) ∧ Below w.heap.size w w' := by
  obtain ⟨i0, hi, hz0, hz1, hz2⟩ := info_parts info_ac
  obtain ⟨R, hR⟩ : ∃ R, R = unLay xs K := ⟨_, rfl⟩
  rw [← hR]
  have HR := Lib.hid hR
  have HN := Lib.hid hn
  have HL := Lib.hid hl
  have HZ := Lib.hid hz
  have H := Lib.hid h
  have hn3 : n ≤ 765 := by omega
  clear hR hn hl hz h
  go_enter Tryd.func54, Tryd.ntmps54
  go_wp2
  go_loopw [4, 5, 6, 7] (fun o i _ _ wr => ∃ (k : Nat) (ra : Option Addr) (rc : Nat), k ≤ K ∧ i = .int .i64 ((3 * k : Nat) : Int) ∧ o = .slice ra k rc ∧ wr.ownsRow w.heap.size 37 4 (.slice ra k rc) k (flatAc (unRow xs 0 k)) ∧ unOkR xs 0 k = true ∧ Below w.heap.size w wr) (fun _ i _ _ _ => n - (intOf i).toNat)
  case atStart => exact ⟨0, none, 0, Nat.zero_le _, rfl, rfl, World.ownsRow_nil _ _ _ _, rfl, Below.refl _ _⟩
  case round =>
    obtain ⟨k, ra, rc, hk, rfl, rfl, ho, hok, hb⟩ := hrel
    have HO := Lib.hid ho
    have HOK := Lib.hid hok
    have HB := Lib.hid hb
    clear ho hok hb
    obtain ⟨q, hq⟩ : ∃ q, q = 3 * k := ⟨_, rfl⟩
    rw [← hq]
    have HQ := Lib.hid hq
    by_cases hkl : k < K
    · have hqn : q + 3 ≤ n := by have := HN.out; omega
      have hlt' : (q : Int) < (n : Int) := by omega
      have hq1 : (q : Int) + 3 ≤ (cap : Int) := by omega
      have hq2 : (q : Int) + 3 ≤ (n : Int) := by omega
      have hcq : ¬ cap = q := by omega
      have HQN := Lib.hid hqn
      rcases H.out.cases with ⟨hx, _⟩ | ⟨hx, b, off, cap', hs, hlt, hc⟩
      · exfalso; rw [List.map_eq_nil_iff] at hx; have := HL.out; rw [hx] at this; simp at this; omega
      · obtain ⟨rfl, -, rfl⟩ := by simpa using hs
        have hbyte : ∀ j, j < n → wr.cell? ⟨b, off + j, none⟩ = some (.int .u8 (xs.getD j 0)) ∧ 0 ≤ xs.getD j 0 ∧ xs.getD j 0 < 256 := by
          intro j hj
          have hj' : j < xs.length := by have := HL.out; omega
          rw [List.getD_eq_getElem?_getD, List.getElem?_eq_getElem hj']
          refine ⟨?_, HZ.out _ (List.getElem_mem hj')⟩
          rw [HB.out.cell (p := ⟨b, off + j, none⟩) hlt, hc j (by rw [List.length_map]; exact hj'), List.getElem_map]
          rfl
        have hrd : Rd wr (.slice (some ⟨b, off + q, none⟩) 3 (cap - q)) ([xs.getD q 0, xs.getD (q + 1) 0, xs.getD (q + 2) 0].map (.int .u8)) := by
          refine ⟨_, _, rfl, .inr ⟨b, off + q, rfl, Nat.lt_of_lt_of_le hlt HB.out.size, fun x hx => ?_⟩⟩
          have hx3 : x = 0 ∨ x = 1 ∨ x = 2 := by simp at hx; omega
          rcases hx3 with rfl | rfl | rfl
          · exact (hbyte q (by omega)).1
          · exact (hbyte (q + 1) (by omega)).1
          · exact (hbyte (q + 2) (by omega)).1
        have hby3 : ∀ z ∈ [xs.getD q 0, xs.getD (q + 1) 0, xs.getD (q + 2) 0], 0 ≤ z ∧ z < 256 := by
          intro z hz
          simp only [List.mem_cons, List.not_mem_nil, or_false] at hz
          rcases hz with rfl | rfl | rfl
          · exact (hbyte q (by omega)).2
          · exact (hbyte (q + 1) (by omega)).2
          · exact (hbyte (q + 2) (by omega)).2
        obtain ⟨S, hS⟩ : ∃ S, S = unA xs q := ⟨_, rfl⟩
        have HRA := Lib.hid hS
        have HRd := Lib.hid hrd
        have HBy3 := Lib.hid hby3
        clear hS hrd hby3 hbyte hs hlt hc hx hq hqn
        go_wp2_with fail
        refine (implUnpackAction_q _ [xs.getD q 0, xs.getD (q + 1) 0, xs.getD (q + 2) 0] S HRA.out _ (by simp [maxLen]) HBy3.out HRd.out).mono ?_
        rintro e w5 ⟨rfl, hb5⟩
        obtain ⟨⟨ak, ac, am, an⟩, rb⟩ := S
        simp only
        have HB5 := Lib.hid (HB.out.trans (hb5.mono HB.out.size))
        have HO5 := Lib.hid (owns_below HO.out hb5)
        clear hb5
        go_upto_region 6 with (fail)
        obtain ⟨W6, hW6⟩ : ∃ x, x = w5.alloc (.cells #[.int .i64 ak, .int .i64 ac, .int .i64 am, .int .i64 an] 37) := ⟨_, rfl⟩
        obtain ⟨gx, hgx⟩ : ∃ g, g = w5.heap.size := ⟨_, rfl⟩
        have hb6 : Below w5.heap.size w5 W6 := by rw [hW6]; exact (Below.refl _ _).alloc (Nat.le_refl _) _
        have hx6 : Bxd W6 gx [.int .i64 ak, .int .i64 ac, .int .i64 am, .int .i64 an] := by rw [hW6, hgx]; exact Bxd.new _ _ _
        rw [← hW6, ← hgx]
        have HB6 := Lib.hid (HB5.out.trans (hb6.mono HB5.out.size))
        have HO6 := Lib.hid (owns_below HO5.out hb6)
        have HX6 := Lib.hid hx6
        clear hW6 hgx hb6 hx6
        cases rb
        · have hno : R = ([], false) := by rw [HR.out]; exact unLay_no hkl (by rw [Nat.zero_add, ← HQ.out, ← HRA.out])
          subst hno
          go_wp2
          go_ret2
          exact ⟨none, 0, rfl, World.ownsRow_nil _ _ _ _, HB6.out⟩
        · have hst : flatAc (unRow xs 0 (k + 1)) = flatAc (unRow xs 0 k) ++ [.int .i64 ak, .int .i64 ac, .int .i64 am, .int .i64 an] := by
            rw [unRow, flatAc_snoc, Nat.zero_add, ← HQ.out, ← HRA.out]
          have hok2 : unOkR xs 0 (k + 1) = true := by rw [unOkR, HOK.out, Nat.zero_add, ← HQ.out, ← HRA.out]; rfl
          have HST := Lib.hid hst
          have HOK2 := Lib.hid hok2
          have x0 := HX6.out.at 0 _ rfl
          have x1 := HX6.out.at 1 _ rfl
          have x2 := HX6.out.at 2 _ rfl
          have x3 := HX6.out.at 3 _ rfl
          have b63 : k + 1 ≤ maxLen := by unfold maxLen; omega
          have b47 : (k + 1) * 32 ≤ 140737488355328 := by omega
          have hsz1 : w.heap.size ≤ W6.heap.size + 1 := Nat.le_succ_of_le HB6.out.size
          clear hst hok2
          go_wp2_with (at_builtin; refine wpList_append_owns rfl _ _ 54 rfl w.heap.size 37 i0 (.agg #[.int .i64 0, .int .i64 0, .int .i64 0, .int .i64 0]) 4 32 Tryd.underlying54 hi hz0 hz1 hz2 rfl (by decide) _ _ _ rfl (HO6.out.alloc _) _ _ _ _ rfl (World.ownsRow_lit (e := 37) (size := 4) W6 #[.int .i64 ak, .int .i64 ac, .int .i64 am, .int .i64 an] 1 (Nat.le_refl _) (by simp [maxLen]) rfl) (by simp [Value.oneCell']) b63 b47 (by simp; exact hsz1) ?_)
          intro v7 w7 hown7 hgrow
          obtain ⟨a7, c7, rfl⟩ := owns_shape hown7
          have HB7 := Lib.hid ((HB6.out.alloc HB6.out.size _).grown hgrow (by simp; exact hsz1) (fun q hq => (HO6.out.lt q hq).1))
          have HO7 := Lib.hid (show w7.ownsRow w.heap.size 37 4 (.slice a7 (k + 1) c7) (k + 1) (flatAc (unRow xs 0 (k + 1))) by rw [HST.out]; exact hown7)
          have HAT := Lib.hid (show ((q : Int) + 3) = ((3 * (k + 1) : Nat) : Int) by have := HQ.out; omega)
          clear hown7 hgrow b63 b47 hsz1 x0 x1 x2 x3
          go_wp2
          go_roundw
          case rel => exact ⟨k + 1, a7, c7, by omega, by rw [HAT.out], rfl, HO7.out, HOK2.out, HB7.out⟩
          case measure => simp [intOf]; omega
    · obtain rfl : k = K := by omega
      have hqn : q = n := by have := HN.out; omega
      have hR2 : R = (unRow xs 0 k, true) := by rw [HR.out, unLay, if_pos HOK.out]
      subst hR2
      have HUL := Lib.hid (unRow_len xs 0 k)
      subst hqn
      clear hq
      go_wp2
      go_ret2
      exact ⟨ra, rc, by rw [HUL.out]; rfl, by rw [HUL.out]; exact HO.out, HB.out⟩
end Go.Proofs.YtleheibpgngmiaaDoor

namespace Go.Proofs.YtleheibpgngmiaaDoor
open Go.RowKit

theorem unA_same {xs zs : List Int} {p K : Nat} (h : ∀ i, i < 3 * K → xs.getD i 0 = zs.getD (p + i) 0) {k : Nat} (hk : k < K) : unA xs (0 + 3 * k) = unA zs (p + 3 * k) := by
  unfold unA
  rw [h (0 + 3 * k) (by omega), h (0 + 3 * k + 1) (by omega), h (0 + 3 * k + 2) (by omega)]
  simp only [Nat.zero_add, Nat.add_assoc]
theorem unRow_same {xs zs : List Int} {p K : Nat} (h : ∀ i, i < 3 * K → xs.getD i 0 = zs.getD (p + i) 0) : ∀ k, k ≤ K → unRow xs 0 k = unRow zs p k ∧ unOkR xs 0 k = unOkR zs p k
  | 0, _ => ⟨rfl, rfl⟩
  | k + 1, hk => by
    obtain ⟨h1, h2⟩ := unRow_same h k (by omega)
    rw [unRow, unRow, unOkR, unOkR, h1, h2, unA_same h (by omega)]
    exact ⟨rfl, rfl⟩
theorem getD_part (zs : List Int) (p m i : Nat) (hi : i < m) : ((zs.drop p).take m).getD i 0 = zs.getD (p + i) 0 := by
  rw [List.getD_eq_getElem?_getD, List.getD_eq_getElem?_getD, List.getElem?_take, if_pos hi, List.getElem?_drop]
/-- What unpackLayer tells of one layer's bytes. -/
theorem unLay_part (zs : List Int) (p K : Nat) : unLay ((zs.drop p).take (3 * K)) K = if unOkR zs p K = true then (unRow zs p K, true) else ([], false) := by
  obtain ⟨h1, h2⟩ := unRow_same (xs := (zs.drop p).take (3 * K)) (zs := zs) (p := p) (K := K) (fun i hi => getD_part zs p _ i hi) K (Nat.le_refl _)
  rw [unLay, h1, h2]

set_option maxRecDepth 100000 in
set_option maxHeartbeats 8000000 in
theorem implUnpackKeymap_any (a : Option Addr) (n cap : Nat) (zs : List Int) (w : World) (hn : n = zs.length) (hl : zs.length ≤ maxLen) (hcap : zs.length ≤ cap) (hz : ∀ z ∈ zs, 0 ≤ z ∧ z < 256) (h : Rd w (.slice a n cap) (zs.map (.int .u8))) :
    Calls Tryd.prog 31 #[.slice a n cap] w (KmOut (unK zs) w) := by
  subst hn
  obtain ⟨i1, hI1, hy0, hy1, hy2⟩ := info_parts info_acs
  obtain ⟨r, hr⟩ : ∃ r, r = unK zs := ⟨_, rfl⟩
  rw [← hr]
  obtain ⟨V, hV⟩ : ∃ V, V = w.alloc (.cells #[.int .i64 0, .slice none 0 0] 31) := ⟨_, rfl⟩
  have HG0 := Lib.hid (show V.heap[w.heap.size]? = some (.cells #[.int .i64 0, .slice none 0 0] 31 (0, 0)) by rw [hV]; exact heap_alloc_new w _)
  have HB0 := Lib.hid (show Below w.heap.size w V by rw [hV]; exact (Below.refl _ _).alloc (Nat.le_refl _) _)
  have HS0 := Lib.hid (show V.heap.size = w.heap.size + 1 by rw [hV]; simp)
  have HV2 := Lib.hid hV
  have HNil := Lib.hid (show ∀ wx, Below w.heap.size w wx → r = ⟨0, [], false⟩ → KmOut r w (.returned (.tuple #[kmv 0 (.slice none 0 0), .bool false])) (putW wx w.heap.size 0 [.int .i64 0, .slice none 0 0]) from fun wx hx h => by
    rw [h]
    exact ⟨none, 0, _, rfl, OwB.done (OwB.start (World.ownsRow_nil _ _ _ _)) rfl, putW_below (by omega) _ _ _ hx⟩)
  clear hV
  unfold maxLen at hl
  obtain ⟨n, hnl⟩ : ∃ n, n = zs.length := ⟨_, rfl⟩
  have HNL := Lib.hid hnl
  rw [← hnl] at hl hcap ⊢
  have HR := Lib.hid hr
  by_cases hn2 : n < 2
  · have HRr := Lib.hid (show r = ⟨0, [], false⟩ by rw [HR.out, unK, if_neg (fun e => by omega)])
    clear h hnl hr hz
    obtain ⟨y0, q0⟩ := cells_of_heap HG0.out 0 (by simp)
    obtain ⟨y1, q1⟩ := cells_of_heap HG0.out 1 (by simp)
    go_enter Tryd.func31, Tryd.ntmps31
    go_upto_region 1 with (fail)
    rw [← HV2.out]
    have hd : (n : Int) < 2 := by omega
    go_wp2
    clear hd y0 q0 y1 q1
    obtain ⟨wf, hwf⟩ : ∃ x, x = putW (V) (w.heap.size) 0 [.int .i64 0, .slice none 0 0] := ⟨_, rfl⟩
    have kf := putW_all [.int .i64 0, .slice none 0 0] HG0.out rfl
    have bf := putW_below (b := w.heap.size) (by first | omega | simp) [.int .i64 0, .slice none 0 0] 0 _ HB0.out
    have of := HNil.out _ HB0.out HRr.out
    rw [← hwf] at kf bf of
    have cf := hwf.symm
    simp only [putW, Nat.reduceAdd] at cf
    rw [cf]
    clear cf hwf
    have f0 := (cells_of_heap kf 0 (by simp)).1
    have f1 := (cells_of_heap kf 1 (by simp)).1
    simp only [List.getElem_toArray, List.getElem_cons_zero, List.getElem_cons_succ] at f0 f1
    refine bodyPost_ret (v := .tuple #[kmv 0 (.slice none 0 0), .bool false]) (by simp [results, Tryd.results31, go_sem, f0, f1]) rfl of
  · rcases h.cases with ⟨hx, _⟩ | ⟨hx, b, off, cap', hs, hlt, hc⟩
    · exfalso; rw [List.map_eq_nil_iff] at hx; rw [hx] at hnl; simp at hnl; omega
    · obtain ⟨rfl, rfl⟩ := by simpa using hs
      have hbyte : ∀ j, j < n → w.cell? ⟨b, off + j, none⟩ = some (.int .u8 (zs.getD j 0)) ∧ 0 ≤ zs.getD j 0 ∧ zs.getD j 0 < 256 := by
        intro j hj
        have hj' : j < zs.length := by omega
        rw [List.getD_eq_getElem?_getD, List.getElem?_eq_getElem hj']
        refine ⟨?_, hz _ (List.getElem_mem hj')⟩
        rw [hc j (by rw [List.length_map]; exact hj'), List.getElem_map]
        rfl
      obtain ⟨d0, e0, e1⟩ := hbyte 0 (by omega)
      obtain ⟨d1, e2, e3⟩ := hbyte 1 (by omega)
      obtain ⟨K, hK⟩ : ∃ K, K = (zs.getD 0 0).toNat := ⟨_, rfl⟩
      obtain ⟨N, hN⟩ : ∃ N, N = (zs.getD 1 0).toNat := ⟨_, rfl⟩
      have hz0 : zs.getD 0 0 = (K : Int) := by omega
      have hz1 : zs.getD 1 0 = (N : Int) := by omega
      rw [hz0] at d0 e1
      rw [hz1] at d1 e3
      have hK2 : K < 256 := by omega
      have hN2 : N < 256 := by omega
      rw [unK, ← hK, ← hN, ← hnl] at hr
      have HBy := Lib.hid hbyte
      have HLT := Lib.hid hlt
      have hKN : 3 * K * N ≤ 3 * 255 * 255 := Nat.mul_le_mul (Nat.mul_le_mul_left 3 (by omega)) (by omega)
      obtain ⟨P, hP⟩ : ∃ P, P = 3 * K * N := ⟨_, rfl⟩
      rw [← hP] at hKN hr
      have hPi : 3 * (K : Int) * (N : Int) = (P : Int) := by rw [hP]; simp
      have wK : IntKind.i64.wrap (K : Int) = K := IntWalk.i64_in _ ⟨by omega, by omega⟩
      have wN : IntKind.i64.wrap (N : Int) = N := IntWalk.i64_in _ ⟨by omega, by omega⟩
      have w3K : IntKind.i64.wrap (3 * (K : Int)) = 3 * (K : Int) := IntWalk.i64_in _ ⟨by omega, by omega⟩
      have wP : IntKind.i64.wrap (P : Int) = P := IntWalk.i64_in _ ⟨by omega, by omega⟩
      have hd : ¬ (n : Int) < 2 := by omega
      have f0 := (HB0.out.cell (p := ⟨b, off, none⟩) hlt).trans d0
      have f1 := (HB0.out.cell (p := ⟨b, off + 1, none⟩) hlt).trans d1
      have hn0 : (0 : Int) < (n : Int) := by omega
      have hn1 : (1 : Int) < (n : Int) := by omega
      have hn22 : (2 : Int) ≤ (n : Int) := by omega
      have HPE := Lib.hid hP
      clear h hx hs hc hz hbyte d0 d1 e0 e1 e2 e3 hK hN hz0 hz1 hlt hP hnl
      go_enter Tryd.func31, Tryd.ntmps31
      go_upto_region 3 with (fail)
      rw [← HV2.out]
      go_cut [4, 5, 6] (fun x4 x5 x6 wx => ∃ o C, x4 = .int .i64 (K : Nat) ∧ x5 = .int .i64 (N : Nat) ∧ x6 = .slice (some ⟨b, o, none⟩) (n - 2) C ∧ n - 2 ≤ C ∧ (C = 0 ∨ o = off + 2) ∧ Below V.heap.size V wx)
      case first =>
        by_cases hc2 : cap = 2
        · subst hc2
          go_region
          all_goals
            go_wp2
            go_meet
            have hn2' : n = 2 := by omega
            subst hn2'
            exact ⟨off, 0, rfl, rfl, rfl, by omega, .inl rfl, (Below.refl _ _).drew⟩
        · go_region
          all_goals
            go_wp2
            go_meet
            exact ⟨off + 2, cap - 2, rfl, rfl, rfl, by omega, .inr rfl, (Below.refl _ _).drew⟩
      case rest =>
        obtain ⟨o, C, rfl, rfl, rfl, hC, ho, hb1⟩ := hcut
        obtain ⟨V1, hV1⟩ : ∃ x, x = wc := ⟨_, rfl⟩
        rw [← hV1] at hb1 ⊢
        have HB1 := Lib.hid (HB0.out.trans (hb1.mono HB0.out.size))
        have HG1 := Lib.hid ((hb1.block w.heap.size (by rw [HS0.out]; omega)).trans HG0.out)
        have HS1 := Lib.hid (show w.heap.size < V1.heap.size by have := hb1.size; have := HS0.out; omega)
        have HO := Lib.hid ho
        clear hV1 hb1 f0 f1 ho
        by_cases hlen : n = 2 + P
        · have hnP : n - 2 = P := by omega
          have hr2 : r = unG zs K N := by rw [hr, if_pos ⟨by omega, hlen⟩]
          have HR2 := Lib.hid hr2
          have HLN := Lib.hid hlen
          rw [hnP] at hC ⊢
          clear hr hr2 hlen hnP hd hn0 hn1 hn22
          go_upto_region 7 with (fail)
          obtain ⟨gm, hgm⟩ : ∃ g, g = V1.heap.size := ⟨_, rfl⟩
          obtain ⟨U, hU⟩ : ∃ U, U = V1.alloc (.cells #[.int .i64 K, .slice none 0 0] 31) := ⟨_, rfl⟩
          have hgm1 : gm = V1.heap.size := hgm
          have hbU : Below V1.heap.size V1 U := by rw [hU]; exact (Below.refl _ _).alloc (Nat.le_refl _) _
          have HGm := Lib.hid (show U.heap[gm]? = some (.cells #[.int .i64 K, .slice none 0 0] 31 (0, 0)) by rw [hU, hgm1]; exact heap_alloc_new _ _)
          have HSU := Lib.hid (show U.heap.size = gm + 1 by rw [hU, hgm1]; simp)
          have HBU := Lib.hid (HB1.out.trans (hbU.mono HB1.out.size))
          have HGU := Lib.hid ((hbU.block w.heap.size HS1.out).trans HG1.out)
          have HGW := Lib.hid (show w.heap.size < gm by rw [hgm]; exact HS1.out)
          rw [← hU, ← hgm]
          clear hU hgm1 hbU hgm hPi wP
          go_wp2
          go_loopw [8, 9, 10, 36] (fun _ _ _ i wr => ∃ (j : Nat) (us : List Value) (fps : List (List Nat)) (a : Option Addr) (c : Nat), j ≤ N ∧ i = .int .i64 j ∧ wr.heap[gm]? = some (.cells #[.int .i64 K, .slice a j c] 31 (0, 0)) ∧ LoB wr U.heap.size (.slice a j c) j us (unL zs K j) fps ∧ unOkL zs K j = true ∧ Below gm U wr) (fun _ _ _ i _ => N - (intOf i).toNat)
          case atStart => exact ⟨0, [], [], none, 0, Nat.zero_le _, rfl, HGm.out, OwB.start (World.ownsRow_nil _ _ _ _), rfl, Below.refl _ _⟩
          case round =>
            obtain ⟨j, us, fps, a, c, hj, rfl, hgm, hob, hok, hb⟩ := hrel
            obtain ⟨W1, hW1⟩ : ∃ x, x = wr := ⟨_, rfl⟩
            subst hW1
            have hbw := HBU.out.trans (hb.mono (Nat.le_of_lt HGW.out))
            have hgms : gm < W1.heap.size := (Array.getElem?_eq_some_iff.mp hgm).1
            by_cases hlt' : j < N
            · obtain ⟨lo, hlo⟩ : ∃ lo, lo = 3 * K * j := ⟨_, rfl⟩
              obtain ⟨hi, hhi⟩ : ∃ hi, hi = 3 * K * (j + 1) := ⟨_, rfl⟩
              have hdiff : hi = lo + 3 * K := by rw [hhi, hlo]; exact Nat.mul_succ _ _
              have hhiP : hi ≤ P := by rw [hhi, HPE.out]; exact Nat.mul_le_mul_left _ hlt'
              have hiC : (hi : Int) ≤ (C : Int) := by omega
              have hlohi : (lo : Int) ≤ (hi : Int) := by omega
              have eA : 3 * (K : Int) * (j : Int) = (lo : Int) := by rw [hlo]; simp
              have eB : 3 * (K : Int) * ((j : Int) + 1) = (hi : Int) := by rw [hhi]; simp
              have wj : IntKind.i64.wrap ((j : Int) + 1) = (j : Int) + 1 := IntWalk.i64_in _ ⟨by omega, by omega⟩
              have wlo : IntKind.i64.wrap (lo : Int) = lo := IntWalk.i64_in _ ⟨by omega, by omega⟩
              have whi : IntKind.i64.wrap (hi : Int) = hi := IntWalk.i64_in _ ⟨by omega, by omega⟩
              obtain ⟨p0, hp0⟩ : ∃ p, p = 2 + 3 * K * j := ⟨_, rfl⟩
              obtain ⟨S, hS⟩ : ∃ S, S = unLay ((zs.drop p0).take (3 * K)) K := ⟨_, rfl⟩
              have HS := Lib.hid hS
              have hxl : ((zs.drop p0).take (3 * K)).length = 3 * K := by
                rw [List.length_take, List.length_drop, ← HNL.out]
                have := HLN.out
                omega
              have hxz : ∀ z ∈ (zs.drop p0).take (3 * K), 0 ≤ z ∧ z < 256 := by
                intro z hz
                obtain ⟨x, hx, rfl⟩ := List.getElem_of_mem hz
                have h1 := getD_part zs p0 (3 * K) x (by omega)
                rw [List.getD_eq_getElem?_getD, List.getElem?_eq_getElem hx] at h1
                have h2 := (HBy.out (p0 + x) (by have := HLN.out; omega)).2
                rw [← h1] at h2
                exact h2
              have HXL := Lib.hid hxl
              have HXZ := Lib.hid hxz
              have HGmW := Lib.hid hgm
              have HOB := Lib.hid hob
              have HOK := Lib.hid hok
              have HB := Lib.hid hb
              have HBW := Lib.hid hbw
              have HP0 := Lib.hid hp0
              have HDiff := Lib.hid hdiff
              have HLo := Lib.hid hlo
              clear hgm hob hok hb hbw hS hxl hxz
              go_upto_region 10 with (fail)
              go_cut [9, 10] (fun x9 x10 wx => ∃ ra rc, x9 = .slice ra S.1.length rc ∧ x10 = .bool S.2 ∧ wx.ownsRow W1.heap.size 37 4 (.slice ra S.1.length rc) S.1.length (flatAc S.1) ∧ Below W1.heap.size W1 wx)
              case first =>
                by_cases hCl : C = lo
                · have hK0 : K = 0 := by omega
                  subst hK0
                  have hlo0 : lo = 0 := by rw [HLo.out]; simp
                  have hhi0 : hi = 0 := by omega
                  have hC0 : C = 0 := by omega
                  subst hlo0
                  subst hhi0
                  subst hC0
                  clear hlo hhi hp0 hdiff hCl
                  go_wp2_with fail
                  refine (unpackLayer_any _ 0 _ 0 ((zs.drop p0).take (3 * 0)) _ rfl HXL.out (by omega) (by omega) HXZ.out ⟨_, _, rfl, .inl (by simp)⟩).mono ?_
                  rw [← HS.out]
                  rintro e w5 ⟨ra, rc, rfl, ho5, hb5⟩
                  go_wp2
                  go_meet
                  exact ⟨ra, rc, rfl, rfl, ho5, hb5⟩
                · have hoff : o = off + 2 := by
                    rcases HO.out with h0 | h0
                    · exfalso; omega
                    · exact h0
                  have hrd : Rd W1 (.slice (some ⟨b, o + lo, none⟩) (hi - lo) (C - lo)) (((zs.drop p0).take (3 * K)).map (.int .u8)) := by
                    refine ⟨_, _, by rw [List.length_map, HXL.out, HDiff.out, Nat.add_sub_cancel_left], .inr ⟨b, o + lo, rfl, Nat.lt_of_lt_of_le HLT.out HBW.out.size, fun x hx => ?_⟩⟩
                    have hx' : x < 3 * K := by rw [List.length_map, HXL.out] at hx; exact hx
                    have h1 := getD_part zs p0 (3 * K) x hx'
                    rw [List.getD_eq_getElem?_getD, List.getElem?_eq_getElem (by rw [HXL.out]; exact hx')] at h1
                    rw [List.getElem_map]
                    have h2 := (HBy.out (p0 + x) (by have := HLN.out; omega)).1
                    rw [← h1] at h2
                    have h3 := (HBW.out.cell (p := ⟨b, off + (p0 + x), none⟩) HLT.out).trans h2
                    rw [show o + lo + x = off + (p0 + x) by have := HP0.out; have := HLo.out; omega]
                    exact h3
                  have HRd := Lib.hid hrd
                  have hKK : hi - lo = 3 * K := by omega
                  have HKK := Lib.hid hKK
                  clear hrd hoff hlo hhi hp0 hdiff hKK
                  go_wp2_with fail
                  refine (unpackLayer_any _ K _ _ ((zs.drop p0).take (3 * K)) _ HKK.out (by rw [HXL.out]; exact HKK.out.symm) (by omega) (by omega) HXZ.out HRd.out).mono ?_
                  rw [← HS.out]
                  rintro e w5 ⟨ra, rc, rfl, ho5, hb5⟩
                  go_wp2
                  go_meet
                  exact ⟨ra, rc, rfl, rfl, ho5, hb5⟩
              case rest =>
                obtain ⟨ra, rc, rfl, rfl, ho2, hb2⟩ := hcut
                obtain ⟨W2, hW2⟩ : ∃ x, x = wc := ⟨_, rfl⟩
                rw [← hW2] at ho2 hb2 ⊢
                have hS2 : S = if unOkR zs p0 K = true then (unRow zs p0 K, true) else ([], false) := by rw [HS.out, unLay_part]
                have HS2 := Lib.hid hS2
                have HO2 := Lib.hid ho2
                have HB2 := Lib.hid hb2
                clear hW2 hS2 ho2 hb2 hp0 hlo hhi hdiff eA eB wj wlo whi hiC hlohi
                obtain ⟨lS, okS⟩ := S
                simp only
                cases okS
                · have hno : unOkR zs p0 K = false := by
                    have := HS2.out
                    by_cases h0 : unOkR zs p0 K = true
                    · rw [if_pos h0] at this; simp at this
                    · simpa using h0
                  have HRr := Lib.hid (show r = ⟨0, [], false⟩ by rw [HR2.out]; exact unG_no hlt' (by rw [← HP0.out]; exact hno))
                  have HBX := Lib.hid (HBW.out.trans (HB2.out.mono HBW.out.size))
                  have HGX := Lib.hid ((HB2.out.block w.heap.size (by have := HGW.out; omega)).trans ((HB.out.block w.heap.size HGW.out).trans HGU.out))
                  obtain ⟨y0, q0⟩ := cells_of_heap HGX.out 0 (by simp)
                  obtain ⟨y1, q1⟩ := cells_of_heap HGX.out 1 (by simp)
                  clear hno
                  go_wp2
                  clear y0 q0 y1 q1
                  obtain ⟨wf, hwf⟩ : ∃ x, x = putW (W2) (w.heap.size) 0 [.int .i64 0, .slice none 0 0] := ⟨_, rfl⟩
                  have kf := putW_all [.int .i64 0, .slice none 0 0] HGX.out rfl
                  have bf := putW_below (b := w.heap.size) (by first | omega | simp) [.int .i64 0, .slice none 0 0] 0 _ HBX.out
                  have of := HNil.out _ HBX.out HRr.out
                  rw [← hwf] at kf bf of
                  have cf := hwf.symm
                  simp only [putW, Nat.reduceAdd] at cf
                  rw [cf]
                  clear cf hwf
                  have f0 := (cells_of_heap kf 0 (by simp)).1
                  have f1 := (cells_of_heap kf 1 (by simp)).1
                  simp only [List.getElem_toArray, List.getElem_cons_zero, List.getElem_cons_succ] at f0 f1
                  refine bodyPost_ret (v := .tuple #[kmv 0 (.slice none 0 0), .bool false]) (by simp [results, Tryd.results31, go_sem, f0, f1]) rfl of
                · have hyes : unOkR zs p0 K = true ∧ lS = unRow zs p0 K := by
                    have := HS2.out
                    by_cases h0 : unOkR zs p0 K = true
                    · rw [if_pos h0] at this; simp at this; exact ⟨h0, this⟩
                    · rw [if_neg h0] at this; simp at this
                  obtain ⟨hokr, rfl⟩ := hyes
                  have hlr := unRow_len zs p0 K
                  have HO3 := Lib.hid (show W2.ownsRow W1.heap.size 37 4 (.slice ra K rc) K (flatAc (unRow zs p0 K)) by have := HO2.out; rw [hlr] at this; exact this)
                  rw [hlr]
                  have hgm2 := (HB2.out.block gm hgms).trans HGmW.out
                  obtain ⟨o1, p1⟩ := cells_of_heap hgm2 1 (by simp)
                  have hob2 := HOB.out.below HB2.out
                  have hWU : U.heap.size ≤ W1.heap.size := HB.out.size
                  have c63 : j + 1 ≤ maxLen := by unfold maxLen; omega
                  have c47 : (j + 1) * 24 ≤ 140737488355328 := by omega
                  have hsz1 : U.heap.size ≤ W2.heap.size + 1 := Nat.le_succ_of_le (Nat.le_trans hWU HB2.out.size)
                  have HGm2 := Lib.hid hgm2
                  have HOB2 := Lib.hid hob2
                  have HLR := Lib.hid hlr
                  have HWU := Lib.hid hWU
                  have HOKR := Lib.hid hokr
                  clear hgm2 hob2 hlr hWU hokr
                  go_wp2_with (at_builtin; refine wpList_append_lies _ rfl _ _ 29 rfl U.heap.size 54 i1 (.slice none 0 0) 1 24 Tryd.underlying29 hI1 hy0 hy1 hy2 rfl (by decide) (.slice a j c) j us rfl (HOB2.out.own.alloc _) ⟨W2.heap.size, 0, none⟩ 1 1 [.slice ra K rc] rfl rfl (World.news_of_block (cs := #[.slice ra K rc]) (t := 54) (fr := (0, 0)) (heap_alloc_new W2 _)) (by simp [Value.oneCell']) (by decide) c63 c47 (by simp; exact hsz1) (W2.heap.size + 1) (by simp) ?_)
                  intro g2 cap2 w4 hown2 hgrow2 hat2 hlt4
                  have hb4 : Below U.heap.size W2 w4 := (((Below.refl W2.heap.size W2).alloc (Nat.le_refl _) _).mono (Nat.le_trans HWU.out HB2.out.size)).grown hgrow2 (by simp; exact hsz1) (fun q hq => (HOB2.out.own.lt q hq).1)
                  have hgmU : gm < U.heap.size := by rw [HSU.out]; omega
                  have hgm4 := (hb4.block gm hgmU).trans HGm2.out
                  obtain ⟨o14, p14⟩ := cells_of_heap hgm4 1 (by simp)
                  have hof : OwF (W2.alloc (.cells #[.slice ra K rc] 54)) U.heap.size 37 4 (.slice ra K rc) (unRow zs p0 K).length ((unRow zs p0 K).flatMap Ac.cells) (ownFp (.slice ra K rc)) := by
                    rw [HLR.out]
                    exact ⟨owns_base (HO3.out.alloc _) HWU.out, rfl⟩
                  have hob3 := HOB2.out.below (w' := W2.alloc (.cells #[.slice ra K rc] 54)) ((Below.refl _ _).alloc (Nat.le_refl _) _)
                  have hpush := OwB.push hob3 (unL_len zs K j).symm hof (fun x hx hx' => by have h1 := ((OwF.mk' HO3.out).rng x hx).1; have h2 := (HOB.out.rng x hx').2; omega) hown2 hgrow2 (by rcases hat2 with h1 | h1; exact .inl h1; exact .inr (by rw [h1]; simp))
                  rw [HP0.out, show unL zs K j ++ [unRow zs (2 + 3 * K * j) K] = unL zs K (j + 1) from rfl] at hpush
                  have hfin := hpush.turn (Turn.of_grown (grown_set w4 gm 1 (.slice (some ⟨g2, 0, none⟩) (j + 1) cap2))) (fun x hx hx' => by rw [List.mem_singleton] at hx'; have := (hpush.rng x hx).1; omega)
                  have hgm5 := heap_setCell_same w4 gm 1 _ _ (.slice (some ⟨g2, 0, none⟩) (j + 1) cap2) hgm4
                  have hb5 : Below gm U (w4.setCell ⟨gm, 1, none⟩ (.slice (some ⟨g2, 0, none⟩) (j + 1) cap2)) := ((HB.out.trans (HB2.out.mono (Nat.le_of_lt hgms))).trans (hb4.mono (by omega))).setCell (Nat.le_refl _) _
                  have hokL : unOkL zs K (j + 1) = true := by rw [unOkL, HOK.out, ← HP0.out, HOKR.out]; rfl
                  have HF := Lib.hid hfin
                  have HGm5 := Lib.hid hgm5
                  have HB5 := Lib.hid hb5
                  have HOKL := Lib.hid hokL
                  clear hof hob3 hpush hfin hgm5 hb5 hokL hgm4 hb4 hgmU hown2 hgrow2 hat2 hlt4 o1 p1 c63 c47 hsz1
                  go_wp2
                  go_roundw
                  case rel => exact ⟨j + 1, _, _, some ⟨g2, 0, none⟩, cap2, by omega, by go_num, by simpa using HGm5.out, HF.out, HOKL.out, HB5.out⟩
                  case measure => simp [intOf]; omega
            · obtain rfl : j = N := by omega
              obtain ⟨L, hL⟩ : ∃ L, L = unL zs K j := ⟨_, rfl⟩
              have hLl : j = L.length := by rw [hL, unL_len]
              have hLr : ∀ l ∈ L, l.length ≤ maxLen := fun l hl => by rw [hL] at hl; rw [unL_rows zs K j l hl]; unfold maxLen; omega
              obtain ⟨ov, hov⟩ : ∃ o, o = okKm K L := ⟨_, rfl⟩
              have hr3 : r = if ov = true then ⟨K, L, true⟩ else ⟨0, [], false⟩ := by
                rw [HR2.out, unG, hok, ← hL, ← hov]
                cases ov <;> simp
              rw [← hL] at hob
              have HOS := Lib.hid (show LoS W1 U.heap.size (.slice a L.length c) L (ownFp (.slice a j c) ++ fps.flatten) by rw [← hLl]; exact OwB.done hob hLl)
              have HR3 := Lib.hid hr3
              have HOv := Lib.hid hov
              have HLL := Lib.hid hLl
              have HLR := Lib.hid hLr
              have HGm3 := Lib.hid hgm
              have HBW := Lib.hid hbw
              have HGr := Lib.hid ((hb.block w.heap.size HGW.out).trans HGU.out)
              have m0 := (cells_of_heap hgm 0 (by simp)).1
              have m1 := (cells_of_heap hgm 1 (by simp)).1
              clear hob hr3 hov hLl hLr hgm hbw hb hok hL
              go_wp2_with fail
              refine (implIsKeymap_q K _ L ov HOv.out _ (by rw [← HLL.out]; unfold maxLen; omega) HLR.out (by rw [HLL.out]; exact HOS.out.rd)).mono ?_
              rintro e w5 ⟨rfl, hb5⟩
              have HB5 := Lib.hid (HBW.out.trans (hb5.mono HBW.out.size))
              have hgm5 := (hb5.block gm hgms).trans HGm3.out
              have HGr5 := Lib.hid ((hb5.block w.heap.size (by have := HGW.out; omega)).trans HGr.out)
              have HOS5 := Lib.hid (HOS.out.below hb5)
              clear m0 m1
              have m0 := (cells_of_heap hgm5 0 (by simp)).1
              have m1 := (cells_of_heap hgm5 1 (by simp)).1
              obtain ⟨y0, q0⟩ := cells_of_heap HGr5.out 0 (by simp)
              obtain ⟨y1, q1⟩ := cells_of_heap HGr5.out 1 (by simp)
              clear hb5 hgm5
              cases ov
              · have HRr := Lib.hid (show r = ⟨0, [], false⟩ from HR3.out)
                go_wp2
                clear m0 m1 y0 q0 y1 q1
                obtain ⟨wf, hwf⟩ : ∃ x, x = putW (w5) (w.heap.size) 0 [.int .i64 0, .slice none 0 0] := ⟨_, rfl⟩
                have kf := putW_all [.int .i64 0, .slice none 0 0] HGr5.out rfl
                have bf := putW_below (b := w.heap.size) (by first | omega | simp) [.int .i64 0, .slice none 0 0] 0 _ HB5.out
                have of := HNil.out _ HB5.out HRr.out
                rw [← hwf] at kf bf of
                have cf := hwf.symm
                simp only [putW, Nat.reduceAdd] at cf
                rw [cf]
                clear cf hwf
                have f0 := (cells_of_heap kf 0 (by simp)).1
                have f1 := (cells_of_heap kf 1 (by simp)).1
                simp only [List.getElem_toArray, List.getElem_cons_zero, List.getElem_cons_succ] at f0 f1
                refine bodyPost_ret (v := .tuple #[kmv 0 (.slice none 0 0), .bool false]) (by simp [results, Tryd.results31, go_sem, f0, f1]) rfl of
              · have HRr := Lib.hid (show r = ⟨K, L, true⟩ from HR3.out)
                go_wp2
                clear m0 m1 y0 q0 y1 q1
                obtain ⟨wf, hwf⟩ : ∃ x, x = putW (w5) (w.heap.size) 0 [.int .i64 K, .slice a j c] := ⟨_, rfl⟩
                have kf := putW_all [.int .i64 K, .slice a j c] HGr5.out rfl
                have bf := putW_below (b := w.heap.size) (by first | omega | simp) [.int .i64 K, .slice a j c] 0 _ HB5.out
                have of := HOS5.out.put (b := w.heap.size) [.int .i64 K, .slice a j c] 0 (by have := HGW.out; have := HSU.out; omega)
                rw [← hwf] at kf bf of
                have cf := hwf.symm
                simp only [putW, Nat.reduceAdd] at cf
                rw [cf]
                clear cf hwf
                have f0 := (cells_of_heap kf 0 (by simp)).1
                have f1 := (cells_of_heap kf 1 (by simp)).1
                simp only [List.getElem_toArray, List.getElem_cons_zero, List.getElem_cons_succ] at f0 f1
                refine bodyPost_ret (v := .tuple #[kmv K (.slice a j c), .bool true]) (by simp [results, Tryd.results31, go_sem, f0, f1]) rfl (by rw [HRr.out]; exact ⟨a, c, _, by rw [← HLL.out], of.base HBU.out.size, bf⟩)
        · have hq : ¬ ((n - 2 : Nat) : Int) = (P : Int) := by omega
          have HRr := Lib.hid (show r = ⟨0, [], false⟩ by rw [hr, if_neg (fun e => hlen e.2)])
          clear hr
          obtain ⟨y0, q0⟩ := cells_of_heap HG1.out 0 (by simp)
          obtain ⟨y1, q1⟩ := cells_of_heap HG1.out 1 (by simp)
          go_wp2
          clear y0 q0 y1 q1
          obtain ⟨wf, hwf⟩ : ∃ x, x = putW (V1) (w.heap.size) 0 [.int .i64 0, .slice none 0 0] := ⟨_, rfl⟩
          have kf := putW_all [.int .i64 0, .slice none 0 0] HG1.out rfl
          have bf := putW_below (b := w.heap.size) (by first | omega | simp) [.int .i64 0, .slice none 0 0] 0 _ HB1.out
          have of := HNil.out _ HB1.out HRr.out
          rw [← hwf] at kf bf of
          have cf := hwf.symm
          simp only [putW, Nat.reduceAdd] at cf
          rw [cf]
          clear cf hwf
          have f0 := (cells_of_heap kf 0 (by simp)).1
          have f1 := (cells_of_heap kf 1 (by simp)).1
          simp only [List.getElem_toArray, List.getElem_cons_zero, List.getElem_cons_succ] at f0 f1
          refine bodyPost_ret (v := .tuple #[kmv 0 (.slice none 0 0), .bool false]) (by simp [results, Tryd.results31, go_sem, f0, f1]) rfl of

end Go.Proofs.YtleheibpgngmiaaDoor
