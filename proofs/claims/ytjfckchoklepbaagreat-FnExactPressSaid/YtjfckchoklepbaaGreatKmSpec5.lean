/- DERIVED. The reference's l6Copy: a copy of a valid keymap, in memory of its own. · The reference's SetAction: a keymap with one action anew, in memory of its own. · The reference's UnpackKeymap: the keymap whose bytes a list is. -/
import Derived.Test.YtjfckchoklepbaaGreatKmSpec
import Derived.Deep.AppendLies
import Derived.Deep.RegionLaw
import Derived.BigRegion
namespace Go.Proofs.YtjfckchoklepbaaGreat
open Go.RowKit

set_option maxRecDepth 100000 in
set_option maxHeartbeats 8000000 in
theorem specCopy_any (keys : Int) (v : Value) (L : List (List Ac)) (w : World) (ho : okKm keys L = true) (h : LdS w v L) :
    Calls Tryz.prog 170 #[kmv keys v] w fun e w' => ∃ a cap fp, e = .returned (kmv keys (.slice a L.length cap)) ∧ LoS w' w.heap.size (.slice a L.length cap) L fp ∧ Below w.heap.size w w' := by
  obtain ⟨i0, hi, hz0, hz1, hz2⟩ := info_parts info_ac
  obtain ⟨i1, hI1, hy0, hy1, hy2⟩ := info_parts info_acs
  obtain ⟨⟨k1, k32⟩, ⟨l1, l4⟩, hall⟩ := okKm_at ho
  obtain ⟨n, hnl⟩ : ∃ n, n = L.length := ⟨_, rfl⟩
  have HNL := Lib.hid hnl
  have HO := Lib.hid ho
  obtain ⟨K, rfl⟩ := Int.eq_ofNat_of_zero_le (show 0 ≤ keys by omega)
  have HAll := Lib.hid (show ∀ j, j < n → (lD L j).length = K from fun j hj => by have := (hall j (by rw [← hnl]; exact hj)).1; omega)
  have hK : K ≤ 32 := by omega
  have hK0 : 0 < K := by omega
  rw [← hnl] at l1 l4
  rcases RdS.cases h with ⟨hnil, _⟩ | ⟨b, off, cap, us0, hpos, rfl, hlt, hc⟩
  · exfalso; rw [hnl, hnil] at l1; simp at l1
  · rw [← hnl] at hc ⊢
    have HC := Lib.hid hc
    have HLT := Lib.hid hlt
    clear h ho hall hnl hpos hc hlt k1 k32
    obtain ⟨U, hU⟩ : ∃ U, U = ((w.alloc (.cells #[.int .i64 K, .slice (some ⟨b, off, none⟩) n cap] 26)).alloc (.cells #[.int .i64 0, .slice none 0 0] 26)).alloc (.cells #[.int .i64 K, .slice none 0 0] 26) := ⟨_, rfl⟩
    have HGo := Lib.hid (show U.heap[w.heap.size + 1 + 1]? = some (.cells #[.int .i64 K, .slice none 0 0] 26 (0, 0)) by rw [hU]; simpa using heap_alloc_new ((w.alloc (.cells #[.int .i64 K, .slice (some ⟨b, off, none⟩) n cap] 26)).alloc (.cells #[.int .i64 0, .slice none 0 0] 26)) _)
    have HGr := Lib.hid (show U.heap[w.heap.size + 1]? = some (.cells #[.int .i64 0, .slice none 0 0] 26 (0, 0)) by
      rw [hU, Below.heap_alloc _ _ _ (by simp)]; simpa using heap_alloc_new (w.alloc (.cells #[.int .i64 K, .slice (some ⟨b, off, none⟩) n cap] 26)) _)
    have HGm := Lib.hid (show U.heap[w.heap.size]? = some (.cells #[.int .i64 K, .slice (some ⟨b, off, none⟩) n cap] 26 (0, 0)) by
      rw [hU, Below.heap_alloc _ _ _ (by simp; omega), Below.heap_alloc _ _ _ (by simp)]; exact heap_alloc_new w _)
    have HB0 := Lib.hid (show Below w.heap.size w U by rw [hU]; exact (((Below.refl _ _).alloc (Nat.le_refl _) _).alloc (by simp) _).alloc (by simp; omega) _)
    have HSZ := Lib.hid (show U.heap.size = w.heap.size + 1 + 1 + 1 by rw [hU]; simp)
    have HU := Lib.hid hU
    clear hU
    go_enter Tryz.func170, Tryz.ntmps170
    go_upto_region 2 with (fail)
    rw [← HU.out]
    go_wp2
    go_loopw [4] (fun i wr => ∃ (j : Nat) (us : List Value) (fps : List (List Nat)) (a : Option Addr) (c : Nat), j ≤ n ∧ i = .int .i64 j ∧ wr.heap[w.heap.size + 1 + 1]? = some (.cells #[.int .i64 K, .slice a j c] 26 (0, 0)) ∧ LoB wr U.heap.size (.slice a j c) j us (L.take j) fps ∧ Below (w.heap.size + 1 + 1) U wr) (fun i _ => n - (intOf i).toNat)
    case atStart => exact ⟨0, [], [], none, 0, Nat.zero_le _, rfl, HGo.out, by rw [List.take_zero]; exact OwB.start (World.ownsRow_nil _ _ _ _), Below.refl _ _⟩
    case round =>
      obtain ⟨j, us, fps, a, c, hj, rfl, hgo, hob, hb⟩ := hrel
      by_cases hlt' : j < n
      · have HGoW := Lib.hid hgo
        have HOB := Lib.hid hob
        have HB := Lib.hid hb
        have hbw := HB0.out.trans (hb.mono (show w.heap.size ≤ w.heap.size + 1 + 1 by omega))
        obtain ⟨d0, hrow⟩ := HC.out j hlt'
        have hlen := HAll.out j hlt'
        obtain ⟨ua, uc, hu⟩ := RdN.shape hrow
        rw [hu] at d0 hrow
        obtain ⟨b2, off2, rfl, hlt2, -⟩ := row_at hrow (k := 0) (by rw [hlen]; exact hK0)
        rw [hlen] at d0
        have d1 := (hbw.cell (p := ⟨b, off + j, none⟩) HLT.out).trans d0
        have hgm := (hb.block w.heap.size (by omega)).trans HGm.out
        have m1 := (cells_of_heap hgm 1 (by simp)).1
        obtain ⟨o1, p1⟩ := cells_of_heap hgo 1 (by simp)
        have hgs : w.heap.size + 1 + 1 < wr.heap.size := (Array.getElem?_eq_some_iff.mp hgo).1
        have hbl : b < wr.heap.size := Nat.lt_of_lt_of_le HLT.out hbw.size
        have hnews : ∀ w', Below w.heap.size w w' → ∀ q u, (flatAc (lD L j))[q]? = some u → w'.cell? ((⟨b2, off2, none⟩ : Addr).add q) = some u := by
          intro w' hw' q u hq
          have hl := (List.getElem?_eq_some_iff.mp hq).1
          have hadd : (⟨b2, off2, none⟩ : Addr).add q = ⟨b2, off2 + q, none⟩ := by unfold Addr.add; split <;> simp_all
          rw [hadd, hw'.cell (p := ⟨b2, off2 + q, none⟩) hlt2]
          rcases hrow.cases with ⟨h0, _⟩ | ⟨_, b3, off3, cap3, hs, _, hcc⟩
          · omega
          · obtain ⟨⟨rfl, rfl⟩, -⟩ := by simpa using hs
            rw [hcc q hl]
            exact (List.getElem?_eq_getElem hl ▸ hq)
        have hnl : (flatAc (lD L j)).length = K * 4 := by rw [flatAc_len, hlen]
        have HNews := Lib.hid hnews
        have HNL2 := Lib.hid hnl
        have HLen := Lib.hid hlen
        have HBW := Lib.hid hbw
        have b63 : 0 + K ≤ maxLen := by unfold maxLen; omega
        have b47 : (0 + K) * 32 ≤ 140737488355328 := by omega
        have c63 : j + 1 ≤ maxLen := by unfold maxLen; omega
        have c47 : (j + 1) * 24 ≤ 140737488355328 := by omega
        have HSUW := Lib.hid (show U.heap.size ≤ wr.heap.size from hb.size)
        have hbA : Below wr.heap.size wr (wr.alloc (.cells #[] 41)) := (Below.refl _ _).alloc (Nat.le_refl _) _
        have mA := (hbA.cell (p := ⟨w.heap.size, 1, none⟩) (show w.heap.size < wr.heap.size by omega)).trans m1
        have dA := (hbA.cell (p := ⟨b, off + j, none⟩) hbl).trans d1
        have oA := (hbA.cell (p := ⟨w.heap.size + 1 + 1, 1, none⟩) hgs).trans o1
        clear hbA hnews hnl hlen hbw hgo hob hb d0 hrow hu hgm
        go_upto_region 5 with (fail)
        go_region_law (first
          | (refine step_append_lies _ (by rfl) (.tmp 17) (.tmp 22) 75 (by rfl) wr.heap.size 41 i0 (.agg #[.int .i64 0, .int .i64 0, .int .i64 0, .int .i64 0]) 4 32 Tryz.underlying75 hi hz0 hz1 hz2 rfl (by decide) (.slice (some ⟨wr.heap.size, 0, none⟩) 0 0) 0 [] (by rfl) (World.ownsRow_lit (e := 41) (size := 4) wr.drew #[] 0 (by simp) (by simp [maxLen]) rfl) ⟨b2, off2, none⟩ K uc (flatAc (lD L j)) (by rfl) HNL2.out (HNews.out _ (HBW.out.trans (((Below.refl wr.heap.size wr).drew.alloc (by simp) _).mono HBW.out.size))) (flatAc_one _) hK0 b63 b47 (by simp) (wr.heap.size + 1) (by simp) ?_; intro g1 cap1 w2 hown1 hgrow1 hat1 hlt1; have hb2 : Below wr.heap.size wr w2 := ((Below.refl wr.heap.size wr).drew.alloc (by simp) _).grown hgrow1 (by simp) (fun q hq => by simp [Value.ownBlock] at hq; omega); have o1w2 := (hb2.cell (p := ⟨w.heap.size + 1 + 1, 1, none⟩) hgs).trans o1; have o1w3 := ((hb2.alloc hb2.size (.cells #[.slice (some ⟨g1, 0, none⟩) K cap1] 75)).cell (p := ⟨w.heap.size + 1 + 1, 1, none⟩) hgs).trans o1; have HO1 := Lib.hid hown1; have HB2 := Lib.hid hb2; have HAT1 := Lib.hid hat1; have HLT1 := Lib.hid hlt1; clear hown1 hgrow1 hb2 hat1 hlt1)
          | (refine step_append_lies _ (by rfl) (.tmp 16) (.tmp 24) 24 (by rfl) U.heap.size 75 i1 (.slice none 0 0) 1 24 Tryz.underlying24 hI1 hy0 hy1 hy2 rfl (by decide) (.slice a j c) j us (by rfl) (HOB.out.below (HB2.out.alloc HB2.out.size _).drew).own ⟨w2.heap.size, 0, none⟩ 1 1 [.slice (some ⟨g1, 0, none⟩) K cap1] (by rfl) (by rfl) (World.news_of_block (cs := #[.slice (some ⟨g1, 0, none⟩) K cap1]) (t := 75) (fr := (0, 0)) (heap_alloc_new w2 _)) (by simp [Value.oneCell']) (by omega) c63 c47 (by simp; exact Nat.le_succ_of_le (Nat.le_trans HSUW.out HB2.out.size)) (w2.heap.size + 1) (by simp) ?_; intro g2 cap2 w4 hown2 hgrow2 hat2 hlt4; have hb4 : Below U.heap.size wr w4 := ((HB2.out.alloc HB2.out.size _).mono HSUW.out).grown hgrow2 (by simp; exact Nat.le_succ_of_le (Nat.le_trans HSUW.out HB2.out.size)) (fun q hq => (HOB.out.own.lt q hq).1); have hgo4 := (hb4.block (w.heap.size + 1 + 1) (by rw [HSZ.out]; omega)).trans HGoW.out; obtain ⟨o14, p14⟩ := cells_of_heap hgo4 1 (by simp); have HO4 := Lib.hid hown2; have HG4 := Lib.hid hgrow2; have HAT4 := Lib.hid hat2; have HB4 := Lib.hid hb4; have HGo4 := Lib.hid hgo4; clear hown2 hgrow2 hat2 hlt4 hb4 hgo4))
        all_goals
          have htl : (L.take j).length = j := by rw [List.length_take]; have := HNL.out; omega
          have hob3 := HOB.out.below (HB2.out.alloc HB2.out.size (.cells #[.slice (some ⟨g1, 0, none⟩) K cap1] 75))
          have hof : OwF (w2.alloc (.cells #[.slice (some ⟨g1, 0, none⟩) K cap1] 75)) U.heap.size 41 4 (.slice (some ⟨g1, 0, none⟩) K cap1) (lD L j).length ((lD L j).flatMap Ac.cells) [g1] := by
            have h1 := HO1.out
            simp only [Nat.zero_add, List.nil_append] at h1
            rw [HLen.out]
            exact ⟨owns_base (h1.alloc _) HSUW.out, by simp [ownFp, Value.ownBlock]⟩
          have hg1 : wr.heap.size ≤ g1 := by
            rcases HAT1.out with h1 | h1
            · simp [Value.ownBlock] at h1; omega
            · omega
          have hpush := OwB.push hob3 htl.symm hof (fun x hx hx' => by rw [List.mem_singleton] at hx; have := (HOB.out.rng x hx').2; omega) HO4.out HG4.out (by rcases HAT4.out with h1 | h1; exact .inl h1; exact .inr (by rw [h1]; simp))
          rw [← lD_take L j (by rw [← HNL.out]; exact hlt')] at hpush
          have hfin := hpush.turn (Turn.of_grown (grown_set w4 (w.heap.size + 1 + 1) 1 (.slice (some ⟨g2, 0, none⟩) (j + 1) cap2))) (fun x hx hx' => by rw [List.mem_singleton] at hx'; have := (hpush.rng x hx).1; have := HSZ.out; omega)
          have hgo5 := heap_setCell_same w4 (w.heap.size + 1 + 1) 1 _ _ (.slice (some ⟨g2, 0, none⟩) (j + 1) cap2) HGo4.out
          have hb5 : Below (w.heap.size + 1 + 1) U (w4.setCell ⟨w.heap.size + 1 + 1, 1, none⟩ (.slice (some ⟨g2, 0, none⟩) (j + 1) cap2)) := (HB.out.trans (HB4.out.mono (by have := HSZ.out; have := HB.out.size; omega))).setCell (Nat.le_refl _) _
          have HF := Lib.hid hfin
          have HGo5 := Lib.hid hgo5
          have HB5 := Lib.hid hb5
          clear htl hob3 hof hg1 hpush hfin hgo5 hb5 o14 p14 o1w2 o1w3 mA dA oA m1 d1 o1 p1
          go_wp2
          go_roundw
          case rel => exact ⟨j + 1, _, _, some ⟨g2, 0, none⟩, cap2, by omega, by go_num, by simpa using HGo5.out, HF.out, HB5.out⟩
          case measure => simp [intOf]; omega
      · obtain rfl : j = n := by omega
        rw [HNL.out, List.take_length] at hob
        have HOS := Lib.hid (OwB.done hob rfl)
        have HGoW := Lib.hid hgo
        have HB := Lib.hid hb
        have HGr2 := Lib.hid ((hb.block (w.heap.size + 1) (by omega)).trans HGr.out)
        obtain ⟨o0, p0⟩ := cells_of_heap hgo 0 (by simp)
        obtain ⟨o1, p1⟩ := cells_of_heap hgo 1 (by simp)
        obtain ⟨r0, q0⟩ := cells_of_heap HGr2.out 0 (by simp)
        obtain ⟨r1, q1⟩ := cells_of_heap HGr2.out 1 (by simp)
        have HBW := Lib.hid (HB0.out.trans (hb.mono (show w.heap.size ≤ w.heap.size + 1 + 1 by omega)))
        have m1 := (cells_of_heap ((hb.block w.heap.size (by omega)).trans HGm.out) 1 (by simp)).1
        clear hob hgo hb
        go_wp2
        clear m1 o0 p0 o1 p1 r0 q0 r1 q1
        obtain ⟨wf, hwf⟩ : ∃ x, x = putW (wr) (w.heap.size + 1) 0 [.int .i64 K, .slice a j c] := ⟨_, rfl⟩
        have kf := putW_all [.int .i64 K, .slice a j c] HGr2.out rfl
        have bf := putW_below (b := w.heap.size + 1) (by first | omega | simp) [.int .i64 K, .slice a j c] 0 _ HBW.out
        have of := HOS.out.put (b := w.heap.size + 1) [.int .i64 K, .slice a j c] 0 (by rw [HSZ.out]; omega)
        rw [← hwf] at kf bf of
        have cf := hwf.symm
        simp only [putW, Nat.reduceAdd] at cf
        rw [cf]
        clear cf hwf
        have f0 := (cells_of_heap kf 0 (by simp)).1
        have f1 := (cells_of_heap kf 1 (by simp)).1
        simp only [List.getElem_toArray, List.getElem_cons_zero, List.getElem_cons_succ] at f0 f1
        refine bodyPost_ret (v := kmv K (.slice a j c)) (by simp [results, Tryz.results170, go_sem, f0, f1]) rfl ⟨a, c, _, rfl, by rw [HNL.out]; exact of.base HB0.out.size, bf⟩
end Go.Proofs.YtjfckchoklepbaaGreat

namespace Go.Proofs.YtjfckchoklepbaaGreat
open Go.RowKit

/-- A keymap with an action set. -/
def setL (L : List (List Ac)) (i k : Nat) (a : Ac) : List (List Ac) := L.set i ((lD L i).set k a)
def setOk (keys : Int) (L : List (List Ac)) (layer key : Int) (a : Ac) : Bool := okKm keys L && (inB layer 0 ((L.length : Int) - 1) && (inB key 0 (keys - 1) && okKm keys (setL L layer.toNat key.toNat a)))
structure Kmr where
  k : Int
  l : List (List Ac)
  b : Bool
def setV (keys : Int) (L : List (List Ac)) (layer key : Int) (a : Ac) : Kmr := if setOk keys L layer key a = true then ⟨keys, setL L layer.toNat key.toNat a, true⟩ else ⟨0, [], false⟩
/-- What a function returns that makes a keymap. -/
def KmOut (r : Kmr) (w : World) (e : Ending) (w' : World) : Prop := ∃ a cap fp, e = .returned (.tuple #[kmv r.k (.slice a r.l.length cap), .bool r.b]) ∧ LoS w' w.heap.size (.slice a r.l.length cap) r.l fp ∧ Below w.heap.size w w'
theorem flatAc_app (A C : List Ac) : flatAc (A ++ C) = flatAc A ++ flatAc C := by simp [flatAc]
theorem flatAc_cons (a : Ac) (C : List Ac) : flatAc (a :: C) = a.cells ++ flatAc C := by simp [flatAc]
theorem flatAc_set (l : List Ac) (k : Nat) (a : Ac) (hk : k < l.length) : flatAc (l.set k a) = (flatAc l).take (k * 4) ++ a.cells ++ (flatAc l).drop (k * 4 + 4) := by
  have h1 : l.set k a = l.take k ++ a :: l.drop (k + 1) := by rw [List.set_eq_take_append_cons_drop, if_pos hk]
  have h2 : l = l.take k ++ l[k] :: l.drop (k + 1) := by rw [← List.drop_eq_getElem_cons hk, List.take_append_drop]
  have e : flatAc l = flatAc (l.take k) ++ (l[k].cells ++ flatAc (l.drop (k + 1))) := by
    conv => lhs; rw [h2]
    rw [flatAc_app, flatAc_cons]
  have hA : (flatAc (l.take k)).length = k * 4 := by rw [flatAc_len, List.length_take]; omega
  have hB : l[k].cells.length = 4 := rfl
  have hd : ∀ X : List Value, X.drop (k * 4 + 4) = (X.drop (k * 4)).drop 4 := fun X => by rw [List.drop_drop]
  rw [h1, flatAc_app, flatAc_cons, e, List.take_left' hA, List.append_assoc, hd, List.drop_left' hA, List.drop_left' hB]
theorem lD_set {L : List (List Ac)} {i : Nat} (h : i < L.length) (l : List Ac) (j : Nat) : lD (L.set i l) j = if j = i then l else lD L j := by
  unfold lD
  rw [List.getD_eq_getElem?_getD, List.getD_eq_getElem?_getD, List.getElem?_set]
  by_cases h2 : i = j
  · subst h2; simp [h]
  · rw [if_neg h2, if_neg (fun e => h2 e.symm)]

def unA (zs : List Int) (p : Nat) : Ac × Bool := unpackV [zs.getD p 0, zs.getD (p + 1) 0, zs.getD (p + 2) 0]
def unRow (zs : List Int) (p : Nat) : Nat → List Ac
  | 0 => []
  | k + 1 => unRow zs p k ++ [(unA zs (p + 3 * k)).1]
def unOkR (zs : List Int) (p : Nat) : Nat → Bool
  | 0 => true
  | k + 1 => unOkR zs p k && (unA zs (p + 3 * k)).2
def unL (zs : List Int) (K : Nat) : Nat → List (List Ac)
  | 0 => []
  | j + 1 => unL zs K j ++ [unRow zs (2 + 3 * K * j) K]
def unOkL (zs : List Int) (K : Nat) : Nat → Bool
  | 0 => true
  | j + 1 => unOkL zs K j && unOkR zs (2 + 3 * K * j) K
def unG (zs : List Int) (K N : Nat) : Kmr := if unOkL zs K N = true ∧ okKm K (unL zs K N) = true then ⟨K, unL zs K N, true⟩ else ⟨0, [], false⟩
def unK (zs : List Int) : Kmr := if 2 ≤ zs.length ∧ zs.length = 2 + 3 * (zs.getD 0 0).toNat * (zs.getD 1 0).toNat then unG zs (zs.getD 0 0).toNat (zs.getD 1 0).toNat else ⟨0, [], false⟩
theorem unRow_len (zs : List Int) (p : Nat) : ∀ k, (unRow zs p k).length = k
  | 0 => rfl
  | k + 1 => by rw [unRow, List.length_append, unRow_len zs p k]; rfl
theorem unL_len (zs : List Int) (K : Nat) : ∀ j, (unL zs K j).length = j
  | 0 => rfl
  | j + 1 => by rw [unL, List.length_append, unL_len zs K j]; rfl
theorem unL_rows (zs : List Int) (K : Nat) : ∀ j, ∀ l ∈ unL zs K j, l.length = K
  | 0, l, h => by simp [unL] at h
  | j + 1, l, h => by
    rw [unL, List.mem_append] at h
    rcases h with h | h
    · exact unL_rows zs K j l h
    · rw [List.mem_singleton.1 h]; exact unRow_len _ _ _
theorem unOkR_no {zs : List Int} {p k : Nat} (h : (unA zs (p + 3 * k)).2 = false) : ∀ m, k < m → unOkR zs p m = false
  | 0, hm => absurd hm (Nat.not_lt_zero _)
  | m + 1, hm => by
    rcases Nat.lt_or_ge k m with h2 | h2
    · rw [unOkR, unOkR_no h m h2, Bool.false_and]
    · obtain rfl : k = m := by omega
      rw [unOkR, h, Bool.and_false]
theorem unOkL_no {zs : List Int} {K j : Nat} (h : unOkR zs (2 + 3 * K * j) K = false) : ∀ m, j < m → unOkL zs K m = false
  | 0, hm => absurd hm (Nat.not_lt_zero _)
  | m + 1, hm => by
    rcases Nat.lt_or_ge j m with h2 | h2
    · rw [unOkL, unOkL_no h m h2, Bool.false_and]
    · obtain rfl : j = m := by omega
      rw [unOkL, h, Bool.and_false]
theorem unG_no {zs : List Int} {K N j : Nat} (hj : j < N) (h : unOkR zs (2 + 3 * K * j) K = false) : unG zs K N = ⟨0, [], false⟩ := by
  unfold unG
  rw [if_neg (fun e => by rw [unOkL_no h N hj] at e; exact absurd e.1 (by decide))]
end Go.Proofs.YtjfckchoklepbaaGreat
