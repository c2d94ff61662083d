/- DERIVED. The program's LayerAt and ActionAt: each returns what a plain function says. · 'copy' between two rows of one length whose elements may have several cells, the first one owned. No condition. · The program's grid: whether it has a cell, and a copy with one cell anew, in memory of its own. · The program's SetAction: a keymap with one action anew, in memory of its own. -/
import Derived.Test.YtjfckchoklepbaaGreatKmImpl
import Derived.Test.YtjfckchoklepbaaGreatCore
import Derived.Laws.CopyOwn
import Derived.Test.YtjfckchoklepbaaGreatKmSpec5
import Derived.Test.YtjfckchoklepbaaGreatLawBits
import Derived.Deep.RegionHeld3
import Derived.Deep.DeepCutAuto
namespace Go.Proofs.YtjfckchoklepbaaGreat
open Go.RowKit

theorem bit01 (z : Int) (k : Nat) : bits .and .i64 (z / 2 ^ k) 1 = 0 ∨ bits .and .i64 (z / 2 ^ k) 1 = 1 := by
  unfold bits
  have e : (BitVec.ofInt 64 1).toNat = 1 := by decide
  have hle : (BitVec.ofInt 64 (z / 2 ^ k) &&& BitVec.ofInt 64 1).toNat ≤ 1 := by
    rw [BitVec.toNat_and, e]; exact Nat.and_le_right
  show IntKind.i64.wrap ((BitVec.ofInt 64 (z / 2 ^ k) &&& BitVec.ofInt 64 1).toNat : Int) = 0 ∨ IntKind.i64.wrap ((BitVec.ofInt 64 (z / 2 ^ k) &&& BitVec.ofInt 64 1).toNat : Int) = 1
  generalize (BitVec.ofInt 64 (z / 2 ^ k) &&& BitVec.ofInt 64 1).toNat = m at hle
  rw [IntWalk.i64_in _ ⟨by omega, by omega⟩]
  omega
theorem hasKey_on (z : Int) (k : Nat) (b : Bool) (hb : b = bitOn z k) (w : World) (hk : k < 62) : Calls Tryz.prog 91 #[.int .i64 z, .int .i64 k] w fun e w' => e = .returned (.bool b) ∧ w = w' := by
  rw [hb]
  rcases bit01 z k with h | h
  · have hv : bitOn z k = false := by unfold bitOn; rw [h]; rfl
    rw [hv]
    clear hv
    go_enter Tryz.func91, Tryz.ntmps91
    go_wp2
    go_ret
    exact ⟨rfl, rfl⟩
  · have hv : bitOn z k = true := by unfold bitOn; rw [h]; rfl
    rw [hv]
    clear hv
    go_enter Tryz.func91, Tryz.ntmps91
    go_wp2
    go_ret
    exact ⟨rfl, rfl⟩

set_option maxRecDepth 100000 in
set_option maxHeartbeats 4000000 in
theorem implLayerAt_any (keys on key : Int) (v : Value) (L : List (List Ac)) (w : World) (hn : L.length ≤ maxLen) (hm : ∀ l ∈ L, l.length ≤ maxLen) (h : LdS w v L) :
    Calls Tryz.prog 96 #[kmv keys v, .int .i64 on, .int .i64 key] w fun e w' => e = .returned (.int .i64 (laV keys L on key)) ∧ Below w.heap.size w w' := by
  obtain ⟨r, hr⟩ : ∃ r, r = laV keys L on key := ⟨_, rfl⟩
  obtain ⟨o, ho⟩ : ∃ o, o = okKm keys L := ⟨_, rfl⟩
  obtain ⟨p, hp⟩ : ∃ p, p = inB key 0 (keys - 1) := ⟨_, rfl⟩
  rw [← hr]
  have hr2 := hr
  rw [laV, ← ho, ← hp] at hr2
  have HO := Lib.hid ho
  have HP := Lib.hid hp
  have HR := Lib.hid hr2
  have HN := Lib.hid hn
  have HM := Lib.hid hm
  have H := Lib.hid h
  obtain ⟨xa, xc, rfl⟩ := RdS.shape h
  clear hr hr2 hn hm h ho hp
  obtain ⟨n, hnl⟩ : ∃ n, n = L.length := ⟨_, rfl⟩
  have HNL := Lib.hid hnl
  rw [← hnl]
  clear hnl
  obtain ⟨W, hW⟩ : ∃ W, W = w.alloc (.cells #[.int .i64 keys, .slice xa n xc] 26) := ⟨_, rfl⟩
  have HX0 := Lib.hid (show Bxd W w.heap.size [.int .i64 keys, .slice xa n xc] by rw [hW]; exact Bxd.new _ _ _)
  have HB0 := Lib.hid (show Below w.heap.size w W by rw [hW]; exact (Below.refl _ _).alloc (Nat.le_refl _) _)
  have HS0 := Lib.hid (show w.heap.size < W.heap.size by rw [hW]; simp)
  have HW := Lib.hid hW
  clear hW
  go_enter Tryz.func96, Tryz.ntmps96
  go_wp2_with fail
  rw [← HW.out]
  have c0 := HX0.out.at 0 _ rfl
  have c1 := HX0.out.at 1 _ rfl
  refine (implIsKeymap_q keys _ L o HO.out _ HN.out HM.out (by rw [HNL.out]; exact H.out.below HB0.out)).mono ?_
  rintro e w1 ⟨rfl, hb⟩
  have HB := Lib.hid (HB0.out.trans (hb.mono HB0.out.size))
  have HX1 := Lib.hid (HX0.out.below hb HS0.out)
  clear hb c0 c1
  have c0 := HX1.out.at 0 _ rfl
  have c1 := HX1.out.at 1 _ rfl
  cases o
  · obtain rfl : r = -1 := HR.out
    go_wp2
    go_ret
    exact ⟨rfl, HB.out⟩
  · obtain ⟨⟨k1, k32⟩, ⟨l1, l4⟩, hall⟩ := okKm_at HO.out.symm
    have hwr : IntKind.i64.wrap (keys - 1) = keys - 1 := IntWalk.i64_in _ ⟨by omega, by omega⟩
    cases p
    · obtain rfl : r = -1 := HR.out
      clear hall l1 l4
      go_wp2_with fail
      refine (isBetween_any key 0 (keys - 1) _).mono ?_
      rw [← HP.out]
      rintro e w0 ⟨rfl, rfl⟩
      go_wp2
      go_ret
      exact ⟨rfl, HB.out⟩
    · have hk := of_decide_eq_true (show decide (0 ≤ key ∧ key ≤ keys - 1) = true from HP.out.symm)
      obtain ⟨q, rfl⟩ := Int.eq_ofNat_of_zero_le hk.1
      have hq : ∀ j, j < n → q < (lD L j).length := fun j hj => by have := (hall j (by rw [← HNL.out]; exact hj)).1; omega
      have hrr : r = (laD L on q (n - 1) : Nat) := by rw [HR.out, HNL.out]; rfl
      have hn4 : 1 ≤ n ∧ n ≤ 4 := by rw [HNL.out]; exact ⟨l1, l4⟩
      obtain ⟨n1, n4⟩ := hn4
      have HRR := Lib.hid hrr
      have HQ := Lib.hid hq
      have HQ32 := Lib.hid (show q < 32 by omega)
      rcases RdS.cases (H.out.below HB.out) with ⟨hnil, _⟩ | ⟨b, off, cap, us, hpos, hsl, hlt, hc⟩
      · exfalso; rw [hnil] at l1; simp at l1
      · obtain ⟨rfl, -, rfl⟩ := by simpa using hsl
        rw [← HNL.out] at hc
        have HC := Lib.hid hc
        clear hall l1 l4 hk hq hrr hpos hsl hc hlt
        go_wp2_with fail
        refine (isBetween_any q 0 (keys - 1) _).mono ?_
        rw [← HP.out]
        rintro e w0 ⟨rfl, rfl⟩
        go_wp2
        obtain ⟨R, hR⟩ : ∃ R, R = laD L on q (n - 1) := ⟨_, rfl⟩
        have HRn := Lib.hid (show r = (R : Nat) by rw [HRR.out, hR])
        have HL1 := Lib.hid hR
        clear hR
        go_loopw [7] (fun i wr => ∃ k : Nat, k ≤ n - 1 ∧ i = .int .i64 k ∧ R = laD L on q k ∧ wr = w1) (fun i _ => (intOf i).toNat)
        case atStart => exact ⟨n - 1, Nat.le_refl _, by congr 1; omega, HL1.out, rfl⟩
        case round =>
          obtain ⟨k, hkn, rfl, hla, rfl⟩ := hrel
          by_cases hk0 : 0 < k
          · rw [laD_pos hk0] at hla
            obtain ⟨d0, hrow⟩ := HC.out k (by omega)
            obtain ⟨ua, uc, hu⟩ := RdN.shape hrow
            rw [hu] at d0 hrow
            obtain ⟨b2, off2, rfl, hlt2, e0, -, -, -⟩ := row_at hrow (HQ.out k (by omega))
            have hlq := HQ.out k (by omega)
            obtain ⟨x, hx⟩ : ∃ x, x = bitOn on k := ⟨_, rfl⟩
            obtain ⟨y, hy⟩ : ∃ y, y = (acD (lD L k) q).k := ⟨_, rfl⟩
            rw [← hx, ← hy] at hla
            rw [← hy] at e0
            obtain ⟨m, hm⟩ : ∃ m, m = (lD L k).length := ⟨_, rfl⟩
            rw [← hm] at d0 hlq
            have HX := Lib.hid hx
            have HLA := Lib.hid hla
            clear hla hrow hu hx hy hm
            go_wp2_with fail
            refine (hasKey_on on k x HX.out _ (by omega)).mono ?_
            rintro e w0 ⟨rfl, rfl⟩
            cases x
            · have HL2 := Lib.hid (show R = laD L on q (k - 1) from HLA.out)
              go_wp2
              go_roundw
              case rel => exact ⟨k - 1, by omega, by congr 1; omega, HL2.out, by trivial⟩
              case measure => simp [intOf]; omega
            · by_cases hy1 : y = 1
              · have HL2 := Lib.hid (show R = laD L on q (k - 1) by rw [HLA.out, if_neg (by simp [hy1])])
                go_wp2
                go_roundw
                case rel => exact ⟨k - 1, by omega, by congr 1; omega, HL2.out, by trivial⟩
                case measure => simp [intOf]; omega
              · have HL2 := Lib.hid (show R = k by rw [HLA.out, if_pos (by simp [hy1])])
                go_wp2
                go_ret
                exact ⟨ret_int (by rw [HRn.out, HL2.out]), HB.out⟩
          · obtain rfl : k = 0 := by omega
            have HL2 := Lib.hid (show R = 0 from hla)
            clear hla
            go_wp2
            go_ret
            exact ⟨ret_int (by rw [HRn.out, HL2.out]; rfl), HB.out⟩

theorem implLayerAt_q (keys on key : Int) (v : Value) (L : List (List Ac)) (r : Int) (hr : r = laV keys L on key) (w : World) (hn : L.length ≤ maxLen) (hm : ∀ l ∈ L, l.length ≤ maxLen) (h : LdS w v L) :
    Calls Tryz.prog 96 #[kmv keys v, .int .i64 on, .int .i64 key] w fun e w' => e = .returned (.int .i64 r) ∧ Below w.heap.size w w' := by
  rw [hr]; exact implLayerAt_any keys on key v L w hn hm h

set_option maxRecDepth 100000 in
set_option maxHeartbeats 4000000 in
theorem implActionAt_any (keys on key : Int) (v : Value) (L : List (List Ac)) (w : World) (hn : L.length ≤ maxLen) (hm : ∀ l ∈ L, l.length ≤ maxLen) (h : LdS w v L) :
    Calls Tryz.prog 27 #[kmv keys v, .int .i64 on, .int .i64 key] w fun e w' => e = .returned (acv (atV keys L on key).k (atV keys L on key).c (atV keys L on key).m (atV keys L on key).n) ∧ Below w.heap.size w w' := by
  obtain ⟨r, hr⟩ : ∃ r, r = atV keys L on key := ⟨_, rfl⟩
  obtain ⟨lv, hlv⟩ : ∃ lv, lv = laV keys L on key := ⟨_, rfl⟩
  obtain ⟨o, ho⟩ : ∃ o, o = (okKm keys L && inB key 0 (keys - 1)) := ⟨_, rfl⟩
  rw [← hr]
  have hr2 := hr
  have hlv2 := hlv
  rw [atV, ← ho] at hr2
  rw [laV, ← ho] at hlv2
  have HO := Lib.hid ho
  have HLV := Lib.hid hlv
  have HLV2 := Lib.hid hlv2
  have HR := Lib.hid hr2
  have HN := Lib.hid hn
  have HM := Lib.hid hm
  have H := Lib.hid h
  obtain ⟨xa, xc, rfl⟩ := RdS.shape h
  clear hr hr2 hn hm h ho hlv hlv2
  obtain ⟨n, hnl⟩ : ∃ n, n = L.length := ⟨_, rfl⟩
  have HNL := Lib.hid hnl
  rw [← hnl]
  clear hnl
  obtain ⟨V, hV⟩ : ∃ V, V = (w.alloc (.cells #[.int .i64 keys, .slice xa n xc] 26)).alloc (.cells #[.int .i64 0, .int .i64 0, .int .i64 0, .int .i64 0] 41) := ⟨_, rfl⟩
  have hX : Bxd V w.heap.size [.int .i64 keys, .slice xa n xc] := by rw [hV]; exact (Bxd.new _ _ _).below ((Below.refl _ _).alloc (Nat.le_refl _) _) (by simp)
  have hG : V.heap[w.heap.size + 1]? = some (.cells #[.int .i64 0, .int .i64 0, .int .i64 0, .int .i64 0] 41 (0, 0)) := by rw [hV]; have := heap_alloc_new (w.alloc (.cells #[.int .i64 keys, .slice xa n xc] 26)) (.cells #[.int .i64 0, .int .i64 0, .int .i64 0, .int .i64 0] 41); simpa using this
  have hB : Below w.heap.size w V := by rw [hV]; exact ((Below.refl _ _).alloc (Nat.le_refl _) _).alloc (by simp) _
  have hS : w.heap.size + 1 < V.heap.size := by rw [hV]; simp
  have HV2 := Lib.hid hV
  have HX0 := Lib.hid hX
  have HG0 := Lib.hid hG
  have HB0 := Lib.hid hB
  have HS0 := Lib.hid hS
  clear hV hX hG hB hS
  go_enter Tryz.func27, Tryz.ntmps27
  go_wp2_with fail
  rw [← HV2.out]
  have c0 := HX0.out.at 0 _ rfl
  have c1 := HX0.out.at 1 _ rfl
  refine (implLayerAt_q keys on key _ L lv HLV.out _ HN.out HM.out (by rw [HNL.out]; exact H.out.below HB0.out)).mono ?_
  rintro e w1 ⟨rfl, hb⟩
  have HB := Lib.hid (HB0.out.trans (hb.mono HB0.out.size))
  have HX1 := Lib.hid (HX0.out.below hb (Nat.lt_of_succ_lt HS0.out))
  have HG1 := Lib.hid ((hb.block _ HS0.out).trans HG0.out)
  clear hb c0 c1
  have c0 := HX1.out.at 0 _ rfl
  have c1 := HX1.out.at 1 _ rfl
  obtain ⟨y0, q0⟩ := cells_of_heap HG1.out 0 (by simp)
  obtain ⟨y1, q1⟩ := cells_of_heap HG1.out 1 (by simp)
  obtain ⟨y2, q2⟩ := cells_of_heap HG1.out 2 (by simp)
  obtain ⟨y3, q3⟩ := cells_of_heap HG1.out 3 (by simp)
  cases o
  · have hr3 : r = ⟨0, 0, 0, 0⟩ := HR.out
    obtain rfl : lv = -1 := HLV2.out
    subst hr3
    go_wp2
    clear c0 c1 y0 y1 y2 y3 q0 q1 q2 q3
    obtain ⟨wf, hwf⟩ : ∃ x, x = putW (w1) (w.heap.size + 1) 0 [.int .i64 0, .int .i64 0, .int .i64 0, .int .i64 0] := ⟨_, rfl⟩
    have kf := putW_all [.int .i64 0, .int .i64 0, .int .i64 0, .int .i64 0] HG1.out rfl
    have bf := putW_below (b := w.heap.size + 1) (by first | omega | simp) [.int .i64 0, .int .i64 0, .int .i64 0, .int .i64 0] 0 _ HB.out
    rw [← hwf] at kf bf
    have cf := hwf.symm
    simp only [putW, Nat.reduceAdd] at cf
    rw [cf]
    clear cf hwf
    have f0 := (cells_of_heap kf 0 (by simp)).1
    have f1 := (cells_of_heap kf 1 (by simp)).1
    have f2 := (cells_of_heap kf 2 (by simp)).1
    have f3 := (cells_of_heap kf 3 (by simp)).1
    simp only [List.getElem_toArray, List.getElem_cons_zero, List.getElem_cons_succ] at f0 f1 f2 f3
    refine bodyPost_ret (v := acv 0 0 0 0) (by simp [results, Tryz.results27, go_sem, f0, f1, f2, f3]) rfl ⟨rfl, bf⟩
  · have ho := HO.out.symm
    rw [Bool.and_eq_true] at ho
    obtain ⟨⟨k1, k32⟩, ⟨l1, l4⟩, hall⟩ := okKm_at ho.1
    have hk := of_decide_eq_true (show decide (0 ≤ key ∧ key ≤ keys - 1) = true from ho.2)
    obtain ⟨q, rfl⟩ := Int.eq_ofNat_of_zero_le hk.1
    obtain ⟨R, hR⟩ : ∃ R, R = laD L on q (L.length - 1) := ⟨_, rfl⟩
    have hlv3 : lv = (R : Nat) := by rw [HLV2.out, hR]; rfl
    have hrr : r = acD (lD L R) q := by rw [HR.out, hR]; rfl
    have hRl : R < L.length := by have := laD_le L on q (L.length - 1); omega
    have hq : q < (lD L R).length := by have := (hall R hRl).1; omega
    subst hlv3
    rcases RdS.cases (H.out.below HB.out) with ⟨hnil, _⟩ | ⟨b, off, cap, us, hpos, hsl, hlt, hc⟩
    · exfalso; rw [hnil] at l1; simp at l1
    · obtain ⟨rfl, -, rfl⟩ := by simpa using hsl
      obtain ⟨d0, hrow⟩ := hc R hRl
      obtain ⟨ua, uc, hu⟩ := RdN.shape hrow
      rw [hu] at d0 hrow
      obtain ⟨b2, off2, rfl, hlt2, e0, e1, e2, e3⟩ := row_at hrow hq
      rw [← hrr] at e0 e1 e2 e3
      rw [← HNL.out] at hRl
      have hn4 : n ≤ 4 := by rw [HNL.out]; exact l4
      obtain ⟨m, hm⟩ : ∃ m, m = (lD L R).length := ⟨_, rfl⟩
      rw [← hm] at d0 hq
      have hq32 : q < 32 := by omega
      obtain ⟨rk, rc, rm, rn⟩ := r
      simp only at e0 e1 e2 e3
      clear hrow hu hm hrr hR hall l1 l4 hk ho hc hpos hsl k1 k32 hlt hlt2
      go_wp2
      clear c0 c1 y0 y1 y2 y3 q0 q1 q2 q3 d0 e0 e1 e2 e3
      obtain ⟨wf, hwf⟩ : ∃ x, x = putW (w1) (w.heap.size + 1) 0 [.int .i64 rk, .int .i64 rc, .int .i64 rm, .int .i64 rn] := ⟨_, rfl⟩
      have kf := putW_all [.int .i64 rk, .int .i64 rc, .int .i64 rm, .int .i64 rn] HG1.out rfl
      have bf := putW_below (b := w.heap.size + 1) (by first | omega | simp) [.int .i64 rk, .int .i64 rc, .int .i64 rm, .int .i64 rn] 0 _ HB.out
      rw [← hwf] at kf bf
      have cf := hwf.symm
      simp only [putW, Nat.reduceAdd] at cf
      rw [cf]
      clear cf hwf
      have f0 := (cells_of_heap kf 0 (by simp)).1
      have f1 := (cells_of_heap kf 1 (by simp)).1
      have f2 := (cells_of_heap kf 2 (by simp)).1
      have f3 := (cells_of_heap kf 3 (by simp)).1
      simp only [List.getElem_toArray, List.getElem_cons_zero, List.getElem_cons_succ] at f0 f1 f2 f3
      refine bodyPost_ret (v := acv rk rc rm rn) (by simp [results, Tryz.results27, go_sem, f0, f1, f2, f3]) rfl ⟨rfl, bf⟩
end Go.Proofs.YtjfckchoklepbaaGreat

namespace Go.Proofs.YtjfckchoklepbaaGreat
open Go.RowKit

theorem run_copy_whole {P : Program} (w : World) (dT sT ty elem : TypeId) (c g n dCap : Nat) (a : Addr) (sCap : Nat) (cur : Array Value) (t : TypeId) (cs : List Value)
    (hu : P.underlying dT = some (.slice elem)) (hs : (P.info? elem).map (·.size) = some c)
    (hg : w.heap[g]? = some (.cells cur t (0, 0))) (hn : cs.length = n * c)
    (hsrc : ∀ j v, cs[j]? = some v → w.cell? (a.add j) = some v) (hfit : cs.length ≤ cur.size) (h1 : ∀ v ∈ cs, v.oneCell' = true) :
    (Builtin.copy_ #[dT, sT] ty #[.slice (some ⟨g, 0, none⟩) n dCap, .slice (some a) n sCap]).run P w =
      .ok (goInt n) (w.setRow g (cs ++ cur.toList.drop cs.length).toArray) := by
  have hl := run_loadCells_list (P := P) w a cs hsrc
  have hst := run_storeCells_at P g 0 t cs 0 cur w hg (by simpa using hfit) h1
  cases hq : P.info? elem with
  | none => simp [hq] at hs
  | some i =>
    have hi : i.size = c := by simpa [hq] using hs
    simp [Builtin.copy_, run_underlying hu, Builtin.lenOf, Builtin.firstCells, sizeOf, typeInfo, hq, hi, ← hn, hl, hst]

theorem wpList_copy_all {P : Program} {w : World} {ops : Array Oper} {rest : List Oper} {o : Oper} {a : Act} {Q : Exit → Act → World → Prop} (hgd : o.guard = none) (d s : Operand) (dT sT : TypeId)
    (ho : o.op = .call { callee := .builtin .copy, args := #[d, s], argTypes := #[dT, sT] }) (elem : TypeId) (c : Nat) (hu : P.underlying dT = some (.slice elem)) (hsz : (P.info? elem).map (·.size) = some c)
    (base g n dCap : Nat) (ad : Addr) (sCap : Nat) (hd : a.eval d = .slice (some ⟨g, 0, none⟩) n dCap) (hs : a.eval s = .slice (some ad) n sCap)
    (e : TypeId) (xs cs : List Value) (hown : w.ownsRow base e c (.slice (some ⟨g, 0, none⟩) n dCap) n xs) (hn : cs.length = n * c)
    (hsrc : ∀ j v, cs[j]? = some v → w.cell? (ad.add j) = some v) (h1 : ∀ v ∈ cs, v.oneCell' = true)
    (h : ∀ w', w'.ownsRow base e c (.slice (some ⟨g, 0, none⟩) n dCap) n cs → w.grownBy w' (some g) → wpList P ops Q rest (a.put o.dst (goInt n)) w') :
    wpList P ops Q (o :: rest) a w := by
  obtain ⟨hx, h2⟩ := hown
  rcases h2 with ⟨h2, _⟩ | ⟨g', cap', cur, h2, hg, hh, hnc, hcm, hcs, ht⟩
  · simp at h2
  · simp only [Value.slice.injEq, Option.some.injEq, Addr.mk.injEq, and_true, true_and] at h2
    obtain ⟨rfl, rfl⟩ := h2
    have hle : n * c ≤ cur.size := by rw [hcs]; exact Nat.mul_le_mul_right _ hnc
    refine wpList_plain hgd fun K hK => ?_
    have hrun := run_copy_whole (P := P) w dT sT o.type elem c g n dCap ad sCap cur e cs hu hsz hh hn hsrc (by omega) h1
    unfold Oper.wp
    simp [execOp, ho, resolve, invoke, builtin, hd, hs, hrun, Result.andThen]
    refine hK _ _ (h _ ⟨hn, .inr ⟨g, dCap, _, rfl, hg, setRow_heap w g cur _ e _ hh, hnc, hcm, ?_, ?_⟩⟩ ⟨rfl, rfl, rfl, by simp, fun k _ hk => setRow_other w g k _ (fun e => hk (by simp [e]))⟩)
    · simp; omega
    · simp [← hn]
end Go.Proofs.YtjfckchoklepbaaGreat

namespace Go.Proofs.YtjfckchoklepbaaGreat
open Go.RowKit

theorem made_acs (K : Nat) : (madeCells #[Value.int .i64 0, .int .i64 0, .int .i64 0, .int .i64 0] (K * 4)).toList = (List.replicate K (⟨0, 0, 0, 0⟩ : Ac)).flatMap Ac.cells := by
  have h1 : (madeCells #[Value.int .i64 0, .int .i64 0, .int .i64 0, .int .i64 0] (K * 4)).toList = List.replicate (K * 4) (.int .i64 0) := by
    apply List.ext_getElem?
    intro j
    by_cases hj : j < K * 4
    · rw [List.getElem?_replicate, if_pos hj, Array.getElem?_toList, Array.getElem?_eq_getElem (by rw [size_madeCells]; exact hj)]
      simp only [madeCells, Array.getElem_map, Array.getElem_range]
      have h4 : j % 4 < 4 := Nat.mod_lt _ (by decide)
      show some ((#[Value.int .i64 0, .int .i64 0, .int .i64 0, .int .i64 0] : Array Value)[j % 4]!) = _
      generalize j % 4 = q at h4
      have : q = 0 ∨ q = 1 ∨ q = 2 ∨ q = 3 := by omega
      rcases this with rfl | rfl | rfl | rfl <;> rfl
    · rw [List.getElem?_eq_none (by simp [size_madeCells]; omega), List.getElem?_eq_none (by simp; omega)]
  rw [h1]
  clear h1
  induction K with
  | zero => rfl
  | succ K ih => rw [List.replicate_succ, List.flatMap_cons, ← ih, show (K + 1) * 4 = 4 + K * 4 by omega, ← List.replicate_append_replicate]; rfl

end Go.Proofs.YtjfckchoklepbaaGreat
