/- DERIVED. The program's LayerAt and ActionAt: each returns what a plain function says. · 'copy' between two rows of one length whose elements may have several cells, the first one owned. No condition. · The program's grid: whether it has a cell, and a copy with one cell anew, in memory of its own. · The program's SetAction: a keymap with one action anew, in memory of its own. -/
import Derived.Test.YtleheibpgngmiaaDoorKmImpl
import Derived.Test.YtleheibpgngmiaaDoorCore
import Derived.Laws.CopyOwn
import Derived.Test.YtleheibpgngmiaaDoorKmSpec5
import Derived.Test.YtleheibpgngmiaaDoorLawBits
import Derived.Deep.RegionHeld3
import Derived.Deep.DeepCutAuto
namespace Go.Proofs.YtleheibpgngmiaaDoor
open Go.RowKit

theorem bit01 (z : Int) (k : Nat) : bits .and .i64 (z / 2 ^ k) 1 = 0 ∨ bits .and .i64 (z / 2 ^ k) 1 = 1 := by
  unfold bits
  have e : (BitVec.ofInt 64 1).toNat = 1 := by decide
  have hle : (BitVec.ofInt 64 (z / 2 ^ k) &&& BitVec.ofInt 64 1).toNat ≤ 1 := by
    rw [BitVec.toNat_and, e]; exact Nat.and_le_right
  show IntKind.i64.wrap ((BitVec.ofInt 64 (z / 2 ^ k) &&& BitVec.ofInt 64 1).toNat : Int) = 0 ∨ IntKind.i64.wrap ((BitVec.ofInt 64 (z / 2 ^ k) &&& BitVec.ofInt 64 1).toNat : Int) = 1
  generalize (BitVec.ofInt 64 (z / 2 ^ k) &&& BitVec.ofInt 64 1).toNat = m at hle
  rw [IntWalk.i64_in _ ⟨by omega, by omega⟩]
  omega
theorem run_copy_whole {P : Program} (w : World) (dT sT ty elem : TypeId) (c g n dCap : Nat) (a : Addr) (sCap : Nat) (cur : Array Value) (t : TypeId) (cs : List Value)
    (hu : P.underlying dT = some (.slice elem)) (hs : (P.info? elem).map (·.size) = some c)
    (hg : w.heap[g]? = some (.cells cur t (0, 0))) (hn : cs.length = n * c)
    (hsrc : ∀ j v, cs[j]? = some v → w.cell? (a.add j) = some v) (hfit : cs.length ≤ cur.size) (h1 : ∀ v ∈ cs, v.oneCell' = true) :
    (Builtin.copy_ #[dT, sT] ty #[.slice (some ⟨g, 0, none⟩) n dCap, .slice (some a) n sCap]).run P w =
      .ok (goInt n) (w.setRow g (cs ++ cur.toList.drop cs.length).toArray) := by
  have hl := run_loadCells_list (P := P) w a cs hsrc
  have hst := run_storeCells_at P g 0 t cs 0 cur w hg (by simpa using hfit) h1
  cases hq : P.info? elem with
  | none => simp [hq] at hs
  | some i =>
    have hi : i.size = c := by simpa [hq] using hs
    simp [Builtin.copy_, run_underlying hu, Builtin.lenOf, Builtin.firstCells, sizeOf, typeInfo, hq, hi, ← hn, hl, hst]

theorem wpList_copy_all {P : Program} {w : World} {ops : Array Oper} {rest : List Oper} {o : Oper} {a : Act} {Q : Exit → Act → World → Prop} (hgd : o.guard = none) (d s : Operand) (dT sT : TypeId)
    (ho : o.op = .call { callee := .builtin .copy, args := #[d, s], argTypes := #[dT, sT] }) (elem : TypeId) (c : Nat) (hu : P.underlying dT = some (.slice elem)) (hsz : (P.info? elem).map (·.size) = some c)
    (base g n dCap : Nat) (ad : Addr) (sCap : Nat) (hd : a.eval d = .slice (some ⟨g, 0, none⟩) n dCap) (hs : a.eval s = .slice (some ad) n sCap)
    (e : TypeId) (xs cs : List Value) (hown : w.ownsRow base e c (.slice (some ⟨g, 0, none⟩) n dCap) n xs) (hn : cs.length = n * c)
    (hsrc : ∀ j v, cs[j]? = some v → w.cell? (ad.add j) = some v) (h1 : ∀ v ∈ cs, v.oneCell' = true)
    (h : ∀ w', w'.ownsRow base e c (.slice (some ⟨g, 0, none⟩) n dCap) n cs → w.grownBy w' (some g) → wpList P ops Q rest (a.put o.dst (goInt n)) w') :
    wpList P ops Q (o :: rest) a w := by
  obtain ⟨hx, h2⟩ := hown
  rcases h2 with ⟨h2, _⟩ | ⟨g', cap', cur, h2, hg, hh, hnc, hcm, hcs, ht⟩
  · simp at h2
  · simp only [Value.slice.injEq, Option.some.injEq, Addr.mk.injEq, and_true, true_and] at h2
    obtain ⟨rfl, rfl⟩ := h2
    have hle : n * c ≤ cur.size := by rw [hcs]; exact Nat.mul_le_mul_right _ hnc
    refine wpList_plain hgd fun K hK => ?_
    have hrun := run_copy_whole (P := P) w dT sT o.type elem c g n dCap ad sCap cur e cs hu hsz hh hn hsrc (by omega) h1
    unfold Oper.wp
    simp [execOp, ho, resolve, invoke, builtin, hd, hs, hrun, Result.andThen]
    refine hK _ _ (h _ ⟨hn, .inr ⟨g, dCap, _, rfl, hg, setRow_heap w g cur _ e _ hh, hnc, hcm, ?_, ?_⟩⟩ ⟨rfl, rfl, rfl, by simp, fun k _ hk => setRow_other w g k _ (fun e => hk (by simp [e]))⟩)
    · simp; omega
    · simp [← hn]
end Go.Proofs.YtleheibpgngmiaaDoor

namespace Go.Proofs.YtleheibpgngmiaaDoor
open Go.RowKit

set_option maxRecDepth 100000 in
set_option maxHeartbeats 4000000 in
theorem hasCell_q (keys layer key : Int) (v : Value) (L : List (List Ac)) (w : World) (o p1 p2 : Bool) (h1 : p1 = inB layer 0 ((L.length : Int) - 1)) (h2 : p2 = inB key 0 (keys - 1)) (ho : o = (p1 && p2)) (hk : okKm keys L = true) (h : LdS w v L) :
    Calls Tryd.prog 55 #[v, .int .i64 layer, .int .i64 key] w fun e w' => e = .returned (.bool o) ∧ w = w' := by
  obtain ⟨⟨k1, k32⟩, ⟨l1, l4⟩, hall⟩ := okKm_at hk
  obtain ⟨N, hN⟩ : ∃ N, N = L.length := ⟨_, rfl⟩
  rw [← hN] at h1 l1 l4 hall
  have HP1 := Lib.hid h1
  have HP2 := Lib.hid h2
  rcases RdS.cases h with ⟨hnil, _⟩ | ⟨b, off, cap, us, hpos, rfl, hlt, hc⟩
  · exfalso; rw [hN, hnil] at l1; simp at l1
  · rw [← hN] at hc ⊢
    have hw : IntKind.i64.wrap ((N : Int) - 1) = (N : Int) - 1 := IntWalk.i64_in _ ⟨by omega, by omega⟩
    clear h hk hpos hN k1
    cases p1
    · obtain rfl : o = false := ho
      clear hall hc h1 h2
      go_enter Tryd.func55, Tryd.ntmps55
      go_wp2_with fail
      refine (isBetween_any layer 0 ((N : Int) - 1) _).mono ?_
      rw [← HP1.out]
      rintro e w0 ⟨rfl, rfl⟩
      go_wp2
      go_ret
      exact ⟨rfl, rfl⟩
    · obtain rfl : o = p2 := by simpa using ho
      have hly := of_decide_eq_true (show decide (0 ≤ layer ∧ layer ≤ (N : Int) - 1) = true from h1.symm)
      obtain ⟨i, rfl⟩ := Int.eq_ofNat_of_zero_le hly.1
      have hiN : i < N := by omega
      obtain ⟨d0, hrow⟩ := hc i hiN
      have hlen := (hall i hiN).1
      obtain ⟨ua, uc, hu⟩ := RdN.shape hrow
      rw [hu] at d0
      obtain ⟨n, hn⟩ : ∃ n, n = (lD L i).length := ⟨_, rfl⟩
      rw [← hn] at d0 hlen
      have hw2 : IntKind.i64.wrap ((n : Int) - 1) = (n : Int) - 1 := IntWalk.i64_in _ ⟨by omega, by omega⟩
      have HP2' := Lib.hid (show o = inB key 0 ((n : Int) - 1) by rw [HP2.out, ← hlen])
      clear hall hc ho h1 h2 hrow hu hn hlen hly
      go_enter Tryd.func55, Tryd.ntmps55
      go_wp2_with fail
      refine (isBetween_any i 0 ((N : Int) - 1) _).mono ?_
      rw [← HP1.out]
      rintro e w0 ⟨rfl, rfl⟩
      go_wp2_with fail
      refine (isBetween_any key 0 ((n : Int) - 1) _).mono ?_
      rw [← HP2'.out]
      rintro e w0 ⟨rfl, rfl⟩
      go_wp2
      go_ret
      exact ⟨ret_bool (by simp), rfl⟩

theorem made_acs (K : Nat) : (madeCells #[Value.int .i64 0, .int .i64 0, .int .i64 0, .int .i64 0] (K * 4)).toList = (List.replicate K (⟨0, 0, 0, 0⟩ : Ac)).flatMap Ac.cells := by
  have h1 : (madeCells #[Value.int .i64 0, .int .i64 0, .int .i64 0, .int .i64 0] (K * 4)).toList = List.replicate (K * 4) (.int .i64 0) := by
    apply List.ext_getElem?
    intro j
    by_cases hj : j < K * 4
    · rw [List.getElem?_replicate, if_pos hj, Array.getElem?_toList, Array.getElem?_eq_getElem (by rw [size_madeCells]; exact hj)]
      simp only [madeCells, Array.getElem_map, Array.getElem_range]
      have h4 : j % 4 < 4 := Nat.mod_lt _ (by decide)
      show some ((#[Value.int .i64 0, .int .i64 0, .int .i64 0, .int .i64 0] : Array Value)[j % 4]!) = _
      generalize j % 4 = q at h4
      have : q = 0 ∨ q = 1 ∨ q = 2 ∨ q = 3 := by omega
      rcases this with rfl | rfl | rfl | rfl <;> rfl
    · rw [List.getElem?_eq_none (by simp [size_madeCells]; omega), List.getElem?_eq_none (by simp; omega)]
  rw [h1]
  clear h1
  induction K with
  | zero => rfl
  | succ K ih => rw [List.replicate_succ, List.flatMap_cons, ← ih, show (K + 1) * 4 = 4 + K * 4 by omega, ← List.replicate_append_replicate]; rfl

set_option maxRecDepth 100000 in
set_option maxHeartbeats 8000000 in
theorem withCell_any (K : Nat) (v : Value) (L : List (List Ac)) (i q : Nat) (k c m n : Int) (w : World) (ho : okKm K L = true) (hi : i < L.length) (hq : q < K) (h : LdS w v L) :
    Calls Tryd.prog 56 #[v, .int .i64 i, .int .i64 q, acv k c m n] w fun e w' => ∃ a cap fp, e = .returned (.slice a L.length cap) ∧ LoS w' w.heap.size (.slice a L.length cap) (setL L i q ⟨k, c, m, n⟩) fp ∧ Below w.heap.size w w' := by
  obtain ⟨i0, hi0, hz0, hz1, hz2⟩ := info_parts info_ac
  obtain ⟨i1, hI1, hy0, hy1, hy2⟩ := info_parts info_acs
  obtain ⟨⟨k1, k32⟩, ⟨l1, l4⟩, hall⟩ := okKm_at ho
  obtain ⟨N, hN⟩ : ∃ N, N = L.length := ⟨_, rfl⟩
  have HNL := Lib.hid hN
  rw [← hN] at hi l1 l4 hall ⊢
  have HAll := Lib.hid (show ∀ j, j < N → (lD L j).length = K from fun j hj => by have := (hall j hj).1; omega)
  have hK : K ≤ 32 := by omega
  rcases RdS.cases h with ⟨hnil, _⟩ | ⟨b, off, cap, us0, hpos, rfl, hlt, hc⟩
  · exfalso; rw [hN, hnil] at l1; simp at l1
  · rw [← hN] at hc ⊢
    have HC := Lib.hid hc
    have HLT := Lib.hid hlt
    clear h ho hall hN hpos hc hlt k1 k32
    obtain ⟨W, hW⟩ : ∃ W, W = w.alloc (.cells #[.int .i64 k, .int .i64 c, .int .i64 m, .int .i64 n] 37) := ⟨_, rfl⟩
    have HX0 := Lib.hid (show Bxd W w.heap.size [.int .i64 k, .int .i64 c, .int .i64 m, .int .i64 n] by rw [hW]; exact Bxd.new _ _ _)
    have HB0 := Lib.hid (show Below w.heap.size w W by rw [hW]; exact (Below.refl _ _).alloc (Nat.le_refl _) _)
    have HS0 := Lib.hid (show w.heap.size < W.heap.size by rw [hW]; simp)
    have HW := Lib.hid hW
    clear hW
    go_enter Tryd.func56, Tryd.ntmps56
    go_upto_region 1 with (fail)
    rw [← HW.out]
    go_wp2_with (at_make; refine wpList_make_full W rfl _ _ 80 rfl W.heap.size 54 i1 (.slice none 0 0) 1 Tryd.underlying80 hI1 hy0 hy1 .i64 .i64 _ _ N rfl rfl rfl rfl (by rw [hy2]; omega) ?_ ?_ ?_)
    · simp [maxLen]; omega
    · exact Nat.le_refl _
    · intro w1 hown hg
      obtain ⟨g, hgW⟩ : ∃ g, g = W.heap.size := ⟨_, rfl⟩
      rw [← hgW] at hown ⊢
      have HgW := Lib.hid hgW
      have hB1 : Below g W w1 := (Below.refl _ _).grown hg (by rw [hgW]; exact Nat.le_refl _) (fun k hk => by cases hk)
      have HOwn := Lib.hid (show LoB w1 g (.slice (some ⟨g, 0, none⟩) N N) N ((madeCells #[Value.slice none 0 0] N).toList) [] [] from OwB.start hown)
      have HB1 := Lib.hid hB1
      clear hown hg hB1 hgW
      go_wp2
      go_loopw [10, 11, 17] (fun _ _ i wr => ∃ (j : Nat) (us : List Value) (fps : List (List Nat)), j ≤ N ∧ i = .int .i64 j ∧ LoB wr g (.slice (some ⟨g, 0, none⟩) N N) N us (L.take j) fps ∧ Below g W wr) (fun _ _ i _ => N - (intOf i).toNat)
      case atStart => exact ⟨0, _, [], Nat.zero_le _, rfl, by rw [List.take_zero]; exact HOwn.out, HB1.out⟩
      case round =>
        obtain ⟨j, us, fps, hj, rfl, hob, hb⟩ := hrel
        by_cases hlt' : j < N
        · obtain ⟨d0, hrow⟩ := HC.out j hlt'
          have hlen := HAll.out j hlt'
          obtain ⟨ua, uc, hu⟩ := RdN.shape hrow
          rw [hu] at d0 hrow
          rw [hlen] at d0
          obtain ⟨b2, off2, rfl, hlt2, -⟩ := row_at hrow (k := 0) (by rw [hlen]; omega)
          have hbw := HB0.out.trans (hb.mono (show w.heap.size ≤ g by rw [HgW.out]; exact HB0.out.size))
          have hbl : b < wr.heap.size := Nat.lt_of_lt_of_le HLT.out hbw.size
          have d1 := (hbw.cell (p := ⟨b, off + j, none⟩) HLT.out).trans d0
          have hnews : ∀ w', Below w.heap.size w w' → ∀ q u, ((lD L j).flatMap Ac.cells)[q]? = some u → w'.cell? ((⟨b2, off2, none⟩ : Addr).add q) = some u := by
            intro w' hw' q u hq
            have hl := (List.getElem?_eq_some_iff.mp hq).1
            have hadd : (⟨b2, off2, none⟩ : Addr).add q = ⟨b2, off2 + q, none⟩ := by unfold Addr.add; split <;> simp_all
            rw [hadd, hw'.cell (p := ⟨b2, off2 + q, none⟩) hlt2]
            rcases hrow.cases with ⟨h0, _⟩ | ⟨_, b3, off3, cap3, hs, _, hcc⟩
            · omega
            · obtain ⟨⟨rfl, rfl⟩, -⟩ := by simpa using hs
              rw [hcc q hl]
              exact (List.getElem?_eq_getElem hl ▸ hq)
          have hnl : ((lD L j).flatMap Ac.cells).length = K * 4 := by rw [← hlen]; exact flatAc_len _
          have HNews := Lib.hid hnews
          have HNL2 := Lib.hid hnl
          have HLen := Lib.hid hlen
          have HBW := Lib.hid hbw
          have HOB := Lib.hid hob
          have HB := Lib.hid hb
          clear hnews hnl hlen hbw hob hb d0 hrow hu
          go_wp2_with (at_make; refine wpList_make_full wr rfl _ _ 54 rfl wr.heap.size 37 i0 (.agg #[.int .i64 0, .int .i64 0, .int .i64 0, .int .i64 0]) 4 Tryd.underlying54 hi0 hz0 hz1 .i64 .i64 _ _ K rfl rfl rfl rfl (by rw [hz2]; omega) ?_ ?_ ?_)
          · simp [maxLen]; omega
          · exact Nat.le_refl _
          · intro w2 hown2 hg2
            rw [made_acs] at hown2
            obtain ⟨r, hr⟩ : ∃ r, r = wr.heap.size := ⟨_, rfl⟩
            rw [← hr] at hown2 ⊢
            have hB2 : Below r wr w2 := (Below.refl _ _).grown hg2 (by rw [hr]; exact Nat.le_refl _) (fun k hk => by cases hk)
            have ho2 := HOB.out.below (by rw [← hr]; exact hB2)
            have hxl : us.length = N := by have := ho2.own.1; omega
            have htl : (L.take j).length = j := by rw [List.length_take, ← HNL.out]; omega
            have hfl : fps.length = j := by rw [HOB.out.len, htl]
            obtain ⟨y0, s0⟩ : ∃ y, w2.cell? ⟨g, j, none⟩ = some y := ⟨us[j]'(by omega), by rw [ho2.own.cellAt j (by omega), List.getElem?_eq_getElem (show j < us.length by omega)]⟩
            have z0 := ho2.own.frozenAt j
            have hgr : g ≤ r := by rw [hr]; exact Nat.le_trans (by rw [HgW.out]; exact Nat.le_refl _) HB.out.size
            have hof : OwF w2 g 37 4 (.slice (some ⟨r, 0, none⟩) K K) (List.replicate K (⟨0, 0, 0, 0⟩ : Ac)).length ((List.replicate K (⟨0, 0, 0, 0⟩ : Ac)).flatMap Ac.cells) [r] := ⟨by rw [List.length_replicate]; exact owns_base hown2 hgr, by simp [ownFp, Value.ownBlock]⟩
            have hset := OwB.set (S := r) ho2 (by rw [htl]; exact hlt') hof (fun b hb => by rw [List.mem_singleton] at hb; omega) (fun b hb => by rw [hr]; exact (HOB.out.rng b hb).2)
            rw [htl] at hset
            obtain ⟨w3, hw3⟩ : ∃ w3, w3 = w2.setCell ⟨g, j, none⟩ (.slice (some ⟨r, 0, none⟩) K K) := ⟨_, rfl⟩
            rw [← hw3] at hset
            have hrow3 := hset.row j (by rw [List.length_append, htl]; simp)
            rw [lD_snoc, fD_snoc, uD_set _ _ _ _ (by omega), if_pos rfl, if_neg (by omega), if_pos htl.symm, if_neg (by omega), if_pos (by omega)] at hrow3
            have g3 : w3.cell? ⟨g, j, none⟩ = some (.slice (some ⟨r, 0, none⟩) K K) := by
              have := hset.own.cellAt j (by omega)
              rw [this, List.getElem?_set, if_pos rfl, if_pos (by omega)]
            have hb3 : Below g W w3 := by rw [hw3]; exact (HB.out.trans (hB2.mono hgr)).setCell (Nat.le_refl _) _
            have hfr : fD (fps ++ [[r]]) j = [r] := by rw [fD_snoc, if_neg (by omega), if_pos (by omega)]
            have huj : uD (us.set j (.slice (some ⟨r, 0, none⟩) K K)) j = .slice (some ⟨r, 0, none⟩) K K := by rw [uD_set _ _ _ _ (by omega), if_pos rfl]
            have HSet := Lib.hid hset
            have HRow3 := Lib.hid (show w3.ownsRow g 37 4 (.slice (some ⟨r, 0, none⟩) K K) K ((List.replicate K (⟨0, 0, 0, 0⟩ : Ac)).flatMap Ac.cells) by have := hrow3.1; rw [List.length_replicate] at this; exact this)
            have HB3 := Lib.hid hb3
            have HFR := Lib.hid hfr
            have HUJ := Lib.hid huj
            have HTL := Lib.hid htl
            have HW3 := Lib.hid hw3
            clear hfl ho2 hxl hof hset hrow3 hb3 hown2 hg2 hB2 hfr huj htl hr hw3
            go_upto_region 6 with (fail)
            rw [← HW3.out]
            clear s0 z0 y0
            go_wp2_with (refine wpList_copy_all (o := ⟨some 33, _, _, _, _, _⟩) rfl (.tmp 31) (.tmp 32) 54 54 rfl 37 4 Tryd.underlying54 (by rw [hi0]; simp [hz1]) g r K K ⟨b2, off2, none⟩ uc rfl rfl 37 _ ((lD L j).flatMap Ac.cells) HRow3.out HNL2.out (HNews.out _ (HB0.out.trans (HB3.out.mono (by rw [HgW.out]; exact HB0.out.size)))) (flatAc_one _) ?_)
            intro w4 hown4 hg4
            have hset4 : (L.take j ++ [List.replicate K (⟨0, 0, 0, 0⟩ : Ac)]).set j (lD L j) = L.take (j + 1) := by
              have h1 := HTL.out
              rw [lD_take L j (by rw [← HNL.out]; exact hlt')]
              apply List.ext_getElem?
              intro x
              rw [List.getElem?_set, List.length_append, h1]
              by_cases hx : j = x
              · subst hx
                rw [if_pos rfl, if_pos (by simp), List.getElem?_append_right (by omega), h1, Nat.sub_self]; rfl
              · rw [if_neg hx]
                by_cases hx2 : x < j
                · rw [List.getElem?_append_left (by omega), List.getElem?_append_left (by omega)]
                · rw [List.getElem?_eq_none (by simp; omega), List.getElem?_eq_none (by simp; omega)]
            have hnew := OwS.turned HSet.out (j := j) (l := lD L j) (w' := w4) (by rw [List.length_append, HTL.out]; simp) (by rw [HFR.out, HUJ.out, HLen.out]; exact ⟨hown4, by simp [ownFp, Value.ownBlock]⟩) (by rw [HFR.out]; exact Turn.of_grown hg4)
            rw [hset4] at hnew
            have hb4 : Below g W w4 := HB3.out.grown hg4 (by have := HB3.out.size; rw [HgW.out]; exact this) (fun k hk => by simp at hk; omega)
            have HNew := Lib.hid hnew
            have HB4 := Lib.hid hb4
            clear hset4 hnew hb4 hown4 hg4 g3 d1
            go_wp2
            go_roundw
            case rel => exact ⟨j + 1, _, _, by omega, by go_num, HNew.out, HB4.out⟩
            case measure => simp [intOf]; omega
        · obtain rfl : j = N := by omega
          rw [HNL.out, List.take_length, ← HNL.out] at hob
          have hrow := hob.row i (by rw [← HNL.out]; exact hi)
          have hlen := HAll.out i hi
          obtain ⟨R, cR, hRv, hRB, hRlt⟩ := hrow.1.form (by rw [hlen]; omega)
          have husl : us.length = j := by have := hob.own.1; omega
          have gi : wr.cell? ⟨g, i, none⟩ = some (.slice (some ⟨R, 0, none⟩) K cR) := by
            rw [hob.own.cellAt i (by omega), List.getElem?_eq_getElem (by omega), ← hlen, ← hRv, uD, List.getD_eq_getElem?_getD, List.getElem?_eq_getElem (by omega)]
            rfl
          have hrw : wr.ownsRow g 37 4 (.slice (some ⟨R, 0, none⟩) (lD L i).length cR) (lD L i).length (flatAc (lD L i)) := by rw [← hRv]; exact hrow.1
          have hfl : (flatAc (lD L i)).length = K * 4 := by rw [flatAc_len, hlen]
          obtain ⟨x0, s0⟩ : ∃ y, wr.cell? ⟨R, q * 4, none⟩ = some y := ⟨(flatAc (lD L i))[q * 4]'(by omega), by rw [hrw.cellAt (q * 4) (by omega), List.getElem?_eq_getElem]⟩
          obtain ⟨x1, s1⟩ : ∃ y, wr.cell? ⟨R, q * 4 + 1, none⟩ = some y := ⟨(flatAc (lD L i))[q * 4 + 1]'(by omega), by rw [hrw.cellAt (q * 4 + 1) (by omega), List.getElem?_eq_getElem]⟩
          obtain ⟨x2, s2⟩ : ∃ y, wr.cell? ⟨R, q * 4 + 2, none⟩ = some y := ⟨(flatAc (lD L i))[q * 4 + 2]'(by omega), by rw [hrw.cellAt (q * 4 + 2) (by omega), List.getElem?_eq_getElem]⟩
          obtain ⟨x3, s3⟩ : ∃ y, wr.cell? ⟨R, q * 4 + 3, none⟩ = some y := ⟨(flatAc (lD L i))[q * 4 + 3]'(by omega), by rw [hrw.cellAt (q * 4 + 3) (by omega), List.getElem?_eq_getElem]⟩
          have z0 := hrw.frozenAt (q * 4)
          have z1 := hrw.frozenAt (q * 4 + 1)
          have z2 := hrw.frozenAt (q * 4 + 2)
          have z3 := hrw.frozenAt (q * 4 + 3)
          have hgW' : w.heap.size < g := by rw [HgW.out]; exact HS0.out
          have hXr := HX0.out.below hb hgW'
          have a0 := hXr.at 0 _ rfl
          have a1 := hXr.at 1 _ rfl
          have a2 := hXr.at 2 _ rfl
          have a3 := hXr.at 3 _ rfl
          have hRfp : fD fps i = [R] := by rw [hrow.2, hRv]; simp [ownFp, Value.ownBlock]
          have HOB := Lib.hid hob
          have HRV := Lib.hid hRv
          have HRW := Lib.hid hrw
          have HFL := Lib.hid hfl
          have HRFP := Lib.hid hRfp
          have HB := Lib.hid hb
          have HLen := Lib.hid hlen
          clear hob hrow hRv husl hrw hfl hRfp hb hlen hXr hgW'
          go_upto_region 8 with (fail)
          go_region
          all_goals
            obtain ⟨W4, e4⟩ : ∃ x, x = (putW wr R (q * 4) [.int .i64 k, .int .i64 c, .int .i64 m, .int .i64 n]).drew := ⟨_, rfl⟩
            have c4 := e4.symm
            simp only [putW, Nat.add_assoc, Nat.reduceAdd] at c4
            rw [c4]
            clear c4 s0 s1 s2 s3 z0 z1 z2 z3 a0 a1 a2 a3 gi
            have hqf : q * 4 + 4 ≤ (flatAc (lD L i)).length := by have := HFL.out; omega
            have hput := owns_put HRW.out (q * 4) [.int .i64 k, .int .i64 c, .int .i64 m, .int .i64 n] hqf
            have hset := flatAc_set (lD L i) q ⟨k, c, m, n⟩ (by rw [HLen.out]; exact hq)
            have hsl : ((lD L i).set q ⟨k, c, m, n⟩).length = (lD L i).length := by simp
            have hof : OwF (putW wr R (q * 4) [.int .i64 k, .int .i64 c, .int .i64 m, .int .i64 n]) g 37 4 (uD us i) ((lD L i).set q ⟨k, c, m, n⟩).length (((lD L i).set q ⟨k, c, m, n⟩).flatMap Ac.cells) (fD fps i) := by
              rw [hsl, HRFP.out, HRV.out]
              refine ⟨?_, by simp [ownFp, Value.ownBlock]⟩
              show World.ownsRow _ _ _ _ _ _ (flatAc ((lD L i).set q ⟨k, c, m, n⟩))
              rw [hset]; exact hput
            have htn : Turn wr (putW wr R (q * 4) [.int .i64 k, .int .i64 c, .int .i64 m, .int .i64 n]) (fD fps i) := by rw [HRFP.out]; exact Turn.of_grown (putW_grown _ _ _)
            have hnew := (OwS.turned HOB.out (by rw [← HNL.out]; exact hi) hof htn).below (w' := W4) (by rw [e4]; exact (Below.refl _ _).drew)
            have hsn : j = (setL L i q ⟨k, c, m, n⟩).length := by rw [HNL.out]; simp [setL]
            have hos4 := OwB.done hnew hsn
            have hb4 : Below w.heap.size w W4 := by rw [e4]; exact (putW_below (by have := HgW.out; have := HS0.out; omega) _ _ _ (HB0.out.trans (HB.out.mono (by have := HgW.out; have := HS0.out; omega)))).drew
            have HOS4 := Lib.hid hos4
            have HB4 := Lib.hid hb4
            clear e4 hqf hput hset hsl hof htn hnew hsn hos4 hb4
            go_wp2
            go_ret
            exact ⟨_, _, _, rfl, HOS4.out.base (by have := HgW.out; have := HS0.out; omega), HB4.out⟩

theorem withCell_n (N : Nat) (K : Nat) (v : Value) (L : List (List Ac)) (hN : N = L.length) (i q : Nat) (k c m n : Int) (w : World) (ho : okKm K L = true) (hi : i < L.length) (hq : q < K) (h : LdS w v L) :
    Calls Tryd.prog 56 #[v, .int .i64 i, .int .i64 q, acv k c m n] w fun e w' => ∃ a cap fp, e = .returned (.slice a N cap) ∧ LoS w' w.heap.size (.slice a N cap) (setL L i q ⟨k, c, m, n⟩) fp ∧ Below w.heap.size w w' := by
  rw [hN]; exact withCell_any K v L i q k c m n w ho hi hq h
end Go.Proofs.YtleheibpgngmiaaDoor

namespace Go.Proofs.YtleheibpgngmiaaDoor
open Go.RowKit

set_option maxRecDepth 100000 in
set_option maxHeartbeats 8000000 in
theorem implSetAction_any (keys layer key k c m n : Int) (v : Value) (L : List (List Ac)) (w : World) (hn : L.length ≤ maxLen) (hm : ∀ l ∈ L, l.length ≤ maxLen) (h : LdS w v L) :
    Calls Tryd.prog 32 #[kmv keys v, .int .i64 layer, .int .i64 key, acv k c m n] w (KmOut (setV keys L layer key ⟨k, c, m, n⟩) w) := by
  obtain ⟨r, hr⟩ : ∃ r, r = setV keys L layer key ⟨k, c, m, n⟩ := ⟨_, rfl⟩
  obtain ⟨o, ho⟩ : ∃ o, o = okKm keys L := ⟨_, rfl⟩
  obtain ⟨p1, hp1⟩ : ∃ p, p = inB layer 0 ((L.length : Int) - 1) := ⟨_, rfl⟩
  obtain ⟨p2, hp2⟩ : ∃ p, p = inB key 0 (keys - 1) := ⟨_, rfl⟩
  obtain ⟨o2, ho2⟩ : ∃ o, o = okKm keys (setL L layer.toNat key.toNat ⟨k, c, m, n⟩) := ⟨_, rfl⟩
  rw [← hr]
  have hr2 := hr
  rw [setV, setOk, ← ho, ← hp1, ← hp2, ← ho2] at hr2
  obtain ⟨xa, xc, rfl⟩ := RdS.shape h
  obtain ⟨N, hN⟩ : ∃ N, N = L.length := ⟨_, rfl⟩
  rw [← hN] at hp1 ⊢
  have HNL := Lib.hid hN
  have HO := Lib.hid ho
  have HP1 := Lib.hid hp1
  have HP2 := Lib.hid hp2
  have HO2 := Lib.hid ho2
  have HR := Lib.hid hr2
  have HN := Lib.hid hn
  have HM := Lib.hid hm
  have H := Lib.hid h
  clear hr hr2 hn hm h ho hp1 hp2 ho2 hN
  obtain ⟨U, hU⟩ : ∃ U, U = ((w.alloc (.cells #[.int .i64 keys, .slice xa N xc] 31)).alloc (.cells #[.int .i64 k, .int .i64 c, .int .i64 m, .int .i64 n] 37)).alloc (.cells #[.int .i64 0, .slice none 0 0] 31) := ⟨_, rfl⟩
  have HGr := Lib.hid (show U.heap[w.heap.size + 1 + 1]? = some (.cells #[.int .i64 0, .slice none 0 0] 31 (0, 0)) by rw [hU]; simpa using heap_alloc_new ((w.alloc (.cells #[.int .i64 keys, .slice xa N xc] 31)).alloc (.cells #[.int .i64 k, .int .i64 c, .int .i64 m, .int .i64 n] 37)) _)
  have HGa := Lib.hid (show U.heap[w.heap.size + 1]? = some (.cells #[.int .i64 k, .int .i64 c, .int .i64 m, .int .i64 n] 37 (0, 0)) by
    rw [hU, Below.heap_alloc _ _ _ (by simp)]; simpa using heap_alloc_new (w.alloc (.cells #[.int .i64 keys, .slice xa N xc] 31)) _)
  have HGm := Lib.hid (show U.heap[w.heap.size]? = some (.cells #[.int .i64 keys, .slice xa N xc] 31 (0, 0)) by
    rw [hU, Below.heap_alloc _ _ _ (by simp; omega), Below.heap_alloc _ _ _ (by simp)]; exact heap_alloc_new w _)
  have HB0 := Lib.hid (show Below w.heap.size w U by rw [hU]; exact (((Below.refl _ _).alloc (Nat.le_refl _) _).alloc (by simp) _).alloc (by simp; omega) _)
  have HSZ := Lib.hid (show U.heap.size = w.heap.size + 1 + 1 + 1 by rw [hU]; simp)
  have HU := Lib.hid hU
  clear hU
  go_enter Tryd.func32, Tryd.ntmps32
  have c0 := (cells_of_heap HGm.out 0 (by simp)).1
  have c1 := (cells_of_heap HGm.out 1 (by simp)).1
  go_wp2_with fail
  rw [← HU.out]
  refine (implIsKeymap_q keys _ L o HO.out _ HN.out HM.out (by rw [HNL.out]; exact H.out.below HB0.out)).mono ?_
  rintro e w1 ⟨rfl, hb⟩
  have HB := Lib.hid (HB0.out.trans (hb.mono HB0.out.size))
  have HGr1 := Lib.hid ((hb.block (w.heap.size + 1 + 1) (by rw [HSZ.out]; omega)).trans HGr.out)
  have HGa1 := Lib.hid ((hb.block (w.heap.size + 1) (by rw [HSZ.out]; omega)).trans HGa.out)
  have HGm1 := Lib.hid ((hb.block w.heap.size (by rw [HSZ.out]; omega)).trans HGm.out)
  have HS1 := Lib.hid (show w.heap.size + 1 + 1 < w1.heap.size by have := hb.size; rw [HSZ.out] at this; omega)
  clear hb c0 c1
  have c0 := (cells_of_heap HGm1.out 0 (by simp)).1
  have c1 := (cells_of_heap HGm1.out 1 (by simp)).1
  obtain ⟨y0, q0⟩ := cells_of_heap HGr1.out 0 (by simp)
  obtain ⟨y1, q1⟩ := cells_of_heap HGr1.out 1 (by simp)
  have HNil := Lib.hid (show ∀ wx, Below w.heap.size w wx → r = ⟨0, [], false⟩ → KmOut r w (.returned (.tuple #[kmv 0 (.slice none 0 0), .bool false])) (putW wx (w.heap.size + 1 + 1) 0 [.int .i64 0, .slice none 0 0]) from fun wx hx h => by
    rw [h]
    exact ⟨none, 0, _, rfl, OwB.done (OwB.start (World.ownsRow_nil _ _ _ _)) rfl, putW_below (by omega) _ _ _ hx⟩)
  cases o
  · have HRr := Lib.hid (show r = ⟨0, [], false⟩ from HR.out)
    go_wp2
    clear c0 c1 y0 y1 q0 q1
    obtain ⟨wf, hwf⟩ : ∃ x, x = putW (w1) (w.heap.size + 1 + 1) 0 [.int .i64 0, .slice none 0 0] := ⟨_, rfl⟩
    have kf := putW_all [.int .i64 0, .slice none 0 0] HGr1.out rfl
    have bf := putW_below (b := w.heap.size + 1 + 1) (by first | omega | simp) [.int .i64 0, .slice none 0 0] 0 _ HB.out
    have of := HNil.out _ HB.out HRr.out
    rw [← hwf] at kf bf of
    have cf := hwf.symm
    simp only [putW, Nat.reduceAdd] at cf
    rw [cf]
    clear cf hwf
    have f0 := (cells_of_heap kf 0 (by simp)).1
    have f1 := (cells_of_heap kf 1 (by simp)).1
    simp only [List.getElem_toArray, List.getElem_cons_zero, List.getElem_cons_succ] at f0 f1
    refine bodyPost_ret (v := .tuple #[kmv 0 (.slice none 0 0), .bool false]) (by simp [results, Tryd.results32, go_sem, f0, f1]) rfl of
  · obtain ⟨⟨k1, k32⟩, ⟨l1, l4⟩, hall⟩ := okKm_at HO.out.symm
    rw [← HNL.out] at l1 l4 hall
    obtain ⟨K, rfl⟩ := Int.eq_ofNat_of_zero_le (show 0 ≤ keys by omega)
    obtain ⟨pp, hpp⟩ : ∃ pp, pp = (p1 && p2) := ⟨_, rfl⟩
    have HPP := Lib.hid hpp
    have HRp := Lib.hid (show r = if (pp && o2) = true then ⟨K, setL L layer.toNat key.toNat ⟨k, c, m, n⟩, true⟩ else ⟨0, [], false⟩ by rw [HR.out, hpp, Bool.true_and, Bool.and_assoc])
    clear hpp hall
    go_wp2_with fail
    refine (hasCell_q K layer key _ L w1 pp p1 p2 (by rw [← HNL.out]; exact HP1.out) HP2.out HPP.out HO.out.symm (by rw [HNL.out]; exact H.out.below HB.out)).mono ?_
    rintro e w0 ⟨rfl, rfl⟩
    cases pp
    · have HRr := Lib.hid (show r = ⟨0, [], false⟩ from HRp.out)
      go_wp2
      clear c0 c1 y0 y1 q0 q1
      obtain ⟨wf, hwf⟩ : ∃ x, x = putW (w1) (w.heap.size + 1 + 1) 0 [.int .i64 0, .slice none 0 0] := ⟨_, rfl⟩
      have kf := putW_all [.int .i64 0, .slice none 0 0] HGr1.out rfl
      have bf := putW_below (b := w.heap.size + 1 + 1) (by first | omega | simp) [.int .i64 0, .slice none 0 0] 0 _ HB.out
      have of := HNil.out _ HB.out HRr.out
      rw [← hwf] at kf bf of
      have cf := hwf.symm
      simp only [putW, Nat.reduceAdd] at cf
      rw [cf]
      clear cf hwf
      have f0 := (cells_of_heap kf 0 (by simp)).1
      have f1 := (cells_of_heap kf 1 (by simp)).1
      simp only [List.getElem_toArray, List.getElem_cons_zero, List.getElem_cons_succ] at f0 f1
      refine bodyPost_ret (v := .tuple #[kmv 0 (.slice none 0 0), .bool false]) (by simp [results, Tryd.results32, go_sem, f0, f1]) rfl of
    · have hpt := HPP.out.symm
      rw [Bool.and_eq_true] at hpt
      have hly := of_decide_eq_true (show decide (0 ≤ layer ∧ layer ≤ (N : Int) - 1) = true by have := HP1.out; rw [hpt.1] at this; exact this.symm)
      have hky := of_decide_eq_true (show decide (0 ≤ key ∧ key ≤ (K : Int) - 1) = true by have := HP2.out; rw [hpt.2] at this; exact this.symm)
      obtain ⟨i, rfl⟩ := Int.eq_ofNat_of_zero_le hly.1
      obtain ⟨q, rfl⟩ := Int.eq_ofNat_of_zero_le hky.1
      have hiN : i < N := by omega
      have hqK : q < K := by omega
      have HO2' := Lib.hid (show o2 = okKm K (setL L i q ⟨k, c, m, n⟩) from HO2.out)
      have HR' := Lib.hid (show r = if o2 = true then ⟨K, setL L i q ⟨k, c, m, n⟩, true⟩ else ⟨0, [], false⟩ from HRp.out)
      have HIN := Lib.hid (show i < L.length by rw [← HNL.out]; exact hiN)
      have HQK := Lib.hid hqK
      have HL4 := Lib.hid l4
      clear hpt hly hky hiN hqK k1 k32 l1 l4 c1 y0 y1 q0 q1
      go_upto_region 4 with (fail)
      have a0 := (cells_of_heap HGa1.out 0 (by simp)).1
      have a1 := (cells_of_heap HGa1.out 1 (by simp)).1
      have a2 := (cells_of_heap HGa1.out 2 (by simp)).1
      have a3 := (cells_of_heap HGa1.out 3 (by simp)).1
      have hsn : (setL L i q ⟨k, c, m, n⟩).length = N := by rw [HNL.out]; simp [setL]
      go_cut [11] (fun sp wx => ∃ (y9 : Nat) (a9 : Option Addr) (c9 : Nat) (f9 : List Nat), sp = .pointer (some ⟨y9, 0, none⟩) ∧ w1.heap.size ≤ y9 ∧ y9 ∉ f9 ∧ wx.heap[y9]? = some (.cells #[.int .i64 K, .slice a9 N c9] 31 (0, 0)) ∧ LoS wx w1.heap.size (.slice a9 N c9) (setL L i q ⟨k, c, m, n⟩) f9 ∧ Below w1.heap.size w1 wx)
      case first =>
        have l0 : w.heap.size < w1.heap.size := by have := HS1.out; omega
        have l1 : w.heap.size + 1 < w1.heap.size := by have := HS1.out; omega
        have n0 : ¬ w.heap.size = w1.heap.size := by omega
        have n1 : ¬ w1.heap.size = w.heap.size := by omega
        have n2 : ¬ w.heap.size + 1 = w1.heap.size := by omega
        have n3 : ¬ w1.heap.size = w.heap.size + 1 := by omega
        have X0 := Lib.hid (Below.refl w1.heap.size w1)
        go_region_held3 (fun w' => w'.cell? ⟨w.heap.size, 0, none⟩ = some (.int .i64 K) ∧ w'.cell? ⟨w.heap.size + 1, 0, none⟩ = some (.int .i64 k) ∧ w'.cell? ⟨w.heap.size + 1, 1, none⟩ = some (.int .i64 c) ∧ w'.cell? ⟨w.heap.size + 1, 2, none⟩ = some (.int .i64 m) ∧ w'.cell? ⟨w.heap.size + 1, 3, none⟩ = some (.int .i64 n)) (first | go_keep | simp [go_sem, *])
          (first | (go_at_call 56; refine (withCell_n N K _ L HNL.out i q k c m n _ HO.out.symm HIN.out HQK.out (by rw [HNL.out]; exact H.out.below (HB.out.trans (Below.mono (by first | exact X0.out | exact X0.out.drew | exact X0.out.drew.drew | exact X0.out.alloc X0.out.size _ | exact (X0.out.alloc X0.out.size _).drew | exact (X0.out.alloc X0.out.size _).drew.drew) HB.out.size)))).mono ?_; rintro e v1 ⟨a9, c9, f9, rfl, h9, hb⟩; have hbr : Below w1.heap.size w1 v1 := below_via (by first | exact X0.out | exact X0.out.drew | exact X0.out.drew.drew | exact X0.out.alloc X0.out.size _ | exact (X0.out.alloc X0.out.size _).drew | exact (X0.out.alloc X0.out.size _).drew.drew) hb; have k0 := (hbr.cell (p := ⟨w.heap.size, 0, none⟩) l0).trans c0; have b0 := (hbr.cell (p := ⟨w.heap.size + 1, 0, none⟩) l1).trans a0; have b1 := (hbr.cell (p := ⟨w.heap.size + 1, 1, none⟩) l1).trans a1; have b2 := (hbr.cell (p := ⟨w.heap.size + 1, 2, none⟩) l1).trans a2; have b3 := (hbr.cell (p := ⟨w.heap.size + 1, 3, none⟩) l1).trans a3; have n10 : ¬ w.heap.size = v1.heap.size := (by have := hbr.size; omega); have n11 : ¬ v1.heap.size = w.heap.size := (by have := hbr.size; omega); have n12 : ¬ w.heap.size + 1 = v1.heap.size := (by have := hbr.size; omega); have n13 : ¬ v1.heap.size = w.heap.size + 1 := (by have := hbr.size; omega); (first | (have KY := Lib.hid (ky_new X0.out.size hb)) | (have KY := Lib.hid (ky_drew X0.out.size hb)) | skip); have H9R := Lib.hid h9.rng; have H9 := Lib.hid (h9.base (B := w1.heap.size) (Below.size (B := w1.heap.size) (w := w1) (by first | exact X0.out | exact X0.out.drew | exact X0.out.drew.drew | exact X0.out.alloc X0.out.size _ | exact (X0.out.alloc X0.out.size _).drew | exact (X0.out.alloc X0.out.size _).drew.drew))); have X1 := Lib.hid hbr; clear hbr hb h9; (try (have e0 := cells_of_heap KY.out.1 0 (by simp); have g0 := e0.2; replace e0 := e0.1; have e1 := cells_of_heap KY.out.1 1 (by simp); have g1 := e1.2; replace e1 := e1.1))))
        all_goals
          go_wp2
          go_meet
          first
            | exact ⟨v1.heap.size, _, _, _, rfl, X1.out.size, fun hm => Nat.lt_irrefl _ (H9R.out _ hm).2, heap_alloc_new _ _, H9.out.below ((Below.refl _ _).alloc (Nat.le_refl _) _), X1.out.alloc X1.out.size _⟩
            | exact ⟨v1.heap.size, _, _, _, rfl, X1.out.size, fun hm => Nat.lt_irrefl _ (H9R.out _ hm).2, heap_alloc_new _ _, H9.out.below ((Below.refl _ _).alloc (Nat.le_refl _) _).drew, (X1.out.alloc X1.out.size _).drew⟩
            | exact ⟨_, _, _, _, rfl, KY.out.2.2, (fun hm => Nat.lt_irrefl _ (Nat.lt_of_lt_of_le KY.out.2.1 (H9R.out _ hm).1)), putW_all [.int .i64 K, .slice _ N _] KY.out.1 rfl, H9.out.putAt [.int .i64 K, .slice _ N _] (fun hm => Nat.lt_irrefl _ (Nat.lt_of_lt_of_le KY.out.2.1 (H9R.out _ hm).1)) 0, putW_below KY.out.2.2 [.int .i64 K, .slice _ N _] 0 _ X1.out⟩
            | exact ⟨_, _, _, _, rfl, KY.out.2.2, (fun hm => Nat.lt_irrefl _ (Nat.lt_of_lt_of_le KY.out.2.1 (H9R.out _ hm).1)), putW_all [.int .i64 K, .slice _ N _] KY.out.1 rfl, (H9.out.putAt [.int .i64 K, .slice _ N _] (fun hm => Nat.lt_irrefl _ (Nat.lt_of_lt_of_le KY.out.2.1 (H9R.out _ hm).1)) 0).below (Below.refl _ _).drew, (putW_below KY.out.2.2 [.int .i64 K, .slice _ N _] 0 _ X1.out).drew⟩
      case rest =>
        obtain ⟨y9, a9, c9, f9, rfl, hl9, hni, hgo4, hos4, hb4⟩ := hcut
        obtain ⟨W4, hEq⟩ : ∃ x, x = wc := ⟨_, rfl⟩
        rw [← hEq] at hgo4 hos4 hb4 ⊢
        have hgr4 : W4.heap[w.heap.size + 1 + 1]? = some (.cells #[.int .i64 0, .slice none 0 0] 31 (0, 0)) := (hb4.block _ HS1.out).trans HGr1.out
        have hgol : y9 < W4.heap.size := (Array.getElem?_eq_some_iff.mp hgo4).1
        have hrows : ∀ l ∈ setL L i q ⟨k, c, m, n⟩, l.length ≤ maxLen := by
          intro l hl
          rcases List.mem_or_eq_of_mem_set hl with h1 | h1
          · exact HM.out l h1
          · rw [h1]; simp only [List.length_set]; exact lD_le HM.out i
        have HOS4 := Lib.hid hos4
        have HB4 := Lib.hid (HB.out.trans (hb4.mono HB.out.size))
        have HGo4 := Lib.hid hgo4
        have HGr4 := Lib.hid hgr4
        have HGol := Lib.hid hgol
        have HSN := Lib.hid hsn
        have HRows := Lib.hid hrows
        have HLo := Lib.hid hl9
        have g0 := (cells_of_heap hgo4 0 (by simp)).1
        have g1 := (cells_of_heap hgo4 1 (by simp)).1
        clear hEq hni hgo4 hos4 hb4 hgr4 hgol hrows hsn hl9
        go_wp2_with fail
        refine (implIsKeymap_q K _ (setL L i q ⟨k, c, m, n⟩) o2 HO2'.out _ (by rw [HSN.out]; have := HL4.out; unfold maxLen; omega) HRows.out HOS4.out.rd).mono ?_
        rintro e w5 ⟨rfl, hb⟩
        have HB5 := Lib.hid (HB4.out.trans (hb.mono HB4.out.size))
        have HGr5 := Lib.hid ((hb.block (w.heap.size + 1 + 1) (by have := HGol.out; have := HS1.out; have := HLo.out; omega)).trans HGr4.out)
        have hgo5 := (hb.block y9 HGol.out).trans HGo4.out
        have HOS5 := Lib.hid (HOS4.out.below hb)
        clear hb g0 g1
        have g0 := (cells_of_heap hgo5 0 (by simp)).1
        have g1 := (cells_of_heap hgo5 1 (by simp)).1
        obtain ⟨y0, q0⟩ := cells_of_heap HGr5.out 0 (by simp)
        obtain ⟨y1, q1⟩ := cells_of_heap HGr5.out 1 (by simp)
        clear hgo5
        cases o2
        · have HRr := Lib.hid (show r = ⟨0, [], false⟩ from HR'.out)
          go_wp2
          clear g0 g1 y0 y1 q0 q1
          obtain ⟨wf, hwf⟩ : ∃ x, x = putW (w5) (w.heap.size + 1 + 1) 0 [.int .i64 0, .slice none 0 0] := ⟨_, rfl⟩
          have kf := putW_all [.int .i64 0, .slice none 0 0] HGr5.out rfl
          have bf := putW_below (b := w.heap.size + 1 + 1) (by first | omega | simp) [.int .i64 0, .slice none 0 0] 0 _ HB5.out
          have of := HNil.out _ HB5.out HRr.out
          rw [← hwf] at kf bf of
          have cf := hwf.symm
          simp only [putW, Nat.reduceAdd] at cf
          rw [cf]
          clear cf hwf
          have f0 := (cells_of_heap kf 0 (by simp)).1
          have f1 := (cells_of_heap kf 1 (by simp)).1
          simp only [List.getElem_toArray, List.getElem_cons_zero, List.getElem_cons_succ] at f0 f1
          refine bodyPost_ret (v := .tuple #[kmv 0 (.slice none 0 0), .bool false]) (by simp [results, Tryd.results32, go_sem, f0, f1]) rfl of
        · have HRr := Lib.hid (show r = ⟨K, setL L i q ⟨k, c, m, n⟩, true⟩ from HR'.out)
          go_wp2
          clear g0 g1 y0 y1 q0 q1
          obtain ⟨wf, hwf⟩ : ∃ x, x = putW (w5) (w.heap.size + 1 + 1) 0 [.int .i64 K, .slice a9 N c9] := ⟨_, rfl⟩
          have kf := putW_all [.int .i64 K, .slice a9 N c9] HGr5.out rfl
          have bf := putW_below (b := w.heap.size + 1 + 1) (by first | omega | simp) [.int .i64 K, .slice a9 N c9] 0 _ HB5.out
          have of := HOS5.out.put (b := w.heap.size + 1 + 1) [.int .i64 K, .slice a9 N c9] 0 HS1.out
          rw [← hwf] at kf bf of
          have cf := hwf.symm
          simp only [putW, Nat.reduceAdd] at cf
          rw [cf]
          clear cf hwf
          have f0 := (cells_of_heap kf 0 (by simp)).1
          have f1 := (cells_of_heap kf 1 (by simp)).1
          simp only [List.getElem_toArray, List.getElem_cons_zero, List.getElem_cons_succ] at f0 f1
          refine bodyPost_ret (v := .tuple #[kmv K (.slice a9 N c9), .bool true]) (by simp [results, Tryd.results32, go_sem, f0, f1]) rfl (by rw [HRr.out]; exact ⟨_, _, _, by rw [HSN.out], by rw [HSN.out]; exact of.base HB.out.size, bf⟩)

end Go.Proofs.YtleheibpgngmiaaDoor
