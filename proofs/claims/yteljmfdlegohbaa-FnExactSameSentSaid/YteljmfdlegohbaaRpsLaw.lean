/- DERIVED. The laws' own functions on slices of reports: two that are alike, marks. -/
import Derived.Test.YteljmfdlegohbaaOwnBase
import Derived.Test.YteljmfdlegohbaaRpLaw2
import Derived.Test.YteljmfdlegohbaaMcRep
namespace Go.Proofs.Yteljmfdlegohbaa
open Go.RowKit

/-- How many numbers the first j reports have. -/
def lenQ (L : List Rv) : Nat → Nat
  | 0 => 0
  | j + 1 => lenQ L j + (1 + (qD L j).2.length)
def mkE (q : Int) (L : List Rv) (i : Nat) : Rv := (q + (lenQ L i : Int), marksZ (q + (lenQ L i : Int) + 1) (qD L i).2.length)
/-- Reports whose first j hold marks, counted from q on. -/
def mkQ (q : Int) (L : List Rv) (j : Nat) : List Rv := (List.range L.length).map fun i => if i < j then mkE q L i else qD L i
theorem mkQ_len (q : Int) (L : List Rv) (j : Nat) : (mkQ q L j).length = L.length := by simp [mkQ]
theorem mkQ_D (q : Int) (L : List Rv) (j i : Nat) (h : i < L.length) : qD (mkQ q L j) i = if i < j then mkE q L i else qD L i := by
  rw [qD, mkQ, List.getD_eq_getElem?_getD, List.getElem?_map, List.getElem?_range h]
  rfl
theorem mkQ_zero (q : Int) (L : List Rv) : mkQ q L 0 = L := by
  apply List.ext_getElem (mkQ_len _ _ _)
  intro i h1 h2
  simp [mkQ, qD, List.getD_eq_getElem?_getD, List.getElem?_eq_getElem h2]
theorem mkQ_succ (q : Int) (L : List Rv) (j : Nat) : (mkQ q L j).set j (mkE q L j) = mkQ q L (j + 1) := by
  apply List.ext_getElem (by simp [mkQ])
  intro i h1 h2
  rw [List.getElem_set]
  simp only [mkQ, List.getElem_map, List.getElem_range]
  by_cases e : j = i
  · subst e; rw [if_pos rfl, if_pos (by omega)]
  · rw [if_neg e]
    by_cases hi : i < j
    · rw [if_pos hi, if_pos (by omega)]
    · rw [if_neg hi, if_neg (by omega)]
theorem lenQ_mono (L : List Rv) {i j : Nat} (h : i ≤ j) : lenQ L i ≤ lenQ L j := by
  induction j with
  | zero => obtain rfl : i = 0 := by omega
            exact Nat.le_refl _
  | succ j ih =>
    rcases Nat.lt_or_ge j i with h1 | h1
    · obtain rfl : i = j + 1 := by omega
      exact Nat.le_refl _
    · exact Nat.le_trans (ih h1) (Nat.le_add_right _ _)
theorem pC_set : ∀ (L : List Rv) (us : List Value) (j : Nat) (p : Rv), us.length = L.length → pC rpF (L.set j p) us = if j < L.length then (pC rpF L us).set (j * 2) (.int .i64 p.1) else pC rpF L us
  | [], us, j, p, _ => by simp [pC]
  | x :: L, [], j, p, h => by simp at h
  | x :: L, u :: us, 0, p, _ => by simp [pC]
  | x :: L, u :: us, j + 1, p, h => by
    have ih := pC_set L us j p (by simpa using h)
    have e : (j + 1) * 2 = j * 2 + 1 + 1 := by omega
    simp only [List.set_cons_succ, pC, List.headD_cons, List.tail_cons, ih, List.length_cons, e]
    by_cases hj : j < L.length
    · rw [if_pos hj, if_pos (by omega)]; simp
    · rw [if_neg hj, if_neg (by omega)]
/-- A report of the row is written anew: its modifiers, then its codes in their own blocks. -/
theorem OwZ.remark {wr w3 : World} {B j n cap g off : Nat} {us : List Value} {M : List Rv} {fps : List (List Nat)} {p : Int} {z : List Int}
    (h : OwQ rpF wr B (.slice (some ⟨g, off, none⟩) n cap) (lowRow wr B (1 + 1) (.slice (some ⟨g, off, none⟩) n cap) n) us M fps) (hj : j < M.length)
    (hz : OwC w3 B (.row [.int .i64]) (uD us j) (.row (ones z)) (fD fps j)) (ht : Turn (wr.setCell ⟨g, off + j * 2, none⟩ (.int .i64 p)) w3 (fD fps j)) :
    OwQ rpF w3 B (.slice (some ⟨g, off, none⟩) n cap) (lowRow w3 B (1 + 1) (.slice (some ⟨g, off, none⟩) n cap) n) us (M.set j (p, z)) fps := by
  have hd := List.nodup_append.1 h.nd
  have hgm : g ∈ ownFp (.slice (some ⟨g, off, none⟩) n cap) := by simp [ownFp, Value.ownBlock]
  have hgn : g ∉ fps.flatten := fun hm => hd.2.2 g hgm g hm rfl
  have hgr := grown_set wr g (off + j * 2) (.int .i64 p)
  refine ⟨?_, by simpa using h.ulen, by simpa using h.len, ?_, h.nd⟩
  · have hown := h.own
    rw [pC_set M us j (p, z) h.ulen, if_pos hj]
    rcases hown.2 with ⟨e, _⟩ | ⟨g', off', cap', cur, T, e, hB, hh, hs, hta⟩
    · simp at e
    · simp only [Value.slice.injEq] at e
      obtain ⟨e1, _, rfl⟩ := e
      obtain ⟨rfl, rfl⟩ : g = g' ∧ off = off' := by simpa using e1
      have h2 := block_set hh (off + j * 2) (.int .i64 p)
      have h3 := (ht.block g (by rw [World.size_setCell]; exact (Array.getElem?_eq_some_iff.mp hh).1) (fun hm => hgn (mem_fD hm))).trans h2
      refine ⟨by rw [List.length_set]; exact hown.1, .inr ⟨g, off, cap, _, T, rfl, hB, h3, by simpa using hs, ?_⟩⟩
      rw [← hta]
      simp only [Array.toList_setIfInBounds]
      rw [List.drop_set, if_neg (by omega), Nat.add_sub_cancel_left, List.take_set]
  · intro i hi
    have hi' : i < M.length := by simpa using hi
    have hq : qD (M.set j (p, z)) i = if i = j then (p, z) else qD M i := by
      rw [qD, qD, List.getD_eq_getElem?_getD, List.getD_eq_getElem?_getD, List.getElem?_set]
      by_cases e : j = i
      · subst e; simp [hj]
      · rw [if_neg e, if_neg (fun e2 => e e2.symm)]
    rw [hq]
    by_cases e : i = j
    · subst e; rw [if_pos rfl]; exact hz
    · rw [if_neg e]
      refine ((h.row i hi').turn (Turn.of_grown hgr) (fun b hb hb' => ?_)).turn ht (fun b hb hb' => ?_)
      · rw [List.mem_singleton] at hb'; subst hb'; exact hgn (mem_fD hb)
      · have hp := List.pairwise_flatten.1 hd.2.1
        have hil : i < fps.length := by rw [h.len]; exact hi'
        have hjl : j < fps.length := by rw [h.len]; exact hj
        have hfi : fD fps i = fps[i] := by unfold fD; rw [List.getD_eq_getElem?_getD, List.getElem?_eq_getElem hil]; rfl
        have hfj : fD fps j = fps[j] := by unfold fD; rw [List.getD_eq_getElem?_getD, List.getElem?_eq_getElem hjl]; rfl
        rw [hfi] at hb
        rw [hfj] at hb'
        rcases Nat.lt_or_gt_of_ne e with hlt | hgt
        · exact (List.pairwise_iff_getElem.1 hp.2 i j hil hjl hlt) b hb b hb' rfl
        · exact (List.pairwise_iff_getElem.1 hp.2 j i hjl hil hgt) b hb' b hb rfl
theorem qD_le {L : List Rv} {n : Nat} (h : ∀ r ∈ L, r.2.length ≤ n) (j : Nat) : (qD L j).2.length ≤ n := by
  rw [qD, List.getD_eq_getElem?_getD]
  rcases hc : L[j]? with _ | p
  · exact Nat.zero_le _
  · exact h p (List.mem_of_getElem? hc)
/-- What a walk knows of one report of the row. -/
theorem RdQ.at {w : World} {v : Value} {L : List Rv} (h : RdQ rpF w v L) : (L = [] ∧ ∃ a cap, v = .slice a 0 cap) ∨ ∃ b off cap, 0 < L.length ∧ v = .slice (some ⟨b, off, none⟩) L.length cap ∧ b < w.heap.size ∧
    ∀ j, j < L.length → ∃ a c, w.cell? ⟨b, off + j * 2, none⟩ = some (.int .i64 (qD L j).1) ∧ w.cell? ⟨b, off + j * 2 + 1, none⟩ = some (.slice a (qD L j).2.length c) ∧ Rd w (.slice a (qD L j).2.length c) ((qD L j).2.map (.int .i64)) := by
  rcases RdQ.cases (k := 1) rpF_len h with h1 | ⟨b, off, cap, us, hp, hv, hlt, hul, hc⟩
  · exact .inl h1
  · refine .inr ⟨b, off, cap, hp, hv, hlt, fun j hj => ?_⟩
    obtain ⟨h1, h2⟩ := hc j hj
    obtain ⟨a, c, hu⟩ := ints_shape h2
    refine ⟨a, c, ?_, ?_, by rw [← hu]; exact h2⟩
    · have := h1 0 (by omega) (.int .i64 (qD L j).1) rfl
      simpa using this
    · rw [← hu]; exact h1 1 (by omega) _ rfl

set_option maxHeartbeats 2000000 in
theorem eqReportS_same (va vb : Value) (L : List Rv) (w : World) (hl : L.length ≤ 1000000000000) (hr : ∀ r ∈ L, r.2.length ≤ 1000000000000) (ha : RdQ rpF w va L) (hb : RdQ rpF w vb L) :
    Calls Try.prog 75 #[va, vb] w fun e w' => e = .returned (.bool true) ∧ Below w.heap.size w w' := by
  rcases RdQ.at ha with ⟨rfl, a, cap, rfl⟩ | ⟨b, off, cap, hpos, rfl, hlt, hc⟩
  · rcases RdQ.at hb with ⟨_, a2, cap2, rfl⟩ | ⟨_, _, _, hn, _⟩
    · clear ha hb
      go_enter Try.func75, Try.ntmps75
      go_wp2
      refine wp_loop_rounds 1 ?_
      rw [rounds_succ]
      go_wp2
      go_ret
      exact ⟨rfl, Below.refl _ _⟩
    · exact absurd hn (Nat.lt_irrefl _)
  · rcases RdQ.at hb with ⟨hn, _⟩ | ⟨b2, off2, cap2, _, rfl, hlt2, hc2⟩
    · exfalso; rw [hn] at hpos; simp at hpos
    · have HC := Lib.hid hc
      have HC2 := Lib.hid hc2
      have HR := Lib.hid (fun j => qD_le hr j)
      obtain ⟨n, hn⟩ : ∃ n, n = L.length := ⟨_, rfl⟩
      rw [← hn] at hl ⊢
      have HN := Lib.hid hn
      clear ha hb hc hc2 hr hn hpos
      go_enter Try.func75, Try.ntmps75
      go_wp2
      go_loopw [5] (fun i wr => ∃ k : Nat, k ≤ n ∧ i = .int .i64 k ∧ Below w.heap.size w wr) (fun i _ => n - (intOf i).toNat)
      case atStart => exact ⟨0, Nat.zero_le _, rfl, Below.refl _ _⟩
      case round =>
        obtain ⟨k, hk, rfl, hb⟩ := hrel
        by_cases hlt' : k < n
        · obtain ⟨ua, uc, c0, c1, hrow⟩ := HC.out k (by rw [← HN.out]; exact hlt')
          obtain ⟨ub, ud, d0, d1, hrow2⟩ := HC2.out k (by rw [← HN.out]; exact hlt')
          have hrl := HR.out k
          obtain ⟨m, hm⟩ : ∃ m, m = (qD L k).1 := ⟨_, rfl⟩
          obtain ⟨z, hz⟩ : ∃ z, z = (qD L k).2 := ⟨_, rfl⟩
          rw [← hm] at c0 d0
          rw [← hz] at c1 d1 hrow hrow2 hrl
          have HW1 := Lib.hid (hrow.below hb)
          have HW2 := Lib.hid (hrow2.below hb)
          have r0 := (hb.cell (p := ⟨b, off + k * 2, none⟩) hlt).trans c0
          have r1 := (hb.cell (p := ⟨b, off + k * 2 + 1, none⟩) hlt).trans c1
          have t0 := (hb.cell (p := ⟨b2, off2 + k * 2, none⟩) hlt2).trans d0
          have t1 := (hb.cell (p := ⟨b2, off2 + k * 2 + 1, none⟩) hlt2).trans d1
          have hbl : b < wr.heap.size := Nat.lt_of_lt_of_le hlt hb.size
          have hbl2 : b2 < wr.heap.size := Nat.lt_of_lt_of_le hlt2 hb.size
          have HB := Lib.hid hb
          have HRL := Lib.hid hrl
          clear c0 c1 d0 d1 hb hrow hrow2 hm hz hrl
          go_upto_region 6 with (fail)
          go_cut [26] (fun sd wx => sd = .bool false ∧ Below wr.heap.size wr wx)
          case first =>
            go_region_held3 (fun w' => w'.cell? ⟨b, off + k * 2, none⟩ = some (.int .i64 m) ∧ w'.cell? ⟨b, off + k * 2 + 1, none⟩ = some (.slice ua z.length uc) ∧ w'.cell? ⟨b2, off2 + k * 2, none⟩ = some (.int .i64 m) ∧ w'.cell? ⟨b2, off2 + k * 2 + 1, none⟩ = some (.slice ub z.length ud)) (first | go_keep)
              (first | (go_at_call 68; refine (eqReport_same m _ _ z _ HRL.out (by first | exact HW1.out | exact HW1.out.below (Below.refl _ _).drew | exact HW1.out.below (Below.refl _ _).drew.drew) (by first | exact HW2.out | exact HW2.out.below (Below.refl _ _).drew | exact HW2.out.below (Below.refl _ _).drew.drew)).mono ?_; rintro e v1 ⟨rfl, hb1⟩; have hbr : Below wr.heap.size wr v1 := (by first | exact hb1 | exact ((Below.refl _ _).drew).trans hb1 | exact ((Below.refl _ _).drew.drew).trans hb1); have kr0 := (hbr.cell (p := ⟨b, off + k * 2, none⟩) hbl).trans r0; have kr1 := (hbr.cell (p := ⟨b, off + k * 2 + 1, none⟩) hbl).trans r1; have kt0 := (hbr.cell (p := ⟨b2, off2 + k * 2, none⟩) hbl2).trans t0; have kt1 := (hbr.cell (p := ⟨b2, off2 + k * 2 + 1, none⟩) hbl2).trans t1; have HBR := Lib.hid hbr; clear hbr hb1))
            all_goals
              go_wp2
              go_meet
              exact ⟨rfl, by first | exact HBR.out | exact HBR.out.drew⟩
          case rest =>
            obtain ⟨rfl, hb⟩ := hcut
            have HB2 := Lib.hid (HB.out.trans (hb.mono HB.out.size))
            clear hb r0 t0 r1 t1
            go_wp2
            go_roundw
            case rel => exact ⟨k + 1, by omega, by go_num, HB2.out⟩
            case measure => simp [intOf]; omega
        · obtain rfl : k = n := by omega
          go_wp2
          go_ret
          exact ⟨rfl, hb⟩

set_option maxHeartbeats 2000000 in
theorem markReportS_own (B : Nat) (v : Value) (L : List Rv) (fp : List Nat) (q : Int) (w : World) (hn : L.length ≤ 1048576) (ht : lenQ L L.length ≤ 1048576) (hk : 0 ≤ q) (hk' : q ≤ 1000000000) (h : OwZ rpF w B 1 v L fp) :
    Calls Try.prog 77 #[v, .int .i64 q] w fun e w' => e = .returned (.int .i64 (q + (lenQ L L.length : Int))) ∧ OwZ rpF w' B 1 v (mkQ q L L.length) fp ∧ Turn w w' fp := by
  obtain ⟨us, fps, h, rfl⟩ := h
  obtain ⟨n, hnl⟩ : ∃ n, n = L.length := ⟨_, rfl⟩
  rcases h.own.2 with ⟨rfl, hn0⟩ | ⟨g, off, cap, cur, T, rfl, hg, hh, hs, hta⟩
  · have hL : L = [] := List.eq_nil_of_length_eq_zero hn0
    subst hL
    have H := Lib.hid h
    clear h ht hnl hn0
    go_enter Try.func77, Try.ntmps77
    go_wp2
    refine wp_loop_rounds 1 ?_
    rw [rounds_succ]
    go_wp2
    go_ret
    exact ⟨ret_int (by simp [lenQ]), ⟨us, fps, H.out, rfl⟩, Turn.refl _ _⟩
  · have HH := Lib.hid h
    have HT := Lib.hid ht
    have HN := Lib.hid hnl
    rw [← hnl] at hn ⊢
    clear h hh hs hta ht hnl
    go_enter Try.func77, Try.ntmps77
    go_wp2
    go_loopw [1, 5] (fun p i wr => ∃ (j : Nat), j ≤ n ∧ i = .int .i64 j ∧ p = .int .i64 (q + (lenQ L j : Int)) ∧ OwQ rpF wr B (.slice (some ⟨g, off, none⟩) n cap) (lowRow wr B (1 + 1) (.slice (some ⟨g, off, none⟩) n cap) n) us (mkQ q L j) fps ∧ Turn w wr (ownFp (.slice (some ⟨g, off, none⟩) n cap) ++ fps.flatten))
      (fun _ i _ => n - (intOf i).toNat)
    case atStart => exact ⟨0, Nat.zero_le _, rfl, by simp [lenQ], by rw [mkQ_zero, HN.out]; exact HH.out, Turn.refl _ _⟩
    case round =>
      obtain ⟨j, hj, rfl, rfl, hown, hb⟩ := hrel
      by_cases hlt : j < n
      · have hltL : j < L.length := by rw [← HN.out]; exact hlt
        have hrow := hown.row j (by rw [mkQ_len]; exact hltL)
        rw [mkQ_D q L j j hltL, if_neg (Nat.lt_irrefl _)] at hrow
        rcases hown.own.2 with ⟨e, _⟩ | ⟨g', off', cap', cur, T, e, hB, hh, hs, hta⟩
        · simp at e
        · simp only [Value.slice.injEq] at e
          obtain ⟨e1, _, rfl⟩ := e
          obtain ⟨rfl, rfl⟩ : g = g' ∧ off = off' := by simpa using e1
          have hget := pC_get (k := 1) rpF_len (mkQ q L j) us j
          have hul := hown.ulen
          have hcs : off + (j * 2 + 1) < cur.size := by have : off + n * (1 + 1) ≤ cur.size := hs; omega
          have g1 := hget 1 hul (by rw [mkQ_len]; exact hltL) (by omega)
          rw [← hta, List.getElem?_take_of_lt (by have : n * (1 + 1) = n * 2 := rfl; omega), List.getElem?_drop, Array.getElem?_toList] at g1
          have s1 : wr.cell? ⟨g, off + j * 2 + 1, none⟩ = some (uD us j) := by
            have h5 : cur[off + (j * 2 + 1)]? = some (uD us j) := by simpa using g1
            rw [Nat.add_assoc, cell_of_block hh (off + (j * 2 + 1)) hcs]
            rw [Array.getElem?_eq_getElem hcs] at h5
            exact h5
          obtain ⟨o0, f0⟩ := cells_of_heap hh (off + j * 2) (by omega)
          obtain ⟨p, hp⟩ : ∃ p : Int, p = q + (lenQ L j : Int) := ⟨_, rfl⟩
          rw [← hp]
          have hm := lenQ_mono L (Nat.le_of_lt hltL)
          have hm2 := lenQ_mono L (show j + 1 ≤ L.length from hltL)
          have hT := HT.out
          have hme : lenQ L (j + 1) = lenQ L j + (1 + (qD L j).2.length) := rfl
          have hmk : mkE q L j = (p, marksZ (p + 1) (qD L j).2.length) := by rw [mkE, ← hp]
          have hsu := mkQ_succ q L j
          rw [hmk] at hsu
          obtain ⟨z, hz⟩ : ∃ z, z = (qD L j).2 := ⟨_, rfl⟩
          rw [← hz] at hrow hme hsu
          have hl1 : z.length ≤ 1048576 := by omega
          have hp0 : 0 ≤ p + 1 := by omega
          have hp1 : p + 1 ≤ 1099511627776 := by omega
          have hpe : p + 1 + (z.length : Int) = q + (lenQ L (j + 1) : Int) := by omega
          obtain ⟨ua, uc, hu⟩ := ints_shape (owC_rd hrow)
          have hd := List.nodup_append.1 hown.nd
          have hgm : g ∈ ownFp (.slice (some ⟨g, off, none⟩) n cap) := by simp [ownFp, Value.ownBlock]
          have hgn : g ∉ fD fps j := fun hm => hd.2.2 g hgm g (mem_fD hm) rfl
          have hrow2 : OwC (wr.setCell ⟨g, off + j * 2, none⟩ (.int .i64 p)) B (.row [.int .i64]) (uD us j) (.row (ones z)) (fD fps j) := hrow.turn (Turn.of_grown (grown_set wr g (off + j * 2) _)) (fun x hx hx' => hgn (List.mem_singleton.1 hx' ▸ hx))
          have hset : Turn wr (wr.setCell ⟨g, off + j * 2, none⟩ (.int .i64 p)) (ownFp (.slice (some ⟨g, off, none⟩) n cap) ++ fps.flatten) := (Turn.of_grown (grown_set wr g (off + j * 2) _)).mono (fun x hx => by rw [List.mem_singleton] at hx; subst hx; exact List.mem_append_left _ hgm)
          have HO := Lib.hid hown
          have HB := Lib.hid (hb.trans hset)
          have HRow := Lib.hid hrow2
          have HU := Lib.hid hu
          have HS := Lib.hid hsu
          have HPE := Lib.hid hpe
          rw [hu] at s1
          have hne : ¬ off + j * 2 = off + j * 2 + 1 := by omega
          clear hown hb hp hrow hrow2 hu hm hm2 hT hme hmk hsu hz hget g1 hul hd hgm hgn hset hpe hB
          go_wp2_with fail
          refine (markIntS_own B _ z _ (p + 1) _ (by omega) hp0 hp1 (by rw [← HU.out]; exact HRow.out)).mono ?_
          rintro e w2 ⟨rfl, ho2, ht2⟩
          rw [← HU.out] at ho2
          have hnew := OwZ.remark (p := p) HO.out (by rw [mkQ_len, ← HN.out]; exact hlt) ho2 ht2
          rw [HS.out] at hnew
          have HNw := Lib.hid hnew
          have HTn := Lib.hid (HB.out.trans (ht2.mono fun x hx => List.mem_append_right _ (mem_fD hx)))
          clear ho2 ht2 hnew s1 o0 f0
          rw [HPE.out]
          go_wp2
          go_roundw
          case rel => exact ⟨j + 1, by omega, by go_num, rfl, HNw.out, HTn.out⟩
          case measure => simp [intOf]; omega
      · obtain rfl : j = n := by omega
        have HO := Lib.hid hown
        have HB := Lib.hid hb
        clear hown hb
        go_wp2
        go_ret
        exact ⟨rfl, ⟨us, fps, by rw [mkQ_len, ← HN.out]; exact HO.out, by first | rfl | rw [← HN.out]⟩, by first | exact HB.out | (rw [← HN.out]; exact HB.out)⟩

set_option maxHeartbeats 2000000 in
theorem heldReportS_any (v : Value) (L : List Rv) (q : Int) (w : World) (hn : L.length ≤ 1048576) (ht : lenQ L L.length ≤ 1048576) (hk : 0 ≤ q) (hk' : q ≤ 1000000000) (h : RdQ rpF w v (mkQ q L L.length)) :
    Calls Try.prog 78 #[v, .int .i64 q] w fun e w' => e = .returned (.int .i64 (q + (lenQ L L.length : Int))) ∧ w = w' := by
  have hl : (mkQ q L L.length).length = L.length := mkQ_len _ _ _
  rcases RdQ.at h with ⟨hnil, a, cap, rfl⟩ | ⟨b, off, cap, hpos, rfl, hlt, hc⟩
  · have hL : L = [] := List.eq_nil_of_length_eq_zero (by rw [← hl, hnil]; rfl)
    subst hL
    clear h hnil hl ht
    go_enter Try.func78, Try.ntmps78
    go_wp2
    refine wp_loop_rounds 1 ?_
    rw [rounds_succ]
    go_wp2
    go_ret
    exact ⟨ret_int (by simp [lenQ]), rfl⟩
  · rw [hl] at hc ⊢
    have HC := Lib.hid hc
    have HT := Lib.hid ht
    obtain ⟨n, hnl⟩ : ∃ n, n = L.length := ⟨_, rfl⟩
    have HN := Lib.hid hnl
    rw [← hnl] at hn ⊢
    clear h hl hpos hc ht hnl
    go_enter Try.func78, Try.ntmps78
    go_wp2
    go_loop [1, 5] (fun p i => ∃ (j : Nat), j ≤ n ∧ i = .int .i64 j ∧ p = .int .i64 (q + (lenQ L j : Int))) (fun _ i => n - (intOf i).toNat)
    case atStart => exact ⟨0, Nat.zero_le _, rfl, by simp [lenQ]⟩
    case round =>
      obtain ⟨j, hj, rfl, rfl⟩ := hrel
      by_cases hlt' : j < n
      · have hltL : j < L.length := by rw [← HN.out]; exact hlt'
        obtain ⟨ua, uc, r0, r1, hrow⟩ := HC.out j hltL
        rw [mkQ_D q L _ j hltL, if_pos hltL] at r0 r1 hrow
        have hml : (mkE q L j).2.length = (qD L j).2.length := by simp [mkE, marksZ]
        rw [hml] at r1 hrow
        obtain ⟨p, hp⟩ : ∃ p : Int, p = q + (lenQ L j : Int) := ⟨_, rfl⟩
        have hmk : mkE q L j = (p, marksZ (p + 1) (qD L j).2.length) := by rw [mkE, ← hp]
        have hm := lenQ_mono L (Nat.le_of_lt hltL)
        have hm2 := lenQ_mono L (show j + 1 ≤ L.length from hltL)
        have hme : lenQ L (j + 1) = lenQ L j + (1 + (qD L j).2.length) := rfl
        have hT := HT.out
        rw [hmk] at r0 hrow
        simp only at r0 hrow
        rw [marksZ_vals] at hrow
        rw [← hp]
        obtain ⟨z, hz⟩ : ∃ z, z = (qD L j).2.length := ⟨_, rfl⟩
        rw [← hz] at hrow hme r1
        have hl1 : z ≤ 1048576 := by omega
        have hp0 : 0 ≤ p + 1 := by omega
        have hp1 : p + 1 ≤ 1099511627776 := by omega
        have hpe : p + 1 + (z : Int) = q + (lenQ L (j + 1) : Int) := by omega
        have hge : ¬ p + 1 + (z : Int) < 0 := by omega
        have HRow := Lib.hid hrow
        have HPE := Lib.hid hpe
        obtain ⟨p2, hp2⟩ : ∃ p2 : Int, p2 = p + 1 + (z : Int) := ⟨_, rfl⟩
        rw [← hp2] at hge
        have HP2 := Lib.hid hp2
        clear hrow hpe hm hm2 hme hT hmk hml hz hp hp2
        go_wp2_with fail
        refine (heldIntS_any _ z (p + 1) _ hl1 hp0 hp1 HRow.out).mono ?_
        rw [← HP2.out]
        rintro e w2 ⟨rfl, rfl⟩
        go_wp2
        go_round
        case rel => exact ⟨j + 1, by omega, by go_num, by rw [HP2.out, HPE.out]⟩
        case measure => simp [intOf]; omega
      · obtain rfl : j = n := by omega
        go_wp2
        go_ret
        exact ⟨by first | rfl | rw [← HN.out], rfl⟩

end Go.Proofs.Yteljmfdlegohbaa
