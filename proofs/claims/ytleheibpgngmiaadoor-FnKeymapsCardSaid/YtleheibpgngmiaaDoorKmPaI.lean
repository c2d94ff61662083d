/- DERIVED. The program's parseLayer and ParseKeymap: what it reads is what the reference reads, where its tables are as its text lays them. Called with any text of at most 1048576 bytes. -/
import Derived.Test.YtleheibpgngmiaaDoorKmPa
import Derived.Test.YtleheibpgngmiaaDoorSplitShelf
import Derived.Test.YtleheibpgngmiaaDoorKmImpl
import Derived.Test.YtleheibpgngmiaaDoorAcFol
import Derived.Deep.DeepCutAuto
namespace Go.Proofs.YtleheibpgngmiaaDoor
open Go.RowKit

theorem goodW_no {ws : List ByteArray} {j : Nat} (hj : j < ws.length) (h : (acP (ws.getD j ⟨#[]⟩)).2 = false) : goodW ws = false := by
  rw [goodW, List.all_eq_false]
  refine ⟨ws[j], List.getElem_mem hj, ?_⟩
  rw [List.getD_eq_getElem?_getD, List.getElem?_eq_getElem hj] at h
  simpa using h
theorem goodW_next {ws : List ByteArray} {j : Nat} (hj : j < ws.length) (h : goodW (ws.take j) = true) (h2 : (acP (ws.getD j ⟨#[]⟩)).2 = true) : goodW (ws.take (j + 1)) = true := by
  rw [List.take_succ_eq_append_getElem hj, goodW, List.all_append, Bool.and_eq_true]
  refine ⟨h, ?_⟩
  rw [List.getD_eq_getElem?_getD, List.getElem?_eq_getElem hj] at h2
  simpa using h2
def actsP (ws : List ByteArray) : List Ac := ws.map fun w => (acP w).1
theorem actsP_len (ws : List ByteArray) : (actsP ws).length = ws.length := by simp [actsP]
theorem actsP_next {ws : List ByteArray} {j : Nat} (hj : j < ws.length) : actsP (ws.take (j + 1)) = actsP (ws.take j) ++ [(acP (ws.getD j ⟨#[]⟩)).1] := by
  rw [List.take_succ_eq_append_getElem hj, actsP, List.map_append, List.getD_eq_getElem?_getD, List.getElem?_eq_getElem hj]
  rfl

set_option maxRecDepth 100000 in
set_option maxHeartbeats 8000000 in
theorem parseLayer_any (T : ByteArray) (R : List Ac × Bool) (hR : R = lineP T) (w : World) (ht : AcTabs w) (hl : T.size ≤ 1048576) :
    Calls Tryd.prog 52 #[.string T] w fun e w' => ∃ ra rc, e = .returned (.tuple #[.slice ra R.1.length rc, .bool R.2]) ∧ w'.ownsRow w.heap.size 37 4 (.slice ra R.1.length rc) R.1.length (flatAc R.1) ∧ Below w.heap.size w w' := by
  obtain ⟨i0, hi, hz0, hz1, hz2⟩ := info_parts info_ac
  have HR := Lib.hid hR
  have HT := Lib.hid ht
  have HL := Lib.hid hl
  clear hR ht hl
  go_enter Tryd.func52, Tryd.ntmps52
  go_wp2_with fail
  refine (implSplit_any T 32 _ HL.out).mono ?_
  rintro e w1 ⟨vw, rfl, how, hb⟩
  obtain ⟨ws, hws⟩ : ∃ ws, ws = parts T 32 := ⟨_, rfl⟩
  obtain ⟨N, hN⟩ : ∃ N, N = ws.length := ⟨_, rfl⟩
  have hNb : N ≤ 1048577 := by rw [hN, hws]; have := parts_len T 32; have := HL.out; omega
  have hNp : 0 < N := by rw [hN, hws]; exact parts_pos T 32
  rw [← hws, ← hN] at how
  obtain ⟨bw, cw, rfl, hBw, hltw⟩ := how.form hNp
  have hcell : ∀ j, j < N → w1.cell? ⟨bw, j, none⟩ = some (.string (ws.getD j ⟨#[]⟩)) := by
    intro j hj
    have hj2 : j < ws.length := by omega
    rw [how.cellAt j (by omega), List.getElem?_map, List.getElem?_eq_getElem hj2, List.getD_eq_getElem?_getD, List.getElem?_eq_getElem hj2]
    rfl
  have hsz : ∀ j, (ws.getD j ⟨#[]⟩).size ≤ 1048576 := fun j => by rw [hws]; exact Nat.le_trans (parts_sizes T 32 j) HL.out
  have HB := Lib.hid (show Below w.heap.size w w1 from hb)
  have HT1 := Lib.hid (HT.out.below hb)
  have HN := Lib.hid hN
  have HWS := Lib.hid hws
  have HCell := Lib.hid hcell
  have HSz := Lib.hid hsz
  have HLW := Lib.hid (show bw < w1.heap.size from hltw)
  clear hb how hN hws hcell hsz hBw hltw
  go_wp2
  go_loopw [4, 6, 7, 8, 12] (fun o _ _ _ i wr => ∃ (j : Nat) (ra : Option Addr) (rc : Nat), j ≤ N ∧ i = .int .i64 j ∧ o = .slice ra j rc ∧ wr.ownsRow w1.heap.size 37 4 (.slice ra j rc) j (flatAc (actsP (ws.take j))) ∧ goodW (ws.take j) = true ∧ Below w1.heap.size w1 wr) (fun _ _ _ _ i _ => N - (intOf i).toNat)
  case atStart => exact ⟨0, none, 0, Nat.zero_le _, rfl, rfl, World.ownsRow_nil _ _ _ _, rfl, Below.refl _ _⟩
  case round =>
    obtain ⟨j, ra, rc, hj, rfl, rfl, ho, hg, hb⟩ := hrel
    have HO := Lib.hid ho
    have HG := Lib.hid hg
    have HBr := Lib.hid hb
    clear ho hg
    by_cases hlt' : j < N
    · obtain ⟨x, hx⟩ : ∃ x, x = ws.getD j ⟨#[]⟩ := ⟨_, rfl⟩
      have d1 : wr.cell? ⟨bw, j, none⟩ = some (.string x) := by rw [hx]; exact (hb.cell (p := ⟨bw, j, none⟩) HLW.out).trans (HCell.out j hlt')
      obtain ⟨z, hz⟩ : ∃ z, z = acP x := ⟨_, rfl⟩
      obtain ⟨zc, zb⟩ := z
      have HX := Lib.hid hx
      have HZ := Lib.hid hz
      clear hx hz hb
      go_wp2_with fail
      refine (implParseAction_n x zc zb HZ.out _ (HT1.out.below HBr.out) (by rw [HX.out]; exact HSz.out j)).mono ?_
      rintro e w5 ⟨rfl, hb5⟩
      obtain ⟨ak, ac, am, an⟩ := zc
      simp only
      have HB5 := Lib.hid (HBr.out.trans (hb5.mono HBr.out.size))
      have HO5 := Lib.hid (owns_below HO.out hb5)
      clear hb5 d1
      go_upto_region 6 with (fail)
      obtain ⟨W6, hW6⟩ : ∃ x, x = w5.alloc (.cells #[.int .i64 ak, .int .i64 ac, .int .i64 am, .int .i64 an] 37) := ⟨_, rfl⟩
      obtain ⟨gx, hgx⟩ : ∃ g, g = w5.heap.size := ⟨_, rfl⟩
      have hb6 : Below w5.heap.size w5 W6 := by rw [hW6]; exact (Below.refl _ _).alloc (Nat.le_refl _) _
      have hx6 : Bxd W6 gx [.int .i64 ak, .int .i64 ac, .int .i64 am, .int .i64 an] := by rw [hW6, hgx]; exact Bxd.new _ _ _
      rw [← hW6, ← hgx]
      have HB6 := Lib.hid (HB5.out.trans (hb6.mono HB5.out.size))
      have HO6 := Lib.hid (owns_below HO5.out hb6)
      have HX6 := Lib.hid hx6
      clear hW6 hgx hb6 hx6
      cases zb
      · have hno : R = ([], false) := by
          rw [HR.out]
          refine lineP_bad ?_
          rw [← HWS.out]
          exact goodW_no (j := j) (by rw [← HN.out]; exact hlt') (by rw [← HX.out, ← HZ.out])
        subst hno
        go_wp2
        go_ret2
        exact ⟨none, 0, rfl, World.ownsRow_nil _ _ _ _, HB.out.trans (HB6.out.mono HB.out.size)⟩
      · have hst : flatAc (actsP (ws.take (j + 1))) = flatAc (actsP (ws.take j)) ++ [.int .i64 ak, .int .i64 ac, .int .i64 am, .int .i64 an] := by
          rw [actsP_next (by rw [← HN.out]; exact hlt'), flatAc_snoc, ← HX.out, ← HZ.out]
        have hg2 : goodW (ws.take (j + 1)) = true := goodW_next (by rw [← HN.out]; exact hlt') HG.out (by rw [← HX.out, ← HZ.out])
        have HST := Lib.hid hst
        have HG2 := Lib.hid hg2
        have x0 := HX6.out.at 0 _ rfl
        have x1 := HX6.out.at 1 _ rfl
        have x2 := HX6.out.at 2 _ rfl
        have x3 := HX6.out.at 3 _ rfl
        have b63 : j + 1 ≤ maxLen := by unfold maxLen; omega
        have b47 : (j + 1) * 32 ≤ 140737488355328 := by omega
        have hsz1 : w1.heap.size ≤ W6.heap.size + 1 := Nat.le_succ_of_le HB6.out.size
        clear hst hg2
        go_wp2_with (at_builtin; refine wpList_append_owns rfl _ _ 54 rfl w1.heap.size 37 i0 (.agg #[.int .i64 0, .int .i64 0, .int .i64 0, .int .i64 0]) 4 32 Tryd.underlying54 hi hz0 hz1 hz2 rfl (by decide) _ _ _ rfl (HO6.out.alloc _) _ _ _ _ rfl (World.ownsRow_lit (e := 37) (size := 4) W6 #[.int .i64 ak, .int .i64 ac, .int .i64 am, .int .i64 an] 1 (Nat.le_refl _) (by simp [maxLen]) rfl) (by simp [Value.oneCell']) b63 b47 (by simp; exact hsz1) ?_)
        intro v7 w7 hown7 hgrow
        obtain ⟨a7, c7, rfl⟩ := owns_shape hown7
        have HB7 := Lib.hid ((HB6.out.alloc HB6.out.size _).grown hgrow (by simp; exact hsz1) (fun q hq => (HO6.out.lt q hq).1))
        have HO7 := Lib.hid (show w7.ownsRow w1.heap.size 37 4 (.slice a7 (j + 1) c7) (j + 1) (flatAc (actsP (ws.take (j + 1)))) by rw [HST.out]; exact hown7)
        clear hown7 hgrow b63 b47 hsz1 x0 x1 x2 x3
        go_wp2
        go_roundw
        case rel => exact ⟨j + 1, a7, c7, by omega, by go_num, rfl, HO7.out, HG2.out, HB7.out⟩
        case measure => simp [intOf]; omega
    · obtain rfl : j = N := by omega
      have hg := HG.out
      rw [HN.out, List.take_length] at hg
      have hR2 : R = (actsP ws, true) := by rw [HR.out, lineP_good (by rw [← HWS.out]; exact hg), ← HWS.out]; rfl
      have HRL := Lib.hid (show (actsP ws).length = j by rw [actsP_len, HN.out])
      have HO8 := Lib.hid (show wr.ownsRow w1.heap.size 37 4 (.slice ra j rc) j (flatAc (actsP ws)) by have := HO.out; rw [HN.out, List.take_length, ← HN.out] at this; exact this)
      subst hR2
      clear hg hb
      go_wp2
      go_ret2
      exact ⟨ra, rc, by rw [HRL.out]; rfl, by rw [HRL.out]; exact owns_base HO8.out HB.out.size, HB.out.trans (HBr.out.mono HB.out.size)⟩

theorem cutd_size {sep s : ByteArray} {Ts : List ByteArray} (h : Cutd sep s Ts) : ∀ T ∈ Ts, T.size ≤ s.size := by
  induction h with
  | last T _ => intro X hX; rw [List.mem_singleton.1 hX]; exact Nat.le_refl _
  | more s T s' Ts he _ _ ih =>
    intro X hX
    rw [he, ByteArray.size_append, ByteArray.size_append]
    rcases List.mem_cons.1 hX with rfl | h1
    · omega
    · have := ih X h1; omega
theorem lineP_len (T : ByteArray) : (lineP T).1.length ≤ T.size + 1 := by
  rw [lineP, rowP]
  split
  · rw [List.length_map]; exact parts_len T 32
  · exact Nat.zero_le _
theorem goodT_no {Ts : List ByteArray} {j : Nat} (hj : j < Ts.length) (h : (lineP (Ts.getD j ⟨#[]⟩)).2 = false) : goodT Ts = false := by
  rw [goodT, List.all_eq_false]
  refine ⟨Ts[j], List.getElem_mem hj, ?_⟩
  rw [List.getD_eq_getElem?_getD, List.getElem?_eq_getElem hj] at h
  simpa using h
theorem goodT_next {Ts : List ByteArray} {j : Nat} (hj : j < Ts.length) (h : goodT (Ts.take j) = true) (h2 : (lineP (Ts.getD j ⟨#[]⟩)).2 = true) : goodT (Ts.take (j + 1)) = true := by
  rw [List.take_succ_eq_append_getElem hj, goodT, List.all_append, Bool.and_eq_true]
  refine ⟨h, ?_⟩
  rw [List.getD_eq_getElem?_getD, List.getElem?_eq_getElem hj] at h2
  simpa using h2
theorem rowsP_len (Ts : List ByteArray) : (rowsP Ts).length = Ts.length := by simp [rowsP]
theorem rowsP_next {Ts : List ByteArray} {j : Nat} (hj : j < Ts.length) : rowsP (Ts.take (j + 1)) = rowsP (Ts.take j) ++ [(lineP (Ts.getD j ⟨#[]⟩)).1] := by
  rw [List.take_succ_eq_append_getElem hj, rowsP, List.map_append, List.getD_eq_getElem?_getD, List.getElem?_eq_getElem hj]
  rfl

set_option maxRecDepth 100000 in
set_option maxHeartbeats 8000000 in
theorem implParseKeymap_any (s : ByteArray) (w : World) (ht : AcTabs w) (hM : MaxInt w) (hl : s.size ≤ 1048576) :
    Calls Tryd.prog 29 #[.string s] w (KmOut (kmP s) w) := by
  obtain ⟨i1, hI1, hy0, hy1, hy2⟩ := info_parts info_acs
  obtain ⟨Ts, hTs⟩ : ∃ Ts, Ts = pieces s barS := ⟨_, rfl⟩
  have hcut : Cutd barS s Ts := by rw [hTs]; exact cutd_pieces barS (by decide) _ s rfl
  obtain ⟨r, hr⟩ : ∃ r, r = impP Ts := ⟨_, rfl⟩
  rw [← impP_kmP hcut, ← hr]
  obtain ⟨N, hN⟩ : ∃ N, N = Ts.length := ⟨_, rfl⟩
  have hNp : 0 < N := by rw [hN]; cases hcut <;> simp
  have hNb : N ≤ 1048577 := by
    have h1 : (pieces s barS).length = Lib.countB s barS + 1 := Lib.splitB_all barS (by decide) 0 _ s rfl
    have h2 := Lib.countB_le barS (by decide) s.size s (Nat.le_refl _)
    rw [hN, hTs, h1]; omega
  have hsz : ∀ j, (Ts.getD j ⟨#[]⟩).size ≤ 1048576 := by
    intro j
    rw [List.getD_eq_getElem?_getD]
    rcases hc : Ts[j]? with _ | p
    · exact Nat.zero_le _
    · exact Nat.le_trans (cutd_size hcut p (List.mem_of_getElem? hc)) hl
  have hrl : ∀ l ∈ rowsP Ts, l.length ≤ maxLen := by
    intro l hm
    obtain ⟨T, hT, rfl⟩ := List.mem_map.1 hm
    have h1 := lineP_len T
    have h2 := cutd_size hcut T hT
    unfold maxLen; omega
  have HR := Lib.hid hr
  have HT := Lib.hid ht
  have HL := Lib.hid hl
  have HN := Lib.hid hN
  have HTs := Lib.hid hTs
  have HSz := Lib.hid hsz
  have HRl := Lib.hid hrl
  clear hr ht hl hN hTs hsz hrl hcut
  obtain ⟨V, hV⟩ : ∃ V, V = w.alloc (.cells #[.int .i64 0, .slice none 0 0] 31) := ⟨_, rfl⟩
  have HG0 := Lib.hid (show V.heap[w.heap.size]? = some (.cells #[.int .i64 0, .slice none 0 0] 31 (0, 0)) by rw [hV]; exact heap_alloc_new w _)
  have HB0 := Lib.hid (show Below w.heap.size w V by rw [hV]; exact (Below.refl _ _).alloc (Nat.le_refl _) _)
  have HS0 := Lib.hid (show w.heap.size < V.heap.size by rw [hV]; simp)
  have HM := Lib.hid (hM.below HB0.out)
  have HV2 := Lib.hid hV
  have HNil := Lib.hid (show ∀ wx, Below w.heap.size w wx → r = ⟨0, [], false⟩ → KmOut r w (.returned (.tuple #[kmv 0 (.slice none 0 0), .bool false])) (putW wx w.heap.size 0 [.int .i64 0, .slice none 0 0]) from fun wx hx h => by
    rw [h]
    exact ⟨none, 0, _, rfl, OwB.done (OwB.start (World.ownsRow_nil _ _ _ _)) rfl, putW_below (by omega) _ _ _ hx⟩)
  clear hV hM
  go_enter Tryd.func29, Tryd.ntmps29
  go_wp2_with fail
  rw [← HV2.out]
  refine (strSplit_any s barS V HM.out (by have := HL.out; omega) (by decide)).mono ?_
  rw [← HTs.out, ← HN.out]
  rintro e w1 ⟨rfl, hcells, hb⟩
  obtain ⟨g, hg⟩ : ∃ g, g = V.heap.size := ⟨_, rfl⟩
  rw [← hg] at hcells ⊢
  have hgs : g < w1.heap.size := (Array.getElem?_eq_some_iff.mp hcells).1
  have hcell : ∀ j, j < N → w1.cell? ⟨g, j, none⟩ = some (.string (Ts.getD j ⟨#[]⟩)) := by
    intro j hj
    have hj2 : j < Ts.length := by have := HN.out; omega
    have h1 := (cells_of_heap hcells j (by simpa using hj2)).1
    rw [h1, List.getD_eq_getElem?_getD, List.getElem?_eq_getElem hj2]
    simp
  have HB1 := Lib.hid (HB0.out.trans (hb.mono HB0.out.size))
  have HG1 := Lib.hid ((hb.block _ HS0.out).trans HG0.out)
  have HS1 := Lib.hid (Nat.lt_of_lt_of_le HS0.out hb.size)
  have HT1 := Lib.hid (HT.out.below HB1.out)
  have HCell := Lib.hid hcell
  have HGS := Lib.hid hgs
  clear hb hcells hcell hgs hg
  go_wp2
  go_loopw [4, 6, 7, 8, 13] (fun o _ _ _ i wr => ∃ (j : Nat) (us : List Value) (fps : List (List Nat)) (a : Option Addr) (c : Nat), j ≤ N ∧ i = .int .i64 j ∧ o = .slice a j c ∧ LoB wr w1.heap.size (.slice a j c) j us (rowsP (Ts.take j)) fps ∧ goodT (Ts.take j) = true ∧ Below w1.heap.size w1 wr) (fun _ _ _ _ i _ => N - (intOf i).toNat)
  case atStart => exact ⟨0, [], [], none, 0, Nat.zero_le _, rfl, rfl, OwB.start (World.ownsRow_nil _ _ _ _), rfl, Below.refl _ _⟩
  case round =>
    obtain ⟨j, us, fps, a, c, hj, rfl, rfl, hob, hok, hb⟩ := hrel
    have HOB := Lib.hid hob
    have HOK := Lib.hid hok
    have HB := Lib.hid hb
    clear hob hok
    by_cases hlt' : j < N
    · obtain ⟨x, hx⟩ : ∃ x, x = Ts.getD j ⟨#[]⟩ := ⟨_, rfl⟩
      have d1 : wr.cell? ⟨g, j, none⟩ = some (.string x) := by rw [hx]; exact (hb.cell (p := ⟨g, j, none⟩) HGS.out).trans (HCell.out j hlt')
      obtain ⟨S, hS⟩ : ∃ S, S = lineP x := ⟨_, rfl⟩
      have HX := Lib.hid hx
      have HS := Lib.hid hS
      clear hx hS hb
      go_wp2_with fail
      refine (parseLayer_any x S HS.out _ (HT1.out.below HB.out) (by rw [HX.out]; exact HSz.out j)).mono ?_
      rintro e W2 ⟨ra, rc, rfl, ho2, hb2⟩
      obtain ⟨lS, okS⟩ := S
      simp only at ho2 ⊢
      have HO2 := Lib.hid ho2
      have HB2 := Lib.hid hb2
      have HBW := Lib.hid (HB.out.trans (hb2.mono HB.out.size))
      clear ho2 hb2 d1
      cases okS
      · have HRr := Lib.hid (show r = ⟨0, [], false⟩ by
          rw [HR.out, impP, if_neg]
          intro e
          have h1 := goodT_no (Ts := Ts) (j := j) (by rw [← HN.out]; exact hlt') (by rw [← HX.out, ← HS.out])
          rw [h1] at e
          exact absurd e.1 (by decide))
        have HBX := Lib.hid (HB1.out.trans (HBW.out.mono HB1.out.size))
        have HGX := Lib.hid ((HBW.out.block w.heap.size HS1.out).trans HG1.out)
        obtain ⟨y0, q0⟩ := cells_of_heap HGX.out 0 (by simp)
        obtain ⟨y1, q1⟩ := cells_of_heap HGX.out 1 (by simp)
        go_wp2
        clear y0 q0 y1 q1
        obtain ⟨wf, hwf⟩ : ∃ x, x = putW (W2) (w.heap.size) 0 [.int .i64 0, .slice none 0 0] := ⟨_, rfl⟩
        have kf := putW_all [.int .i64 0, .slice none 0 0] HGX.out rfl
        have bf := putW_below (b := w.heap.size) (by first | omega | simp) [.int .i64 0, .slice none 0 0] 0 _ HBX.out
        have of := HNil.out _ HBX.out HRr.out
        rw [← hwf] at kf bf of
        have cf := hwf.symm
        simp only [putW, Nat.reduceAdd] at cf
        rw [cf]
        clear cf hwf
        have f0 := (cells_of_heap kf 0 (by simp)).1
        have f1 := (cells_of_heap kf 1 (by simp)).1
        simp only [List.getElem_toArray, List.getElem_cons_zero, List.getElem_cons_succ] at f0 f1
        refine bodyPost_ret (v := .tuple #[kmv 0 (.slice none 0 0), .bool false]) (by simp [results, Tryd.results29, go_sem, f0, f1]) rfl of
      · have hob2 := HOB.out.below HB2.out
        have hWU : w1.heap.size ≤ wr.heap.size := HB.out.size
        have c63 : j + 1 ≤ maxLen := by unfold maxLen; omega
        have c47 : (j + 1) * 24 ≤ 140737488355328 := by omega
        have hsz1 : w1.heap.size ≤ W2.heap.size + 1 := Nat.le_succ_of_le HBW.out.size
        have HOB2 := Lib.hid hob2
        have HWU := Lib.hid hWU
        clear hob2 hWU
        go_wp2_with (at_builtin; refine wpList_append_lies _ rfl _ _ 29 rfl w1.heap.size 54 i1 (.slice none 0 0) 1 24 Tryd.underlying29 hI1 hy0 hy1 hy2 rfl (by decide) (.slice a j c) j us rfl (HOB2.out.own.alloc _) ⟨W2.heap.size, 0, none⟩ 1 1 [.slice ra lS.length rc] rfl rfl (World.news_of_block (cs := #[.slice ra lS.length rc]) (t := 54) (fr := (0, 0)) (heap_alloc_new W2 _)) (by simp [Value.oneCell']) (by decide) c63 c47 (by simp; exact hsz1) (W2.heap.size + 1) (by simp) ?_)
        intro g2 cap2 w4 hown2 hgrow2 hat2 hlt4
        have hb4 : Below w1.heap.size W2 w4 := (((Below.refl W2.heap.size W2).alloc (Nat.le_refl _) _).mono HBW.out.size).grown hgrow2 (by simp; exact hsz1) (fun q hq => (HOB2.out.own.lt q hq).1)
        have hof : OwF (W2.alloc (.cells #[.slice ra lS.length rc] 54)) w1.heap.size 37 4 (.slice ra lS.length rc) lS.length (lS.flatMap Ac.cells) (ownFp (.slice ra lS.length rc)) :=
          ⟨owns_base (HO2.out.alloc _) HWU.out, rfl⟩
        have hob3 := HOB2.out.below (w' := W2.alloc (.cells #[.slice ra lS.length rc] 54)) ((Below.refl _ _).alloc (Nat.le_refl _) _)
        have htl : j = (rowsP (Ts.take j)).length := by rw [rowsP_len, List.length_take, ← HN.out]; omega
        have hpush := OwB.push hob3 htl hof (fun x hx hx' => by have h1 := ((OwF.mk' HO2.out).rng x hx).1; have h2 := (HOB.out.rng x hx').2; omega) hown2 hgrow2 (by rcases hat2 with h1 | h1; exact .inl h1; exact .inr (by rw [h1]; simp))
        have hnx : rowsP (Ts.take j) ++ [lS] = rowsP (Ts.take (j + 1)) := by rw [rowsP_next (by rw [← HN.out]; exact hlt'), ← HX.out, ← HS.out]
        rw [hnx] at hpush
        have hok2 : goodT (Ts.take (j + 1)) = true := goodT_next (by rw [← HN.out]; exact hlt') HOK.out (by rw [← HX.out, ← HS.out])
        have HF := Lib.hid hpush
        have HB5 := Lib.hid (HBW.out.trans hb4)
        have HOK2 := Lib.hid hok2
        clear hof hob3 htl hpush hnx hok2 hb4 hown2 hgrow2 hat2 hlt4 c63 c47 hsz1
        go_wp2
        go_roundw
        case rel => exact ⟨j + 1, _, _, some ⟨g2, 0, none⟩, cap2, by omega, by go_num, rfl, HF.out, HOK2.out, HB5.out⟩
        case measure => simp [intOf]; omega
    · obtain rfl : j = N := by omega
      obtain ⟨L, hL⟩ : ∃ L, L = rowsP Ts := ⟨_, rfl⟩
      have hLl : j = L.length := by rw [hL, rowsP_len, HN.out]
      have hob := HOB.out
      have hok := HOK.out
      rw [show Ts.take j = Ts by rw [HN.out, List.take_length]] at hob hok
      rw [← hL] at hob
      have hrow := hob.row 0 (by omega)
      obtain ⟨xa, xc, hxu⟩ : ∃ xa xc, uD us 0 = .slice xa (lD L 0).length xc := by
        obtain ⟨xa, xc, h⟩ := owns_shape hrow.1
        exact ⟨xa, xc, h⟩
      obtain ⟨gl, cl, hgv, hgB, hglt⟩ := hob.own.form hNp
      obtain ⟨rfl, rfl⟩ := by simpa using hgv
      have husl : us.length = j := by have := hob.own.1; omega
      obtain ⟨K, hK⟩ : ∃ K, K = (lD L 0).length := ⟨_, rfl⟩
      rw [← hK] at hxu
      have l0 : wr.cell? ⟨gl, 0, none⟩ = some (.slice xa K xc) := by
        rw [hob.own.cellAt 0 (by omega), List.getElem?_eq_getElem (by omega), ← hxu, uD, List.getD_eq_getElem?_getD, List.getElem?_eq_getElem (by omega)]
        rfl
      obtain ⟨ov, hov⟩ : ∃ o, o = okKm K L := ⟨_, rfl⟩
      have hr3 : r = if ov = true then ⟨K, L, true⟩ else ⟨0, [], false⟩ := by
        rw [HR.out, impP, hok, ← hL, ← hK, ← hov]
        cases ov <;> simp
      have HOS := Lib.hid (show LoS wr w1.heap.size (.slice (some ⟨gl, 0, none⟩) L.length c) L (ownFp (.slice (some ⟨gl, 0, none⟩) j c) ++ fps.flatten) by rw [← hLl]; exact OwB.done hob hLl)
      have HR3 := Lib.hid hr3
      have HOv := Lib.hid hov
      have HLL := Lib.hid hLl
      have HLR := Lib.hid (show ∀ l ∈ L, l.length ≤ maxLen by rw [hL]; exact HRl.out)
      have HGr := Lib.hid ((HB.out.block w.heap.size HS1.out).trans HG1.out)
      have HSr := Lib.hid (Nat.lt_of_lt_of_le HS1.out HB.out.size)
      have HBr := Lib.hid (HB1.out.trans (HB.out.mono HB1.out.size))
      clear hL hLl hob hok hrow hxu hgv hgB hglt husl hK hov hr3 hb
      go_upto_region 11 with (fail)
      obtain ⟨gm, hgm⟩ : ∃ g, g = wr.heap.size := ⟨_, rfl⟩
      obtain ⟨U, hU⟩ : ∃ U, U = wr.alloc (.cells #[.int .i64 K, .slice (some ⟨gl, 0, none⟩) j c] 31) := ⟨_, rfl⟩
      have hbU : Below wr.heap.size wr U := by rw [hU]; exact (Below.refl _ _).alloc (Nat.le_refl _) _
      have hgmU : U.heap[gm]? = some (.cells #[.int .i64 K, .slice (some ⟨gl, 0, none⟩) j c] 31 (0, 0)) := by rw [hU, hgm]; exact heap_alloc_new _ _
      have hgms : gm < U.heap.size := (Array.getElem?_eq_some_iff.mp hgmU).1
      rw [← hU, ← hgm]
      have HGm := Lib.hid hgmU
      have HGms := Lib.hid hgms
      have HGU := Lib.hid ((hbU.block w.heap.size HSr.out).trans HGr.out)
      have HBU := Lib.hid (HBr.out.trans (hbU.mono HBr.out.size))
      have HOSU := Lib.hid (HOS.out.below hbU)
      have HSU := Lib.hid (Nat.lt_of_lt_of_le HSr.out hbU.size)
      have m0 := (cells_of_heap hgmU 0 (by simp)).1
      have m1 := (cells_of_heap hgmU 1 (by simp)).1
      clear hgm hU hbU hgmU hgms l0
      go_wp2_with fail
      refine (implIsKeymap_q K _ L ov HOv.out _ (by rw [← HLL.out]; unfold maxLen; omega) HLR.out (by rw [HLL.out]; exact HOSU.out.rd)).mono ?_
      rintro e w5 ⟨rfl, hb5⟩
      have HB5 := Lib.hid (HBU.out.trans (hb5.mono HBU.out.size))
      have hgm5 := (hb5.block gm HGms.out).trans HGm.out
      have HGr5 := Lib.hid ((hb5.block w.heap.size HSU.out).trans HGU.out)
      have HOS5 := Lib.hid (HOSU.out.below hb5)
      clear m0 m1
      have m0 := (cells_of_heap hgm5 0 (by simp)).1
      have m1 := (cells_of_heap hgm5 1 (by simp)).1
      obtain ⟨y0, q0⟩ := cells_of_heap HGr5.out 0 (by simp)
      obtain ⟨y1, q1⟩ := cells_of_heap HGr5.out 1 (by simp)
      clear hb5 hgm5
      cases ov
      · have HRr := Lib.hid (show r = ⟨0, [], false⟩ from HR3.out)
        go_wp2
        clear m0 m1 y0 q0 y1 q1
        obtain ⟨wf, hwf⟩ : ∃ x, x = putW (w5) (w.heap.size) 0 [.int .i64 0, .slice none 0 0] := ⟨_, rfl⟩
        have kf := putW_all [.int .i64 0, .slice none 0 0] HGr5.out rfl
        have bf := putW_below (b := w.heap.size) (by first | omega | simp) [.int .i64 0, .slice none 0 0] 0 _ HB5.out
        have of := HNil.out _ HB5.out HRr.out
        rw [← hwf] at kf bf of
        have cf := hwf.symm
        simp only [putW, Nat.reduceAdd] at cf
        rw [cf]
        clear cf hwf
        have f0 := (cells_of_heap kf 0 (by simp)).1
        have f1 := (cells_of_heap kf 1 (by simp)).1
        simp only [List.getElem_toArray, List.getElem_cons_zero, List.getElem_cons_succ] at f0 f1
        refine bodyPost_ret (v := .tuple #[kmv 0 (.slice none 0 0), .bool false]) (by simp [results, Tryd.results29, go_sem, f0, f1]) rfl of
      · have HRr := Lib.hid (show r = ⟨K, L, true⟩ from HR3.out)
        go_wp2
        clear m0 m1 y0 q0 y1 q1
        obtain ⟨wf, hwf⟩ : ∃ x, x = putW (w5) (w.heap.size) 0 [.int .i64 K, .slice (some ⟨gl, 0, none⟩) j c] := ⟨_, rfl⟩
        have kf := putW_all [.int .i64 K, .slice (some ⟨gl, 0, none⟩) j c] HGr5.out rfl
        have bf := putW_below (b := w.heap.size) (by first | omega | simp) [.int .i64 K, .slice (some ⟨gl, 0, none⟩) j c] 0 _ HB5.out
        have of := HOS5.out.put (b := w.heap.size) [.int .i64 K, .slice (some ⟨gl, 0, none⟩) j c] 0 HS1.out
        rw [← hwf] at kf bf of
        have cf := hwf.symm
        simp only [putW, Nat.reduceAdd] at cf
        rw [cf]
        clear cf hwf
        have f0 := (cells_of_heap kf 0 (by simp)).1
        have f1 := (cells_of_heap kf 1 (by simp)).1
        simp only [List.getElem_toArray, List.getElem_cons_zero, List.getElem_cons_succ] at f0 f1
        refine bodyPost_ret (v := .tuple #[kmv K (.slice (some ⟨gl, 0, none⟩) j c), .bool true]) (by simp [results, Tryd.results29, go_sem, f0, f1]) rfl (by rw [HRr.out]; exact ⟨some ⟨gl, 0, none⟩, c, _, by rw [← HLL.out], of.base HB1.out.size, bf⟩)

end Go.Proofs.YtleheibpgngmiaaDoor
