/- DERIVED. What was sent as data: a time and a report; the laws' own functions on it and on slices of it: the size, a copy, two that are alike. -/
import Derived.Test.YteljmfdlegohbaaRpsLaw
import Derived.Test.YteljmfdlegohbaaMcRepI
import Derived.Deep.RegionLaw
import Derived.Deep.DeepCutAuto
namespace Go.Proofs.Yteljmfdlegohbaa
open Go.RowKit

/-- Times and modifiers, each with the keys of its report. -/
abbrev Sv := (Int × Int) × List Int
abbrev snF (p : Int × Int) : List Value := [.int .i64 p.1, .int .i64 p.2]
abbrev snv (t m : Int) (u : Value) : Value := .agg #[.int .i64 t, .int .i64 m, u]
theorem snF_len (p : Int × Int) : (snF p).length = 2 := rfl
theorem info_sn : (Try.prog.info? 165).map (fun i => (i.zero, i.size, i.bytes)) = some (some (.agg #[.int .i64 0, .int .i64 0, .slice none 0 0]), 3, 40) := by kernel_rfl
theorem qS_le {L : List Sv} {n : Nat} (h : ∀ r ∈ L, r.2.length ≤ n) (j : Nat) : (qD L j).2.length ≤ n := by
  rw [qD, List.getD_eq_getElem?_getD]
  rcases hc : L[j]? with _ | p
  · exact Nat.zero_le _
  · exact h p (List.mem_of_getElem? hc)
/-- What a walk knows of a row of what was sent. -/
theorem sn_at {w : World} {v : Value} {L : List Sv} (h : RdQ snF w v L) : ∃ va vc, v = .slice va L.length vc ∧ ∀ j, j < L.length → ∃ b off, va = some ⟨b, off, none⟩ ∧ b < w.heap.size ∧ ∃ a c, w.cell? ⟨b, off + j * 3, none⟩ = some (.int .i64 (qD L j).1.1) ∧ w.cell? ⟨b, off + j * 3 + 1, none⟩ = some (.int .i64 (qD L j).1.2) ∧ w.cell? ⟨b, off + j * 3 + 2, none⟩ = some (.slice a (qD L j).2.length c) ∧ Rd w (.slice a (qD L j).2.length c) ((qD L j).2.map (.int .i64)) := by
  rcases RdQ.cases (k := 2) snF_len h with ⟨hn, a, cap, hv⟩ | ⟨b, off, cap, us, hp, hv, hlt, hul, hc⟩
  · exact ⟨a, cap, by rw [hn]; exact hv, fun j hj => by rw [hn] at hj; exact absurd hj (Nat.not_lt_zero _)⟩
  · refine ⟨_, cap, hv, fun j hj => ⟨b, off, rfl, hlt, ?_⟩⟩
    obtain ⟨h1, h2⟩ := hc j hj
    obtain ⟨a, c, hu⟩ := ints_shape h2
    refine ⟨a, c, ?_, ?_, ?_, by rw [← hu]; exact h2⟩
    · have := h1 0 (by omega) (.int .i64 (qD L j).1.1) rfl
      simpa using this
    · exact h1 1 (by omega) _ rfl
    · rw [← hu]; exact h1 2 (by omega) _ rfl

def lenW (L : List Sv) : Nat → Nat
  | 0 => 0
  | j + 1 => lenW L j + (1 + (qD L j).2.length)
theorem lenW_mono (L : List Sv) {i j : Nat} (h : i ≤ j) : lenW L i ≤ lenW L j := by
  induction j with
  | zero => obtain rfl : i = 0 := by omega
            exact Nat.le_refl _
  | succ j ih =>
    rcases Nat.lt_or_ge i (j + 1) with h2 | h2
    · rw [lenW]; have := ih (by omega); omega
    · obtain rfl : i = j + 1 := by omega
      exact Nat.le_refl _
theorem lenW_ge (L : List Sv) : ∀ j, j ≤ lenW L j
  | 0 => Nat.le_refl _
  | j + 1 => by rw [lenW]; have := lenW_ge L j; omega
theorem keysW_le {L : List Sv} {n : Nat} (h : lenW L L.length ≤ n) : ∀ r ∈ L, r.2.length ≤ n := fun r hr => by
  obtain ⟨j, hj, rfl⟩ := List.getElem_of_mem hr
  have h1 := lenW_mono L (show j + 1 ≤ L.length from hj)
  rw [lenW, qD, List.getD_eq_getElem?_getD, List.getElem?_eq_getElem hj] at h1
  simp only [Option.getD_some] at h1
  omega

/-- A row of what was sent that is filled place by place. -/
structure SnB (w : World) (B g n : Nat) (us : List Value) (L : List Sv) (fps : List (List Nat)) : Prop where
  own : ∃ xs, w.ownsRow B 165 3 (.slice (some ⟨g, 0, none⟩) n n) n xs ∧ xs.take (L.length * 3) = pC snF L us
  ulen : us.length = L.length
  len : fps.length = L.length
  row : ∀ j, j < L.length → OwC w B (.row [.int .i64]) (uD us j) (.row (ones (qD L j).2)) (fD fps j)
  nd : (g :: fps.flatten).Nodup
theorem SnB.rng {w : World} {B g n : Nat} {us : List Value} {L : List Sv} {fps : List (List Nat)} (h : SnB w B g n us L fps) : ∀ b ∈ g :: fps.flatten, B ≤ b ∧ b < w.heap.size := by
  intro b hb
  rcases List.mem_cons.1 hb with rfl | h1
  · obtain ⟨xs, ho, _⟩ := h.own
    exact ho.lt b (by simp [Value.ownBlock])
  · obtain ⟨j, hj, hm⟩ := of_mem_flatten h1
    exact (h.row j (by rw [← h.len]; exact hj)).rng b hm
theorem SnB.below {w w' : World} {B g n : Nat} {us : List Value} {L : List Sv} {fps : List (List Nat)} (h : SnB w B g n us L fps) (hb : Below w.heap.size w w') : SnB w' B g n us L fps :=
  ⟨by obtain ⟨xs, ho, hx⟩ := h.own; exact ⟨xs, owns_below ho hb, hx⟩, h.ulen, h.len, fun j hj => (h.row j hj).below hb, h.nd⟩
theorem SnB.start {w : World} {B g n : Nat} {xs : List Value} (h : w.ownsRow B 165 3 (.slice (some ⟨g, 0, none⟩) n n) n xs) : SnB w B g n [] [] [] :=
  ⟨⟨xs, h, rfl⟩, rfl, rfl, fun j hj => absurd hj (Nat.not_lt_zero _), by simp⟩
theorem SnB.done {w : World} {B g : Nat} {us : List Value} {L : List Sv} {fps : List (List Nat)} (h : SnB w B g L.length us L fps) : OwZ snF w B 2 (.slice (some ⟨g, 0, none⟩) L.length L.length) L (g :: fps.flatten) := by
  obtain ⟨xs, ho, hx⟩ := h.own
  rw [List.take_of_length_le (by rw [ho.1]; exact Nat.le_refl _)] at hx
  subst hx
  have e : ownFp (.slice (some ⟨g, 0, none⟩) L.length L.length) = [g] := by simp [ownFp, Value.ownBlock]
  exact ⟨us, fps, ⟨lowRow_of ho, h.ulen, h.len, h.row, by rw [e]; exact h.nd⟩, by rw [e]; rfl⟩
/-- The next one is stored. -/
theorem SnB.push {w : World} {B S g n : Nat} {us : List Value} {L : List Sv} {fps : List (List Nat)} {t m : Int} {z : List Int} {u : Value} {fq : List Nat} (h : SnB w B g n us L fps) (hlt : L.length < n) (hB : B ≤ S) (hS : ∀ b ∈ g :: fps.flatten, b < S) (hu : OwC w S (.row [.int .i64]) u (.row (ones z)) fq) :
    SnB (putW w g (L.length * 3) [.int .i64 t, .int .i64 m, u]) B g n (us ++ [u]) (L ++ [((t, m), z)]) (fps ++ [fq]) := by
  have hq : ∀ b ∈ fq, b ∉ g :: fps.flatten := fun b hb hm => by have := (hu.rng b hb).1; have := hS b hm; omega
  have hnd := List.nodup_cons.1 h.nd
  refine ⟨?_, by simp [h.ulen], by simp [h.len], ?_, ?_⟩
  · obtain ⟨xs, ho, hx⟩ := h.own
    have hl : xs.length = n * 3 := ho.1
    refine ⟨_, owns_put ho (L.length * 3) [.int .i64 t, .int .i64 m, u] (by simp; omega), ?_⟩
    rw [pC_snoc L us ((t, m), z) u h.ulen, ← hx, List.length_append, List.length_singleton]
    have hp : (xs.take (L.length * 3) ++ [Value.int .i64 t, .int .i64 m, u]).length = (L.length + 1) * 3 := by
      rw [List.length_append, List.length_take, Nat.min_eq_left (by omega)]; simp; omega
    rw [← hp, List.take_left]; rfl
  · intro j hj
    rw [qD_snoc, fD_snoc, uD_snoc, h.len, h.ulen]
    by_cases hjl : j < L.length
    · rw [if_pos hjl, if_pos hjl, if_pos hjl]
      exact OwC.putAt (h.row j hjl) _ (fun hm => hnd.1 (mem_fD hm)) _
    · have : j = L.length := by simp at hj; omega
      subst this
      rw [if_neg hjl, if_neg hjl, if_neg hjl, if_pos rfl, if_pos rfl, if_pos rfl]
      exact OwC.putAt (OwC.base _ _ _ _ hu hB) _ (fun hm => hq g hm List.mem_cons_self) _
  · have := nodup_flat_snoc (A := [g]) (F := fps) (p := fq) (by simpa using h.nd) (owC_nodup hu) (fun b hb hm => hq b hb (by simpa using hm))
    simpa using this

set_option maxRecDepth 100000 in
theorem szSent_any (t m : Int) (a : Option Addr) (n cap : Nat) (left z : Int) (hz : z = if left < (n : Int) then -1 else left - (n : Int)) (w : World) (hl : 0 ≤ left) (hl' : left ≤ 1099511627776) (hn : n ≤ maxLen) :
    Calls Try.prog 116 #[snv t m (.slice a n cap), .int .i64 left] w fun e w' => ∃ y : Int, e = .returned (.int .i64 y) ∧ (y = z ∨ (y < 0 ∧ z < 0)) ∧ Below w.heap.size w w' := by
  obtain ⟨W, hW⟩ : ∃ W, W = w.alloc (.cells #[.int .i64 t, .int .i64 m, .slice a n cap] 163) := ⟨_, rfl⟩
  have HX0 := Lib.hid (show Bxd W w.heap.size [.int .i64 t, .int .i64 m, .slice a n cap] by rw [hW]; exact Bxd.new _ _ _)
  have HB0 := Lib.hid (show Below w.heap.size w W by rw [hW]; exact (Below.refl _ _).alloc (Nat.le_refl _) _)
  have HW := Lib.hid hW
  have HZ := Lib.hid hz
  clear hW hz
  go_enter Try.func116, Try.ntmps116
  go_upto_region 1 with (fail)
  rw [← HW.out]
  have c1 := HX0.out.at 1 _ rfl
  have c2 := HX0.out.at 2 _ rfl
  go_wp2_with fail
  refine (szReport_any m a n cap left _ hl hl' hn).mono ?_
  rw [← HZ.out]
  rintro e w1 ⟨rfl, hb1⟩
  have HB1 := Lib.hid (HB0.out.trans (hb1.mono HB0.out.size))
  clear hb1 c1 c2
  by_cases h0 : z < 0
  · go_wp2
    go_ret
    exact ⟨-1, rfl, .inr ⟨by decide, h0⟩, HB1.out⟩
  · go_wp2
    go_ret
    exact ⟨z, rfl, .inl rfl, HB1.out⟩

set_option maxRecDepth 100000 in
set_option maxHeartbeats 1000000 in
theorem eqSent_same (t m : Int) (ua ub : Value) (zs : List Int) (w : World) (hl : zs.length ≤ 1000000000000) (ha : Rd w ua (zs.map (.int .i64))) (hb : Rd w ub (zs.map (.int .i64))) :
    Calls Try.prog 122 #[snv t m ua, snv t m ub] w fun e w' => e = .returned (.bool true) ∧ Below w.heap.size w w' := by
  obtain ⟨W, hW⟩ : ∃ W, W = (w.alloc (.cells #[.int .i64 t, .int .i64 m, ua] 165)).alloc (.cells #[.int .i64 t, .int .i64 m, ub] 165) := ⟨_, rfl⟩
  have hB0 : Below w.heap.size w W := by rw [hW]; exact ((Below.refl _ _).alloc (Nat.le_refl _) _).alloc (by simp) _
  have HX := Lib.hid (show Bxd W w.heap.size [.int .i64 t, .int .i64 m, ua] by rw [hW]; exact (Bxd.new _ _ _).below ((Below.refl _ _).alloc (Nat.le_refl _) _) (by simp))
  have HY := Lib.hid (show Bxd W (w.heap.size + 1) [.int .i64 t, .int .i64 m, ub] by rw [hW]; have := Bxd.new (w.alloc (.cells #[.int .i64 t, .int .i64 m, ua] 165)) [.int .i64 t, .int .i64 m, ub] 165; simpa using this)
  have HA := Lib.hid (ha.below hB0)
  have HBb := Lib.hid (hb.below hB0)
  have HB0 := Lib.hid hB0
  have HW := Lib.hid hW
  clear hW hB0 ha hb
  go_enter Try.func122, Try.ntmps122
  go_upto_region 1 with (fail)
  rw [← HW.out]
  have x0 := HX.out.at 0 _ rfl
  have x1 := HX.out.at 1 _ rfl
  have x2 := HX.out.at 2 _ rfl
  have y0 := HY.out.at 0 _ rfl
  have y1 := HY.out.at 1 _ rfl
  have y2 := HY.out.at 2 _ rfl
  go_wp2_with fail
  refine (eqReport_same m ua ub zs _ hl HA.out HBb.out).mono ?_
  rintro e w1 ⟨rfl, hb1⟩
  have HB1 := Lib.hid (HB0.out.trans (hb1.mono HB0.out.size))
  clear hb1 x0 x1 x2 y0 y1 y2
  go_wp2
  go_ret
  exact ⟨rfl, HB1.out⟩

set_option maxRecDepth 100000 in
set_option maxHeartbeats 1000000 in
theorem toSent_law (t m : Int) (u : Value) (zs : List Int) (w : World) (hl : zs.length ≤ 1048576) (h : Rd w u (zs.map (.int .i64))) :
    Calls Try.prog 118 #[snv t m u] w fun e w' => ∃ a c fp, e = .returned (snv t m (.slice a zs.length c)) ∧ OwC w' w.heap.size (.row [.int .i64]) (.slice a zs.length c) (.row (ones zs)) fp ∧ Below w.heap.size w w' := by
  have HR := Lib.hid h
  clear h
  obtain ⟨W, hW⟩ : ∃ W, W = ((w.alloc (.cells #[.int .i64 t, .int .i64 m, u] 163)).alloc (.cells #[.int .i64 0, .int .i64 0, .slice none 0 0] 165)).alloc (.cells #[.int .i64 t, .int .i64 0, .slice none 0 0] 165) := ⟨_, rfl⟩
  have HO := Lib.hid (show W.heap[w.heap.size + 1 + 1]? = some (.cells #[.int .i64 t, .int .i64 0, .slice none 0 0] 165 (0, 0)) by rw [hW]; simpa using heap_alloc_new ((w.alloc (.cells #[.int .i64 t, .int .i64 m, u] 163)).alloc (.cells #[.int .i64 0, .int .i64 0, .slice none 0 0] 165)) _)
  have HT := Lib.hid (show W.heap[w.heap.size + 1]? = some (.cells #[.int .i64 0, .int .i64 0, .slice none 0 0] 165 (0, 0)) by
    rw [hW, Below.heap_alloc _ _ _ (by simp)]; simpa using heap_alloc_new (w.alloc (.cells #[.int .i64 t, .int .i64 m, u] 163)) _)
  have HX := Lib.hid (show W.heap[w.heap.size]? = some (.cells #[.int .i64 t, .int .i64 m, u] 163 (0, 0)) by
    rw [hW, Below.heap_alloc _ _ _ (by simp; omega), Below.heap_alloc _ _ _ (by simp)]; exact heap_alloc_new w _)
  have HB0 := Lib.hid (show Below w.heap.size w W by rw [hW]; exact (((Below.refl _ _).alloc (Nat.le_refl _) _).alloc (by simp) _).alloc (by simp; omega) _)
  have HSZ := Lib.hid (show W.heap.size = w.heap.size + 1 + 1 + 1 by rw [hW]; simp)
  have HW := Lib.hid hW
  clear hW
  go_enter Try.func118, Try.ntmps118
  go_upto_region 3 with (fail)
  rw [← HW.out]
  obtain ⟨x1, -⟩ := cells_of_heap HX.out 1 (by simp)
  obtain ⟨x2, -⟩ := cells_of_heap HX.out 2 (by simp)
  simp only [List.getElem_toArray, List.getElem_cons_zero, List.getElem_cons_succ] at x1 x2
  go_wp2_with fail
  refine (toReport_law m u zs _ hl (HR.out.below HB0.out)).mono ?_
  rintro e w1 ⟨a', c', fp, rfl, hown, hb⟩
  have ho := (hb.block (w.heap.size + 1 + 1) (by rw [HSZ.out]; omega)).trans HO.out
  have ht := (hb.block (w.heap.size + 1) (by rw [HSZ.out]; omega)).trans HT.out
  have HB1 := Lib.hid (HB0.out.trans (hb.mono HB0.out.size))
  have HOW := Lib.hid hown
  have HRng := Lib.hid hown.rng
  have hlt : w.heap.size + 1 + 1 < w1.heap.size := (Array.getElem?_eq_some_iff.mp ho).1
  obtain ⟨o0, p0⟩ := cells_of_heap ho 0 (by simp)
  obtain ⟨o1, p1⟩ := cells_of_heap ho 1 (by simp)
  obtain ⟨o2, p2⟩ := cells_of_heap ho 2 (by simp)
  obtain ⟨t0, q0⟩ := cells_of_heap ht 0 (by simp)
  obtain ⟨t1, q1⟩ := cells_of_heap ht 1 (by simp)
  obtain ⟨t2, q2⟩ := cells_of_heap ht 2 (by simp)
  simp only [List.getElem_toArray, List.getElem_cons_zero, List.getElem_cons_succ] at o0 o1 o2 t0 t1 t2
  have HTT := Lib.hid ht
  have HOO := Lib.hid ho
  clear hb hown ho ht x1 x2
  go_wp2
  obtain ⟨wf, hwf⟩ : ∃ wf, wf = (((((w1.setCell ⟨w.heap.size + 1 + 1, 1, none⟩ (.int .i64 m)).setCell ⟨w.heap.size + 1 + 1, 2, none⟩ (.slice a' zs.length c')).setCell ⟨w.heap.size + 1, 0, none⟩ (.int .i64 t)).setCell ⟨w.heap.size + 1, 1, none⟩ (.int .i64 m)).setCell ⟨w.heap.size + 1, 2, none⟩ (.slice a' zs.length c')) := ⟨_, rfl⟩
  rw [← hwf]
  have hk : ∀ b, b ≠ w.heap.size + 1 + 1 → b ≠ w.heap.size + 1 → wf.heap[b]? = w1.heap[b]? := fun b h1 h2 => by
    rw [hwf, Below.heap_setCell _ _ _ _ (fun e => h2 e), Below.heap_setCell _ _ _ _ (fun e => h2 e), Below.heap_setCell _ _ _ _ (fun e => h2 e), Below.heap_setCell _ _ _ _ (fun e => h1 e), Below.heap_setCell _ _ _ _ (fun e => h1 e)]
  have bf : Below w.heap.size w wf := by
    rw [hwf]
    exact ((((HB1.out.setCell (p := ⟨w.heap.size + 1 + 1, 1, none⟩) (by simp; omega) _).setCell (p := ⟨w.heap.size + 1 + 1, 2, none⟩) (by simp; omega) _).setCell (p := ⟨w.heap.size + 1, 0, none⟩) (by simp) _).setCell (p := ⟨w.heap.size + 1, 1, none⟩) (by simp) _).setCell (p := ⟨w.heap.size + 1, 2, none⟩) (by simp) _
  have kf : wf.heap[w.heap.size + 1]? = some (.cells #[.int .i64 t, .int .i64 m, .slice a' zs.length c'] 165 (0, 0)) := by
    have k0 : (((w1.setCell ⟨w.heap.size + 1 + 1, 1, none⟩ (.int .i64 m)).setCell ⟨w.heap.size + 1 + 1, 2, none⟩ (.slice a' zs.length c'))).heap[w.heap.size + 1]? = some (.cells #[.int .i64 0, .int .i64 0, .slice none 0 0] 165 (0, 0)) := by
      rw [Below.heap_setCell _ _ _ _ (by simp), Below.heap_setCell _ _ _ _ (by simp)]; exact HTT.out
    rw [hwf]
    have := block_set (block_set (block_set k0 0 (.int .i64 t)) 1 (.int .i64 m)) 2 (.slice a' zs.length c')
    simpa using this
  have of := OwC.keep _ _ _ _ HOW.out (w' := wf) (fun b hb => hk b (by have := (HRng.out b hb).1; have := HSZ.out; omega) (by have := (HRng.out b hb).1; have := HSZ.out; omega))
  clear hwf hk o0 o1 o2 p0 p1 p2 t0 t1 t2 q0 q1 q2
  have f0 := (cells_of_heap kf 0 (by simp)).1
  have f1 := (cells_of_heap kf 1 (by simp)).1
  have f2 := (cells_of_heap kf 2 (by simp)).1
  refine bodyPost_ret (v := snv t m (.slice a' zs.length c')) (by simp [results, Try.results118, go_sem, f0, f1, f2]) rfl ⟨_, _, _, rfl, OwC.base _ _ _ _ of HB0.out.size, bf⟩

end Go.Proofs.Yteljmfdlegohbaa
