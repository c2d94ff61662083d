/- DERIVED. What is read of a macro's text is the macro. No condition. · FnMacros over the program's contracts as premises: called with any bytes, it returns true and changes nothing that was there. -/
import Derived.Test.YtnfnhbldphiohaaDoorMcTx
import Derived.Test.YtnfnhbldphiohaaDoorKmMath
import Derived.Test.YtnfnhbldphiohaaDoorMcLawD
import Derived.Test.YtnfnhbldphiohaaDoorHdDraw
import Derived.Test.YtnfnhbldphiohaaDoorMcMath
import Derived.Test.YtnfnhbldphiohaaDoorRpsLaw
import Derived.Test.YtnfnhbldphiohaaDoorRpImpl
import Derived.Deep.RegionHeld3
import Derived.Laws.StructEq
namespace Go.Proofs.YtnfnhbldphiohaaDoor
open Go.RowKit

theorem letV_size (k : Int) : (letV k).size = 1 := by
  unfold letV; split
  · rfl
  · split <;> rfl
theorem extract_behind (a b : ByteArray) : (a ++ b).extract a.size (a ++ b).size = b := by
  apply ByteArray.ext
  rw [ByteArray.data_extract, ByteArray.data_append, ByteArray.size_append]
  simp [← ByteArray.size_data]
theorem head_size (k : Int) : (letV k ++ eqlS).size = 2 := by rw [ByteArray.size_append, letV_size]; rfl
theorem stT_tail (x : St) : (stT x).extract 2 (stT x).size = acS 2 x.c x.m 0 := by
  have := extract_behind (letV x.k ++ eqlS) (acS 2 x.c x.m 0)
  rwa [head_size] at this
theorem stT_size (x : St) : (stT x).size = 2 + (acS 2 x.c x.m 0).size := by rw [stT, ByteArray.size_append, head_size]
theorem stT_eql (x : St) : bt (stT x) 1 = 61 := by
  rw [stT, bt_left _ _ _ (by rw [head_size]; omega)]
  have := bt_right (letV x.k) eqlS 0
  rw [letV_size] at this
  rw [this]; rfl
theorem stT_letter (x : St) : bt (stT x) 0 = bt (letV x.k) 0 := by
  rw [stT, bt_left _ _ _ (by rw [head_size]; omega), bt_left _ _ _ (by rw [letV_size]; omega)]
theorem acS_ne {c m : Int} (h : okAc 2 c m 0 = true) : 0 < (acS 2 c m 0).size := by
  rcases Nat.eq_zero_or_pos (acS 2 c m 0).size with h0 | h0
  · exfalso
    have h1 := acP_acS h
    have e : acS 2 c m 0 = ⟨#[]⟩ := by
      apply ByteArray.ext
      exact Array.eq_empty_of_size_eq_zero h0
    rw [e] at h1
    have h2 : acP ⟨#[]⟩ = (⟨0, 0, 0, 0⟩, false) := by unfold acP; rw [if_pos (.inl rfl)]
    rw [h2] at h1
    exact absurd (show false = true from congrArg Prod.snd h1) (by decide)
  · exact h0
/-- A step that may come, as a word, is read as itself. -/
theorem mqS_stT {x : St} (hk : 0 ≤ x.k ∧ x.k ≤ 2) (h : okAc 2 x.c x.m 0 = true) : mqS (stT x) = (x, true) := by
  have hp := acS_ne h
  have hK : ∀ k, mqK k (acS 2 x.c x.m 0) = (⟨k, x.c, x.m⟩, true) := fun k => by rw [mqK, acP_acS h]; rfl
  unfold mqS
  rw [if_neg (by rw [stT_size, stT_eql]; intro e; rcases e with e | e; · omega
                 · exact e rfl), stT_tail, stT_letter, hK, hK, hK]
  obtain ⟨k, c, m⟩ := x
  simp only at hk
  rcases (by omega : k = 0 ∨ k = 1 ∨ k = 2) with rfl | rfl | rfl
  · rw [if_pos (by rfl)]
  · rw [if_neg (show ¬ bt (letV 1) 0 = 116 by decide), if_pos (by rfl)]
  · rw [if_neg (show ¬ bt (letV 2) 0 = 116 by decide), if_neg (show ¬ bt (letV 2) 0 = 100 by decide), if_pos (by rfl)]
theorem stT_blank {x : St} (h : okAc 2 x.c x.m 0 = true) : Without (stT x) 32 := by
  refine without_app (without_app ?_ (fun j hj => ?_)) (acW_word (a := ⟨2, x.c, x.m, 0⟩) h).1
  · intro j hj
    rw [letV_size] at hj
    obtain rfl : j = 0 := by omega
    unfold letV; split
    · decide
    · split <;> decide
  · obtain rfl : j = 0 := by have e : eqlS.size = 1 := rfl; omega
    decide
theorem stAt {l : List St} {x : St} (hx : x ∈ l) (h : okMc l = true) : (0 ≤ x.k ∧ x.k ≤ 2) ∧ okAc 2 x.c x.m 0 = true := by
  obtain ⟨j, hj, rfl⟩ := List.getElem_of_mem hx
  have := okX_at ((okMc_at h).2.2 j hj)
  rw [stD, List.getD_eq_getElem?_getD, List.getElem?_eq_getElem hj] at this
  exact ⟨this.1, this.2.1⟩
theorem mqO_map (l : List St) (h : ∀ x ∈ l, (0 ≤ x.k ∧ x.k ≤ 2) ∧ okAc 2 x.c x.m 0 = true) : mqO (l.map stT) (l.map stT).length = l := by
  rw [mqO, List.take_length, List.map_map]
  induction l with
  | nil => rfl
  | cons x l ih =>
    have hx := h x (List.mem_cons_self ..)
    rw [List.map_cons, ih (fun y hy => h y (List.mem_cons_of_mem _ hy))]
    show (mqS (stT x)).1 :: l = x :: l
    rw [mqS_stT hx.1 hx.2]
theorem mqN_map (l : List St) (h : ∀ x ∈ l, (0 ≤ x.k ∧ x.k ≤ 2) ∧ okAc 2 x.c x.m 0 = true) : ∀ m, m ≤ (l.map stT).length → mqN (l.map stT) m = true
  | 0, _ => rfl
  | m + 1, hm => by
    have hml : m < l.length := by rw [List.length_map] at hm; omega
    have hx := h l[m] (List.getElem_mem hml)
    rw [mqN, mqN_map l h m (by omega), Bool.true_and, List.getD_eq_getElem?_getD, List.getElem?_map, List.getElem?_eq_getElem hml]
    show (mqS (stT l[m])).2 = true
    rw [mqS_stT hx.1 hx.2]
theorem mqV_fmV {l : List St} (h : okMc l = true) : mqV (fmV l) = (l, true) := by
  have hall : ∀ x ∈ l, (0 ≤ x.k ∧ x.k ≤ 2) ∧ okAc 2 x.c x.m 0 = true := fun x hx => stAt hx h
  rw [fmV, if_pos h]
  rcases l with _ | ⟨x, l⟩
  · rfl
  · have hp : parts (joined ((x :: l).map stT) blank8) 32 = (x :: l).map stT := by
      refine parts_joined _ blank8 32 (by decide) (by decide) (by rfl) (by simp) (fun p hp => ?_)
      obtain ⟨y, hy, rfl⟩ := List.mem_map.1 hp
      exact stT_blank (hall y hy).2
    have hne : joined ((x :: l).map stT) blank8 ≠ ⟨#[]⟩ := by
      intro e0
      rw [e0] at hp
      have e1 : parts ⟨#[]⟩ 32 = [⟨#[]⟩] := by kernel_rfl
      rw [e1] at hp
      simp only [List.map_cons, List.cons.injEq] at hp
      have h1 := congrArg ByteArray.size hp.1
      rw [stT_size] at h1
      have h2 : (⟨#[]⟩ : ByteArray).size = 0 := rfl
      omega
    rw [mqV, if_neg hne, hp, mqO_map _ hall, if_pos ⟨by rw [List.length_map]; exact (okMc_at h).1, mqN_map _ hall _ (Nat.le_refl _), h⟩]
theorem mqV_len (s : ByteArray) : (mqV s).1.length ≤ 8 := by
  rw [mqV]; split
  · simp
  · split
    · rename_i h
      rw [mqO_len _ _ (Nat.le_refl _)]; exact h.1
    · simp
end Go.Proofs.YtnfnhbldphiohaaDoor

namespace Go.Proofs.YtnfnhbldphiohaaDoor
open Go.RowKit

/-- Reports in memory of the caller's own, however long the row's block is. -/
def MrY (L : List Rv) (w : World) (e : Ending) (w' : World) : Prop := ∃ a c fp, e = .returned (.slice a L.length c) ∧ OwZ rpF w' w.heap.size 1 (.slice a L.length c) L fp ∧ Below w.heap.size w w'
theorem qD_mem {R : List Rv} {i : Nat} (h : i < R.length) : qD R i ∈ R := by
  rw [qD, List.getD_eq_getElem?_getD, List.getElem?_eq_getElem h]; exact List.getElem_mem h
theorem qD_last {R : List Rv} {p : Nat} {x : Rv} (hp : p + 1 = R.length) (h : R.getLast? = some x) : qD R p = x := by
  rw [List.getLast?_eq_getElem?] at h
  rw [qD, List.getD_eq_getElem?_getD, show p = R.length - 1 by omega, h]; rfl
theorem mr_at {l : List Hd} {r : Rv} {M : Nat} {Z : List Int} (hM : M = rofM l) (hZ : Z = rofK l) (hl : okHd l = true) (h : MrOk l r) :
    ∃ Q : Nat, r.1 = Q ∧ bits .and .i64 (Q : Int) (M : Int) = (M : Int) ∧ (∀ z ∈ Z, z ∈ r.2) ∧ true = okRp (Q : Int) r.2 ∧ r.2.length ≤ 56 := by
  obtain ⟨Q, hQ, ha, hlt⟩ := h.nat
  have hm := rofM_lt hl
  refine ⟨Q, hQ, ?_, by rw [hZ]; exact h.keys, by rw [← hQ]; exact h.ok.symm, h.len⟩
  rw [and_nat Q M (by omega) (by omega), hM, ha]
theorem fmV_size {s : List St} (h8 : s.length ≤ 8) : (fmV s).size ≤ 1048576 := by
  rw [fmV]; split
  · have h1 := jn_le 12 (s.map stT) blank8 (fun t ht => by obtain ⟨e, _, rfl⟩ := List.mem_map.1 ht; exact stT_size8 e) (s.map stT).length (Nat.le_refl _)
    have h2 : blank8.size = 1 := rfl
    have h3 : (joined (s.map stT) blank8).size = (jn (s.map stT) blank8 (s.map stT).length).length := rfl
    have h4 : (s.map stT).length = s.length := List.length_map _
    rw [h3]
    rw [h2] at h1
    omega
  · exact Nat.zero_le _
theorem implSameReport_u (r1 : Int) (u1 : Value) (z1 : List Int) (r2 : Int) (u2 : Value) (z2 : List Int) (o : Bool) (ho : o = sameRp r1 z1 r2 z2) (w : World) (hl1 : z1.length ≤ maxLen) (h1 : Rd w u1 (z1.map (.int .i64))) (h2 : Rd w u2 (z2.map (.int .i64))) :
    Calls Tryd.prog 16 #[rpv r1 u1, rpv r2 u2] w fun e w' => e = .returned (.bool o) ∧ Below w.heap.size w w' := by
  rw [ho]; exact implSameReport_any r1 u1 z1 r2 u2 z2 w hl1 h1 h2
set_option maxRecDepth 100000 in
set_option maxHeartbeats 4000000 in
theorem has_any7 (u : Value) (zs : List Int) (z : Int) (o : Bool) (ho : o = decide (z ∈ zs)) (w : World) (hl : zs.length ≤ maxLen) (h : Rd w u (zs.map (.int .i64))) :
    Calls Tryd.prog 15 #[u, .int .i64 z] w fun e w' => e = .returned (.bool o) ∧ w = w' := by
  obtain ⟨a, cap, rfl⟩ := ints_shape h
  obtain ⟨n, hnl⟩ : ∃ n, n = zs.length := ⟨_, rfl⟩
  have HNL := Lib.hid hnl
  have H := Lib.hid h
  have HO := Lib.hid ho
  have hnm : n ≤ maxLen := by rw [hnl]; exact hl
  unfold maxLen at hnm
  rw [← hnl]
  clear hl h hnl ho
  go_enter Tryd.func15, Tryd.ntmps15
  go_wp2
  go_loopw [5] (fun i wr => ∃ j : Nat, j ≤ n ∧ i = .int .i64 j ∧ (∀ q, q < j → zs.getD q 0 ≠ z) ∧ wr = w) (fun i _ => n - (intOf i).toNat)
  case atStart => exact ⟨0, Nat.zero_le _, rfl, fun q hq => absurd hq (Nat.not_lt_zero _), rfl⟩
  case round =>
    obtain ⟨j, hj, rfl, hno, rfl⟩ := hrel
    have HNo := Lib.hid hno
    clear hno
    by_cases hlt' : j < n
    · have hjz : j < zs.length := by rw [← HNL.out]; exact hlt'
      obtain ⟨b, off, rfl, hlt, d0⟩ := ints_at H.out hjz
      obtain ⟨x, hx⟩ : ∃ x, x = zs.getD j 0 := ⟨_, rfl⟩
      rw [← hx] at d0
      have HX := Lib.hid hx
      clear hx
      by_cases he : x = z
      · have HR := Lib.hid (show o = true by
          rw [HO.out]
          refine decide_eq_true ?_
          rw [← he, HX.out, List.getD_eq_getElem?_getD, List.getElem?_eq_getElem hjz]
          exact List.getElem_mem hjz)
        subst he
        go_wp2
        go_ret
        exact ⟨ret_bool HR.out.symm, rfl⟩
      · have b0 : (x == z) = false := by simp [he]
        have HN2 := Lib.hid (show ∀ q, q < j + 1 → zs.getD q 0 ≠ z from fun q hq => by
          rcases Nat.lt_or_ge q j with h3 | h3
          · exact HNo.out q h3
          · obtain rfl : q = j := by omega
            rw [← HX.out]; exact he)
        go_wp2
        go_roundw
        case rel => exact ⟨j + 1, by omega, by go_num, HN2.out, by first | rfl | trivial⟩
        case measure => simp [intOf]; omega
    · obtain rfl : j = n := by omega
      have HR := Lib.hid (show o = false by
        rw [HO.out]
        refine decide_eq_false (fun hm => ?_)
        obtain ⟨q, hq, e⟩ := List.getElem_of_mem hm
        exact HNo.out q (by rw [HNL.out]; exact hq) (by rw [List.getD_eq_getElem?_getD, List.getElem?_eq_getElem hq]; exact e))
      go_wp2
      go_ret
      exact ⟨ret_bool HR.out.symm, rfl⟩

theorem has_q7 (u : Value) (zs : List Int) (z : Int) (o : Bool) (ho : o = decide (z ∈ zs)) (w : World) (hl : zs.length ≤ maxLen) (h : Rd w u (zs.map (.int .i64))) :
    Calls Tryd.prog 15 #[u, .int .i64 z] w fun e w' => e = .returned (.bool o) ∧ w' = w :=
  (has_any7 u zs z o ho w hl h).mono fun _ _ ⟨a, b⟩ => ⟨a, b.symm⟩

set_option maxHeartbeats 8000000 in
set_option maxRecDepth 100000 in
theorem lawMacros_walk (a0 : Option Addr) (len cap0 : Nat) (bs : List Int) (w : World) (hlen : bs.length = len) (hz : ∀ z ∈ bs, 0 ≤ z ∧ z < 256) (h : Rd w (.slice a0 len cap0) (bs.map (.int .u8))) (hM : ∀ (v vs : Value) (l : List Hd) (s : List St) (w : World), l.length ≤ 1048576 → s.length ≤ 1048576 → RdN w v l.length (flatHd l) → RdN w vs s.length (flatSt s) → Calls Tryd.prog 9 #[v, vs] w (MrY (mrP l s) w)) (hI : ∀ (v : Value) (s : List St) (w : World), s.length ≤ 1048576 → RdN w v s.length (flatSt s) → Calls Tryd.prog 13 #[v] w fun e w' => e = .returned (.bool (okMc s)) ∧ Below w.heap.size w w') (hF : ∀ (v : Value) (s : List St) (w' : World), Below w.heap.size w w' → s.length ≤ 1048576 → RdN w' v s.length (flatSt s) → Calls Tryd.prog 11 #[v] w' fun e w'' => e = .returned (.string (fmV s)) ∧ Below w'.heap.size w' w'') (hP : ∀ (s : ByteArray) (w' : World), Below w.heap.size w w' → s.size ≤ 1048576 → Calls Tryd.prog 10 #[.string s] w' (StQ (mqV s) w')) : Calls Tryd.prog 3 #[.slice a0 len cap0] w fun e w' => e = .returned (.bool true) ∧ Below w.heap.size w w' := by
  subst hlen
  have HR := Lib.hid h
  have HZ := Lib.hid hz
  have HMr := Lib.hid hM
  have HIs := Lib.hid hI
  have HFm := Lib.hid hF
  have HPa := Lib.hid hP
  clear h hz hM hI hF hP
  by_cases hb : (1048576 : Int) < (bs.length : Int)
  · have hd : decide ((1048576 : Int) < (bs.length : Int)) = true := decide_eq_true hb
    have HD := Lib.hid hd
    clear hb hd
    have HB0 := Lib.hid (Below.refl w.heap.size w)
    go_enter Tryd.func3, Tryd.ntmps3
    go_wp2_with fail
    refine (big_any a0 bs.length cap0 _).mono ?_
    rw [HD.out]
    rintro e v0 ⟨rfl, rfl⟩
    go_wp2
    go_ret
    exact ⟨rfl, HB0.out⟩
  · have hd : decide ((1048576 : Int) < (bs.length : Int)) = false := decide_eq_false hb
    have HD := Lib.hid hd
    have HLb := Lib.hid (show bs.length ≤ 1099511627776 by omega)
    clear hb hd
    have HB0 := Lib.hid (Below.refl w.heap.size w)
    go_enter Tryd.func3, Tryd.ntmps3
    go_wp2_with fail
    refine (big_any a0 bs.length cap0 _).mono ?_
    rw [HD.out]
    rintro e v0 ⟨rfl, rfl⟩
    go_wp2_with fail
    refine (MakeHeld_draw _ bs _ HLb.out HZ.out (HR.out.below HB0.out)).mono ?_
    rintro e w1 ⟨l, a1, c1, f1, rfl, hok, hl6, h1, hb⟩
    have HB1 := Lib.hid (HB0.out.trans (hb.mono HB0.out.size))
    have HS1 := Lib.hid hb.size
    have Rl := Lib.hid (h1.rng)
    have Ol_1 := Lib.hid h1
    clear hb h1
    have HOk := Lib.hid hok
    have HL6 := Lib.hid hl6
    have HLM := Lib.hid (show l.length ≤ maxLen by unfold maxLen; omega)
    have HLm := Lib.hid (show l.length ≤ 1048576 by omega)
    clear hok hl6
    go_wp2_with fail
    refine (MakeMacro_draw _ bs _ HLb.out HZ.out (HR.out.below HB1.out)).mono ?_
    rintro e w2 ⟨s, a2, c2, f2, rfl, hmc, h2, hb⟩
    have HB2 := Lib.hid (HB1.out.trans (hb.mono HB1.out.size))
    have HS2 := Lib.hid hb.size
    have Ol_2 := Lib.hid (Ol_1.out.below hb)
    clear Ol_1
    have Rs := Lib.hid (h2.rng)
    have Os_2 := Lib.hid h2
    clear hb h2
    have HMc := Lib.hid hmc
    have hs8 := (okMc_at hmc).1
    have HS8 := Lib.hid hs8
    have HSm := Lib.hid (show s.length ≤ 1048576 by omega)
    obtain ⟨R, hR⟩ : ∃ x, x = mrP l s := ⟨_, rfl⟩
    have hro := mrP_ok HOk.out hmc
    have hrl := mrP_len HOk.out hmc
    have hlast := fun h0 => mrP_last HOk.out hmc h0
    rw [← hR] at hro hrl hlast
    obtain ⟨M, hM⟩ : ∃ x : Nat, x = rofM l := ⟨_, rfl⟩
    obtain ⟨Z, hZ⟩ : ∃ x, x = rofK l := ⟨_, rfl⟩
    rw [← hM, ← hZ] at hlast
    have HMR := Lib.hid (show ∀ (v vs : Value) (w : World), RdN w v l.length (flatHd l) → RdN w vs s.length (flatSt s) → Calls Tryd.prog 9 #[v, vs] w (MrY R w) from fun v vs w h1 h2 => by rw [hR]; exact HMr.out v vs l s w HLm.out HSm.out h1 h2)
    have HRO := Lib.hid (show ∀ (v : Value) (w : World), RdN w v l.length (flatHd l) → Calls Tryd.prog 12 #[v] w (RpvO (M : Nat) Z w) from fun v w hr => by rw [hM, hZ]; exact implReportOf_any v l w HLM.out hr)
    obtain ⟨T, hT⟩ : ∃ T, T = fmV s := ⟨_, rfl⟩
    have hTs := fmV_size hs8
    have hTp := mqV_fmV hmc
    rw [← hT] at hTs hTp
    have HFM := Lib.hid (show ∀ (v : Value) (w' : World), Below w.heap.size w w' → RdN w' v s.length (flatSt s) → Calls Tryd.prog 11 #[v] w' fun e w'' => e = .returned (.string T) ∧ Below w'.heap.size w' w'' from fun v w' hb hr => by rw [hT]; exact HFm.out v s w' hb HSm.out hr)
    have HPM := Lib.hid (show ∀ w' : World, Below w.heap.size w w' → Calls Tryd.prog 10 #[.string T] w' (StR s true w') from fun w' hb => (HPa.out T w' hb hTs).mono fun _ _ h => stR (hTp ▸ h))
    have HIM := Lib.hid (show ∀ (v : Value) (w : World), RdN w v s.length (flatSt s) → Calls Tryd.prog 13 #[v] w fun e w' => e = .returned (.bool true) ∧ Below w.heap.size w w' from fun v w hr => by have h := HIs.out v s w HSm.out hr; rw [hmc] at h; exact h)
    have HZl := Lib.hid (show Z.length ≤ 56 by rw [hZ]; exact rofK_len l)
    have HAt := Lib.hid (show ∀ i, i < R.length → ∃ Q : Nat, (qD R i).1 = Q ∧ bits .and .i64 (Q : Int) (M : Int) = (M : Int) ∧ (∀ z ∈ Z, z ∈ (qD R i).2) ∧ true = okRp (Q : Int) (qD R i).2 ∧ (qD R i).2.length ≤ 56 from fun i hi => mr_at hM hZ HOk.out (hro _ (qD_mem hi)))
    have HLast := Lib.hid (show ∀ p, p + 1 = R.length → s ≠ [] → qD R p = ((M : Int), Z) from fun p hp h0 => qD_last hp (hlast h0))
    have HRL := Lib.hid hrl
    have HSame := Lib.hid (show true = sameRp (M : Nat) Z (M : Nat) Z by rw [sameRp]; exact (decide_eq_true ⟨rfl, rfl⟩).symm)
    have HMlt := Lib.hid (show M < 2 ^ 4 by rw [hM]; exact rofM_lt HOk.out)
    clear hmc hs8 hR hro hrl hlast hM hZ hT hTs hTp HMr HIs HFm HPa
    go_wp2_with fail
    refine (HMR.out _ _ _ Ol_2.out.rd Os_2.out.rd).mono ?_
    rintro e w3 ⟨a3, c3, f3, rfl, h3, hb⟩
    have HB3 := Lib.hid (HB2.out.trans (hb.mono HB2.out.size))
    have HS3 := Lib.hid hb.size
    have Ol_3 := Lib.hid (Ol_2.out.below hb)
    have Os_3 := Lib.hid (Os_2.out.below hb)
    clear Ol_2 Os_2
    have Rm := Lib.hid (h3.rng)
    have Om_3 := Lib.hid h3
    clear hb h3
    go_wp2_with fail
    refine (HFM.out _ _ HB3.out Os_3.out.rd).mono ?_
    rintro e w4 ⟨rfl, hb⟩
    have HB4 := Lib.hid (HB3.out.trans (hb.mono HB3.out.size))
    have HS4 := Lib.hid hb.size
    have Ol_4 := Lib.hid (Ol_3.out.below hb)
    have Os_4 := Lib.hid (Os_3.out.below hb)
    have Om_4 := Lib.hid (Om_3.out.below hb)
    clear Ol_3 Os_3 Om_3
    clear hb
    go_wp2_with fail
    refine (HPM.out _ HB4.out).mono ?_
    rintro e w5 ⟨a4, c4, f4, rfl, h4, hb⟩
    have HB5 := Lib.hid (HB4.out.trans (hb.mono HB4.out.size))
    have HS5 := Lib.hid hb.size
    have Ol_5 := Lib.hid (Ol_4.out.below hb)
    have Os_5 := Lib.hid (Os_4.out.below hb)
    have Om_5 := Lib.hid (Om_4.out.below hb)
    clear Ol_4 Os_4 Om_4
    have Rx := Lib.hid (h4.rng)
    have Ox_5 := Lib.hid h4
    clear hb h4
    go_wp2_with fail
    refine (HRO.out _ _ Ol_5.out.rd).mono ?_
    rintro e w6 ⟨a5, c5, f5, rfl, h5, hb⟩
    have HB6 := Lib.hid (HB5.out.trans (hb.mono HB5.out.size))
    have HS6 := Lib.hid hb.size
    have Ol_6 := Lib.hid (Ol_5.out.below hb)
    have Os_6 := Lib.hid (Os_5.out.below hb)
    have Om_6 := Lib.hid (Om_5.out.below hb)
    have Ox_6 := Lib.hid (Ox_5.out.below hb)
    clear Ol_5 Os_5 Om_5 Ox_5
    have Rr := Lib.hid (h5.rng)
    have Or_6 := Lib.hid h5
    clear hb h5
    go_upto_region 8 with (fail)
    obtain ⟨w7, hw⟩ : ∃ x, x = w6.alloc (.cells #[.int .i64 (M : Nat), .slice a5 Z.length c5] 35) := ⟨_, rfl⟩
    have hb : Below w6.heap.size w6 w7 := by rw [hw]; exact below_alloc1 _ _
    have hk : w7.heap[w6.heap.size]? = some (.cells #[.int .i64 (M : Nat), .slice a5 Z.length c5] 35 (0, 0)) := by rw [hw]; exact heap_alloc_new _ _
    rw [← hw]
    have HB7 := Lib.hid (HB6.out.trans (hb.mono HB6.out.size))
    have HS7 := Lib.hid (show w6.heap.size < w7.heap.size from (Array.getElem?_eq_some_iff.mp hk).1)
    have Ol_7 := Lib.hid (Ol_6.out.below hb)
    have Os_7 := Lib.hid (Os_6.out.below hb)
    have Om_7 := Lib.hid (Om_6.out.below hb)
    have Ox_7 := Lib.hid (Ox_6.out.below hb)
    have Or_7 := Lib.hid (Or_6.out.below hb)
    clear Ol_6 Os_6 Om_6 Ox_6 Or_6
    have Kr_7 := Lib.hid hk
    clear hb hk hw
    obtain ⟨yr, hyr⟩ : ∃ y, y = w6.heap.size := ⟨_, rfl⟩
    rw [← hyr] at Kr_7 ⊢
    clear hyr
    by_cases hs0 : s = []
    · have hR0 : R = [] := List.eq_nil_of_length_eq_zero (by have h := HRL.out.2; rw [hs0] at h; exact Nat.le_zero.1 h)
      subst hs0
      subst hR0
      go_wp2_with fail
      refine (HIM.out _ _ Os_7.out.rd).mono ?_
      rintro e w8 ⟨rfl, hb⟩
      have HB8 := Lib.hid (HB7.out.trans (hb.mono HB7.out.size))
      have HS8 := Lib.hid hb.size
      have Kr_8 := Lib.hid (blk_below Kr_7.out hb)
      have Ol_8 := Lib.hid (Ol_7.out.below hb)
      have Os_8 := Lib.hid (Os_7.out.below hb)
      have Om_8 := Lib.hid (Om_7.out.below hb)
      have Ox_8 := Lib.hid (Ox_7.out.below hb)
      have Or_8 := Lib.hid (Or_7.out.below hb)
      clear Kr_7 Ol_7 Os_7 Om_7 Ox_7 Or_7
      clear hb
      go_wp2
      refine wp_loop_rounds 1 ?_
      rw [rounds_succ]
      go_wp2
      refine wp_loop_rounds 1 ?_
      rw [rounds_succ]
      go_upto_region 25 with (fail)
      go_quiet (fail)
      go_wp2
      go_ret
      exact ⟨rfl, below_drewN HB8.out _⟩
    · have hs1 : 0 < s.length := List.length_pos_iff.mpr hs0
      obtain ⟨n, hn⟩ : ∃ n, n = s.length := ⟨_, rfl⟩
      obtain ⟨N, hN⟩ : ∃ N, N = R.length := ⟨_, rfl⟩
      have hn8 : n ≤ 8 := by rw [hn]; exact HS8.out
      have hN16 : N ≤ 16 := by have := HRL.out.2; have := HS8.out; omega
      have hN1 : 0 < N := by have := HRL.out.1; omega
      obtain ⟨p, hp⟩ : ∃ p, p + 1 = N := ⟨N - 1, by omega⟩
      have HQP := Lib.hid (HLast.out p (by rw [hp, hN]) hs0)
      rw [← hn] at hs1
      have q1 : ((n : Int) == 0) = false := by simp; omega
      have q2 : ((N : Int) == 0) = false := by simp; omega
      have HXr := Lib.hid (show RdN w7 (.slice a4 n c4) s.length (flatSt s) from by rw [hn]; exact Ox_7.out.rd)
      have HSr := Lib.hid (show RdN w7 (.slice a2 n c2) s.length (flatSt s) from by rw [hn]; exact Os_7.out.rd)
      have HMz := Lib.hid (show RdQ rpF w7 (.slice a3 N c3) R from by rw [hN]; exact Om_7.out.rd)
      rw [← hn, ← hN]
      have HN := Lib.hid hn
      have HNN := Lib.hid hN
      clear hn hN hs0 HLast HRL
      have HIMn := Lib.hid (show ∀ (v : Value) (w : World), RdN w v s.length (flatSt s) → Calls Tryd.prog 13 #[v] w fun e w' => e = .returned (.bool true) ∧ Below w.heap.size w w' from HIM.out)
      go_wp2_with fail
      refine (HIMn.out _ _ HSr.out).mono ?_
      rintro e w8 ⟨rfl, hb⟩
      have HB8 := Lib.hid (HB7.out.trans (hb.mono HB7.out.size))
      have HS8 := Lib.hid hb.size
      have Kr_8 := Lib.hid (blk_below Kr_7.out hb)
      have Ol_8 := Lib.hid (Ol_7.out.below hb)
      have Os_8 := Lib.hid (Os_7.out.below hb)
      have Om_8 := Lib.hid (Om_7.out.below hb)
      have Ox_8 := Lib.hid (Ox_7.out.below hb)
      have Or_8 := Lib.hid (Or_7.out.below hb)
      clear Kr_7 Ol_7 Os_7 Om_7 Ox_7 Or_7
      have HXq := Lib.hid (HXr.out.below hb)
      have HSq := Lib.hid (HSr.out.below hb)
      have HMq := Lib.hid (HMz.out.below hb)
      clear hb HXr HSr HMz
      have HRb := Lib.hid (show yr < w8.heap.size from (Array.getElem?_eq_some_iff.mp Kr_8.out).1)
      have cr0 : w8.cell? ⟨yr, 0, none⟩ = some (.int .i64 (M : Nat)) := (cells_of_heap Kr_8.out 0 (by simp)).1
      have cr1 : w8.cell? ⟨yr, 1, none⟩ = some (.slice a5 Z.length c5) := (cells_of_heap Kr_8.out 1 (by simp)).1
      have HC0 := Lib.hid cr0
      have HC1 := Lib.hid cr1
      clear cr0 cr1
      go_wp2
      go_loopw [9] (fun t wr => ∃ j : Nat, j ≤ n ∧ t = .int .i64 j ∧ Below w8.heap.size w8 wr) (fun t _ => n - (intOf t).toNat)
      case atStart => exact ⟨0, Nat.zero_le _, rfl, Below.refl _ _⟩
      case round =>
        obtain ⟨j, hj, rfl, hb⟩ := hrel
        by_cases hlt' : j < n
        · have hjs : j < s.length := by rw [← HN.out]; exact hlt'
          obtain ⟨b, off, hba, hlt, s0, s1, s2⟩ := st_at HXq.out hjs
          obtain ⟨b2, off2, hba2, hlt2, u0, u1, u2⟩ := st_at HSq.out hjs
          have HBA := Lib.hid hba
          have HBA2 := Lib.hid hba2
          have e0 := (hb.cell (p := ⟨b, off + j * 3, none⟩) hlt).trans s0
          have g0 := (hb.cell (p := ⟨b2, off2 + j * 3, none⟩) hlt2).trans u0
          have e1 := (hb.cell (p := ⟨b, off + j * 3 + 1, none⟩) hlt).trans s1
          have g1 := (hb.cell (p := ⟨b2, off2 + j * 3 + 1, none⟩) hlt2).trans u1
          have e2 := (hb.cell (p := ⟨b, off + j * 3 + 2, none⟩) hlt).trans s2
          have g2 := (hb.cell (p := ⟨b2, off2 + j * 3 + 2, none⟩) hlt2).trans u2
          obtain ⟨x, hx⟩ : ∃ x, x = stD s j := ⟨_, rfl⟩
          rw [← hx] at e0 e1 e2 g0 g1 g2
          obtain ⟨xk, xc, xm⟩ := x
          simp only at e0 e1 e2 g0 g1 g2
          have HB := Lib.hid hb
          rw [HBA.out, HBA2.out]
          clear hba hba2 s0 s1 s2 u0 u1 u2 hx hb
          go_upto_region 13 with (fail)
          go_quiet (fail)
          go_wp2
          go_roundw
          case rel => exact ⟨j + 1, by omega, by go_num, below_drewN HB.out _⟩
          case measure => simp [intOf]; try omega
        · obtain rfl : j = n := by omega
          obtain ⟨v2, hw⟩ : ∃ x, x = wr := ⟨_, rfl⟩
          rw [← hw] at hb ⊢
          clear hw
          have HMq2 := Lib.hid (HMq.out.below hb)
          have HRq := Lib.hid ((owC_rd Or_8.out).below hb)
          have HRb2 := Lib.hid (Nat.lt_of_lt_of_le HRb.out hb.size)
          have HC02 := Lib.hid ((hb.cell (p := ⟨yr, 0, none⟩) HRb.out).trans HC0.out)
          have HC12 := Lib.hid ((hb.cell (p := ⟨yr, 1, none⟩) HRb.out).trans HC1.out)
          have HB2 := Lib.hid (HB8.out.trans (hb.mono HB8.out.size))
          clear hb
          have hrq := RdQ.at HMq2.out
          rcases hrq with ⟨hRn, _⟩ | ⟨ba, boff, bcap, _, hba, hblt, hbc⟩
          · exfalso
            have := HNN.out; rw [hRn] at this; simp at this; omega
          · simp only [Value.slice.injEq] at hba
            obtain ⟨rfl, hNx, rfl⟩ := hba
            clear hNx
            have HBC := Lib.hid hbc
            clear hbc
            go_wp2
            go_loopw [10, 11] (fun t _ wr => ∃ j : Nat, j ≤ N ∧ t = .int .i64 j ∧ Below v2.heap.size v2 wr) (fun t _ _ => N - (intOf t).toNat)
            case atStart => exact ⟨0, Nat.zero_le _, rfl, Below.refl _ _⟩
            case round =>
              obtain ⟨k, hk, rfl, hb⟩ := hrel
              by_cases hkN : k < N
              · have hkR : k < R.length := by rw [← HNN.out]; exact hkN
                obtain ⟨ua, uc, d0, d1, hrd⟩ := HBC.out k hkR
                obtain ⟨Q, hQ, hand, hin, hok, hz56⟩ := HAt.out k hkR
                rw [hQ] at d0
                obtain ⟨z, hz⟩ : ∃ z, z = (qD R k).2 := ⟨_, rfl⟩
                rw [← hz] at d1 hrd hin hok hz56
                have e0 := (hb.cell (p := ⟨ba, boff + k * 2, none⟩) hblt).trans d0
                have e1 := (hb.cell (p := ⟨ba, boff + k * 2 + 1, none⟩) hblt).trans d1
                have r0 := (hb.cell (p := ⟨yr, 0, none⟩) HRb2.out).trans HC02.out
                have HIN := Lib.hid hin
                have HOKz := Lib.hid hok
                have HZ6 := Lib.hid hz56
                have HRD := Lib.hid (hrd.below hb)
                have HB := Lib.hid hb
                have lb : ba < wr.heap.size := Nat.lt_of_lt_of_le hblt hb.size
                have ly : yr < wr.heap.size := Nat.lt_of_lt_of_le HRb2.out hb.size
                obtain ⟨wo, hwo⟩ : ∃ x, x = wr := ⟨_, rfl⟩
                rw [← hwo] at e0 e1 r0 HRD HB lb ly ⊢
                clear hwo d0 d1 hrd hQ hin hok hz56 hz hb
                go_upto_region 18 with (fail)
                go_cut [91] (fun sd wx => sd = .bool false ∧ Below wo.heap.size wo wx)
                case first =>
                  go_region_held3 (fun w' => w'.cell? ⟨ba, boff + k * 2, none⟩ = some (.int .i64 (Q : Nat)) ∧ w'.cell? ⟨ba, boff + k * 2 + 1, none⟩ = some (.slice ua z.length uc) ∧ w'.cell? ⟨yr, 0, none⟩ = some (.int .i64 (M : Nat))) (first | go_keep)
                    (first | (go_at_call 14; refine (implIsReport_q (Q : Nat) _ z true HOKz.out _ (by have := HZ6.out; unfold maxLen; omega) (HRD.out.below (by first | exact Below.refl _ _ | exact (Below.refl _ _).drew | exact (Below.refl _ _).drew.drew))).mono ?_; rintro e v1 ⟨rfl, hb1⟩; have hbr : Below wo.heap.size wo v1 := (by first | exact hb1 | exact ((Below.refl _ _).drew).trans hb1 | exact ((Below.refl _ _).drew.drew).trans hb1); have ke0 := (hbr.cell (p := ⟨ba, boff + k * 2, none⟩) lb).trans e0; have ke1 := (hbr.cell (p := ⟨ba, boff + k * 2 + 1, none⟩) lb).trans e1; have kr0 := (hbr.cell (p := ⟨yr, 0, none⟩) ly).trans r0; have HBR := Lib.hid hbr; clear hbr hb1))
                  all_goals
                    go_wp2
                    go_meet
                    exact ⟨rfl, by first | exact HBR.out | exact HBR.out.drew⟩
                case rest =>
                  obtain ⟨rfl, hb⟩ := hcut
                  have HBc := Lib.hid (HB.out.trans (hb.mono HB.out.size))
                  have HRD2 := Lib.hid (HRD.out.below hb)
                  have e1' := (hb.cell (p := ⟨ba, boff + k * 2 + 1, none⟩) lb).trans e1
                  have HE1 := Lib.hid e1'
                  obtain ⟨wq, hwq⟩ : ∃ x, x = wc := ⟨_, rfl⟩
                  rw [← hwq] at HBc HRD2 HE1 ⊢
                  clear hb e0 e1 r0 e1' hwq HB HRD lb ly
                  have HRk := Lib.hid (HRq.out.below HBc.out)
                  have HY1 := Lib.hid ((HBc.out.cell (p := ⟨yr, 1, none⟩) HRb2.out).trans HC12.out)
                  have HLb2 := Lib.hid (show ba < wq.heap.size from Nat.lt_of_lt_of_le hblt HBc.out.size)
                  have HLy2 := Lib.hid (show yr < wq.heap.size from Nat.lt_of_lt_of_le HRb2.out HBc.out.size)
                  go_wp2
                  go_loopw [11] (fun t wi => ∃ q : Nat, q ≤ Z.length ∧ t = .int .i64 q ∧ Below wq.heap.size wq wi) (fun t _ => Z.length - (intOf t).toNat)
                  case atStart => exact ⟨0, Nat.zero_le _, rfl, Below.refl _ _⟩
                  case round =>
                    obtain ⟨q, hq, rfl, hb⟩ := hrel
                    have hZ6 := HZl.out
                    have y1 := (hb.cell (p := ⟨yr, 1, none⟩) HLy2.out).trans HY1.out
                    have x1 := (hb.cell (p := ⟨ba, boff + k * 2 + 1, none⟩) HLb2.out).trans HE1.out
                    have HB := Lib.hid hb
                    by_cases hqZ : q < Z.length
                    · obtain ⟨zb, zoff, hza, hzlt, hzc⟩ := ints_at HRk.out hqZ
                      have HZA := Lib.hid hza
                      rw [HZA.out] at y1
                      have t1 := (hb.cell (p := ⟨zb, zoff + q, none⟩) hzlt).trans hzc
                      have hmem : Z.getD q 0 ∈ z := HIN.out _ (by rw [List.getD_eq_getElem?_getD, List.getElem?_eq_getElem hqZ]; exact List.getElem_mem hqZ)
                      obtain ⟨y, hy⟩ : ∃ y, y = Z.getD q 0 := ⟨_, rfl⟩
                      rw [← hy] at t1 hmem
                      have HCH := Lib.hid (show true = decide (y ∈ z) from (decide_eq_true hmem).symm)
                      have HRX := Lib.hid (HRD2.out.below hb)
                      have HLZ := Lib.hid (show z.length ≤ maxLen by have := HZ6.out; unfold maxLen; omega)
                      have hqZ' : (q : Int) < (Z.length : Int) := by omega
                      clear hza hzc hmem hy hb
                      go_upto_region 23 with (fail)
                      go_quiet ((go_at_call 15; exact Calls.quiet_of_same (has_q7 _ z y true HCH.out _ HLZ.out (HRX.out.below (below_drewN (Below.refl _ _) _)))))
                      go_wp2
                      go_roundw
                      case rel => exact ⟨q + 1, by omega, by go_num, below_drewN HB.out _⟩
                      case measure => simp [intOf]; try omega
                    · obtain rfl : q = Z.length := by omega
                      go_wp2
                      go_roundw
                      case rel => exact ⟨k + 1, by omega, by go_num, HBc.out.trans (hb.mono HBc.out.size)⟩
                      case measure => simp [intOf]; try omega
              · obtain rfl : k = N := by omega
                obtain ⟨ua, uc, d0, d1, hrd⟩ := HBC.out p (by rw [← HNN.out]; omega)
                rw [HQP.out] at d0 d1 hrd
                simp only at d0 d1 hrd
                have e0 := (hb.cell (p := ⟨ba, boff + p * 2, none⟩) hblt).trans d0
                have e1 := (hb.cell (p := ⟨ba, boff + p * 2 + 1, none⟩) hblt).trans d1
                have r0 := (hb.cell (p := ⟨yr, 0, none⟩) HRb2.out).trans HC02.out
                have r1 := (hb.cell (p := ⟨yr, 1, none⟩) HRb2.out).trans HC12.out
                have HRD := Lib.hid (hrd.below hb)
                have HRz := Lib.hid (HRq.out.below hb)
                have HB := Lib.hid (HB2.out.trans (hb.mono HB2.out.size))
                have lb : ba < wr.heap.size := Nat.lt_of_lt_of_le hblt hb.size
                have ly : yr < wr.heap.size := Nat.lt_of_lt_of_le HRb2.out hb.size
                have hwp : IntKind.i64.wrap ((k : Int) - 1) = (p : Int) := by rw [show (k : Int) - 1 = (p : Int) by omega]; exact IntWalk.i64_in _ ⟨by omega, by omega⟩
                have hpk : (p : Int) < (k : Int) := by omega
                have hp0 : (0 : Int) ≤ (p : Int) := by omega
                clear d0 d1 hrd hb
                go_upto_region 25 with (fail)
                go_cut [2] (fun sd wx => sd = .bool true ∧ Below wr.heap.size wr wx)
                case first =>
                  go_region_held3 (fun w' => w'.cell? ⟨ba, boff + p * 2, none⟩ = some (.int .i64 (M : Nat)) ∧ w'.cell? ⟨ba, boff + p * 2 + 1, none⟩ = some (.slice ua Z.length uc) ∧ w'.cell? ⟨yr, 0, none⟩ = some (.int .i64 (M : Nat)) ∧ w'.cell? ⟨yr, 1, none⟩ = some (.slice a5 Z.length c5)) (first | go_keep)
                    (first | (go_at_call 16; refine (implSameReport_u (M : Nat) _ Z (M : Nat) _ Z true HSame.out _ (by have := HZl.out; unfold maxLen; omega) (HRD.out.below (by first | exact Below.refl _ _ | exact (Below.refl _ _).drew | exact (Below.refl _ _).drew.drew)) (HRz.out.below (by first | exact Below.refl _ _ | exact (Below.refl _ _).drew | exact (Below.refl _ _).drew.drew))).mono ?_; rintro e v1 ⟨rfl, hb1⟩; have hbr : Below wr.heap.size wr v1 := (by first | exact hb1 | exact ((Below.refl _ _).drew).trans hb1 | exact ((Below.refl _ _).drew.drew).trans hb1); have ke0 := (hbr.cell (p := ⟨ba, boff + p * 2, none⟩) lb).trans e0; have ke1 := (hbr.cell (p := ⟨ba, boff + p * 2 + 1, none⟩) lb).trans e1; have kr0 := (hbr.cell (p := ⟨yr, 0, none⟩) ly).trans r0; have kr1 := (hbr.cell (p := ⟨yr, 1, none⟩) ly).trans r1; have HBR := Lib.hid hbr; clear hbr hb1))
                  all_goals
                    go_wp2
                    go_meet
                    exact ⟨rfl, by first | exact HBR.out | exact HBR.out.drew⟩
                case rest =>
                  obtain ⟨rfl, hb⟩ := hcut
                  have HBf := Lib.hid (HB.out.trans (hb.mono HB.out.size))
                  clear hb
                  go_wp2
                  go_ret
                  exact ⟨rfl, HBf.out⟩

end Go.Proofs.YtnfnhbldphiohaaDoor
