/- DERIVED. The reference's ParseEvents: the events that a text names. -/
import Derived.Test.YtkhakelhfnoeoaaDoorEvParse
import Derived.Test.YtkhakelhfnoeoaaDoorEvSpec2
namespace Go.Proofs.YtkhakelhfnoeoaaDoor
open Go.RowKit

def evsOf (ps : List ByteArray) : List Ev := ps.map fun p => (evPv p).1
def evsAll (ps : List ByteArray) : Bool := ps.all fun p => (evPv p).2
def evsT (ps : List ByteArray) : List Ev × Bool := if ps.length ≤ 64 ∧ evsAll ps = true ∧ okEvs (evsOf ps) = true then (evsOf ps, true) else ([], false)
def evsP (s : ByteArray) : List Ev × Bool := if s.size = 0 then ([], true) else evsT (parts s 32)

theorem extract_le (s : ByteArray) (a b : Nat) : (s.extract a b).size ≤ s.size := by rw [ByteArray.size_extract]; omega
theorem cuts_sizes (s : ByteArray) (c : Int) : ∀ i, ∀ p ∈ (cuts s c i).1, p.size ≤ s.size
  | 0, p, hp => by simp [cuts] at hp
  | i + 1, p, hp => by
    by_cases h : bt s i = c
    · rw [cuts_hit h] at hp
      rcases List.mem_append.1 hp with h1 | h1
      · exact cuts_sizes s c i p h1
      · rw [List.mem_singleton.1 h1]; exact extract_le _ _ _
    · rw [cuts_miss h] at hp
      exact cuts_sizes s c i p hp
theorem parts_sizes (s : ByteArray) (c : Int) (k : Nat) : ((parts s c).getD k ByteArray.empty).size ≤ s.size := by
  rw [List.getD_eq_getElem?_getD]
  rcases h : (parts s c)[k]? with _ | p
  · exact Nat.zero_le _
  · have hp := List.mem_of_getElem? h
    unfold parts at hp
    rcases List.mem_append.1 hp with h1 | h1
    · exact cuts_sizes s c _ p h1
    · rw [List.mem_singleton.1 h1]; exact extract_le _ _ _

set_option maxHeartbeats 4000000 in
set_option maxRecDepth 100000 in
theorem specParseEvents_any (s : ByteArray) (w : World) (hl : s.size ≤ 1048576) :
    Calls Tryd.prog 19 #[.string s] w (EvOut (evsP s).1 (evsP s).2 w) := by
  obtain ⟨i0, hi, hy0, hy1, hy2⟩ := info_parts info_ev
  obtain ⟨W, hW⟩ : ∃ W, W = w.alloc (.cells #[] 30) := ⟨_, rfl⟩
  have HB0 := Lib.hid (show Below w.heap.size w W by rw [hW]; exact (Below.refl _ _).alloc (Nat.le_refl _) _)
  have HO0 := Lib.hid (show W.ownsRow w.heap.size 30 3 (.slice (some ⟨w.heap.size, 0, none⟩) 0 0) 0 (flatEv []) by rw [hW]; exact owns_noneN _ _ (Nat.le_refl _))
  have HW := Lib.hid hW
  clear hW
  by_cases hs : s.size = 0
  · obtain rfl : s = ByteArray.empty := by
      obtain ⟨⟨l⟩⟩ := s
      have : l = [] := List.eq_nil_of_length_eq_zero hs
      subst this; rfl
    go_enter Tryd.func19, Tryd.ntmps19
    go_wp2
    rw [← HW.out]
    go_ret2
    exact ⟨_, rfl, HO0.out, HB0.out⟩
  · have hne : (s.toList == []) = false := by
      have h1 := toList_ne (x := s) (y := ByteArray.empty) (fun e => hs (by rw [e]; rfl))
      simpa using h1
    obtain ⟨R, hR⟩ : ∃ R, R = evsP s := ⟨_, rfl⟩
    have hRT : R = evsT (parts s 32) := by rw [hR, evsP, if_neg hs]
    rw [← hR]
    have hpl := parts_len s 32
    obtain ⟨ps, hps⟩ : ∃ ps, ps = parts s 32 := ⟨_, rfl⟩
    have hpz : ∀ k, (ps.getD k ByteArray.empty).size ≤ 1048576 := fun k => by rw [hps]; exact Nat.le_trans (parts_sizes s 32 k) hl
    rw [← hps] at hRT hpl
    have HPS := Lib.hid hps
    have HPZ := Lib.hid hpz
    have HRT := Lib.hid hRT
    clear hR hRT hps hpz
    go_enter Tryd.func19, Tryd.ntmps19
    go_wp2_with fail
    rw [← HW.out]
    refine (specSplit_any s 32 W hl).mono ?_
    rintro e w1 ⟨v, rfl, hown, hb⟩
    rw [← HPS.out] at hown
    have hps0 : 0 < ps.length := by rw [HPS.out]; simp [parts]
    obtain ⟨b, cap, rfl, hbW, hlt⟩ := hown.form hps0
    have hb1 := HB0.out.trans (hb.mono HB0.out.size)
    have ho1 := owns_below HO0.out hb
    have hc' : ∀ j, j < ps.length → w1.cell? ⟨b, j, none⟩ = some (.string (ps.getD j ByteArray.empty)) := fun j hj => by
      rw [hown.cellAt j (by omega), List.getElem?_eq_getElem (by simpa using hj), getD_map_str]
    have hWs : w.heap.size < W.heap.size := by rw [HW.out]; simp
    have HB1 := Lib.hid hb1
    have HO1 := Lib.hid ho1
    have HC := Lib.hid hc'
    clear hown hb hb1 ho1 hc'
    by_cases h64 : ps.length ≤ 64
    · have h64i : (ps.length : Int) ≤ 64 := by omega
      have h64n : ¬ (64 : Int) < (ps.length : Int) := by omega
      have h64d : decide ((64 : Int) < (ps.length : Int)) = false := decide_eq_false h64n
      go_wp2
      go_loopw [4, 6] (fun o i wr => ∃ (j : Nat) (a : Option Addr) (c : Nat), j ≤ ps.length ∧ i = .int .i64 j ∧ o = .slice a (evsOf (ps.take j)).length c ∧ wr.ownsRow w.heap.size 30 3 (.slice a (evsOf (ps.take j)).length c) (evsOf (ps.take j)).length (flatEv (evsOf (ps.take j))) ∧ evsAll (ps.take j) = true ∧ Below w.heap.size w wr ∧ (∀ k, k < ps.length → wr.cell? ⟨b, k, none⟩ = some (.string (ps.getD k ByteArray.empty))) ∧ (∀ q, (Value.slice a (evsOf (ps.take j)).length c).ownBlock = some q → q ≠ b) ∧ b < wr.heap.size) (fun _ i _ => ps.length - (intOf i).toNat)
      case atStart => exact ⟨0, _, _, Nat.zero_le _, rfl, rfl, HO1.out, rfl, HB1.out, HC.out, fun q hq => by simp [Value.ownBlock] at hq; omega, hlt⟩
      case round =>
        obtain ⟨j, a, c, hj, rfl, rfl, hown, hall, hb, hcc, hnb, hbl⟩ := hrel
        have hel : (evsOf (ps.take j)).length = j := by simp [evsOf]; omega
        by_cases hlt' : j < ps.length
        · have hcell := hcc j hlt'
          have hq := fun w => specParse_any (ps.getD j ByteArray.empty) w (HPZ.out j)
          have hsn : evsOf (ps.take (j + 1)) = evsOf (ps.take j) ++ [(evPv (ps.getD j ByteArray.empty)).1] := by
            unfold evsOf
            rw [List.take_add_one, List.map_append, List.getElem?_eq_getElem hlt']
            simp [List.getD_eq_getElem?_getD, hlt']
          have has : evsAll (ps.take (j + 1)) = (evPv (ps.getD j ByteArray.empty)).2 := by
            have : evsAll (ps.take (j + 1)) = (evsAll (ps.take j) && (evPv (ps.getD j ByteArray.empty)).2) := by
              unfold evsAll
              rw [List.take_add_one, List.all_append, List.getElem?_eq_getElem hlt']
              simp [List.getD_eq_getElem?_getD, hlt']
            rw [this, hall, Bool.true_and]
          have hbad : (evPv (ps.getD j ByteArray.empty)).2 = false → R = ([], false) := fun h => by
            have h2 : evsAll ps = false := by
              unfold evsAll
              rw [List.all_eq_false]
              exact ⟨ps.getD j ByteArray.empty, by rw [List.getD_eq_getElem?_getD, List.getElem?_eq_getElem hlt']; exact List.getElem_mem _, by simpa using h⟩
            rw [HRT.out, evsT, if_neg (by rw [h2]; simp)]
          obtain ⟨p, hp⟩ : ∃ p, p = ps.getD j ByteArray.empty := ⟨_, rfl⟩
          rw [← hp] at hcell hq hsn has hbad
          obtain ⟨pv, hpv⟩ : ∃ pv, pv = evPv p := ⟨_, rfl⟩
          rw [← hpv] at hq hsn has hbad
          obtain ⟨⟨t, k, d⟩, o⟩ := pv
          obtain ⟨A, hA⟩ : ∃ A, A = evsOf (ps.take j) := ⟨_, rfl⟩
          rw [← hA] at hsn hown hel hnb ⊢
          have HQ := Lib.hid hq
          have HSN := Lib.hid hsn
          have HAS := Lib.hid has
          have HBAD := Lib.hid hbad
          have HO := Lib.hid hown
          have HB := Lib.hid hb
          have HCC := Lib.hid hcc
          have HNB := Lib.hid hnb
          have hwr : w.heap.size ≤ wr.heap.size := HB.out.size
          have b63 : A.length + 1 ≤ maxLen := by unfold maxLen; omega
          have b47 : (A.length + 1) * 24 ≤ 140737488355328 := by omega
          have HEL := Lib.hid hel
          clear hq hsn has hbad hp hpv hA hown hall hb hel hcc hnb
          go_wp2_with fail
          refine (HQ.out _).mono ?_
          rintro e w2 ⟨rfl, hb2⟩
          have HB2 := Lib.hid (HB.out.trans (hb2.mono HB.out.size))
          have HO2 := Lib.hid (owns_below HO.out hb2)
          have hz2 : w.heap.size ≤ w2.heap.size := HB2.out.size
          have hbl2 : b < w2.heap.size := Nat.lt_of_lt_of_le hbl hb2.size
          have HCC2 := Lib.hid (fun k (hk : k < ps.length) => (hb2.cell (p := ⟨b, k, none⟩) hbl).trans (HCC.out k hk))
          clear hb2 hcell
          cases o
          · go_wp2
            go_ret2
            rw [HBAD.out (by trivial)]
            have h3 := HB2.out.alloc hz2 (.cells #[.int .i64 t, .int .i64 k, .bool d] 30)
            have h4 := owns_noneN 30 3 h3.size
            rw [show (w2.alloc (.cells #[.int .i64 t, .int .i64 k, .bool d] 30)).heap.size = w2.heap.size + 1 from by simp] at h4
            exact ⟨_, rfl, h4, h3.alloc h3.size _⟩
          · go_wp2_with (at_builtin; refine wpList_append_lies _ rfl _ _ 24 rfl w.heap.size 30 i0 (.agg #[.int .i64 0, .int .i64 0, .bool false]) 3 24 Tryd.underlying24 hi hy0 hy1 hy2 rfl (by decide) _ _ _ rfl ((HO2.out.alloc _).alloc _) ⟨w2.heap.size + 1, 0, none⟩ 1 1 [.int .i64 t, .int .i64 k, .bool d] rfl rfl ?c1 ?c2 (by omega) b63 b47 ?c5 (w2.heap.size + 2) (by simp) ?_)
            case c1 =>
              have := news_of_new (w := w2.alloc (.cells #[Value.int .i64 t, Value.int .i64 k, Value.bool d] 30)) (cs := [Value.int .i64 t, Value.int .i64 k, Value.bool d]) (t := 30)
              simpa using this
            case c2 => intro u hu; simp at hu; rcases hu with rfl | rfl | rfl <;> rfl
            case c5 => simp; omega
            · intro ga ca w6 hown1 hgrow hat hlt6
              have hal : Below w2.heap.size w2 ((w2.alloc (.cells #[Value.int .i64 t, Value.int .i64 k, Value.bool d] 30)).alloc (.cells #[Value.int .i64 t, Value.int .i64 k, Value.bool d] 30)) := ((Below.refl _ _).alloc (Nat.le_refl _) _).alloc (by simp) _
              have HB6 := Lib.hid ((HB2.out.trans (hal.mono hz2)).grown hgrow (by simp; omega) (fun q hq => by have := (HO2.out.lt q hq).1; omega))
              have HO6 := Lib.hid hown1
              have HCC6 := Lib.hid (fun k (hk : k < ps.length) => (hgrow.cell_far ⟨b, k, none⟩ (by simp; omega) (fun e => HNB.out b e.symm rfl)).trans ((hal.cell (p := ⟨b, k, none⟩) hbl2).trans (HCC2.out k hk)))
              have hbl6 : b < w6.heap.size := Nat.lt_of_lt_of_le hbl2 (Nat.le_trans hal.size hgrow.size)
              have hnb6 : ga ≠ b := by
                rcases hat with h | h
                · exact HNB.out ga h
                · omega
              clear hown1 hgrow hat hal
              go_wp2
              go_roundw
              case rel =>
                refine ⟨j + 1, some ⟨ga, 0, none⟩, ca, by omega, by go_num, by rw [HSN.out]; simp, ?_, HAS.out, HB6.out, HCC6.out, fun q hq => by simp [Value.ownBlock] at hq; omega, hbl6⟩
                rw [HSN.out, flatEv_snoc]
                simpa using HO6.out
              case measure => simp [intOf]; omega
        · obtain rfl : j = ps.length := by omega
          rw [List.take_length] at hown hall hel ⊢
          have HO := Lib.hid hown
          have HB := Lib.hid hb
          have HALL := Lib.hid hall
          clear hown hb hall hcc hnb
          obtain ⟨A, hA⟩ : ∃ A, A = evsOf ps := ⟨_, rfl⟩
          have HA := Lib.hid hA
          obtain ⟨ok, hok⟩ : ∃ ok, ok = okEvs A := ⟨_, rfl⟩
          have HOK := Lib.hid hok
          rw [← hA] at HO hel ⊢
          clear hA hok
          have hAm : A.length ≤ maxLen := by unfold maxLen; omega
          have HAM := Lib.hid hAm
          clear hAm hel
          have hwr : w.heap.size ≤ wr.heap.size := HB.out.size
          go_wp2_with fail
          refine (specIsEvents_any _ A _ HAM.out (RdN.of_owns HO.out)).mono ?_
          rw [← HOK.out]
          rintro e w2 ⟨rfl, hb2⟩
          have HB2 := Lib.hid (HB.out.trans (hb2.mono hwr))
          have HO2 := Lib.hid (owns_below HO.out hb2)
          have hz2 : w.heap.size ≤ w2.heap.size := HB2.out.size
          clear hb2
          cases ok
          · have hRF : R = ([], false) := by rw [HRT.out, evsT, if_neg (by rw [← HA.out, ← HOK.out]; simp)]
            have HRF := Lib.hid hRF
            clear hRF
            go_wp2
            go_ret2
            rw [HRF.out]
            exact ⟨_, rfl, owns_noneN _ _ hz2, HB2.out.alloc hz2 _⟩
          · have hRF : R = (A, true) := by rw [HRT.out, evsT, if_pos (by rw [← HA.out, ← HOK.out]; exact ⟨h64, HALL.out, rfl⟩), HA.out]
            have HRF := Lib.hid hRF
            clear hRF
            go_wp2
            go_ret2
            rw [HRF.out]
            exact ⟨_, rfl, HO2.out, HB2.out⟩
    · have h64i : ¬ (ps.length : Int) ≤ 64 := by omega
      have h64n : (64 : Int) < (ps.length : Int) := by omega
      have hRF : R = ([], false) := by rw [HRT.out, evsT, if_neg (fun h => h64 h.1)]
      have HRF := Lib.hid hRF
      clear hRF
      go_wp2
      refine wp_loop_rounds 1 ?_
      rw [rounds_succ]
      go_wp2
      go_ret2
      rw [HRF.out]
      exact ⟨_, rfl, owns_noneN _ _ HB1.out.size, HB1.out.alloc HB1.out.size _⟩

end Go.Proofs.YtkhakelhfnoeoaaDoor
