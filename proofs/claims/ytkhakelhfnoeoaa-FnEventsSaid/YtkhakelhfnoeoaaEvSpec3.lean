/- DERIVED. The reference's MasksOf and ReleaseAll, each called with events that read as known data: it returns what a plain function says. -/
import Derived.Test.YtkhakelhfnoeoaaEvSpec2
namespace Go.Proofs.Ytkhakelhfnoeoaa
open Go.RowKit

/-- How many events at the head are no later than i. -/
def lead (i : Int) : List Ev → Nat
  | [] => 0
  | e :: r => if e.t ≤ i then lead i r + 1 else 0
def advTo (l : List Ev) (i : Int) (s : Nat) : Nat := s + lead i (l.drop s)
theorem lead_le (i : Int) (l : List Ev) : lead i l ≤ l.length := by
  induction l with
  | nil => exact Nat.le_refl _
  | cons e l ih => rw [lead]; split <;> simp <;> omega
theorem advTo_le {l : List Ev} {i : Int} {s : Nat} (h : s ≤ l.length) : s ≤ advTo l i s ∧ advTo l i s ≤ l.length := by
  unfold advTo
  have := lead_le i (l.drop s)
  rw [List.length_drop] at this
  omega
theorem advTo_step {l : List Ev} {i : Int} {s : Nat} (h : s < l.length) (ht : (evD l s).t ≤ i) : advTo l i (s + 1) = advTo l i s := by
  unfold advTo
  rw [List.drop_eq_getElem_cons h, lead]
  rw [if_pos (show l[s].t ≤ i by unfold evD at ht; simpa [List.getElem?_eq_getElem h] using ht)]
  omega
theorem advTo_stop {l : List Ev} {i : Int} {s : Nat} (h : s < l.length) (ht : ¬ (evD l s).t ≤ i) : advTo l i s = s := by
  unfold advTo
  rw [List.drop_eq_getElem_cons h, lead]
  rw [if_neg (show ¬ l[s].t ≤ i by unfold evD at ht; simpa [List.getElem?_eq_getElem h] using ht)]
  omega
theorem advTo_end {l : List Ev} {i : Int} {s : Nat} (h : l.length ≤ s) : advTo l i s = s := by
  unfold advTo
  rw [List.drop_of_length_le h]; rfl
/-- How many events are taken ahead of the mask i. -/
def atV (l : List Ev) : Nat → Nat
  | 0 => 0
  | i + 1 => advTo l i (atV l i)
theorem atV_le (l : List Ev) (i : Nat) : atV l i ≤ l.length := by
  induction i with
  | zero => exact Nat.zero_le _
  | succ i ih => rw [atV]; exact (advTo_le ih).2
def masksV (l : List Ev) (n : Nat) : List Int := (List.range n).map fun i => ((heldN l (atV l (i + 1)) : Nat) : Int)
theorem masksV_len (l : List Ev) (n : Nat) : (masksV l n).length = n := by simp [masksV]
theorem masksV_snoc (l : List Ev) (n : Nat) : masksV l (n + 1) = masksV l n ++ [((heldN l (atV l (n + 1)) : Nat) : Int)] := by simp [masksV, List.range_succ]
def masksR (l : List Ev) (n : Int) : List Int × Bool := if okEvs l = true ∧ inB n 0 200 = true then (masksV l n.toNat, true) else ([], false)
/-- What a function returns that returns numbers and a Bool. -/
def IntsOut (R : List Int) (b : Bool) (w : World) (e : Ending) (w' : World) : Prop :=
  ∃ u, e = .returned (.tuple #[u, .bool b]) ∧ w'.ownsRow w.heap.size 3 1 u R.length (R.map (.int .i64)) ∧ Below w.heap.size w w'

set_option maxHeartbeats 4000000 in
set_option maxRecDepth 100000 in
theorem specMasksOf_any (v : Value) (l : List Ev) (n : Int) (w : World) (hl : l.length ≤ maxLen) (h : RdN w v l.length (flatEv l)) :
    Calls Try.prog 32 #[v, .int .i64 n] w (IntsOut (masksR l n).1 (masksR l n).2 w) := by
  obtain ⟨i0, hi, hy0, hy1, hy2⟩ := info_parts info_int
  have hsh : ∃ a cap, v = .slice a l.length cap := by obtain ⟨a, cap, hu, _⟩ := h; exact ⟨a, cap, hu⟩
  obtain ⟨W, hW⟩ : ∃ W, W = w.alloc (.cells #[] 3) := ⟨_, rfl⟩
  have HB0 := Lib.hid (show Below w.heap.size w W by rw [hW]; exact (Below.refl _ _).alloc (Nat.le_refl _) _)
  have HO0 := Lib.hid (show W.ownsRow w.heap.size 3 1 (.slice (some ⟨w.heap.size, 0, none⟩) 0 0) 0 [] by rw [hW]; exact owns_none _ (Nat.le_refl _))
  have HRd := Lib.hid (h.below HB0.out)
  have HR0 := Lib.hid h
  have HLL := Lib.hid hl
  unfold maxLen at hl
  have HW := Lib.hid hW
  obtain ⟨ok, hok⟩ : ∃ ok, ok = okEvs l := ⟨_, rfl⟩
  obtain ⟨nb, hnb⟩ : ∃ nb, nb = inB n 0 200 := ⟨_, rfl⟩
  have hR : masksR l n = if ok = true ∧ nb = true then (masksV l n.toNat, true) else ([], false) := by rw [masksR, hok, hnb]
  have HOK := Lib.hid hok
  have HNB := Lib.hid hnb
  have HRR := Lib.hid hR
  clear hW h hok hnb hR
  cases ok
  · clear hsh
    go_enter Try.func32, Try.ntmps32
    go_wp2_with fail
    rw [← HW.out]
    refine (specIsEvents_any _ l _ HLL.out HRd.out).mono ?_
    rw [← HOK.out]
    rintro e w1 ⟨rfl, hb⟩
    have HB := Lib.hid (HB0.out.trans (hb.mono HB0.out.size))
    have HO := Lib.hid (owns_below HO0.out hb)
    clear hb
    go_wp2
    go_ret2
    refine ⟨.slice (some ⟨w.heap.size, 0, none⟩) 0 0, ?_, ?_, HB.out⟩
    · rw [HRR.out]; rfl
    · rw [HRR.out]; exact HO.out
  · cases nb
    · clear hsh
      go_enter Try.func32, Try.ntmps32
      go_wp2_with fail
      rw [← HW.out]
      refine (specIsEvents_any _ l _ HLL.out HRd.out).mono ?_
      rw [← HOK.out]
      rintro e w1 ⟨rfl, hb⟩
      have HB := Lib.hid (HB0.out.trans (hb.mono HB0.out.size))
      have HO := Lib.hid (owns_below HO0.out hb)
      clear hb
      go_wp2_with fail
      refine (inB_any n 0 200 _).mono ?_
      rw [← HNB.out]
      rintro e w0 ⟨rfl, rfl⟩
      go_wp2
      go_ret2
      refine ⟨.slice (some ⟨w.heap.size, 0, none⟩) 0 0, ?_, ?_, HB.out⟩
      · rw [HRR.out]; rfl
      · rw [HRR.out]; exact HO.out
    · have hn := of_decide_eq_true (show decide (0 ≤ n ∧ n ≤ 200) = true from HNB.out.symm)
      obtain ⟨N, rfl⟩ := Int.eq_ofNat_of_zero_le hn.1
      have hN : N ≤ 200 := by omega
      have hkeys : ∀ j, j < l.length → 0 ≤ (evD l j).k ∧ (evD l j).k ≤ 31 := by
        have hok := HOK.out
        unfold okEvs at hok
        have := hok.symm
        rw [Bool.and_eq_true] at this
        exact fun j hj => okAt_key (okEvN_at this.1 j hj)
      have HK := Lib.hid hkeys
      clear hkeys hn
      obtain ⟨av, capv, rfl⟩ := hsh
      go_enter Try.func32, Try.ntmps32
      go_wp2_with fail
      rw [← HW.out]
      refine (specIsEvents_any _ l _ HLL.out HRd.out).mono ?_
      rw [← HOK.out]
      rintro e w1 ⟨rfl, hb⟩
      have HB1 := Lib.hid (HB0.out.trans (hb.mono HB0.out.size))
      have HO1 := Lib.hid (owns_below HO0.out hb)
      clear hb
      go_wp2_with fail
      refine (inB_any N 0 200 _).mono ?_
      rw [← HNB.out]
      rintro e w0 ⟨rfl, rfl⟩
      go_wp2
      go_loopw [6, 7, 8, 9] (fun o s p i wr => ∃ (j : Nat) (a : Option Addr) (c : Nat), j ≤ N ∧ i = .int .i64 j ∧ s = .int .i64 (atV l j : Nat) ∧ p = .int .i64 (heldN l (atV l j) : Nat) ∧ o = .slice a j c ∧ wr.ownsRow w.heap.size 3 1 (.slice a j c) j ((masksV l j).map (.int .i64)) ∧ Below w.heap.size w wr) (fun _ _ _ i _ => N - (intOf i).toNat)
      case atStart => exact ⟨0, _, _, Nat.zero_le _, rfl, rfl, rfl, rfl, HO1.out, HB1.out⟩
      case round =>
        obtain ⟨j, a, c, hj, rfl, rfl, rfl, rfl, hown, hb⟩ := hrel
        have HO := Lib.hid hown
        have HB := Lib.hid hb
        have hat := atV_le l j
        by_cases hlt' : j < N
        · have hnx : atV l (j + 1) = advTo l j (atV l j) := by rw [atV]
          obtain ⟨s0, hs0⟩ : ∃ s0, s0 = atV l j := ⟨_, rfl⟩
          obtain ⟨T, hT⟩ : ∃ T, T = advTo l j s0 := ⟨_, rfl⟩
          rw [← hs0, ← hT] at hnx
          rw [← hs0] at hat ⊢
          have hTl : T ≤ l.length := by rw [hT]; exact (advTo_le hat).2
          have HNX := Lib.hid hnx
          have HT := Lib.hid hT
          have HTL := Lib.hid hTl
          clear hown hb hnx hT hTl hs0
          go_wp2
          go_loop [7, 8] (fun s p => ∃ q : Nat, q ≤ l.length ∧ s = .int .i64 q ∧ p = .int .i64 (heldN l q : Nat) ∧ advTo l j q = T) (fun s _ => l.length - (intOf s).toNat)
          case atStart => exact ⟨s0, hat, rfl, rfl, HT.out.symm⟩
          case round =>
            obtain ⟨q, hq, rfl, rfl, hadv⟩ := hrel
            have hlt32 := heldN_lt (l := l) (n := q) fun i hi => HK.out i (by omega)
            by_cases hql : q < l.length
            · rcases rd_evs HR0.out with ⟨hnil, _⟩ | ⟨b, off, cap1, _, hu, hbl, hc⟩
              · exfalso; rw [hnil] at hql; simp at hql
              · simp only [Value.slice.injEq] at hu
                obtain ⟨rfl, _, rfl⟩ := hu
                obtain ⟨c0, c1, c2⟩ := hc q hql
                have r0 := (HB.out.cell (p := ⟨b, off + q * 3, none⟩) hbl).trans c0
                have r1 := (HB.out.cell (p := ⟨b, off + q * 3 + 1, none⟩) hbl).trans c1
                obtain ⟨k0, k31⟩ := HK.out q hql
                have hst : (evD l q).t ≤ j → advTo l j (q + 1) = T := fun h => by rw [advTo_step hql h, hadv]
                have hsp : ¬ (evD l q).t ≤ j → q = T := fun h => by rw [← hadv, advTo_stop hql h]
                have hhn : heldN l (q + 1) = heldN l q ^^^ 2 ^ (evD l q).k.toNat := by rw [heldN]
                obtain ⟨et, het⟩ : ∃ x, x = (evD l q).t := ⟨_, rfl⟩
                obtain ⟨ek, hek⟩ : ∃ x, x = (evD l q).k := ⟨_, rfl⟩
                obtain ⟨hd, hhd⟩ : ∃ x, x = heldN l q := ⟨_, rfl⟩
                rw [← het] at r0 hst hsp
                rw [← hek] at r1 k0 k31 hhn
                rw [← hhd] at hhn hlt32 ⊢
                obtain ⟨kn, rfl⟩ := Int.eq_ofNat_of_zero_le k0
                have HST := Lib.hid hst
                have HSP := Lib.hid hsp
                have HHD := Lib.hid hhd
                clear c0 c1 c2 hc hst hsp het hek hhd hadv
                by_cases hle : et ≤ j
                · have hw := wrap64_pow62 (k := kn) (by omega)
                  have hp : 2 ^ kn < 2 ^ 32 := Nat.pow_lt_pow_right (by decide) (by omega)
                  have hx := xor_nat hd (2 ^ kn) (by omega) (by omega)
                  simp only [Int.toNat_natCast] at hhn
                  obtain ⟨p, hpd⟩ : ∃ p, p = 2 ^ kn := ⟨_, rfl⟩
                  rw [← hpd] at hw hx hhn
                  have HHN := Lib.hid hhn
                  have HST2 := Lib.hid (HST.out hle)
                  clear hhn hpd hp
                  go_wp2
                  go_round
                  case rel => exact ⟨q + 1, by omega, by go_num, by rw [HHN.out], HST2.out⟩
                  case measure => simp [intOf]; omega
                · obtain rfl : q = T := HSP.out hle
                  have hszc : w.heap.size ≤ wr.heap.size := HB.out.size
                  have b63 : j + 1 ≤ maxLen := by unfold maxLen; omega
                  have b47 : (j + 1) * 8 ≤ 140737488355328 := by omega
                  clear hhn
                  go_wp2_with (at_builtin; refine wpList_append_own _ rfl _ _ 24 rfl w.heap.size 3 i0 (.int .i64 0) 1 8 Try.underlying24 hi hy0 hy1 hy2 rfl (by decide) _ _ _ rfl (HO.out.alloc _) ⟨wr.heap.size, 0, none⟩ 1 1 [.int .i64 hd] rfl rfl ?c1 ?c2 b63 b47 ?c5 ?_)
                  try (case c1 => exact cell_one_new _ _ _)
                  case c2 => first | rfl | (intro u hu; simp at hu; subst hu; rfl)
                  case c5 => first | omega | (simp; omega)
                  · intro v' w6 hown1 hgrow _
                    obtain ⟨a', c', rfl⟩ := owns_shape hown1
                    have HB6 := Lib.hid ((HB.out.alloc (by omega) (.cells #[.int .i64 (hd : Int)] 3)).grown hgrow (by simp; omega) (fun q hq => by have := (HO.out.lt q hq).1; omega))
                    have HO6 := Lib.hid hown1
                    clear hown1 hgrow
                    go_wp2
                    go_roundw
                    case rel =>
                      refine ⟨j + 1, a', c', by omega, by go_num, by rw [HNX.out], by rw [HNX.out, ← HHD.out], rfl, ?_, HB6.out⟩
                      rw [masksV_snoc, List.map_append, HNX.out, ← HHD.out]
                      exact HO6.out
                    case measure => simp [intOf]; omega
            · obtain rfl : q = l.length := by omega
              obtain rfl : l.length = T := by rw [← hadv, advTo_end (Nat.le_refl _)]
              obtain ⟨hd, hhd⟩ : ∃ x, x = heldN l l.length := ⟨_, rfl⟩
              rw [← hhd] at hlt32 ⊢
              have HHD := Lib.hid hhd
              have hszc : w.heap.size ≤ wr.heap.size := HB.out.size
              have b63 : j + 1 ≤ maxLen := by unfold maxLen; omega
              have b47 : (j + 1) * 8 ≤ 140737488355328 := by omega
              clear hhd hadv
              go_wp2_with (at_builtin; refine wpList_append_own _ rfl _ _ 24 rfl w.heap.size 3 i0 (.int .i64 0) 1 8 Try.underlying24 hi hy0 hy1 hy2 rfl (by decide) _ _ _ rfl (HO.out.alloc _) ⟨wr.heap.size, 0, none⟩ 1 1 [.int .i64 hd] rfl rfl ?d1 ?d2 b63 b47 ?d5 ?_)
              try (case d1 => exact cell_one_new _ _ _)
              case d2 => first | rfl | (intro u hu; simp at hu; subst hu; rfl)
              case d5 => first | omega | (simp; omega)
              · intro v' w6 hown1 hgrow _
                obtain ⟨a', c', rfl⟩ := owns_shape hown1
                have HB6 := Lib.hid ((HB.out.alloc (by omega) (.cells #[.int .i64 (hd : Int)] 3)).grown hgrow (by simp; omega) (fun q hq => by have := (HO.out.lt q hq).1; omega))
                have HO6 := Lib.hid hown1
                clear hown1 hgrow
                go_wp2
                go_roundw
                case rel =>
                  refine ⟨j + 1, a', c', by omega, by go_num, by rw [HNX.out], by rw [HNX.out, ← HHD.out], rfl, ?_, HB6.out⟩
                  rw [masksV_snoc, List.map_append, HNX.out, ← HHD.out]
                  exact HO6.out
                case measure => simp [intOf]; omega
        · obtain rfl : j = N := by omega
          clear hown hb hat
          go_wp2
          go_ret2
          refine ⟨.slice a j c, ?_, ?_, HB.out⟩
          · rw [HRR.out]; rfl
          · rw [HRR.out]; simpa [masksV_len] using HO.out

/-- The ups of the held keys below n, at the time. -/
def upsN (held : Nat) (time : Int) : Nat → List Ev
  | 0 => []
  | k + 1 => if held.testBit k = true then upsN held time k ++ [⟨time, k, false⟩] else upsN held time k
theorem upsN_len (held : Nat) (time : Int) (n : Nat) : (upsN held time n).length ≤ n := by
  induction n with
  | zero => exact Nat.le_refl _
  | succ n ih =>
    rw [upsN]
    split
    · simp; omega
    · omega
def relV (l : List Ev) (time : Int) : List Ev := l ++ upsN (heldV l) time 32
def relOk (l : List Ev) (time : Int) : Bool := okEvs l && (okEvs (relV l time) && (inB time 0 1000000 && !(decide (0 < l.length) && decide (time < (evD l (l.length - 1)).t))))
def relR (l : List Ev) (time : Int) : List Ev × Bool := if relOk l time = true then (relV l time, true) else ([], false)

set_option maxHeartbeats 4000000 in
set_option maxRecDepth 100000 in
theorem specReleaseAll_any (v : Value) (l : List Ev) (time : Int) (w : World) (hl : l.length ≤ 1048576) (h : RdN w v l.length (flatEv l)) (hnil : ∀ c, v = .slice none 0 c → c = 0) :
    Calls Try.prog 34 #[v, .int .i64 time] w (EvOut (relR l time).1 (relR l time).2 w) := by
  obtain ⟨i0, hi, hy0, hy1, hy2⟩ := info_parts info_ev
  obtain ⟨av, capv, rfl⟩ : ∃ a cap, v = .slice a l.length cap := by obtain ⟨a, cap, hu, _⟩ := h; exact ⟨a, cap, hu⟩
  obtain ⟨W, hW⟩ : ∃ W, W = w.alloc (.cells #[] 41) := ⟨_, rfl⟩
  have HB0 := Lib.hid (show Below w.heap.size w W by rw [hW]; exact (Below.refl _ _).alloc (Nat.le_refl _) _)
  have HO0 := Lib.hid (show W.ownsRow w.heap.size 41 3 (.slice (some ⟨w.heap.size, 0, none⟩) 0 0) 0 (flatEv []) by rw [hW]; exact owns_noneN _ _ (Nat.le_refl _))
  have HW := Lib.hid hW
  have HR0 := Lib.hid h
  have HLL := Lib.hid (show l.length ≤ maxLen by unfold maxLen; omega)
  have hh32 := heldV_lt l
  have HR : Hid (relR l time = if relOk l time = true then (relV l time, true) else ([], false)) := Lib.hid rfl
  have hszw : w.heap.size ≤ W.heap.size := HB0.out.size
  have b63 : 0 + l.length ≤ maxLen := by unfold maxLen; omega
  have b47 : (0 + l.length) * 24 ≤ 140737488355328 := by omega
  clear hW
  go_enter Try.func34, Try.ntmps34
  go_upto_region 1 with (fail)
  go_cut [6] (fun s6 wx => ∃ a c, s6 = .slice a l.length c ∧ wx.ownsRow w.heap.size 41 3 (.slice a l.length c) l.length (flatEv l) ∧ Below w.heap.size w wx)
  case first =>
    rcases rd_evs h with ⟨rfl, a, cap, hu⟩ | ⟨b, off, cap, hpos, hu, hlt, hc⟩
    · go_wp2_with (at_builtin; refine wpList_append_fits_any _ rfl _ _ 29 rfl w.heap.size 41 i0 3 Try.underlying29 hi hy1 w.heap.size 0 0 (flatEv []) rfl (by rw [← HW.out]; exact HO0.out) av 0 capv [] rfl rfl ?e1 ?e2 ?e3 ?e4 ?_)
      case e1 => first | (intro ha; subst ha; exact ⟨rfl, hnil _ rfl⟩) | (intro ha; subst ha; exact hnil _ rfl)
      case e2 => intro ad _ j u hu; simp at hu
      case e3 => intro u hu; simp at hu
      case e4 => exact Nat.le_refl _
      · intro w1 hown hg
        rw [← HW.out] at hg
        have HB1 := Lib.hid (HB0.out.grown hg hszw (fun q hq => by cases hq; exact Nat.le_refl _))
        have HO1 := Lib.hid hown
        clear hown hg
        go_wp2
        go_meet
        exact ⟨_, _, rfl, by simpa using HO1.out, HB1.out⟩
    · simp only [Value.slice.injEq] at hu
      obtain ⟨rfl, _, rfl⟩ := hu
      have hc' : ∀ j u, (flatEv l)[j]? = some u → W.cell? ((⟨b, off, none⟩ : Addr).add j) = some u := fun j u hu => by
        rcases h.cases with ⟨h0, _⟩ | ⟨_, b', off', cap', hu', hlt', hcc⟩
        · omega
        · simp only [Value.slice.injEq, Option.some.injEq, Addr.mk.injEq, and_true, true_and] at hu'
          obtain ⟨⟨rfl, rfl⟩, _⟩ := hu'
          obtain ⟨hj, rfl⟩ := List.getElem?_eq_some_iff.mp hu
          have hadd : (⟨b, off, none⟩ : Addr).add j = ⟨b, off + j, none⟩ := by unfold Addr.add; split <;> simp_all
          rw [hadd]
          exact (HB0.out.cell (p := ⟨b, off + j, none⟩) hlt).trans (hcc j hj)
      have HC := Lib.hid hc'
      clear hc hc'
      go_wp2_with (at_builtin; refine wpList_append_own _ rfl _ _ 29 rfl w.heap.size 41 i0 (.agg #[.int .i64 0, .int .i64 0, .bool false]) 3 24 Try.underlying29 hi hy0 hy1 hy2 rfl (by decide) _ 0 (flatEv []) rfl (by rw [← HW.out]; exact HO0.out) ⟨b, off, none⟩ l.length capv (flatEv l) rfl (flatEv_len l) (by rw [← HW.out]; exact HC.out) ?f2 b63 b47 ?f5 ?_)
      case f2 => exact flatEv_one l
      case f5 => first | omega | (simp <;> omega)
      · intro v' w1 hown hg _
        rw [← HW.out] at hg
        obtain ⟨a', c', rfl⟩ := owns_shape hown
        have HB1 := Lib.hid (HB0.out.grown hg hszw (fun q hq => by cases hq; exact Nat.le_refl _))
        have HO1 := Lib.hid hown
        clear hown hg
        go_wp2
        go_meet
        exact ⟨a', c', by first | rfl | simp, by simpa [flatEv] using HO1.out, HB1.out⟩
  case rest =>
    obtain ⟨a0, c0, rfl, hown, hb⟩ := hcut
    have HOa := Lib.hid hown
    have HBa := Lib.hid hb
    clear hown hb
    go_wp2_with fail
    refine (specHeldAfter_any _ l _ HLL.out (HR0.out.below HBa.out)).mono ?_
    rintro e w2 ⟨rfl, hb⟩
    have HB2 := Lib.hid (HBa.out.trans (hb.mono HBa.out.size))
    have HO2 := Lib.hid (owns_below HOa.out hb)
    obtain ⟨hd, hhd⟩ : ∃ x, x = heldV l := ⟨_, rfl⟩
    rw [← hhd] at hh32 ⊢
    have HHD := Lib.hid hhd
    clear hb hhd
    go_wp2
    go_loopw [6, 8] (fun o i wr => ∃ (k : Nat) (a : Option Addr) (c : Nat), k ≤ 32 ∧ i = .int .i64 k ∧ o = .slice a (l ++ upsN hd time k).length c ∧ wr.ownsRow w.heap.size 41 3 (.slice a (l ++ upsN hd time k).length c) (l ++ upsN hd time k).length (flatEv (l ++ upsN hd time k)) ∧ Below w.heap.size w wr) (fun _ i _ => 32 - (intOf i).toNat)
    case atStart => exact ⟨0, a0, c0, by omega, rfl, by simp [upsN], by simpa [upsN] using HO2.out, HB2.out⟩
    case round =>
      obtain ⟨k, a, c, hk, rfl, rfl, hown, hb⟩ := hrel
      have HO := Lib.hid hown
      have HB := Lib.hid hb
      have hul := upsN_len hd time k
      by_cases hk' : k < 32
      · have hun : upsN hd time (k + 1) = if hd.testBit k = true then upsN hd time k ++ [⟨time, k, false⟩] else upsN hd time k := by rw [upsN]
        obtain ⟨A, hA⟩ : ∃ A, A = l ++ upsN hd time k := ⟨_, rfl⟩
        obtain ⟨tb, htb⟩ : ∃ tb, tb = hd.testBit k := ⟨_, rfl⟩
        have hbit := bit_nat hd k (by omega)
        rw [← htb] at hun hbit
        have hAn : l ++ upsN hd time (k + 1) = if tb = true then A ++ [⟨time, k, false⟩] else A := by
          rw [hun, hA]; split
          · rw [List.append_assoc]
          · rfl
        have hAl : A.length ≤ 1048608 := by rw [hA, List.length_append]; omega
        have HO3 : Hid (wr.ownsRow w.heap.size 41 3 (.slice a A.length c) A.length (flatEv A)) := Lib.hid (by rw [hA]; exact HO.out)
        rw [← hA]
        have HAN := Lib.hid hAn
        clear hown hb hun hA hAn htb HO hul
        cases tb
        · have hb2 : bits .and .i64 ((hd : Int) / 2 ^ k) 1 = 0 := by rw [hbit]; rfl
          clear hbit
          go_wp2
          go_roundw
          case rel => exact ⟨k + 1, a, c, by omega, by go_num, by rw [HAN.out]; rfl, by rw [HAN.out]; exact HO3.out, HB.out⟩
          case measure => simp [intOf]; omega
        · have hb2 : bits .and .i64 ((hd : Int) / 2 ^ k) 1 = 1 := by rw [hbit]; rfl
          have hszc : w.heap.size ≤ wr.heap.size := HB.out.size
          have b63 : A.length + 1 ≤ maxLen := by unfold maxLen; omega
          have b47 : (A.length + 1) * 24 ≤ 140737488355328 := by omega
          clear hbit
          go_wp2_with (at_builtin; refine wpList_append_own _ rfl _ _ 29 rfl w.heap.size 41 i0 (.agg #[.int .i64 0, .int .i64 0, .bool false]) 3 24 Try.underlying29 hi hy0 hy1 hy2 rfl (by decide) _ _ _ rfl (HO3.out.alloc _) ⟨wr.heap.size, 0, none⟩ 1 1 [.int .i64 time, .int .i64 k, .bool false] rfl rfl ?c1 ?c2 b63 b47 ?c5 ?_)
          try (case c1 => exact news_of_new)
          case c2 => first | (refine ⟨rfl, rfl, rfl⟩) | (intro u hu; simp at hu; rcases hu with rfl | rfl | rfl <;> rfl)
          case c5 => first | omega | (simp; omega)
          · intro v' w6 hown1 hgrow _
            obtain ⟨a', c', rfl⟩ := owns_shape hown1
            have HB6 := Lib.hid ((HB.out.alloc (by omega) (.cells #[.int .i64 time, .int .i64 (k : Int), .bool false] 41)).grown hgrow (by simp; omega) (fun q hq => by have := (HO3.out.lt q hq).1; omega))
            have HO6 := Lib.hid hown1
            clear hown1 hgrow
            go_wp2
            go_roundw
            case rel =>
              refine ⟨k + 1, a', c', by omega, by go_num, by rw [HAN.out]; simp, ?_, HB6.out⟩
              rw [HAN.out]
              simp only [if_true]
              rw [flatEv_snoc]
              simpa using HO6.out
            case measure => simp [intOf]; omega
      · obtain rfl : k = 32 := by omega
        have hA : l ++ upsN hd time 32 = relV l time := by rw [relV, HHD.out]
        rw [hA] at hown ⊢
        obtain ⟨A, hAd⟩ : ∃ A, A = relV l time := ⟨_, rfl⟩
        rw [← hAd] at hown ⊢
        have hal : A.length ≤ maxLen := by rw [hAd, ← hA, List.length_append]; unfold maxLen; omega
        have HOo := Lib.hid hown
        have HAL := Lib.hid hal
        have HA := Lib.hid hAd
        obtain ⟨ok1, hok1⟩ : ∃ x, x = okEvs l := ⟨_, rfl⟩
        obtain ⟨ok2, hok2⟩ : ∃ x, x = okEvs A := ⟨_, rfl⟩
        obtain ⟨ok3, hok3⟩ : ∃ x, x = inB time 0 1000000 := ⟨_, rfl⟩
        obtain ⟨ok4, hok4⟩ : ∃ x, x = !(decide (0 < l.length) && decide (time < (evD l (l.length - 1)).t)) := ⟨_, rfl⟩
        have hrel : relOk l time = (ok1 && (ok2 && (ok3 && ok4))) := by rw [relOk, ← hAd, ← hok1, ← hok2, ← hok3, ← hok4]
        have H1 := Lib.hid hok1
        have H2 := Lib.hid hok2
        have H3 := Lib.hid hok3
        have H4 := Lib.hid hok4
        clear hown hb hA hAd hal hok1 hok2 hok3 hok4 hul HO
        go_wp2_with fail
        refine (specIsEvents_any _ l _ HLL.out (HR0.out.below HB.out)).mono ?_
        rw [← H1.out]
        rintro e w5 ⟨rfl, hb⟩
        have HB5 := Lib.hid (HB.out.trans (hb.mono HB.out.size))
        have HO5 := Lib.hid (owns_below HOo.out hb)
        clear hb
        cases ok1
        · have HNO : Hid (relOk l time = false) := Lib.hid (by rw [hrel]; rfl)
          clear hrel
          go_wp2
          go_ret2
          refine ⟨.slice (some ⟨w5.heap.size, 0, none⟩) 0 0, ?_, ?_, HB5.out.alloc HB5.out.size _⟩
          · rw [HR.out, if_neg (by rw [HNO.out]; simp)]; try rfl
          · rw [HR.out, if_neg (by rw [HNO.out]; simp)]; exact owns_noneN _ _ HB5.out.size
        · go_wp2_with fail
          refine (specIsEvents_any _ A _ HAL.out (RdN.of_owns HO5.out)).mono ?_
          rw [← H2.out]
          rintro e w6 ⟨rfl, hb⟩
          have HB6 := Lib.hid (HB5.out.trans (hb.mono HB5.out.size))
          have HO6 := Lib.hid (owns_below HO5.out hb)
          clear hb
          cases ok2
          · have HNO : Hid (relOk l time = false) := Lib.hid (by rw [hrel]; rfl)
            clear hrel
            go_wp2
            go_ret2
            refine ⟨.slice (some ⟨w6.heap.size, 0, none⟩) 0 0, ?_, ?_, HB6.out.alloc HB6.out.size _⟩
            · rw [HR.out, if_neg (by rw [HNO.out]; simp)]; try rfl
            · rw [HR.out, if_neg (by rw [HNO.out]; simp)]; exact owns_noneN _ _ HB6.out.size
          · go_wp2_with fail
            refine (inB_any time 0 1000000 _).mono ?_
            rw [← H3.out]
            rintro e w0 ⟨rfl, rfl⟩
            cases ok3
            · have HNO : Hid (relOk l time = false) := Lib.hid (by rw [hrel]; rfl)
              clear hrel
              go_wp2
              go_ret2
              refine ⟨.slice (some ⟨w6.heap.size, 0, none⟩) 0 0, ?_, ?_, HB6.out.alloc HB6.out.size _⟩
              · rw [HR.out, if_neg (by rw [HNO.out]; simp)]; try rfl
              · rw [HR.out, if_neg (by rw [HNO.out]; simp)]; exact owns_noneN _ _ HB6.out.size
            · rcases rd_evs HR0.out with ⟨rfl, _⟩ | ⟨b, off, cap1, hpos, hu, hbl, hc⟩
              · have HYES : Hid (relOk [] time = true) := Lib.hid (by rw [hrel, H4.out]; rfl)
                clear hrel
                go_wp2
                go_ret2
                refine ⟨.slice a A.length c, ?_, ?_, HB6.out⟩
                · rw [HR.out, if_pos HYES.out, ← HA.out]; try rfl
                · rw [HR.out, if_pos HYES.out, ← HA.out]; exact HO6.out
              · simp only [Value.slice.injEq] at hu
                obtain ⟨rfl, _, rfl⟩ := hu
                obtain ⟨i, hi⟩ : ∃ i, l.length = i + 1 := ⟨l.length - 1, by omega⟩
                have c0 := (hc i (by omega)).1
                have r0 := (HB6.out.cell (p := ⟨b, off + i * 3, none⟩) hbl).trans c0
                have h4 := H4.out
                rw [show l.length - 1 = i by omega, decide_eq_true hpos, Bool.true_and] at h4
                obtain ⟨et, het⟩ : ∃ x, x = (evD l i).t := ⟨_, rfl⟩
                rw [← het] at r0 h4
                have ei : wrap64 ((l.length : Int) - 1) = (i : Int) := by rw [show (l.length : Int) - 1 = (i : Int) by omega]; exact IntWalk.wrap64_in _ ⟨by omega, by omega⟩
                have ei3 : (l.length : Int) - 1 = (i : Int) := by omega
                have hi0 : (0 : Int) ≤ (i : Int) := by omega
                have hi1 : (i : Int) < (l.length : Int) := by omega
                have hpos' : (0 : Int) < (l.length : Int) := by omega
                have HI := Lib.hid hi
                clear c0 hc het hi
                by_cases hlt4 : time < et
                · rw [decide_eq_true hlt4] at h4
                  have HNO : Hid (relOk l time = false) := Lib.hid (by rw [hrel, h4]; rfl)
                  clear hrel h4
                  go_wp2
                  go_ret2
                  refine ⟨.slice (some ⟨w6.heap.size, 0, none⟩) 0 0, ?_, ?_, HB6.out.alloc HB6.out.size _⟩
                  · rw [HR.out, if_neg (by rw [HNO.out]; simp)]; try rfl
                  · rw [HR.out, if_neg (by rw [HNO.out]; simp)]; exact owns_noneN _ _ HB6.out.size
                · rw [decide_eq_false hlt4] at h4
                  have HYES : Hid (relOk l time = true) := Lib.hid (by rw [hrel, h4]; rfl)
                  clear hrel h4
                  go_wp2
                  go_ret2
                  refine ⟨.slice a A.length c, ?_, ?_, HB6.out⟩
                  · rw [HR.out, if_pos HYES.out, ← HA.out]; try rfl
                  · rw [HR.out, if_pos HYES.out, ← HA.out]; exact HO6.out

end Go.Proofs.Ytkhakelhfnoeoaa
