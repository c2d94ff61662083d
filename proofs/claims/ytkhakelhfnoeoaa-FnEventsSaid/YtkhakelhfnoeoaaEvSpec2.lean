/- DERIVED. The reference's HeldAfter, EventsOf, MasksOf and ReleaseAll, each called with data that reads as known: it returns what a plain function says. -/
import Derived.Test.YtkhakelhfnoeoaaEvSpec
import Derived.Test.YtkhakelhfnoeoaaSeqMath
import Derived.Deep.AppendLies
namespace Go.Proofs.Ytkhakelhfnoeoaa
open Go.RowKit

set_option maxHeartbeats 1000000 in
theorem specHeldAfter_any (v : Value) (l : List Ev) (w : World) (hl : l.length ≤ maxLen) (h : RdN w v l.length (flatEv l)) :
    Calls Try.prog 25 #[v] w fun e w' => e = .returned (.int .i64 (heldV l : Nat)) ∧ Below w.heap.size w w' := by
  obtain ⟨r, hr⟩ : ∃ r, r = heldV l := ⟨_, rfl⟩
  rw [← hr]
  have HRd := Lib.hid h
  have HLL := Lib.hid hl
  unfold maxLen at hl
  rcases rd_evs h with ⟨rfl, a, cap, rfl⟩ | ⟨b, off, cap, hpos, rfl, hlt, hc⟩
  · obtain rfl : r = 0 := by rw [hr, heldV]; split <;> rfl
    clear h hr
    go_enter Try.func25, Try.ntmps25
    go_wp2
    refine wp_loop_rounds 1 ?_
    rw [rounds_succ]
    go_wp2
    go_ret
    exact ⟨rfl, Below.refl _ _⟩
  · have HR := Lib.hid hr
    have HC := Lib.hid hc
    obtain ⟨ok, hok⟩ : ∃ ok, ok = okEvs l := ⟨_, rfl⟩
    have HOK := Lib.hid hok
    clear h hr hc hok
    cases ok
    · obtain rfl : r = 0 := by rw [HR.out, heldV, ← HOK.out]; rfl
      go_enter Try.func25, Try.ntmps25
      go_wp2
      refine wp_loop_rounds 1 ?_
      rw [rounds_succ]
      go_wp2_with fail
      refine (specIsEvents_any _ l _ HLL.out HRd.out).mono ?_
      rw [← HOK.out]
      rintro e w1 ⟨rfl, hb⟩
      have HB := Lib.hid hb
      clear hb
      go_wp2
      go_ret
      exact ⟨rfl, HB.out⟩
    · have hok := HOK.out
      have hokN : okEvN l l.length = true := by
        unfold okEvs at hok
        have := hok.symm
        rw [Bool.and_eq_true] at this
        exact this.1
      have hrN : r = heldN l l.length := by rw [HR.out, heldV, ← hok]; rfl
      have HN := Lib.hid hokN
      have HRN := Lib.hid hrN
      clear hok hokN hrN
      go_enter Try.func25, Try.ntmps25
      go_wp2
      go_loopw [3, 4] (fun p i wr => ∃ j : Nat, j ≤ l.length ∧ i = .int .i64 j ∧ p = .int .i64 (heldN l j : Nat) ∧ Below w.heap.size w wr) (fun _ i _ => l.length - (intOf i).toNat)
      case atStart => exact ⟨0, Nat.zero_le _, rfl, rfl, Below.refl _ _⟩
      case round =>
        obtain ⟨j, hj, rfl, rfl, hb⟩ := hrel
        have hlt32 := heldN_lt (l := l) (n := j) fun i hi => okAt_key (okEvN_at HN.out i (by omega))
        by_cases hlt' : j < l.length
        · obtain ⟨c0, c1, c2⟩ := HC.out j hlt'
          obtain ⟨k0, k31⟩ := okAt_key (okEvN_at HN.out j hlt')
          have hnx : heldN l (j + 1) = heldN l j ^^^ 2 ^ (evD l j).k.toNat := by rw [heldN]
          obtain ⟨ek, hek⟩ : ∃ x, x = (evD l j).k := ⟨_, rfl⟩
          obtain ⟨hd, hhd⟩ : ∃ x, x = heldN l j := ⟨_, rfl⟩
          rw [← hek] at c1 k0 k31 hnx
          rw [← hhd] at hnx hlt32 ⊢
          obtain ⟨kn, rfl⟩ := Int.eq_ofNat_of_zero_le k0
          have hw := wrap64_pow62 (k := kn) (by omega)
          have hp : 2 ^ kn < 2 ^ 32 := Nat.pow_lt_pow_right (by decide) (by omega)
          have hx := xor_nat hd (2 ^ kn) (by omega) (by omega)
          simp only [Int.toNat_natCast] at hnx
          obtain ⟨p, hpd⟩ : ∃ p, p = 2 ^ kn := ⟨_, rfl⟩
          rw [← hpd] at hw hx hnx
          have C1 := Lib.hid c1
          have HNX := Lib.hid hnx
          have HB := Lib.hid hb
          clear c0 c1 c2 hnx hek hhd hpd hp hb
          go_wp2_with fail
          refine (specIsEvents_any _ l _ HLL.out (HRd.out.below HB.out)).mono ?_
          rw [← HOK.out]
          rintro e w1 ⟨rfl, hb1⟩
          have HB1 := Lib.hid (HB.out.trans (hb1.mono HB.out.size))
          have c1 := (HB1.out.cell (p := ⟨b, off + j * 3 + 1, none⟩) hlt).trans C1.out
          clear hb1
          go_wp2
          go_roundw
          case rel => exact ⟨j + 1, by omega, by go_num, by rw [HNX.out], HB1.out⟩
          case measure => simp [intOf]; omega
        · obtain rfl : j = l.length := by omega
          go_wp2
          go_ret
          exact ⟨ret_int (by rw [HRN.out]), hb⟩

theorem allIn_of' {lo hi : Int} {xs : List Int} (h : ∀ i, i < xs.length → inB (xs.getD i 0) lo hi = true) : allIn lo hi xs = true := by
  unfold allIn
  rw [List.all_eq_true]
  intro x hx
  obtain ⟨i, hi, rfl⟩ := List.getElem_of_mem hx
  have := h i hi
  simpa [List.getElem?_eq_getElem hi] using this
/-- The changes of the keys below n from the mask last to the mask z, at the time i. -/
def evAt (last z : Int) (i : Nat) : Nat → List Ev
  | 0 => []
  | k + 1 => if bz z k = bz last k then evAt last z i k else evAt last z i k ++ [⟨i, k, hz z k⟩]
theorem evAt_len (last z : Int) (i n : Nat) : (evAt last z i n).length ≤ n := by
  induction n with
  | zero => exact Nat.le_refl _
  | succ n ih =>
    rw [evAt]
    split
    · omega
    · simp; omega
def evN (zs : List Int) : Nat → List Ev
  | 0 => []
  | j + 1 => evN zs j ++ evAt (prevZ zs j) (zs.getD j 0) j 32
theorem evN_len (zs : List Int) (j : Nat) : (evN zs j).length ≤ j * 32 := by
  induction j with
  | zero => exact Nat.le_refl _
  | succ j ih => rw [evN, List.length_append]; have := evAt_len (prevZ zs j) (zs.getD j 0) j 32; omega
def evsOk (zs : List Int) : Bool := decide (zs.length ≤ 200) && allIn 0 4294967295 zs && decide ((evN zs zs.length).length ≤ 64)
def evsR (zs : List Int) : List Ev × Bool := if evsOk zs = true then (evN zs zs.length, true) else ([], false)
/-- What a function returns that returns events and a Bool. -/
def EvOut (R : List Ev) (b : Bool) (w : World) (e : Ending) (w' : World) : Prop :=
  ∃ u, e = .returned (.tuple #[u, .bool b]) ∧ w'.ownsRow w.heap.size 41 3 u R.length (flatEv R) ∧ Below w.heap.size w w'

set_option maxHeartbeats 4000000 in
set_option maxRecDepth 100000 in
theorem specEventsOf_any (v : Value) (zs : List Int) (w : World) (hl : zs.length ≤ 1048576) (h : Rd w v (zs.map (.int .i64))) :
    Calls Try.prog 26 #[v] w (EvOut (evsR zs).1 (evsR zs).2 w) := by
  obtain ⟨i0, hi, hy0, hy1, hy2⟩ := info_parts info_ev
  have hsh : ∃ a cap, v = .slice a zs.length cap := by obtain ⟨a, cap, hu, _⟩ := h; exact ⟨a, cap, by simpa using hu⟩
  obtain ⟨W, hW⟩ : ∃ W, W = w.alloc (.cells #[] 41) := ⟨_, rfl⟩
  have HB0 := Lib.hid (show Below w.heap.size w W by rw [hW]; exact (Below.refl _ _).alloc (Nat.le_refl _) _)
  have HO0 := Lib.hid (show W.ownsRow w.heap.size 41 3 (.slice (some ⟨w.heap.size, 0, none⟩) 0 0) 0 (flatEv []) by rw [hW]; exact owns_noneN _ _ (Nat.le_refl _))
  have HW := Lib.hid hW
  clear hW
  by_cases h200 : zs.length ≤ 200
  · rcases rd_ints h with ⟨rfl, a, cap, rfl⟩ | ⟨b, off, cap, hpos, rfl, hlt, hc⟩
    · clear h hsh
      go_enter Try.func26, Try.ntmps26
      go_wp2
      rw [← HW.out]
      refine wp_loop_rounds 1 ?_
      rw [rounds_succ]
      go_wp2
      go_ret2
      exact ⟨_, rfl, HO0.out, HB0.out⟩
    · have HC := Lib.hid hc
      clear h hsh hc
      go_enter Try.func26, Try.ntmps26
      go_wp2
      rw [← HW.out]
      go_loopw [4, 5, 6] (fun o p i wr => ∃ (j : Nat) (a : Option Addr) (c : Nat), j ≤ zs.length ∧ i = .int .i64 j ∧ p = .int .i64 (prevZ zs j) ∧ o = .slice a (evN zs j).length c ∧ wr.ownsRow w.heap.size 41 3 (.slice a (evN zs j).length c) (evN zs j).length (flatEv (evN zs j)) ∧ (∀ i, i < j → inB (zs.getD i 0) 0 4294967295 = true) ∧ Below w.heap.size w wr) (fun _ _ i _ => zs.length - (intOf i).toNat)
      case atStart => exact ⟨0, _, _, Nat.zero_le _, rfl, rfl, rfl, HO0.out, fun i hi => by omega, HB0.out⟩
      case round =>
        obtain ⟨j, a, c, hj, rfl, rfl, rfl, hown, hin, hb⟩ := hrel
        by_cases hlt' : j < zs.length
        · have hcell := (hb.cell (p := ⟨b, off + j, none⟩) hlt).trans (HC.out j hlt')
          have hnx : evN zs (j + 1) = evN zs j ++ evAt (prevZ zs j) (zs.getD j 0) j 32 := by rw [evN]
          have hpn : prevZ zs (j + 1) = zs.getD j 0 := rfl
          have hln := evN_len zs j
          obtain ⟨z, hz0⟩ : ∃ z, z = zs.getD j 0 := ⟨_, rfl⟩
          obtain ⟨p, hp0⟩ : ∃ p, p = prevZ zs j := ⟨_, rfl⟩
          obtain ⟨L, hL⟩ : ∃ L, L = evN zs j := ⟨_, rfl⟩
          obtain ⟨ib, hib⟩ : ∃ ib, ib = inB z 0 4294967295 := ⟨_, rfl⟩
          have hin2 : ib = true → ∀ i, i < j + 1 → inB (zs.getD i 0) 0 4294967295 = true := fun h1 i hi => by
            by_cases hij : i = j
            · subst hij; rw [← hz0, ← hib, h1]
            · exact hin i (by omega)
          have hbad : ib = false → evsOk zs = false := fun h1 => by
            unfold evsOk
            rw [allIn_false hlt' (by rw [← hz0, ← hib, h1]), Bool.and_false, Bool.false_and]
          rw [← hz0] at hcell hnx hpn
          rw [← hp0] at hnx ⊢
          rw [← hL] at hnx hln hown ⊢
          have HO := Lib.hid hown
          have HB := Lib.hid hb
          have HNX := Lib.hid hnx
          have HPN := Lib.hid hpn
          have HIB := Lib.hid hib
          have HIN := Lib.hid hin2
          have HBAD := Lib.hid hbad
          have HZ0 := Lib.hid hz0
          clear hown hb hnx hpn hib hin hin2 hbad hz0 hp0 hL
          cases ib
          · go_wp2_with fail
            refine (inB_any z 0 4294967295 _).mono ?_
            rw [← HIB.out]
            rintro e w0 ⟨rfl, rfl⟩
            go_wp2
            go_ret2
            refine ⟨.slice (some ⟨wr.heap.size, 0, none⟩) 0 0, ?_, ?_, HB.out.alloc HB.out.size _⟩
            · unfold evsR; rw [HBAD.out (by trivial)]; rfl
            · unfold evsR; rw [HBAD.out (by trivial)]; exact owns_noneN _ _ HB.out.size
          · go_wp2_with fail
            refine (inB_any z 0 4294967295 _).mono ?_
            rw [← HIB.out]
            rintro e w0 ⟨rfl, rfl⟩
            go_wp2
            obtain ⟨wo, hwo⟩ : ∃ wo : World, wo = wr := ⟨_, rfl⟩
            rw [← hwo]
            rw [← hwo] at HO HB
            clear hcell hwo
            go_loopw [4, 7] (fun o q wr => ∃ (k : Nat) (a : Option Addr) (c : Nat), k ≤ 32 ∧ q = .int .i64 k ∧ o = .slice a (L ++ evAt p z j k).length c ∧ wr.ownsRow w.heap.size 41 3 (.slice a (L ++ evAt p z j k).length c) (L ++ evAt p z j k).length (flatEv (L ++ evAt p z j k)) ∧ Below w.heap.size w wr) (fun _ q _ => 32 - (intOf q).toNat)
            case atStart => exact ⟨0, a, c, by omega, rfl, by simp [evAt], by simpa [evAt] using HO.out, HB.out⟩
            case round =>
              obtain ⟨k, a, c, hk, rfl, rfl, hown, hb⟩ := hrel
              have hcell := (hb.cell (p := ⟨b, off + j, none⟩) hlt).trans (HC.out j hlt')
              rw [← HZ0.out] at hcell
              have HO2 := Lib.hid hown
              have HB2 := Lib.hid hb
              by_cases hk' : k < 32
              · have hbx := bz_xor z p k (by omega)
                have hen : evAt p z j (k + 1) = if bz z k = bz p k then evAt p z j k else evAt p z j k ++ [⟨j, k, hz z k⟩] := by rw [evAt]
                have hal := evAt_len p z j k
                obtain ⟨A, hA⟩ : ∃ A, A = L ++ evAt p z j k := ⟨_, rfl⟩
                have hAn : L ++ evAt p z j (k + 1) = if bz z k = bz p k then A else A ++ [⟨j, k, hz z k⟩] := by
                  rw [hen, hA]; split
                  · rfl
                  · rw [List.append_assoc]
                have hAl : A.length ≤ 6432 := by rw [hA, List.length_append]; omega
                have HO3 : Hid (wr.ownsRow w.heap.size 41 3 (.slice a A.length c) A.length (flatEv A)) := Lib.hid (by rw [hA]; exact HO2.out)
                rw [← hA]
                have HAN := Lib.hid hAn
                unfold bz at hbx
                clear hown hb hen hal hA hAn HO2
                by_cases hzp : bz z k = bz p k
                · rw [show (if bits .and .i64 (z / 2 ^ k) 1 = bits .and .i64 (p / 2 ^ k) 1 then (0 : Int) else 1) = 0 from if_pos hzp] at hbx
                  have HZP := Lib.hid hzp
                  clear hzp
                  go_wp2
                  go_roundw
                  case rel => exact ⟨k + 1, a, c, by omega, by go_num, by rw [HAN.out, if_pos HZP.out], by rw [HAN.out, if_pos HZP.out]; exact HO3.out, HB2.out⟩
                  case measure => simp [intOf]; omega
                · rw [show (if bits .and .i64 (z / 2 ^ k) 1 = bits .and .i64 (p / 2 ^ k) 1 then (0 : Int) else 1) = 1 from if_neg hzp] at hbx
                  have HZP := Lib.hid hzp
                  have hszc : w.heap.size ≤ wr.heap.size := HB2.out.size
                  have b63 : A.length + 1 ≤ maxLen := by unfold maxLen; omega
                  have b47 : (A.length + 1) * 24 ≤ 140737488355328 := by omega
                  obtain ⟨hv, hhv⟩ : ∃ x, x = hz z k := ⟨_, rfl⟩
                  have hbit : bits .and .i64 (z / 2 ^ k) 1 = if hv = true then 1 else 0 := by
                    rw [hhv]; unfold hz
                    rcases bz01 z k with h | h <;> (unfold bz at h ⊢; rw [h]; rfl)
                  rw [← hhv] at HAN
                  clear hzp hhv
                  cases hv
                  · replace hbit : bits .and .i64 (z / 2 ^ k) 1 = 0 := hbit
                    go_wp2_with (at_builtin; refine wpList_append_own _ rfl _ _ 29 rfl w.heap.size 41 i0 (.agg #[.int .i64 0, .int .i64 0, .bool false]) 3 24 Try.underlying29 hi hy0 hy1 hy2 rfl (by decide) _ _ _ rfl (HO3.out.alloc _) ⟨wr.heap.size, 0, none⟩ 1 1 [.int .i64 j, .int .i64 k, .bool false] rfl rfl ?c1 ?c2 b63 b47 ?c5 ?_)
                    case c1 => exact news_of_new
                    case c2 => intro u hu; simp at hu; rcases hu with rfl | rfl | rfl <;> rfl
                    case c5 => simp; omega
                    · intro v' w6 hown1 hgrow _
                      obtain ⟨a', c', rfl⟩ := owns_shape hown1
                      have HB6 := Lib.hid ((HB2.out.alloc (by omega) (.cells #[.int .i64 (j : Int), .int .i64 (k : Int), .bool false] 41)).grown hgrow (by simp; omega) (fun q hq => by have := (HO3.out.lt q hq).1; omega))
                      have HO6 := Lib.hid hown1
                      clear hown1 hgrow
                      go_wp2
                      go_roundw
                      case rel =>
                        refine ⟨k + 1, a', c', by omega, by go_num, by rw [HAN.out, if_neg HZP.out]; simp, ?_, HB6.out⟩
                        rw [HAN.out, if_neg HZP.out, flatEv_snoc]
                        simpa using HO6.out
                      case measure => simp [intOf]; omega
                  · replace hbit : bits .and .i64 (z / 2 ^ k) 1 = 1 := hbit
                    go_wp2_with (at_builtin; refine wpList_append_own _ rfl _ _ 29 rfl w.heap.size 41 i0 (.agg #[.int .i64 0, .int .i64 0, .bool false]) 3 24 Try.underlying29 hi hy0 hy1 hy2 rfl (by decide) _ _ _ rfl (HO3.out.alloc _) ⟨wr.heap.size, 0, none⟩ 1 1 [.int .i64 j, .int .i64 k, .bool true] rfl rfl ?c1 ?c2 b63 b47 ?c5 ?_)
                    case c1 => exact news_of_new
                    case c2 => intro u hu; simp at hu; rcases hu with rfl | rfl | rfl <;> rfl
                    case c5 => simp; omega
                    · intro v' w6 hown1 hgrow _
                      obtain ⟨a', c', rfl⟩ := owns_shape hown1
                      have HB6 := Lib.hid ((HB2.out.alloc (by omega) (.cells #[.int .i64 (j : Int), .int .i64 (k : Int), .bool true] 41)).grown hgrow (by simp; omega) (fun q hq => by have := (HO3.out.lt q hq).1; omega))
                      have HO6 := Lib.hid hown1
                      clear hown1 hgrow
                      go_wp2
                      go_roundw
                      case rel =>
                        refine ⟨k + 1, a', c', by omega, by go_num, by rw [HAN.out, if_neg HZP.out]; simp, ?_, HB6.out⟩
                        rw [HAN.out, if_neg HZP.out, flatEv_snoc]
                        simpa using HO6.out
                      case measure => simp [intOf]; omega
              · obtain rfl : k = 32 := by omega
                clear hown hb
                go_wp2
                go_roundw
                case rel =>
                  refine ⟨j + 1, a, c, by omega, by go_num, by rw [HPN.out], by rw [HNX.out], by rw [HNX.out]; exact HO2.out, HIN.out (by trivial), HB2.out⟩
                case measure => simp [intOf]; omega
        · obtain rfl : j = zs.length := by omega
          have hall : allIn 0 4294967295 zs = true := allIn_of' hin
          have HO := Lib.hid hown
          have HB := Lib.hid hb
          obtain ⟨L, hL⟩ : ∃ L, L = evN zs zs.length := ⟨_, rfl⟩
          rw [← hL]
          have hR : evsR zs = if L.length ≤ 64 then (L, true) else ([], false) := by
            unfold evsR evsOk
            rw [hall, decide_eq_true h200, ← hL]
            by_cases h : L.length ≤ 64 <;> simp [h]
          have HRR := Lib.hid hR
          have HL := Lib.hid hL
          clear hown hb hall hin hR hL
          by_cases h64 : L.length ≤ 64
          · have h64' : ¬ (64 : Int) < (L.length : Int) := by omega
            have h200' : ¬ (200 : Int) < (zs.length : Int) := by omega
            go_wp2
            go_ret2
            refine ⟨.slice a L.length c, ?_, ?_, HB.out⟩
            · rw [HRR.out, if_pos h64]; try rfl
            · rw [HRR.out, if_pos h64, HL.out]; exact HO.out
          · have h64' : (64 : Int) < (L.length : Int) := by omega
            go_wp2
            go_ret2
            refine ⟨.slice (some ⟨wr.heap.size, 0, none⟩) 0 0, ?_, ?_, HB.out.alloc HB.out.size _⟩
            · rw [HRR.out, if_neg h64]; try rfl
            · rw [HRR.out, if_neg h64]; exact owns_noneN _ _ HB.out.size
  · have h200' : (200 : Int) < (zs.length : Int) := by omega
    have hpos : (0 : Int) < (zs.length : Int) := by omega
    have h200'' : ¬ (zs.length : Int) ≤ 200 := by omega
    obtain ⟨a, cap, rfl⟩ := hsh
    have hR : evsR zs = ([], false) := by unfold evsR evsOk; rw [decide_eq_false h200]; rfl
    have HRR := Lib.hid hR
    clear h hR h200
    go_enter Try.func26, Try.ntmps26
    go_wp2
    rw [← HW.out]
    refine wp_loop_rounds 1 ?_
    rw [rounds_succ]
    go_wp2
    go_ret2
    refine ⟨.slice (some ⟨W.heap.size, 0, none⟩) 0 0, ?_, ?_, HB0.out.alloc HB0.out.size _⟩
    · rw [HRR.out]; try rfl
    · rw [HRR.out]; exact owns_noneN _ _ HB0.out.size

end Go.Proofs.Ytkhakelhfnoeoaa
