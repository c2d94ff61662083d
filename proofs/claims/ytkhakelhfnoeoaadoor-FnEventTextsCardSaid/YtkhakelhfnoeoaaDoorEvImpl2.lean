/- DERIVED. The program's IsEvents and HeldAfter, and the changes between two masks: each returns what a plain function says. -/
import Derived.Test.YtkhakelhfnoeoaaDoorEvFol
namespace Go.Proofs.YtkhakelhfnoeoaaDoor
open Go.RowKit

theorem implIsEvents_any (v : Value) (l : List Ev) (w : World) (hl : l.length ≤ maxLen) (h : RdN w v l.length (flatEv l)) :
    Calls Tryd.prog 27 #[v] w fun e w' => e = .returned (.bool (okEvs l)) ∧ Below w.heap.size w w' := by
  have HR := Lib.hid h
  clear h
  go_enter Tryd.func27, Tryd.ntmps27
  go_wp2_with fail
  refine (followEvents_any _ l _ hl HR.out).mono ?_
  rintro e w1 ⟨rfl, hb⟩
  go_wp2
  go_ret
  exact ⟨rfl, hb⟩
theorem implHeldAfter_any (v : Value) (l : List Ev) (w : World) (hl : l.length ≤ maxLen) (h : RdN w v l.length (flatEv l)) :
    Calls Tryd.prog 13 #[v] w fun e w' => e = .returned (.int .i64 (heldV l : Nat)) ∧ Below w.heap.size w w' := by
  have HR := Lib.hid h
  clear h
  go_enter Tryd.func13, Tryd.ntmps13
  go_wp2_with fail
  refine (followEvents_any _ l _ hl HR.out).mono ?_
  rintro e w1 ⟨rfl, hb⟩
  go_wp2
  go_ret
  exact ⟨rfl, hb⟩

theorem hz_ne {z p : Int} {k : Nat} (h : ¬ bz z k = bz p k) : hz z k = !hz p k := by
  unfold hz
  rcases bz01 z k with h1 | h1 <;> rcases bz01 p k with h2 | h2 <;> rw [h1, h2] at h ⊢ <;> first | rfl | exact absurd rfl h

set_option maxHeartbeats 4000000 in
set_option maxRecDepth 100000 in
theorem changesBetween_any (p z : Int) (i : Nat) (w : World) :
    Calls Tryd.prog 32 #[.int .i64 p, .int .i64 z, .int .i64 i] w fun e w' => ∃ u, e = .returned u ∧ w'.ownsRow w.heap.size 30 3 u (evAt p z i 32).length (flatEv (evAt p z i 32)) ∧ Below w.heap.size w w' := by
  obtain ⟨i0, hi, hy0, hy1, hy2⟩ := info_parts info_ev
  go_enter Tryd.func32, Tryd.ntmps32
  go_wp2
  go_loopw [7, 9] (fun o q wr => ∃ (k : Nat) (a : Option Addr) (c : Nat), k ≤ 32 ∧ q = .int .i64 k ∧ o = .slice a (evAt p z i k).length c ∧ wr.ownsRow w.heap.size 30 3 (.slice a (evAt p z i k).length c) (evAt p z i k).length (flatEv (evAt p z i k)) ∧ Below w.heap.size w wr) (fun _ q _ => 32 - (intOf q).toNat)
  case atStart => exact ⟨0, none, 0, by omega, rfl, rfl, World.ownsRow_nil _ _ _ _, Below.refl _ _⟩
  case round =>
    obtain ⟨k, a, c, hk, rfl, rfl, hown, hb⟩ := hrel
    have HO := Lib.hid hown
    have HB := Lib.hid hb
    clear hown hb
    by_cases hk' : k < 32
    · have hx := hz_xor p z k (by omega)
      have hen : evAt p z i (k + 1) = if bz z k = bz p k then evAt p z i k else evAt p z i k ++ [⟨i, k, hz z k⟩] := by rw [evAt]
      have hal := evAt_len p z i k
      obtain ⟨A, hA⟩ : ∃ A, A = evAt p z i k := ⟨_, rfl⟩
      rw [← hA] at hen hal ⊢
      have HO3 : Hid (wr.ownsRow w.heap.size 30 3 (.slice a A.length c) A.length (flatEv A)) := Lib.hid (by rw [hA]; exact HO.out)
      clear hA HO
      by_cases hzp : bz z k = bz p k
      · rw [if_pos hzp] at hen
        rw [decide_eq_true hzp.symm] at hx
        have HN := Lib.hid hen
        have HX := Lib.hid hx
        clear hen hx hzp
        go_wp2_with fail
        refine (hasKey_any (bits .xor .i64 p z) k _ (by omega)).mono ?_
        rw [HX.out]
        rintro e w0 ⟨rfl, rfl⟩
        go_wp2
        go_roundw
        case rel => exact ⟨k + 1, a, c, by omega, by go_num, by rw [HN.out], by rw [HN.out]; exact HO3.out, HB.out⟩
        case measure => simp [intOf]; omega
      · have hv := hz_ne hzp
        rw [if_neg hzp] at hen
        rw [decide_eq_false (fun h => hzp h.symm)] at hx
        obtain ⟨v, hvv⟩ : ∃ v, v = hz z k := ⟨_, rfl⟩
        rw [← hvv] at hen hv
        have HN := Lib.hid hen
        have HX := Lib.hid hx
        have HV := Lib.hid hv
        have hszc : w.heap.size ≤ wr.heap.size := HB.out.size
        have b63 : A.length + 1 ≤ maxLen := by unfold maxLen; omega
        have b47 : (A.length + 1) * 24 ≤ 140737488355328 := by omega
        clear hen hx hzp hv hvv
        go_wp2_with fail
        refine (hasKey_any (bits .xor .i64 p z) k _ (by omega)).mono ?_
        rw [HX.out]
        rintro e w0 ⟨rfl, rfl⟩
        go_wp2_with fail
        refine (changeOf_r p k i v HV.out (by omega) _).mono ?_
        rintro e w1 ⟨rfl, hb1⟩
        have HB1 := Lib.hid (HB.out.trans (hb1.mono HB.out.size))
        have HO4 := Lib.hid (owns_below HO3.out hb1)
        have hszc1 : w.heap.size ≤ w1.heap.size := HB1.out.size
        clear hb1
        go_wp2_with (at_builtin; refine wpList_append_own _ rfl _ _ 24 rfl w.heap.size 30 i0 (.agg #[.int .i64 0, .int .i64 0, .bool false]) 3 24 Tryd.underlying24 hi hy0 hy1 hy2 rfl (by decide) _ _ _ rfl (HO4.out.alloc _) ⟨w1.heap.size, 0, none⟩ 1 1 [.int .i64 i, .int .i64 k, .bool v] rfl rfl ?c1 ?c2 b63 b47 ?c5 ?_)
        case c1 => exact news_of_new
        case c2 => intro u hu; simp at hu; rcases hu with rfl | rfl | rfl <;> rfl
        case c5 => simp; omega
        · intro v' w6 hown1 hgrow _
          obtain ⟨a', c', rfl⟩ := owns_shape hown1
          have HB6 := Lib.hid ((HB1.out.alloc (by omega) (.cells #[.int .i64 (i : Int), .int .i64 (k : Int), .bool v] 30)).grown hgrow (by simp; omega) (fun q hq => by have := (HO4.out.lt q hq).1; omega))
          have HO6 := Lib.hid hown1
          clear hown1 hgrow
          go_wp2
          go_roundw
          case rel =>
            refine ⟨k + 1, a', c', by omega, by go_num, by rw [HN.out]; simp, ?_, HB6.out⟩
            rw [HN.out, flatEv_snoc]
            simpa using HO6.out
          case measure => simp [intOf]; omega
    · obtain rfl : k = 32 := by omega
      go_wp2
      go_ret
      exact ⟨_, rfl, HO.out, HB.out⟩

end Go.Proofs.YtkhakelhfnoeoaaDoor
