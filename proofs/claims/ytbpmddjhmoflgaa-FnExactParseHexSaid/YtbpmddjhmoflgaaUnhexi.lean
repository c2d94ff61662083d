/- DERIVED. The program's ParseHex, called with any text of at most 1048576 bytes: the bytes that it tells, or none. -/
import Derived.Test.YtbpmddjhmoflgaaUnhex
namespace Go.Proofs.Ytbpmddjhmoflgaa
open Go.RowKit

theorem owns_iterAt {w : World} {B e size n : Nat} {v : Value} {xs : List Value} {k : Nat} {s : ByteArray} {pos : Nat} (h : w.ownsRow B e size v n xs) (hk : w.heap[k]? = some (.stringIter s pos)) (p : Nat) : (w.iterAt k s p).ownsRow B e size v n xs := by
  obtain ⟨h1, h2⟩ := h
  refine ⟨h1, ?_⟩
  rcases h2 with h2 | ⟨g, cap, cur, hv, hg, hh, r⟩
  · exact .inl h2
  · refine .inr ⟨g, cap, cur, hv, hg, ?_, r⟩
    have hne : g ≠ k := by intro e; rw [e, hk] at hh; cases hh
    rw [Lib.iterAt_other w k g s p hne]; exact hh
theorem owns_ne_iter {w : World} {B e size n : Nat} {v : Value} {xs : List Value} {k : Nat} {s : ByteArray} {pos : Nat} (h : w.ownsRow B e size v n xs) (hk : w.heap[k]? = some (.stringIter s pos)) : some k ≠ v.ownBlock := by
  intro e
  rcases h.2 with ⟨rfl, _⟩ | ⟨g, cap, cur, rfl, hg, hh, r⟩
  · simp [Value.ownBlock] at e
  · simp [Value.ownBlock] at e
    subst e
    rw [hk] at hh; cases hh

set_option maxHeartbeats 2000000 in
theorem implParseHex_any (s : ByteArray) (w : World) (hl : s.size ≤ 1048576) :
    Calls Try.prog 24 #[.string s] w (Unhexed w.heap.size s w) := by
  have hq : (s.size : Int).tmod 2 = (s.size : Int) % 2 := Int.tmod_eq_emod_of_nonneg (by omega)
  by_cases hodd : s.size % 2 = 1
  · have h1 : ((s.size : Int) % 2 == 0) = false := by simp; omega
    have h1' : ((s.size : Int) % 2 != 0) = true := by simp; omega
    have HO := Lib.hid hodd
    clear hodd
    go_enter Try.func24, Try.ntmps24
    go_wp2
    go_ret2
    exact unhexed_no (hexOk_odd HO.out) (World.ownsRow_nil _ _ _ _) (Below.refl _ _)
  · have h1 : ((s.size : Int) % 2 == 0) = true := by simp; omega
    have h1' : ((s.size : Int) % 2 != 0) = false := by simp; omega
    by_cases hbig : 4000 < s.size
    · have h2 : (4000 : Int) < s.size := by omega
      have HO := Lib.hid hodd
      clear hodd
      go_enter Try.func24, Try.ntmps24
      go_wp2
      go_ret2
      exact unhexed_no (hexOk_big hbig) (World.ownsRow_nil _ _ _ _) (Below.refl _ _)
    · have h2 : ¬ (4000 : Int) < s.size := by omega
      have HO := Lib.hid hodd
      clear hodd
      obtain ⟨i0, hi, hz0, hz1, hz2⟩ := info_parts info_u8
      go_enter Try.func24, Try.ntmps24
      go_wp2_with (at_make; refine wpList_make_own w rfl _ _ 22 rfl w.heap.size 5 i0 (.int .u8 0) 1 Try.underlying22 hi hz0 hz1 .i64 .i64 _ (s.size / 2) rfl rfl (by simp) (made_bound hz2 (by omega)) ?_ ?_ ?_)
      · simp [maxLen]; omega
      · intro w1 hown hg
        have hb1 : Below w.heap.size w w1 := (Below.refl _ _).grown hg (Nat.le_refl _) (fun k hk => by cases hk)
        have HO1 := Lib.hid hown
        have HB1 := Lib.hid hb1
        clear hown hb1 hg
        go_wp2
        have hK : w.heap.size ≤ w1.heap.size := HB1.out.size
        have hi0 : (w1.iter s 0).heap[w1.heap.size]? = some (.stringIter s 0) := World.iter_heap w1 s 0
        have HI0 := Lib.hid hi0
        clear hi0
        go_loopw [4, 5] (fun u hv wr => ∃ (pos k : Nat) (x : Int), hv = .int .i64 x ∧ -1 ≤ x ∧ x < 16 ∧ pos ≤ s.size ∧ k = pos / 2 ∧ (pos % 2 = 1 → x = digVal 16 (bt s (pos - 1))) ∧ (∀ j, j < pos → 0 ≤ digVal 16 (bt s j)) ∧ wr.heap[w1.heap.size]? = some (.stringIter s pos) ∧ wr.ownsRow w.heap.size 5 1 u k ((pairs s k).map (.int .u8)) ∧ Below w.heap.size w wr)
          (fun _ _ wr => s.size - wr.iterPos w1.heap.size)
        case atStart => exact ⟨0, 0, 0, rfl, by omega, by omega, Nat.zero_le _, rfl, fun h => by omega, fun j hj => by omega, HI0.out, HO1.out.alloc _, HB1.out.alloc hK _⟩
        case round =>
          obtain ⟨pos, k, x, rfl, x1, x2, hps, hkp, hodd, hok, hit, hown, hb⟩ := hrel
          have hmeas : wr.iterPos w1.heap.size = pos := by simp [World.iterPos, hit]
          have HK := Lib.hid hkp
          have HP := Lib.hid hodd
          have HOK := Lib.hid hok
          have HI := Lib.hid hit
          have HW := Lib.hid hown
          have HBB := Lib.hid hb
          have HM := Lib.hid hmeas
          have hsz : w1.heap.size < wr.heap.size := (Array.getElem?_eq_some_iff.1 hit).1
          clear hkp hodd hok hit hown hb hmeas HO1 HB1 HI0
          by_cases hp : pos < s.size
          · have hbel := Lib.hid (Lib.below_iterAt HBB.out (k := w1.heap.size) hK s (pos + (Utf8.decode s pos).2))
            have hown2 := Lib.hid (owns_iterAt HW.out HI.out (pos + (Utf8.decode s pos).2))
            have hit2 := Lib.hid (Lib.iterAt_heap wr w1.heap.size s pos (pos + (Utf8.decode s pos).2) HI.out)
            have hle := decode_le s pos
            have hnx : ∀ ty, (Instr.next (.pointer (some ⟨w1.heap.size, 0, none⟩)) true ty).run Try.prog wr = _ := fun ty => Lib.run_next_any_at wr w1.heap.size s pos ty HI.out hp
            rcases decode_at s pos hp with ⟨c1, hd⟩ | ⟨c1, c2⟩
            · rw [hd] at hbel hown2 hit2 hnx hle
              simp only [] at hbel hown2 hit2
              simp only [bt_nat] at hnx
              obtain ⟨b1, b2⟩ := bt_bound s pos
              obtain ⟨y, hy⟩ : ∃ y, y = digVal 16 (bt s pos) := ⟨_, rfl⟩
              have y2 : y < 16 := by rw [hy]; exact digVal_lt _ _ (by omega)
              have HD := Lib.hid hd
              clear hd hle
              by_cases hy0 : y < 0
              · have hr := digRes_no (b := 16) (c := bt s pos) (by rw [← hy]; exact hy0)
                have HR := Lib.hid hr
                have HY := Lib.hid hy
                clear hr hy
                go_wp2_with fail
                refine (digitValue_any (bt s pos) 16 _ b1 (by omega) (by omega) (by omega)).mono ?_
                rw [HR.out]
                rintro e w2 ⟨rfl, rfl⟩
                go_wp2
                go_ret2
                exact unhexed_no (hexOk_bad pos hp (by rw [← HY.out]; exact hy0)) (World.ownsRow_nil _ _ _ _) hbel.out
              · have hr := digRes_yes (b := 16) (c := bt s pos) (by rw [← hy]; exact hy0)
                rw [← hy] at hr
                have HR := Lib.hid hr
                have HY := Lib.hid hy
                have pq : (pos : Int).tmod 2 = (pos : Int) % 2 := Int.tmod_eq_emod_of_nonneg (by omega)
                clear hr hy
                go_wp2_with fail
                refine (digitValue_any (bt s pos) 16 _ b1 (by omega) (by omega) (by omega)).mono ?_
                rw [HR.out]
                rintro e w2 ⟨rfl, rfl⟩
                by_cases hpar : pos % 2 = 0
                · have p1 : ((pos : Int) % 2 == 0) = true := by simp; omega
                  have HPP := Lib.hid hpar
                  clear hpar
                  go_wp2
                  go_roundw
                  case rel =>
                    refine ⟨pos + 1, k, y, rfl, by omega, by omega, by omega, by have := HK.out; have := HPP.out; omega, fun _ => HY.out, fun j hj => ?_, hit2.out, hown2.out, hbel.out⟩
                    by_cases j1 : j = pos
                    · subst j1; rw [← HY.out]; omega
                    · exact HOK.out j (by omega)
                  case measure => rw [HM.out]; simp [World.iterPos, hit2.out]; omega
                · have p1 : ((pos : Int) % 2 == 0) = false := by simp; omega
                  have HPP := Lib.hid hpar
                  have HX := Lib.hid (HP.out (by omega))
                  have x0 : 0 ≤ x := by rw [HX.out]; exact HOK.out _ (by omega)
                  clear hpar
                  have b63 : k + 1 ≤ maxLen := by have := HK.out; unfold maxLen; omega
                  have b47 : (k + 1) * 1 ≤ 140737488355328 := by have := HK.out; omega
                  have hsz2 : (wr.iterAt w1.heap.size s (pos + 1)).heap.size = wr.heap.size := Lib.iterAt_size _ _ _ _
                  have HS2 := Lib.hid hsz2
                  clear hsz2
                  go_wp2_with (at_builtin; refine wpList_append_own _ rfl _ _ 22 rfl w.heap.size 5 i0 (.int .u8 0) 1 1 Try.underlying22 hi hz0 hz1 hz2 rfl (by decide) _ _ _ rfl (hown2.out.alloc _) ⟨(wr.iterAt w1.heap.size s (pos + 1)).heap.size, 0, none⟩ 1 1 [.int .u8 (16 * x + y)] rfl rfl ?c1 ?c2 b63 b47 ?c5 ?_)
                  case c1 => exact cell_one_new _ _ _
                  case c2 => intro u hu; simp at hu; subst hu; rfl
                  case c5 => rw [World.size_alloc, HS2.out]; omega
                  · intro v' w3 hown3 hgrow _
                    have hK3 : w.heap.size ≤ (wr.iterAt w1.heap.size s (pos + 1)).heap.size := by rw [HS2.out]; omega
                    have hb3 := (hbel.out.alloc hK3 _).grown hgrow (by rw [World.size_alloc]; omega) (fun j hj => (hown2.out.lt j hj).1)
                    have hit3 : w3.heap[w1.heap.size]? = some (.stringIter s (pos + 1)) := by
                      rw [hgrow.block w1.heap.size (by rw [World.size_alloc, HS2.out]; omega) (owns_ne_iter hown2.out hit2.out), Below.heap_alloc _ _ _ (by rw [HS2.out]; omega)]
                      exact hit2.out
                    have HG := Lib.hid hown3
                    have HB3 := Lib.hid hb3
                    have HI3 := Lib.hid hit3
                    clear hown3 hgrow hb3 hit3
                    go_wp2
                    go_roundw
                    case rel =>
                      refine ⟨pos + 1, k + 1, x, rfl, x1, x2, by omega, by have := HK.out; have := HPP.out; omega, fun h => by have := HPP.out; omega, fun j hj => ?_, HI3.out, ?_, HB3.out⟩
                      · by_cases j1 : j = pos
                        · subst j1; rw [← HY.out]; omega
                        · exact HOK.out j (by omega)
                      · have e1 : 2 * k = pos - 1 := by have := HK.out; have := HPP.out; omega
                        have e2 : 2 * k + 1 = pos := by have := HK.out; have := HPP.out; omega
                        rw [pairs_succ, List.map_append, e1, ← HX.out]
                        rw [show pos - 1 + 1 = pos from by omega, ← HY.out]
                        exact HG.out
                    case measure => rw [HM.out]; simp [World.iterPos, HI3.out]; omega
            · have hr := digRes_no (b := 16) (c := (Utf8.decode s pos).1) (by rw [digVal_high 16 _ (by omega) (by omega)]; omega)
              have hbad := hexOk_bad pos hp (by rw [digVal_high 16 _ (by omega) c1]; omega)
              obtain ⟨r, hrd⟩ : ∃ r, r = (Utf8.decode s pos).1 := ⟨_, rfl⟩
              rw [← hrd] at hr hnx hle
              have HR := Lib.hid hr
              have HY := Lib.hid hbad
              have HZ := Lib.hid hrd
              clear hr hbad hrd c2
              go_wp2_with fail
              refine (digitValue_any (r : Int) 16 _ (by omega) (by omega) (by omega) (by omega)).mono ?_
              rw [HR.out]
              rintro e w2 ⟨rfl, rfl⟩
              go_wp2
              go_ret2
              exact unhexed_no HY.out (World.ownsRow_nil _ _ _ _) hbel.out
          · have he : pos = s.size := by omega
            have hyes := hexOk_yes (s := s) (by have := HO.out; omega) (by omega) (by rw [← he]; exact HOK.out)
            have HW2 := Lib.hid (by have e := HK.out; rw [he] at e; rw [← e]; exact HW.out : wr.ownsRow w.heap.size 5 1 u4 (s.size / 2) ((pairs s (s.size / 2)).map (.int .u8)))
            have HD := Lib.hid hyes
            have hnx : ∀ ty, (Instr.next (.pointer (some ⟨w1.heap.size, 0, none⟩)) true ty).run Try.prog wr = _ := fun ty => Lib.run_next_end_at wr w1.heap.size s pos ty HI.out hp
            clear hyes he
            go_wp2
            go_ret2
            exact unhexed_yes HD.out HW2.out HBB.out
end Go.Proofs.Ytbpmddjhmoflgaa
