/- DERIVED. The program's ParseInt and the law, called with any text, where the library's table of powers of ten is as its text lays it. -/
import Derived.Test.YticpfciebpdkdaaDoorParseInt
namespace Go.Proofs.YticpfciebpdkdaaDoor
open Go.RowKit

theorem dig10 (c : Int) : (48 ≤ c ∧ c ≤ 57 ∧ digVal 10 c = c - 48) ∨ (¬ (48 ≤ c ∧ c ≤ 57) ∧ digVal 10 c = -1) := by
  unfold digVal
  by_cases h : 48 ≤ c ∧ c ≤ 57
  · left; exact ⟨h.1, h.2, if_pos h⟩
  · right; exact ⟨h, by rw [if_neg h, if_neg (by omega)]⟩

theorem off_le (s : ByteArray) (pos : Nat) (h : pos = 0 → ¬ isNeg s) : off s ≤ pos := by
  unfold off; split
  · rename_i hn
    rcases Nat.eq_zero_or_pos pos with h0 | h0
    · exact absurd hn (h h0)
    · omega
  · omega

/-- A byte that is no digit, behind the sign. -/
theorem okI_bad {s : ByteArray} (pos : Nat) (h : pos < s.size) (ho : off s ≤ pos) (hb : ¬ (48 ≤ bt s pos ∧ bt s pos ≤ 57)) : okI s = false :=
  okI_no (fun h' => hb (by
    have := h'.2.2.1 (pos - off s) (by omega)
    rw [show off s + (pos - off s) = pos from by omega] at this
    exact this))
/-- A value with more than nine digits. -/
theorem okI_big {s : ByteArray} (pos : Nat) (h : pos < s.size) (ho : off s ≤ pos) (hb : 999999999 < vl s (off s) (pos + 1 - off s)) : okI s = false :=
  okI_no (fun h' => by
    have := vl_nine s (off s) (pos + 1 - off s) (by omega) (fun j hj => h'.2.2.1 j (by omega))
    omega)

set_option maxHeartbeats 4000000 in
theorem implParseInt_any (s : ByteArray) (w : World) (htab : Lib.TabIs Tryd.prog w "internal/strconv.uint64pow10" .u64 Lib.pow10Tab) :
    Calls Tryd.prog 38 #[.string s] w (ParsedInt s w) := by
  have HT := Lib.hid htab
  clear htab
  go_enter Tryd.func38, Tryd.ntmps38
  go_wp2
  go_loopw [4, 5] (fun nv gv wr => ∃ (pos : Nat) (q g : Int), nv = .int .i64 q ∧ gv = .int .i64 g ∧ wr = w.iter s pos ∧ pos ≤ s.size ∧ q = vl s (off s) (pos - off s) ∧ 0 ≤ q ∧ q ≤ 999999999 ∧ digs s (off s) (pos - off s) ∧ g = (if isNeg s ∧ 0 < pos then -1 else 1))
    (fun _ _ wr => s.size - wr.iterPos w.heap.size)
  case atStart => exact ⟨0, 0, 1, rfl, rfl, rfl, Nat.zero_le _, by simp [vl], by omega, by omega, fun j hj => by omega, by simp⟩
  case round =>
    obtain ⟨pos, q, g, rfl, rfl, rfl, hps, hq, q0, q1, hd, hg⟩ := hrel
    have HQ := Lib.hid hq
    have HD := Lib.hid hd
    have HG := Lib.hid hg
    have HBB := Lib.hid (show Below w.heap.size w (w.iter s (pos + (Utf8.decode s pos).2)) from (Below.refl _ _).alloc (Nat.le_refl _) _)
    clear hq hd hg
    by_cases hp : pos < s.size
    · have hle := decode_le s pos
      have hnx : ∀ ty, (Instr.next (.pointer (some ⟨w.heap.size, 0, none⟩)) true ty).run Tryd.prog (w.iter s pos) = _ := fun ty => run_next_any w s pos ty hp
      rcases decode_at s pos hp with ⟨c1, hdec⟩ | ⟨c1, c2⟩
      · rw [hdec] at hnx hle HBB
        simp only [bt_nat] at hnx
        simp only [] at HBB
        obtain ⟨b1, b2⟩ := bt_bound s pos
        obtain ⟨c, hc⟩ : ∃ c, c = bt s pos := ⟨_, rfl⟩
        rw [← hc] at c1 b1 b2 hnx
        have HC := Lib.hid hc
        clear hdec hle hc
        by_cases hsign : pos = 0 ∧ c = 45
        · obtain ⟨rfl, rfl⟩ := hsign
          have hn : isNeg s := ⟨hp, HC.out.symm⟩
          have ho : off s = 1 := by unfold off; rw [if_pos hn]
          have hqz : q = 0 := by rw [HQ.out, ho]; rfl
          have HN := Lib.hid hn
          have HO := Lib.hid ho
          have HQZ := Lib.hid hqz
          clear hn ho hqz
          go_wp2
          go_roundw
          case rel => exact ⟨1, q, -1, rfl, rfl, rfl, by omega, by rw [HQZ.out, HO.out]; rfl, by omega, by omega, fun j hj => by have := HO.out; omega, by rw [if_pos ⟨HN.out, by omega⟩]⟩
          case measure => simp; omega
        · have ho : off s ≤ pos := off_le s pos (fun h0 hn => hsign ⟨h0, by rw [HC.out, h0]; exact hn.2⟩)
          have HO := Lib.hid ho
          have hneg1 : (if isNeg s ∧ 0 < pos then (-1 : Int) else 1) = (if isNeg s ∧ 0 < pos + 1 then -1 else 1) := by
            by_cases hn : isNeg s
            · by_cases h0 : 0 < pos
              · rw [if_pos ⟨hn, h0⟩, if_pos ⟨hn, by omega⟩]
              · exact absurd ⟨by omega, by rw [HC.out, show pos = 0 from by omega]; exact hn.2⟩ hsign
            · rw [if_neg (fun h => hn h.1), if_neg (fun h => hn h.1)]
          have HG1 := Lib.hid hneg1
          have key : ((pos : Int) == 0) = false ∨ (((pos : Int) == 0) = true ∧ (c == 45) = false) := by
            by_cases h0 : pos = 0
            · right; exact ⟨by simp; exact h0, by simp; exact fun h => hsign ⟨h0, h⟩⟩
            · left; simp; exact h0
          clear ho hsign hneg1
          obtain ⟨y, hy⟩ : ∃ y, y = digVal 10 c := ⟨_, rfl⟩
          have hdig := dig10 c
          rw [← hy] at hdig
          have HY := Lib.hid hy
          clear hy
          rcases hdig with ⟨d1, d2, d3⟩ | ⟨d1, d3⟩
          · have hy0 : 0 ≤ y := by omega
            have hy1 : y ≤ 9 := by omega
            have hr := digRes_yes (b := 10) (c := c) (by rw [← HY.out]; omega)
            rw [← HY.out] at hr
            have HR := Lib.hid hr
            have hstep : vl s (off s) (pos + 1 - off s) = 10 * q + y := by
              have := HO.out
              rw [show pos + 1 - off s = (pos - off s) + 1 from by omega, vl, show off s + (pos - off s) = pos from by omega, ← HQ.out, ← HC.out]
              omega
            have HST := Lib.hid hstep
            have hdg : digs s (off s) (pos + 1 - off s) := by
              have := HO.out
              rw [show pos + 1 - off s = (pos - off s) + 1 from by omega]
              refine digs_succ HD.out ?_ ?_
              · rw [show off s + (pos - off s) = pos from by omega, ← HC.out]; exact d1
              · rw [show off s + (pos - off s) = pos from by omega, ← HC.out]; exact d2
            have HDG := Lib.hid hdg
            clear hr hstep hdg d3
            by_cases hbig : 999999999 < 10 * q + y
            · have hno := Lib.hid (okI_big pos hp HO.out (by rw [HST.out]; exact hbig))
              rcases key with p0 | ⟨p0, p1⟩
              all_goals
                go_wp2_with fail
                refine (digitValue_any c 10 _ b1 (by omega) (by omega) (by omega)).mono ?_
                rw [HR.out]
                rintro e w2 ⟨rfl, rfl⟩
                go_wp2
                go_ret2
                exact parsed_no hno.out HBB.out
            · rcases key with p0 | ⟨p0, p1⟩
              all_goals
                go_wp2_with fail
                refine (digitValue_any c 10 _ b1 (by omega) (by omega) (by omega)).mono ?_
                rw [HR.out]
                rintro e w2 ⟨rfl, rfl⟩
                go_wp2
                go_roundw
                case rel => exact ⟨pos + 1, 10 * q + y, g, rfl, rfl, rfl, by omega, by rw [HST.out], by omega, by omega, HDG.out, by rw [HG.out]; exact HG1.out⟩
                case measure => simp; omega
          · have hr := digRes_no (b := 10) (c := c) (by rw [← HY.out]; omega)
            have HR := Lib.hid hr
            have hno := Lib.hid (okI_bad pos hp HO.out (by rw [← HC.out]; exact d1))
            clear hr d1 d3
            rcases key with p0 | ⟨p0, p1⟩
            all_goals
              go_wp2_with fail
              refine (digitValue_any c 10 _ b1 (by omega) (by omega) (by omega)).mono ?_
              rw [HR.out]
              rintro e w2 ⟨rfl, rfl⟩
              go_wp2
              go_ret2
              exact parsed_no hno.out HBB.out
      · obtain ⟨r, hr0⟩ : ∃ r, r = (Utf8.decode s pos).1 := ⟨_, rfl⟩
        rw [← hr0] at hnx hle c2
        have hno := Lib.hid (okI_bad pos hp (off_le s pos (fun h0 hn => by have := hn.2; rw [← h0] at this; omega)) (by omega))
        have hr := digRes_no (b := 10) (c := (r : Int)) (by rw [digVal_high 10 _ (by omega) (by omega)]; omega)
        have HR := Lib.hid hr
        have HZ := Lib.hid hr0
        have p1 : ((r : Int) == 45) = false := by simp; omega
        clear hr hr0 c1
        by_cases h0 : pos = 0
        · have p0 : ((pos : Int) == 0) = true := by simp; exact h0
          clear h0
          go_wp2_with fail
          refine (digitValue_any (r : Int) 10 _ (by omega) (by omega) (by omega) (by omega)).mono ?_
          rw [HR.out]
          rintro e w2 ⟨rfl, rfl⟩
          go_wp2
          go_ret2
          exact parsed_no hno.out HBB.out
        · have p0 : ((pos : Int) == 0) = false := by simp; exact h0
          clear h0
          go_wp2_with fail
          refine (digitValue_any (r : Int) 10 _ (by omega) (by omega) (by omega) (by omega)).mono ?_
          rw [HR.out]
          rintro e w2 ⟨rfl, rfl⟩
          go_wp2
          go_ret2
          exact parsed_no hno.out HBB.out
    · have he : pos = s.size := by omega
      have HB0 := Lib.hid (show Below w.heap.size w (w.iter s pos) from (Below.refl _ _).alloc (Nat.le_refl _) _)
      have HTI := Lib.hid (tab_below HT.out HB0.out)
      have hok := okI_by (s := s) (by rw [← he]; exact HD.out) (by rw [← he, ← HQ.out]; exact q0) (by rw [← he, ← HQ.out]; exact q1)
      have HOK := Lib.hid hok
      have hnx : ∀ ty, (Instr.next (.pointer (some ⟨w.heap.size, 0, none⟩)) true ty).run Tryd.prog (w.iter s pos) = _ := fun ty => run_next_end w s pos ty hp
      have hg2 : (isNeg s ∧ g = -1) ∨ (¬ isNeg s ∧ g = 1) := by
        by_cases hn : isNeg s
        · left; exact ⟨hn, by rw [HG.out, if_pos ⟨hn, by have := hn.1; omega⟩]⟩
        · right; exact ⟨hn, by rw [HG.out, if_neg (fun h => hn h.1)]⟩
      clear hok
      rcases hg2 with ⟨hn, rfl⟩ | ⟨hn, rfl⟩
      · have hsv : -q = sval s := by unfold sval; rw [if_pos hn, ← he, ← HQ.out]
        have HSV := Lib.hid hsv
        clear hsv hn he
        go_wp2_with fail
        refine (implFormatInt_any (-q) (by omega) (by omega) _ HTI.out).mono ?_
        rintro e w1 ⟨rfl, hb1⟩
        have HB1 := Lib.hid (HB0.out.trans (hb1.mono HB0.out.size))
        clear hb1
        by_cases heq : itoaText (-q) = s
        · have hyes : okI s = true := by rw [HOK.out, ← HSV.out]; exact decide_eq_true heq
          have b0 : ((itoaText (-q)).toList == s.toList) = true := by rw [heq]; simp
          have b1 : (!(itoaText (-q)).toList == s.toList) = false := by rw [heq]; simp
          have HYES := Lib.hid hyes
          clear heq hyes
          go_wp2
          go_ret2
          exact parsed_yes HYES.out HSV.out HB1.out
        · have hno : okI s = false := by rw [HOK.out, ← HSV.out]; exact decide_eq_false heq
          have b0 := toList_ne heq
          have b1 : (!(itoaText (-q)).toList == s.toList) = true := by rw [toList_ne heq]; rfl
          have HNO := Lib.hid hno
          clear heq hno
          go_wp2
          go_ret2
          exact parsed_no HNO.out HB1.out
      · have hsv : q = sval s := by unfold sval; rw [if_neg hn, ← he, ← HQ.out]
        have HSV := Lib.hid hsv
        clear hsv hn he
        go_wp2_with fail
        refine (implFormatInt_any (q) (by omega) (by omega) _ HTI.out).mono ?_
        rintro e w1 ⟨rfl, hb1⟩
        have HB1 := Lib.hid (HB0.out.trans (hb1.mono HB0.out.size))
        clear hb1
        by_cases heq : itoaText (q) = s
        · have hyes : okI s = true := by rw [HOK.out, ← HSV.out]; exact decide_eq_true heq
          have b0 : ((itoaText (q)).toList == s.toList) = true := by rw [heq]; simp
          have b1 : (!(itoaText (q)).toList == s.toList) = false := by rw [heq]; simp
          have HYES := Lib.hid hyes
          clear heq hyes
          go_wp2
          go_ret2
          exact parsed_yes HYES.out HSV.out HB1.out
        · have hno : okI s = false := by rw [HOK.out, ← HSV.out]; exact decide_eq_false heq
          have b0 := toList_ne heq
          have b1 : (!(itoaText (q)).toList == s.toList) = true := by rw [toList_ne heq]; rfl
          have HNO := Lib.hid hno
          clear heq hno
          go_wp2
          go_ret2
          exact parsed_no HNO.out HB1.out

end Go.Proofs.YticpfciebpdkdaaDoor
