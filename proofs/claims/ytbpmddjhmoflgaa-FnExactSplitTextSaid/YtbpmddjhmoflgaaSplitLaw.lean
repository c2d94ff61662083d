/- DERIVED. The law of SplitText: called with any text and any byte, the law's function returns true and changes nothing that was there. -/
import Derived.Test.YtbpmddjhmoflgaaSplit
import Derived.Test.YtbpmddjhmoflgaaMark
namespace Go.Proofs.Ytbpmddjhmoflgaa
open Go.RowKit

set_option maxHeartbeats 1000000 in
theorem lawSplitText_walk (s : ByteArray) (c : Int) (w : World) :
    Calls Try.prog 4 #[.string s, .int .u8 c] w fun e w' => e = .returned (.bool true) ∧ Below w.heap.size w w' := by
  by_cases hbig : (1048576 : Int) < s.size
  · go_enter Try.func4, Try.ntmps4
    go_wp2
    go_ret
    exact ⟨rfl, Below.refl _ _⟩
  · have hl : s.size ≤ 1048576 := by omega
    obtain ⟨zs, hzs⟩ : ∃ zs, zs = parts s c := ⟨_, rfl⟩
    have hlen : zs.length ≤ 1048577 := by rw [hzs]; have := parts_len s c; omega
    have HZ := Lib.hid hzs
    clear hzs
    go_enter Try.func4, Try.ntmps4
    go_wp2_with fail
    refine (specSplit_any s c _ hl).mono ?_
    rintro e w1 ⟨v0, rfl, ho, hb⟩
    rw [← HZ.out] at ho
    have R0 := Lib.hid (Rd.of_owns ho)
    have HB1 := Lib.hid hb
    clear ho hb
    go_wp2_with fail
    refine (implSplit_any s c _ hl).mono ?_
    rintro e w2 ⟨g0, rfl, ho, hb⟩
    rw [← HZ.out] at ho
    have OG := Lib.hid ho
    have RG := Lib.hid (Rd.of_owns ho)
    have B2 := Lib.hid hb
    clear ho hb
    go_wp2_with fail
    refine (eqStringS_any _ _ zs zs _ (by omega) RG.out (R0.out.below B2.out)).mono ?_
    rintro e w3 ⟨rfl, m3, rfl⟩
    have hd : decide (zs = zs) = true := by simp
    go_wp2_with fail
    refine (markStringS_one w1.heap.size g0 zs.length _ (w2.drewN m3) (by omega) B2.out.size (show (w2.drewN m3).ownsRow w1.heap.size 9 1 g0 zs.length _ from OG.out)).mono ?_
    rintro e w4 ⟨rfl, ho4, hb4⟩
    have RM := Lib.hid (Rd.of_owns ho4)
    have B4 := Lib.hid ((below_drewN B2.out m3).trans hb4)
    clear ho4 hb4
    go_wp2_with fail
    refine (heldStringS_one g0 zs.length _ (by omega) RM.out).mono ?_
    rintro e w5 ⟨rfl, hb5⟩
    have RM5 := Lib.hid (RM.out.below hb5)
    have B5 := Lib.hid (B4.out.trans (hb5.mono B4.out.size))
    clear hb5
    go_wp2_with fail
    refine (implSplit_any s c _ hl).mono ?_
    rintro e w6 ⟨h0, rfl, ho, hb⟩
    rw [← HZ.out] at ho
    have RH := Lib.hid (Rd.of_owns ho)
    have RM6 := Lib.hid (RM5.out.below hb)
    have B6 := Lib.hid (B5.out.trans (hb.mono B5.out.size))
    clear ho hb
    go_wp2_with fail
    refine (eqStringS_any _ _ zs zs _ (by omega) RH.out (R0.out.below B6.out)).mono ?_
    rintro e w7 ⟨rfl, m7, rfl⟩
    go_wp2_with fail
    refine (heldStringS_one g0 zs.length (w6.drewN m7) (by omega) (show Rd (w6.drewN m7) g0 _ from RM6.out)).mono ?_
    rintro e w8 ⟨rfl, hb8⟩
    have B8 := Lib.hid ((below_drewN B6.out m7).trans (hb8.mono (show w1.heap.size ≤ w6.heap.size from B6.out.size)))
    clear hb8
    go_wp2
    go_ret
    exact ⟨rfl, HB1.out.trans (B8.out.mono HB1.out.size)⟩
end Go.Proofs.Ytbpmddjhmoflgaa
