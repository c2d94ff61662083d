/- DERIVED. The law of FormatHex: called with any slice of bytes, the law's function returns true and changes nothing that was there. -/
import Derived.Test.YtbpmddjhmoflgaaHexi
namespace Go.Proofs.Ytbpmddjhmoflgaa
open Go.RowKit

theorem wf_u8 {n : Int} (h : (Lit.int .u8 n).wf = true) : 0 ≤ n ∧ n < 256 := by
  simp [Lit.wf, IntKind.min, IntKind.max, IntKind.signed, IntKind.bits] at h
  omega

set_option maxHeartbeats 400000 in
theorem lawFormatHex_walk (a : Option Addr) (len cap : Nat) (zs : List Int) (w : World) (hlen : zs.length = len) (hz : ∀ z ∈ zs, (Lit.int .u8 z).wf = true) (h : Rd w (.slice a len cap) (zs.map (.int .u8))) :
    Calls Try.prog 6 #[.slice a len cap] w fun e w' => e = .returned (.bool true) ∧ Below w.heap.size w w' := by
  have hz' : ∀ z ∈ zs, 0 ≤ z ∧ z < 256 := fun z m => wf_u8 (hz z m)
  clear hz
  by_cases hbig : (1048576 : Int) < len
  · go_enter Try.func6, Try.ntmps6
    go_wp2
    go_ret
    exact ⟨rfl, Below.refl _ _⟩
  · have hl : zs.length ≤ 1048576 := by omega
    have HL := Lib.hid hlen
    have HZ := Lib.hid hz'
    have HR := Lib.hid h
    clear hlen hz' h
    go_enter Try.func6, Try.ntmps6
    go_wp2_with fail
    refine (toByteS_any _ zs _ hl HR.out).mono ?_
    rintro e w1 ⟨u1, rfl, ho1, hb1⟩
    have HO1 := Lib.hid (Rd.of_owns ho1)
    have HB1 := Lib.hid hb1
    clear ho1 hb1
    go_wp2_with fail
    refine (specFormatHex_any _ zs _ hl HZ.out HO1.out).mono ?_
    rintro e w2 ⟨rfl, hb2⟩
    have HB2 := Lib.hid (HB1.out.trans (hb2.mono HB1.out.size))
    clear hb2
    go_wp2_with fail
    refine (toByteS_any _ zs _ hl (HR.out.below HB2.out)).mono ?_
    rintro e w3 ⟨u3, rfl, ho3, hb3⟩
    have HO3 := Lib.hid (Rd.of_owns ho3)
    have HB3 := Lib.hid (HB2.out.trans (hb3.mono HB2.out.size))
    clear ho3 hb3
    go_wp2_with fail
    refine (implFormatHex_any _ zs _ hl HZ.out HO3.out).mono ?_
    rintro e w4 ⟨rfl, hb4⟩
    have HO4 := Lib.hid (HO3.out.below hb4)
    have HB4 := Lib.hid (HB3.out.trans (hb4.mono HB3.out.size))
    clear hb4
    go_wp2_with fail
    refine (toByteS_any _ zs _ hl (HR.out.below HB4.out)).mono ?_
    rintro e w5 ⟨u5, rfl, ho5, hb5⟩
    have HO5 := Lib.hid (Rd.of_owns ho5)
    have HP := Lib.hid (HO4.out.below hb5)
    have HB5 := Lib.hid (HB4.out.trans (hb5.mono HB4.out.size))
    clear ho5 hb5
    go_wp2_with fail
    refine (eqByteS_any _ _ zs zs _ (by omega) HP.out HO5.out).mono ?_
    rintro e w6 ⟨rfl, n6, rfl⟩
    have hd : decide (zs = zs) = true := by simp
    go_wp2
    go_ret
    exact ⟨rfl, below_drewN HB5.out _⟩
end Go.Proofs.Ytbpmddjhmoflgaa
