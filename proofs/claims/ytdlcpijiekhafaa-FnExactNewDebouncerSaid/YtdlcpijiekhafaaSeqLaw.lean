/- DERIVED. The exact laws of chapter 3 on lists of masks: each, called with any list and any numbers, returns true and changes nothing that was there. -/
import Derived.Test.YtdlcpijiekhafaaDebLawC
namespace Go.Proofs.Ytdlcpijiekhafaa
open Go.RowKit

theorem below_post {P : Program} {f : FuncId} {args : Array Value} {w : World} {v : Value} (h : Calls P f args w fun e w' => e = .returned v ∧ ∃ n, w' = w.drewN n) : Calls P f args w fun e w' => e = .returned v ∧ Below w.heap.size w w' :=
  h.mono fun _ _ ⟨he, n, hn⟩ => ⟨he, by rw [hn]; exact below_drewN (Below.refl _ _) n⟩

set_option maxHeartbeats 1000000 in
set_option maxRecDepth 100000 in
theorem lawLastStable_walk (a : Option Addr) (n cap : Nat) (zs : List Int) (time key : Int) (w : World) (hn : zs.length = n) (h : Rd w (.slice a n cap) (zs.map (.int .i64))) : Calls Try.prog 10 #[.slice a n cap, .int .i64 time, .int .i64 key] w fun e w' => e = .returned (.bool true) ∧ Below w.heap.size w w' := by
  subst hn
  have HR := Lib.hid h
  clear h
  by_cases hl : zs.length ≤ 1048576
  · obtain ⟨r, hr⟩ : ∃ x, x = stableV zs time key := ⟨_, rfl⟩
    have Hr := Lib.hid hr
    clear hr
    obtain ⟨o, ho⟩ : ∃ x, x = stableB zs time key := ⟨_, rfl⟩
    have Ho := Lib.hid ho
    clear ho
    have HB0 := Lib.hid (Below.refl w.heap.size w)
    go_enter Try.func10, Try.ntmps10
    go_wp2_with fail
    refine (toIntS_law _ zs _ hl (HR.out.below HB0.out)).mono ?_
    rintro e w1 ⟨a1, c1, f1, rfl, h1, hb⟩
    have HB1 := Lib.hid (HB0.out.trans (hb.mono HB0.out.size))
    have HS1 := Lib.hid hb.size
    have Rt := Lib.hid (h1.range _ _ _ _)
    have Ot_1 := Lib.hid h1
    clear hb h1
    go_wp2_with fail
    refine (below_post (specLastStable_any (.slice a1 zs.length c1) zs time key _ hl (owC_rd Ot_1.out))).mono ?_
    rw [← Hr.out, ← Ho.out]
    rintro e w2 ⟨rfl, hb⟩
    have HB2 := Lib.hid (HB1.out.trans (hb.mono HB1.out.size))
    have HS2 := Lib.hid hb.size
    have Ot_2 := Lib.hid (Ot_1.out.below hb)
    clear Ot_1
    clear hb
    go_wp2_with fail
    refine (toIntS_law _ zs _ hl (HR.out.below HB2.out)).mono ?_
    rintro e w3 ⟨a2, c2, f2, rfl, h2, hb⟩
    have HB3 := Lib.hid (HB2.out.trans (hb.mono HB2.out.size))
    have HS3 := Lib.hid hb.size
    have Ot_3 := Lib.hid (Ot_2.out.below hb)
    clear Ot_2
    have Rx := Lib.hid (h2.range _ _ _ _)
    have Ox_3 := Lib.hid h2
    clear hb h2
    go_wp2_with fail
    refine (implLastStable_any (.slice a2 zs.length c2) zs time key _ hl (owC_rd Ox_3.out)).mono ?_
    rw [← Hr.out, ← Ho.out]
    rintro e v0 ⟨rfl, rfl⟩
    go_wp2_with fail
    refine (toIntS_law _ zs _ hl (HR.out.below HB3.out)).mono ?_
    rintro e w4 ⟨a3, c3, f3, rfl, h3, hb⟩
    have HB4 := Lib.hid (HB3.out.trans (hb.mono HB3.out.size))
    have HS4 := Lib.hid hb.size
    have Ot_4 := Lib.hid (Ot_3.out.below hb)
    have Ox_4 := Lib.hid (Ox_3.out.below hb)
    clear Ot_3 Ox_3
    have Ry := Lib.hid (h3.range _ _ _ _)
    have Oy_4 := Lib.hid h3
    clear hb h3
    go_wp2_with fail
    refine (below_post (eqIntS_same (.slice a2 zs.length c2) (.slice a3 zs.length c3) zs _ (by omega) (owC_rd Ox_4.out) (owC_rd Oy_4.out))).mono ?_
    rintro e w5 ⟨rfl, hb⟩
    have HB5 := Lib.hid (HB4.out.trans (hb.mono HB4.out.size))
    have HS5 := Lib.hid hb.size
    have Ot_5 := Lib.hid (Ot_4.out.below hb)
    have Ox_5 := Lib.hid (Ox_4.out.below hb)
    have Oy_5 := Lib.hid (Oy_4.out.below hb)
    clear Ot_4 Ox_4 Oy_4
    clear hb
    go_wp2
    go_ret
    exact ⟨rfl, HB5.out⟩
  · have hl' : (1048576 : Int) < (zs.length : Int) := by omega
    clear hl
    go_enter Try.func10, Try.ntmps10
    go_wp2
    go_ret
    exact ⟨rfl, Below.refl _ _⟩

set_option maxHeartbeats 1000000 in
set_option maxRecDepth 100000 in
theorem lawCountChanges_walk (a : Option Addr) (n cap : Nat) (zs : List Int) (key : Int) (w : World) (hn : zs.length = n) (h : Rd w (.slice a n cap) (zs.map (.int .i64))) : Calls Try.prog 11 #[.slice a n cap, .int .i64 key] w fun e w' => e = .returned (.bool true) ∧ Below w.heap.size w w' := by
  subst hn
  have HR := Lib.hid h
  clear h
  by_cases hl : zs.length ≤ 1048576
  · obtain ⟨r, hr⟩ : ∃ x, x = countV zs key := ⟨_, rfl⟩
    have Hr := Lib.hid hr
    clear hr
    have HB0 := Lib.hid (Below.refl w.heap.size w)
    go_enter Try.func11, Try.ntmps11
    go_wp2_with fail
    refine (toIntS_law _ zs _ hl (HR.out.below HB0.out)).mono ?_
    rintro e w1 ⟨a1, c1, f1, rfl, h1, hb⟩
    have HB1 := Lib.hid (HB0.out.trans (hb.mono HB0.out.size))
    have HS1 := Lib.hid hb.size
    have Rt := Lib.hid (h1.range _ _ _ _)
    have Ot_1 := Lib.hid h1
    clear hb h1
    go_wp2_with fail
    refine (specCountChanges_any (.slice a1 zs.length c1) zs key _ hl (owC_rd Ot_1.out)).mono ?_
    rw [← Hr.out]
    rintro e v0 ⟨rfl, rfl⟩
    go_wp2_with fail
    refine (toIntS_law _ zs _ hl (HR.out.below HB1.out)).mono ?_
    rintro e w2 ⟨a2, c2, f2, rfl, h2, hb⟩
    have HB2 := Lib.hid (HB1.out.trans (hb.mono HB1.out.size))
    have HS2 := Lib.hid hb.size
    have Ot_2 := Lib.hid (Ot_1.out.below hb)
    clear Ot_1
    have Rx := Lib.hid (h2.range _ _ _ _)
    have Ox_2 := Lib.hid h2
    clear hb h2
    go_wp2_with fail
    refine (implCountChanges_any (.slice a2 zs.length c2) zs key _ hl (owC_rd Ox_2.out)).mono ?_
    rw [← Hr.out]
    rintro e w3 ⟨rfl, hb⟩
    have HB3 := Lib.hid (HB2.out.trans (hb.mono HB2.out.size))
    have HS3 := Lib.hid hb.size
    have Ot_3 := Lib.hid (Ot_2.out.below hb)
    have Ox_3 := Lib.hid (Ox_2.out.below hb)
    clear Ot_2 Ox_2
    clear hb
    go_wp2_with fail
    refine (toIntS_law _ zs _ hl (HR.out.below HB3.out)).mono ?_
    rintro e w4 ⟨a3, c3, f3, rfl, h3, hb⟩
    have HB4 := Lib.hid (HB3.out.trans (hb.mono HB3.out.size))
    have HS4 := Lib.hid hb.size
    have Ot_4 := Lib.hid (Ot_3.out.below hb)
    have Ox_4 := Lib.hid (Ox_3.out.below hb)
    clear Ot_3 Ox_3
    have Ry := Lib.hid (h3.range _ _ _ _)
    have Oy_4 := Lib.hid h3
    clear hb h3
    go_wp2_with fail
    refine (below_post (eqIntS_same (.slice a2 zs.length c2) (.slice a3 zs.length c3) zs _ (by omega) (owC_rd Ox_4.out) (owC_rd Oy_4.out))).mono ?_
    rintro e w5 ⟨rfl, hb⟩
    have HB5 := Lib.hid (HB4.out.trans (hb.mono HB4.out.size))
    have HS5 := Lib.hid hb.size
    have Ot_5 := Lib.hid (Ot_4.out.below hb)
    have Ox_5 := Lib.hid (Ox_4.out.below hb)
    have Oy_5 := Lib.hid (Oy_4.out.below hb)
    clear Ot_4 Ox_4 Oy_4
    clear hb
    go_wp2
    go_ret
    exact ⟨rfl, HB5.out⟩
  · have hl' : (1048576 : Int) < (zs.length : Int) := by omega
    clear hl
    go_enter Try.func11, Try.ntmps11
    go_wp2
    go_ret
    exact ⟨rfl, Below.refl _ _⟩

set_option maxHeartbeats 1000000 in
set_option maxRecDepth 100000 in
theorem lawIsSpaced_walk (a : Option Addr) (n cap : Nat) (zs : List Int) (key m : Int) (w : World) (hn : zs.length = n) (h : Rd w (.slice a n cap) (zs.map (.int .i64))) : Calls Try.prog 12 #[.slice a n cap, .int .i64 key, .int .i64 m] w fun e w' => e = .returned (.bool true) ∧ Below w.heap.size w w' := by
  subst hn
  have HR := Lib.hid h
  clear h
  by_cases hl : zs.length ≤ 1048576
  · obtain ⟨r, hr⟩ : ∃ x, x = spacedV zs key m := ⟨_, rfl⟩
    have Hr := Lib.hid hr
    clear hr
    have HB0 := Lib.hid (Below.refl w.heap.size w)
    go_enter Try.func12, Try.ntmps12
    go_wp2_with fail
    refine (toIntS_law _ zs _ hl (HR.out.below HB0.out)).mono ?_
    rintro e w1 ⟨a1, c1, f1, rfl, h1, hb⟩
    have HB1 := Lib.hid (HB0.out.trans (hb.mono HB0.out.size))
    have HS1 := Lib.hid hb.size
    have Rt := Lib.hid (h1.range _ _ _ _)
    have Ot_1 := Lib.hid h1
    clear hb h1
    go_wp2_with fail
    refine (specIsSpaced_any (.slice a1 zs.length c1) zs key m _ hl (owC_rd Ot_1.out)).mono ?_
    rw [← Hr.out]
    rintro e v0 ⟨rfl, rfl⟩
    go_wp2_with fail
    refine (toIntS_law _ zs _ hl (HR.out.below HB1.out)).mono ?_
    rintro e w2 ⟨a2, c2, f2, rfl, h2, hb⟩
    have HB2 := Lib.hid (HB1.out.trans (hb.mono HB1.out.size))
    have HS2 := Lib.hid hb.size
    have Ot_2 := Lib.hid (Ot_1.out.below hb)
    clear Ot_1
    have Rx := Lib.hid (h2.range _ _ _ _)
    have Ox_2 := Lib.hid h2
    clear hb h2
    go_wp2_with fail
    refine (implIsSpaced_any (.slice a2 zs.length c2) zs key m _ hl (owC_rd Ox_2.out)).mono ?_
    rw [← Hr.out]
    rintro e w3 ⟨rfl, hb⟩
    have HB3 := Lib.hid (HB2.out.trans (hb.mono HB2.out.size))
    have HS3 := Lib.hid hb.size
    have Ot_3 := Lib.hid (Ot_2.out.below hb)
    have Ox_3 := Lib.hid (Ox_2.out.below hb)
    clear Ot_2 Ox_2
    clear hb
    go_wp2_with fail
    refine (toIntS_law _ zs _ hl (HR.out.below HB3.out)).mono ?_
    rintro e w4 ⟨a3, c3, f3, rfl, h3, hb⟩
    have HB4 := Lib.hid (HB3.out.trans (hb.mono HB3.out.size))
    have HS4 := Lib.hid hb.size
    have Ot_4 := Lib.hid (Ot_3.out.below hb)
    have Ox_4 := Lib.hid (Ox_3.out.below hb)
    clear Ot_3 Ox_3
    have Ry := Lib.hid (h3.range _ _ _ _)
    have Oy_4 := Lib.hid h3
    clear hb h3
    go_wp2_with fail
    refine (below_post (eqIntS_same (.slice a2 zs.length c2) (.slice a3 zs.length c3) zs _ (by omega) (owC_rd Ox_4.out) (owC_rd Oy_4.out))).mono ?_
    rintro e w5 ⟨rfl, hb⟩
    have HB5 := Lib.hid (HB4.out.trans (hb.mono HB4.out.size))
    have HS5 := Lib.hid hb.size
    have Ot_5 := Lib.hid (Ot_4.out.below hb)
    have Ox_5 := Lib.hid (Ox_4.out.below hb)
    have Oy_5 := Lib.hid (Oy_4.out.below hb)
    clear Ot_4 Ox_4 Oy_4
    clear hb
    go_wp2
    go_ret
    exact ⟨rfl, HB5.out⟩
  · have hl' : (1048576 : Int) < (zs.length : Int) := by omega
    clear hl
    go_enter Try.func12, Try.ntmps12
    go_wp2
    go_ret
    exact ⟨rfl, Below.refl _ _⟩

end Go.Proofs.Ytdlcpijiekhafaa
