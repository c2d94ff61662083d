/- DERIVED. The exact laws of FormatEvents and ParseEvents, where the library's table of powers of ten is as its text lays it: each, called with any events or any text, returns true and changes nothing that was there. -/
import Derived.Test.YtkhakelhfnoeoaaDoorEvLawC
import Derived.Test.YtkhakelhfnoeoaaDoorIntsLaw
import Derived.Test.YtkhakelhfnoeoaaDoorEvTexti
import Derived.Test.YtkhakelhfnoeoaaDoorEvParsei
import Derived.Test.YtkhakelhfnoeoaaDoorEvOpen
namespace Go.Proofs.YtkhakelhfnoeoaaDoor
open Go.RowKit

theorem evsP_len (s : ByteArray) : (evsP s).1.length ≤ 1048576 := by
  unfold evsP
  split
  · simp
  · unfold evsT
    split
    · rename_i h
      have : (evsOf (parts s 32)).length = (parts s 32).length := by simp [evsOf]
      show (evsOf (parts s 32)).length ≤ _
      omega
    · simp
theorem specParseEvents_law (s : ByteArray) (R : List Ev) (b : Bool) (w : World) (h : evsP s = (R, b)) (hl : s.size ≤ 1048576) :
    Calls Tryd.prog 19 #[.string s] w (EvOutL R b w) :=
  (specParseEvents_any s w hl).mono fun _ _ hp => by rw [h] at hp; exact evOutL hp
theorem implParseEvents_law (s : ByteArray) (R : List Ev) (b : Bool) (w : World) (h : evsP s = (R, b)) (hl : s.size ≤ 1048576) (ht : Lib.TabIs Tryd.prog w "internal/strconv.uint64pow10" .u64 Lib.pow10Tab) :
    Calls Tryd.prog 8 #[.string s] w (EvOutL R b w) :=
  (implParseEvents_any s w hl ht).mono fun _ _ hp => by rw [h] at hp; exact evOutL hp
theorem marks_rd {w : World} {B n : Nat} {q : Int} {u : Value} {fp : List Nat} (h : OwF w B 30 3 u n (flatEv (marksEv q n)) fp) : RdN w u n (flatEv (marksEv q n)) := h.rd

set_option maxHeartbeats 1000000 in
set_option maxRecDepth 100000 in
theorem lawFormatEvents_walk (a : Option Addr) (n cap : Nat) (l : List Ev) (w : World) (hn : l.length = n) (hm : n ≤ maxLen) (h : RdN w (.slice a n cap) l.length (flatEv l)) (htab : Lib.TabIs Tryd.prog w "internal/strconv.uint64pow10" .u64 Lib.pow10Tab) : Calls Tryd.prog 4 #[.slice a n cap] w fun e w' => e = .returned (.bool true) ∧ Below w.heap.size w w' := by
  subst hn
  have HR := Lib.hid h
  have HM := Lib.hid hm
  have HT := Lib.hid htab
  clear h hm htab
  by_cases hl : l.length ≤ 1048576
  · have hsz : (if (1048576 : Int) < (l.length : Int) then -1 else (1048576 : Int) - (l.length : Int)) = 1048576 - (l.length : Int) := if_neg (by omega)
    have hsz0 : ¬ (1048576 : Int) - (l.length : Int) < 0 := by omega
    have HSZ := Lib.hid hsz
    have HLM := Lib.hid (show l.length ≤ maxLen by unfold maxLen; omega)
    clear hsz
    obtain ⟨r, hR⟩ : ∃ x, evS l = x := ⟨_, rfl⟩
    have HRR := Lib.hid hR
    clear hR
    have HB0 := Lib.hid (Below.refl w.heap.size w)
    go_enter Tryd.func4, Tryd.ntmps4
    go_wp2_with fail
    refine (szEventS_any a l.length cap 1048576 _ (by omega) (by omega) HM.out).mono ?_
    rw [HSZ.out]
    rintro e v0 ⟨rfl, rfl⟩
    go_wp2_with fail
    refine (toEventS_law _ l _ hl (HR.out.below HB0.out)).mono ?_
    rintro e w1 ⟨a1, c1, f1, rfl, h1, hb⟩
    have HB1 := Lib.hid (HB0.out.trans (hb.mono HB0.out.size))
    have HS1 := Lib.hid hb.size
    have Rt := Lib.hid (h1.rng)
    have Ot_1 := Lib.hid h1
    clear hb h1
    go_wp2_with fail
    refine (specFormatEvents_any _ l _ hl Ot_1.out.rd).mono ?_
    rw [HRR.out]
    rintro e w2 ⟨rfl, hb⟩
    have HB2 := Lib.hid (HB1.out.trans (hb.mono HB1.out.size))
    have HS2 := Lib.hid hb.size
    have Ot_2 := Lib.hid (Ot_1.out.below hb)
    clear Ot_1
    clear hb
    go_wp2_with fail
    refine (toEventS_law _ l _ hl (HR.out.below HB2.out)).mono ?_
    rintro e w3 ⟨a2, c2, f2, rfl, h2, hb⟩
    have HB3 := Lib.hid (HB2.out.trans (hb.mono HB2.out.size))
    have HS3 := Lib.hid hb.size
    have Ot_3 := Lib.hid (Ot_2.out.below hb)
    clear Ot_2
    have Rx := Lib.hid (h2.rng)
    have Ox_3 := Lib.hid h2
    clear hb h2
    go_wp2_with fail
    refine (implFormatEvents_any _ l _ HLM.out Ox_3.out.rd (tab_below HT.out HB3.out)).mono ?_
    rw [HRR.out]
    rintro e w4 ⟨rfl, hb⟩
    have HB4 := Lib.hid (HB3.out.trans (hb.mono HB3.out.size))
    have HS4 := Lib.hid hb.size
    have Ot_4 := Lib.hid (Ot_3.out.below hb)
    have Ox_4 := Lib.hid (Ox_3.out.below hb)
    clear Ot_3 Ox_3
    clear hb
    go_wp2_with fail
    refine (toEventS_law _ l _ hl (HR.out.below HB4.out)).mono ?_
    rintro e w5 ⟨a3, c3, f3, rfl, h3, hb⟩
    have HB5 := Lib.hid (HB4.out.trans (hb.mono HB4.out.size))
    have HS5 := Lib.hid hb.size
    have Ot_5 := Lib.hid (Ot_4.out.below hb)
    have Ox_5 := Lib.hid (Ox_4.out.below hb)
    clear Ot_4 Ox_4
    have Ry := Lib.hid (h3.rng)
    have Oy_5 := Lib.hid h3
    clear hb h3
    go_wp2_with fail
    refine (eqEventS_same _ _ l _ (by omega) Ox_5.out.rd Oy_5.out.rd).mono ?_
    rintro e w6 ⟨rfl, hb⟩
    have HB6 := Lib.hid (HB5.out.trans (hb.mono HB5.out.size))
    have HS6 := Lib.hid hb.size
    have Ot_6 := Lib.hid (Ot_5.out.below hb)
    have Ox_6 := Lib.hid (Ox_5.out.below hb)
    have Oy_6 := Lib.hid (Oy_5.out.below hb)
    clear Ot_5 Ox_5 Oy_5
    clear hb
    go_wp2
    go_ret
    exact ⟨rfl, HB6.out⟩
  · have hsz : (if (1048576 : Int) < (l.length : Int) then -1 else (1048576 : Int) - (l.length : Int)) = -1 := if_pos (by omega)
    have HSZ := Lib.hid hsz
    clear hsz hl
    have HB0 := Lib.hid (Below.refl w.heap.size w)
    go_enter Tryd.func4, Tryd.ntmps4
    go_wp2_with fail
    refine (szEventS_any a l.length cap 1048576 _ (by omega) (by omega) HM.out).mono ?_
    rw [HSZ.out]
    rintro e v0 ⟨rfl, rfl⟩
    go_wp2
    go_ret
    exact ⟨rfl, HB0.out⟩

set_option maxHeartbeats 1000000 in
set_option maxRecDepth 100000 in
theorem lawParseEvents_walk (s : ByteArray) (w : World) (htab : Lib.TabIs Tryd.prog w "internal/strconv.uint64pow10" .u64 Lib.pow10Tab) : Calls Tryd.prog 5 #[.string s] w fun e w' => e = .returned (.bool true) ∧ Below w.heap.size w w' := by
  have HT := Lib.hid htab
  clear htab
  by_cases hl : s.size ≤ 1048576
  · obtain ⟨⟨R, b⟩, hR⟩ : ∃ x, evsP s = x := ⟨_, rfl⟩
    have hR' := evsP_len s
    rw [hR] at hR'
    replace hR' : R.length ≤ 1048576 := hR'
    have HRR := Lib.hid hR
    clear hR
    have HB0 := Lib.hid (Below.refl w.heap.size w)
    go_enter Tryd.func5, Tryd.ntmps5
    go_wp2_with fail
    refine (specParseEvents_law s R b _ HRR.out hl).mono ?_
    rintro e w1 ⟨a1, c1, f1, rfl, h1, hb⟩
    have HB1 := Lib.hid (HB0.out.trans (hb.mono HB0.out.size))
    have HS1 := Lib.hid hb.size
    have Rw := Lib.hid (h1.rng)
    have Ow_1 := Lib.hid h1
    clear hb h1
    go_wp2_with fail
    refine (implParseEvents_law s R b _ HRR.out hl (tab_below HT.out HB1.out)).mono ?_
    rintro e w2 ⟨a2, c2, f2, rfl, h2, hb⟩
    have HB2 := Lib.hid (HB1.out.trans (hb.mono HB1.out.size))
    have HS2 := Lib.hid hb.size
    have Ow_2 := Lib.hid (Ow_1.out.below hb)
    clear Ow_1
    have Rg := Lib.hid (h2.rng)
    have Og_2 := Lib.hid h2
    clear hb h2
    go_wp2_with fail
    refine (eqEventS_same _ _ R _ (by omega) Og_2.out.rd Ow_2.out.rd).mono ?_
    rintro e w3 ⟨rfl, hb⟩
    have HB3 := Lib.hid (HB2.out.trans (hb.mono HB2.out.size))
    have HS3 := Lib.hid hb.size
    have Ow_3 := Lib.hid (Ow_2.out.below hb)
    have Og_3 := Lib.hid (Og_2.out.below hb)
    clear Ow_2 Og_2
    clear hb
    go_wp2_with fail
    refine (markEventS_law _ _ R _ 1 _ (by omega) (by omega) (by omega) Og_3.out).mono ?_
    rintro e w4 ⟨rfl, ho, ht⟩
    have HB4 := Lib.hid (HB3.out.trans (ht.below (fun b hb => by have := Rg.out b hb; have := HB1.out.size; omega) HB3.out.size))
    have HS4 := Lib.hid ht.size
    have Ow_4 := Lib.hid (Ow_3.out.turn ht (fun b hb hb' => by have := Rg.out b hb'; have := Rw.out b hb; omega))
    have Og_4 := Lib.hid ho
    clear ho ht Ow_3 Og_3
    have hR := hR'
    go_wp2_with fail
    refine (heldEventS_any _ R.length 1 _ hR (by omega) (by omega) (marks_rd Og_4.out)).mono ?_
    rintro e v0 ⟨rfl, rfl⟩
    go_wp2_with fail
    refine (implParseEvents_law s R b _ HRR.out hl (tab_below HT.out HB4.out)).mono ?_
    rintro e w5 ⟨a3, c3, f3, rfl, h3, hb⟩
    have HB5 := Lib.hid (HB4.out.trans (hb.mono HB4.out.size))
    have HS5 := Lib.hid hb.size
    have Ow_5 := Lib.hid (Ow_4.out.below hb)
    have Og_5 := Lib.hid (Og_4.out.below hb)
    clear Ow_4 Og_4
    have Rh := Lib.hid (h3.rng)
    have Oh_5 := Lib.hid h3
    clear hb h3
    go_wp2_with fail
    refine (eqEventS_same _ _ R _ (by omega) Oh_5.out.rd Ow_5.out.rd).mono ?_
    rintro e w6 ⟨rfl, hb⟩
    have HB6 := Lib.hid (HB5.out.trans (hb.mono HB5.out.size))
    have HS6 := Lib.hid hb.size
    have Ow_6 := Lib.hid (Ow_5.out.below hb)
    have Og_6 := Lib.hid (Og_5.out.below hb)
    have Oh_6 := Lib.hid (Oh_5.out.below hb)
    clear Ow_5 Og_5 Oh_5
    clear hb
    go_wp2_with fail
    refine (heldEventS_any _ R.length 1 _ hR (by omega) (by omega) (marks_rd Og_6.out)).mono ?_
    rintro e v0 ⟨rfl, rfl⟩
    go_wp2
    go_ret
    exact ⟨rfl, HB6.out⟩
  · have hl' : (1048576 : Int) < (s.size : Int) := by omega
    clear hl
    go_enter Tryd.func5, Tryd.ntmps5
    go_wp2
    go_ret
    exact ⟨rfl, Below.refl _ _⟩

end Go.Proofs.YtkhakelhfnoeoaaDoor
