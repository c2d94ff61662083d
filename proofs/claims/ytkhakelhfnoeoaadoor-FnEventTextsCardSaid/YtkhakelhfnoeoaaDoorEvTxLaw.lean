/- DERIVED. The law FnEventTexts, where the library's table of powers of ten is as its text lays it: called with any slice of bytes, it returns true and changes nothing that was there. -/
import Derived.Test.YtkhakelhfnoeoaaDoorEvTexti
import Derived.Test.YtkhakelhfnoeoaaDoorEvParsei
import Derived.Test.YtkhakelhfnoeoaaDoorIntsLaw
import Derived.Test.YtkhakelhfnoeoaaDoorTextMath
import Derived.Test.YtkhakelhfnoeoaaDoorEvMath
import Derived.Test.YtkhakelhfnoeoaaDoorEvDraw
import Derived.Test.YtkhakelhfnoeoaaDoorBig
import Derived.Test.YtkhakelhfnoeoaaDoorSame
import Derived.Test.YtkhakelhfnoeoaaDoorEvImpl5
import Derived.Deep.DeepCutAuto
import Derived.Deep.RegionHeld3
namespace Go.Proofs.YtkhakelhfnoeoaaDoor
open Go.RowKit

theorem evS_size {l : List Ev} (h : okEvs l = true) : (evS l).size ≤ 1280 := by
  obtain ⟨hl, he⟩ := okEvs_each h
  have hs : ∀ s ∈ l.map evText, s.size ≤ 19 := fun s hs => by
    obtain ⟨e, hm, rfl⟩ := List.mem_map.1 hs
    exact evText_size (he e hm)
  have h1 := jn_le 19 (l.map evText) blank hs (l.map evText).length (Nat.le_refl _)
  have h2 : (blank).size = 1 := rfl
  have h3 : (evS l).size = (jn (l.map evText) blank (l.map evText).length).length := by
    unfold evS evTexts
    rw [if_pos h]
    show (List.toArray _).size = _
    simp
  rw [h3]
  rw [h2, List.length_map] at h1
  rw [List.length_map]
  omega
theorem rdN_take {w : World} {a : Option Addr} {cap cap' : Nat} {l m : List Ev} (h : RdN w (.slice a (l ++ m).length cap) (l ++ m).length (flatEv (l ++ m))) : RdN w (.slice a l.length cap') l.length (flatEv l) := by
  obtain ⟨a', c', hv, h⟩ := h
  simp only [Value.slice.injEq] at hv
  obtain ⟨rfl, _, rfl⟩ := hv
  refine ⟨a, cap', rfl, ?_⟩
  rcases h with h | ⟨b, off, rfl, hlt, hc⟩
  · left
    rw [List.length_append] at h
    omega
  · right
    refine ⟨b, off, rfl, hlt, fun j hj => ?_⟩
    have hf : flatEv (l ++ m) = flatEv l ++ flatEv m := by unfold flatEv; rw [List.flatMap_append]
    have hj2 : j < (flatEv (l ++ m)).length := by rw [hf, List.length_append]; omega
    rw [hc j hj2]
    congr 1
    simp only [hf]
    rw [List.getElem_append_left hj]

set_option maxHeartbeats 4000000 in
set_option maxRecDepth 100000 in
theorem lawEventTexts_walk (a0 : Option Addr) (len cap : Nat) (bs : List Int) (w : World) (hlen : bs.length = len) (hz : ∀ z ∈ bs, (Lit.int .u8 z).wf = true) (h : Rd w (.slice a0 len cap) (bs.map (.int .u8))) (htab : Lib.TabIs Tryd.prog w "internal/strconv.uint64pow10" .u64 Lib.pow10Tab) : Calls Tryd.prog 3 #[.slice a0 len cap] w fun e w' => e = .returned (.bool true) ∧ Below w.heap.size w w' := by
  by_cases hbig : (1048576 : Int) < len
  · go_enter Tryd.func3, Tryd.ntmps3
    go_wp2_with fail
    refine (big_any a0 len cap _).mono ?_
    rw [decide_eq_true hbig]
    rintro e w0 ⟨rfl, rfl⟩
    go_wp2
    go_ret
    exact ⟨rfl, Below.refl _ _⟩
  · have HZ := Lib.hid (fun z (m : z ∈ bs) => wf_byte (hz z m))
    have HL := Lib.hid (show bs.length ≤ 1099511627776 by omega)
    have HR := Lib.hid h
    have HT := Lib.hid htab
    have HBG := Lib.hid (decide_eq_false hbig)
    clear hz hlen h hbig htab
    have HB0 := Lib.hid (Below.refl w.heap.size w)
    go_enter Tryd.func3, Tryd.ntmps3
    go_wp2_with fail
    refine (big_any a0 len cap _).mono ?_
    rw [HBG.out]
    rintro e v0 ⟨rfl, rfl⟩
    go_wp2_with fail
    refine (MakeEvents_draw _ bs 4 6 12 _ HL.out HZ.out HR.out (by decide) (by decide) (by decide) (by decide)).mono ?_
    rintro e w1 ⟨u, l, T, rfl, hlm, hdr, hou, hb⟩
    have hnil : ∀ c, u = .slice none 0 c → c = 0 := fun c hc => by
      rcases hou.2 with ⟨rfl, _⟩ | ⟨g, cap, cur, rfl, _⟩
      · simp at hc; exact hc.symm
      · simp at hc
    obtain ⟨al, cl, rfl⟩ := owns_shape hou
    have HNIL := Lib.hid hnil
    have HB1 := Lib.hid (HB0.out.trans (hb.mono HB0.out.size))
    have HE1 := Lib.hid (RdN.of_owns hou)
    obtain ⟨H, hf⟩ := hdr.fine
    obtain ⟨hok, hhv⟩ := hf.evs (by omega)
    have htl := hdr.low
    have hth := hdr.high
    have hlast := hf.last
    have hl12 : l.length ≤ 12 := by omega
    have hlm2 : l.length ≤ maxLen := by unfold maxLen; omega
    have HOK := Lib.hid hok
    have HLM := Lib.hid hlm2
    have HSZ := Lib.hid (show (evS l).size ≤ 1048576 by have := evS_size hok; omega)
    have HLAST := Lib.hid hlast
    have HTT := Lib.hid (show 0 ≤ T ∧ T ≤ 1212 by omega)
    clear hnil hb hou hdr hf hok hhv htl hth hlast hlm hlm2
    go_wp2_with fail
    refine (implFormatEvents_any _ l _ HLM.out HE1.out (tab_below HT.out HB1.out)).mono ?_
    rintro e w2 ⟨rfl, hb2⟩
    have HB2 := Lib.hid (HB1.out.trans (hb2.mono HB1.out.size))
    have HE2 := Lib.hid (HE1.out.below hb2)
    clear hb2
    go_wp2_with fail
    refine (implParseEvents_any _ _ HSZ.out (tab_below HT.out HB2.out)).mono ?_
    rw [evsP_evS HOK.out]
    rintro e w3 ⟨ux, rfl, hox, hb3⟩
    obtain ⟨ax, cx, rfl⟩ := owns_shape hox
    have HB3 := Lib.hid (HB2.out.trans (hb3.mono HB2.out.size))
    have HE3 := Lib.hid (HE2.out.below hb3)
    have HX3 := Lib.hid (RdN.of_owns hox)
    clear hb3 hox
    have hlok : 0 < l.length → 0 ≤ (evD l (l.length - 1)).t ∧ (evD l (l.length - 1)).t ≤ 1212 := fun hp => by
      have h1 := (okEvs_each' HOK.out).2 (l.length - 1) (by omega)
      have h2 := HLAST.out hp
      have h3 := HTT.out
      exact ⟨(okEv_key h1).1, by omega⟩
    have HLK := Lib.hid hlok
    clear hlok
    go_upto_if 21 with (fail)
    go_cut [6] (fun s6 wx => ∃ E : Int, s6 = .int .i64 E ∧ 0 ≤ E ∧ E ≤ 1000000 ∧ (0 < l.length → (evD l (l.length - 1)).t ≤ E) ∧ Below w3.heap.size w3 wx)
    case first =>
      rcases rd_evs HE3.out with ⟨hn0, _⟩ | ⟨b, off, cap1, hpos, hu, hlt, hc⟩
      · have hl0 : l.length = 0 := by rw [hn0]; rfl
        have hg : decide (0 < l.length) = false := decide_eq_false (by omega)
        have hg' : ¬ (0 : Int) < (l.length : Int) := by omega
        have HL0 := Lib.hid hl0
        clear hl0 hn0
        go_wp2
        go_meet
        exact ⟨0, rfl, by decide, by decide, fun hp => by have := HL0.out; omega, Below.refl _ _⟩
      · simp only [Value.slice.injEq] at hu
        obtain ⟨rfl, _, rfl⟩ := hu
        obtain ⟨n, hn⟩ : ∃ n, l.length = n + 1 := ⟨l.length - 1, by omega⟩
        have hcn := (hc n (by omega)).1
        obtain ⟨q0, q1⟩ := HLK.out hpos
        have en : l.length - 1 = n := by omega
        rw [en] at q0 q1
        obtain ⟨et, het⟩ : ∃ et, et = (evD l n).t := ⟨_, rfl⟩
        rw [← het] at hcn q0 q1
        have HEN := Lib.hid en
        have HET := Lib.hid het
        have hsub : (l.length : Int) - 1 = (n : Int) := by omega
        have ei : IntKind.i64.wrap ((l.length : Int) - 1) = (n : Int) := by rw [hsub]; exact IntWalk.i64_in _ ⟨by omega, by omega⟩
        have ei2 : IntKind.i64.wrap (n : Int) = (n : Int) := IntWalk.i64_in _ ⟨by omega, by omega⟩
        have hnl : n < l.length := by omega
        have hpl : (0 : Int) < (l.length : Int) := by omega
        have hi0 : (0 : Int) ≤ (n : Int) := by omega
        have hi1 : (n : Int) < (l.length : Int) := by omega
        have HR3 := Lib.hid (HR.out.below HB3.out)
        clear hc het hn en
        go_wp2_with fail
        go_region_held3 (fun w' => w'.cell? ⟨b, off + n * 3, none⟩ = some (.int .i64 et)) (first | go_keep)
          (first | (go_at_call 10; refine (MakeNumber_draw _ bs 5 9 _ HL.out HZ.out (HR3.out.below (by first | exact Below.refl _ _ | exact (Below.refl _ _).drew)) (by decide) (by decide)).mono ?_; rintro e v1 ⟨x, rfl, x0, x1, hb1⟩; have hbr : Below w3.heap.size w3 v1 := (by first | exact hb1 | exact ((Below.refl _ _).drew).trans hb1); have hk := (hbr.cell (p := ⟨b, off + n * 3, none⟩) hlt).trans hcn; have hsum : IntKind.i64.wrap (et + x) = et + x := IntWalk.i64_in _ ⟨by omega, by omega⟩; have HBR := Lib.hid hbr; have hX0 := Lib.hid x0; have hX1 := Lib.hid x1; clear hbr hb1))
        all_goals
          go_wp2
          go_meet
          exact ⟨et + x, rfl, by have := hX0.out; omega, by have := hX1.out; omega, fun _ => by rw [HEN.out, ← HET.out]; have := hX0.out; omega, by first | exact HBR.out | exact HBR.out.drew⟩
    case rest =>
      obtain ⟨E, rfl, hE0, hE1, hEl, hb4⟩ := hcut
      have HB4 := Lib.hid (HB3.out.trans (hb4.mono HB3.out.size))
      have HE4 := Lib.hid (HE3.out.below hb4)
      have HX4 := Lib.hid (HX3.out.below hb4)
      have hcn := cntN_le (heldV l) 40
      have hrl := relV_len (l := l) E
      obtain ⟨hr1, hr2⟩ := rel_fine HOK.out hE0 hE1 hEl (by omega)
      obtain ⟨y, hy⟩ : ∃ y, y = relV l E := ⟨_, rfl⟩
      have hyu : ∃ m, y = l ++ m := ⟨_, by rw [hy]; rfl⟩
      obtain ⟨cn, hcc⟩ : ∃ x, x = cntN (heldV l) 40 := ⟨_, rfl⟩
      rw [← hy] at hr1 hr2 hrl
      rw [← hcc] at hrl hcn
      have HY1 := Lib.hid hr1
      have HY2 := Lib.hid hr2
      have HYL := Lib.hid hrl
      have HYU := Lib.hid hyu
      have HCC := Lib.hid hcc
      have HYM := Lib.hid (show y.length ≤ maxLen by unfold maxLen; omega)
      clear hb4 hE0 hE1 hEl hr1 hr2 hrl hy hyu hcc
      go_wp2_with fail
      refine (implReleaseAll_any _ l E _ (by omega) HE4.out HNIL.out).mono ?_
      rw [HY1.out]
      rintro e w5 ⟨uy, rfl, hoy, hb5⟩
      obtain ⟨ay, cy, rfl⟩ := owns_shape hoy
      have HB5 := Lib.hid (HB4.out.trans (hb5.mono HB4.out.size))
      have HE5 := Lib.hid (HE4.out.below hb5)
      have HX5 := Lib.hid (HX4.out.below hb5)
      have HZ5 := Lib.hid (RdN.of_owns hoy)
      replace hoy : w5.ownsRow wc.heap.size 30 3 (.slice ay y.length cy) y.length (flatEv y) := hoy
      have hyc : y.length ≤ cy := by
        rcases hoy.2 with ⟨hu, h0⟩ | ⟨g, cap, cur, hu, _, _, h1, _⟩
        · simp at hu; omega
        · simp at hu; omega
      clear hb5 hoy
      go_wp2_with fail
      refine (below_post (sameEvents_same _ _ l _ (by omega) HX5.out HE5.out)).mono ?_
      rintro e w6 ⟨rfl, hb6⟩
      have HB6 := Lib.hid (HB5.out.trans (hb6.mono HB5.out.size))
      have HE6 := Lib.hid (HE5.out.below hb6)
      have HZ6 := Lib.hid (HZ5.out.below hb6)
      clear hb6
      go_wp2_with fail
      refine (implHeldAfter_any _ y _ HYM.out HZ6.out).mono ?_
      rw [HY2.out]
      rintro e w7 ⟨rfl, hb7⟩
      have HB7 := Lib.hid (HB6.out.trans (hb7.mono HB6.out.size))
      have HE7 := Lib.hid (HE6.out.below hb7)
      have HZ7 := Lib.hid (HZ6.out.below hb7)
      clear hb7
      go_wp2_with fail
      refine (implHeldAfter_any _ l _ HLM.out HE7.out).mono ?_
      rintro e w8 ⟨rfl, hb8⟩
      have HB8 := Lib.hid (HB7.out.trans (hb8.mono HB7.out.size))
      have HE8 := Lib.hid (HE7.out.below hb8)
      have HZ8 := Lib.hid (HZ7.out.below hb8)
      have hv32 := heldV_lt l
      clear hb8
      go_wp2_with fail
      refine (lawsCount_any (heldV l) (by omega) _).mono ?_
      rw [← HCC.out]
      rintro e v8 ⟨rfl, rfl⟩
      have hyl := HYL.out
      have hyl2 : ((y.length : Int) == (l.length : Int) + (cn : Int)) = true := by rw [hyl]; simp
      have hly : (l.length : Int) ≤ (cy : Int) := by omega
      clear hv32
      have hpre : RdN w8 (.slice ay l.length cy) l.length (flatEv l) := by
        obtain ⟨m, hm⟩ := HYU.out
        have hz := HZ8.out
        replace hz : RdN w8 (.slice ay y.length cy) y.length (flatEv y) := hz
        rw [hm] at hz
        exact rdN_take hz
      have HPRE := Lib.hid hpre
      clear hpre
      go_wp2_with fail
      refine (below_post (sameEvents_same _ _ l _ (by omega) HPRE.out HE8.out)).mono ?_
      rintro e w9 ⟨rfl, hb9⟩
      have HB9 := Lib.hid (HB8.out.trans (hb9.mono HB8.out.size))
      clear hb9
      go_wp2
      go_ret
      exact ⟨rfl, HB9.out⟩

end Go.Proofs.YtkhakelhfnoeoaaDoor
