/- DERIVED. The program's formatEvent and FormatEvents, where the library's table of powers of ten is as its text lays it: the text that a plain function says. -/
import Derived.Test.YtkhakelhfnoeoaaDoorEvText
import Derived.Test.YtkhakelhfnoeoaaDoorEvImpl2
import Derived.Test.YtkhakelhfnoeoaaDoorJoini
import Derived.Deep.DeepCutAuto
namespace Go.Proofs.YtkhakelhfnoeoaaDoor
open Go.RowKit

set_option maxHeartbeats 2000000 in
theorem formatEvent_any (t k : Int) (d : Bool) (w : World) (hev : okEv ⟨t, k, d⟩ = true) (htab : Lib.TabIs Tryd.prog w "internal/strconv.uint64pow10" .u64 Lib.pow10Tab) :
    Calls Tryd.prog 28 #[evv t k d] w fun e w' => e = .returned (.string (evText ⟨t, k, d⟩)) ∧ Below w.heap.size w w' := by
  obtain ⟨t0, t1, k0, k1⟩ := okEv_key hev
  have hsz := evText_size hev
  have htx : evText ⟨t, k, d⟩ = itoaText t ++ sgn d ++ itoaText k := rfl
  obtain ⟨r, hr⟩ : ∃ r, r = evText ⟨t, k, d⟩ := ⟨_, rfl⟩
  rw [htx] at hr
  rw [htx, ByteArray.size_append, ByteArray.size_append] at hsz
  have hsg : (sgn d).size = 1 := by unfold sgn; split <;> rfl
  rw [hsg] at hsz
  rw [htx, ← hr]
  have HSZ := Lib.hid hsz
  have HT := Lib.hid htab
  have T0 := Lib.hid (show -9223372036854775808 ≤ t ∧ t ≤ 9223372036854775807 from ⟨by simp only at t0; omega, by simp only at t1; omega⟩)
  have K0 := Lib.hid (show -9223372036854775808 ≤ k ∧ k ≤ 9223372036854775807 from ⟨by simp only at k0; omega, by simp only at k1; omega⟩)
  have HRR := Lib.hid hr
  clear hev hsz htx hsg htab hr t0 t1 k0 k1
  cases d
  · obtain ⟨W, hW⟩ : ∃ W, W = w.alloc (.cells #[.int .i64 t, .int .i64 k, .bool false] 30) := ⟨_, rfl⟩
    have HX0 := Lib.hid (show Bxd W w.heap.size [.int .i64 t, .int .i64 k, .bool false] by rw [hW]; exact Bxd.new _ _ _)
    have HB0 := Lib.hid (show Below w.heap.size w W by rw [hW]; exact (Below.refl _ _).alloc (Nat.le_refl _) _)
    have HS0 := Lib.hid (show w.heap.size < W.heap.size by rw [hW]; simp)
    have HW := Lib.hid hW
    clear hW
    go_enter Tryd.func28, Tryd.ntmps28
    have c0 := HX0.out.at 0 _ rfl
    have c1 := HX0.out.at 1 _ rfl
    have c2 := HX0.out.at 2 _ rfl
    have hadd1 := fun (w : World) => run_string_add_sum (P := Tryd.prog) w (itoaText t) ⟨#[45]⟩ (by have := HSZ.out; have h1 : (⟨#[45]⟩ : ByteArray).size = 1 := rfl; omega)
    have hadd2 := fun (w : World) => run_string_add_sum (P := Tryd.prog) w (itoaText t ++ ⟨#[45]⟩) (itoaText k) (by have := HSZ.out; have h1 : (⟨#[45]⟩ : ByteArray).size = 1 := rfl; rw [ByteArray.size_append]; omega)
    go_wp2
    rw [← HW.out]
    go_region_held3 (fun w' => w'.cell? ⟨w.heap.size, 0, none⟩ = some (.int .i64 t) ∧ w'.cell? ⟨w.heap.size, 1, none⟩ = some (.int .i64 k)) (first | go_keep)
      (first | (go_at_call 45; refine (implFormatInt_any _ (by first | exact T0.out.1 | exact K0.out.1) (by first | exact T0.out.2 | exact K0.out.2) _ (by first | exact tab_below HT.out (HB0.out.trans (hy5.mono HB0.out.size)) | exact tab_below HT.out HB0.out.drew | exact tab_below HT.out HB0.out)).mono ?_; first
        | (rintro e w6 ⟨rfl, hb6⟩; have hy6 : Below W.heap.size W w6 := hy5.trans (hb6.mono hy5.size); have k2 := (hy6.cell (p := ⟨w.heap.size, 0, none⟩) HS0.out).trans c0; have k3 := (hy6.cell (p := ⟨w.heap.size, 1, none⟩) HS0.out).trans c1; clear hb6)
        | (rintro e w5 ⟨rfl, hb5⟩; have hy5 : Below W.heap.size W w5 := ((Below.refl _ _).drew).trans hb5; have k0 := (hy5.cell (p := ⟨w.heap.size, 0, none⟩) HS0.out).trans c0; have k1 := (hy5.cell (p := ⟨w.heap.size, 1, none⟩) HS0.out).trans c1; clear hb5)))
    all_goals
      go_wp2
      go_ret
      exact ⟨by rw [HRR.out]; rfl, HB0.out.trans (hy6.mono HB0.out.size)⟩
  · obtain ⟨W, hW⟩ : ∃ W, W = w.alloc (.cells #[.int .i64 t, .int .i64 k, .bool true] 30) := ⟨_, rfl⟩
    have HX0 := Lib.hid (show Bxd W w.heap.size [.int .i64 t, .int .i64 k, .bool true] by rw [hW]; exact Bxd.new _ _ _)
    have HB0 := Lib.hid (show Below w.heap.size w W by rw [hW]; exact (Below.refl _ _).alloc (Nat.le_refl _) _)
    have HS0 := Lib.hid (show w.heap.size < W.heap.size by rw [hW]; simp)
    have HW := Lib.hid hW
    clear hW
    go_enter Tryd.func28, Tryd.ntmps28
    have c0 := HX0.out.at 0 _ rfl
    have c1 := HX0.out.at 1 _ rfl
    have c2 := HX0.out.at 2 _ rfl
    have hadd1 := fun (w : World) => run_string_add_sum (P := Tryd.prog) w (itoaText t) ⟨#[43]⟩ (by have := HSZ.out; have h1 : (⟨#[43]⟩ : ByteArray).size = 1 := rfl; omega)
    have hadd2 := fun (w : World) => run_string_add_sum (P := Tryd.prog) w (itoaText t ++ ⟨#[43]⟩) (itoaText k) (by have := HSZ.out; have h1 : (⟨#[43]⟩ : ByteArray).size = 1 := rfl; rw [ByteArray.size_append]; omega)
    go_wp2
    rw [← HW.out]
    go_region_held3 (fun w' => w'.cell? ⟨w.heap.size, 0, none⟩ = some (.int .i64 t) ∧ w'.cell? ⟨w.heap.size, 1, none⟩ = some (.int .i64 k)) (first | go_keep)
      (first | (go_at_call 45; refine (implFormatInt_any _ (by first | exact T0.out.1 | exact K0.out.1) (by first | exact T0.out.2 | exact K0.out.2) _ (by first | exact tab_below HT.out (HB0.out.trans (hy5.mono HB0.out.size)) | exact tab_below HT.out HB0.out.drew | exact tab_below HT.out HB0.out)).mono ?_; first
        | (rintro e w6 ⟨rfl, hb6⟩; have hy6 : Below W.heap.size W w6 := hy5.trans (hb6.mono hy5.size); have k2 := (hy6.cell (p := ⟨w.heap.size, 0, none⟩) HS0.out).trans c0; have k3 := (hy6.cell (p := ⟨w.heap.size, 1, none⟩) HS0.out).trans c1; clear hb6)
        | (rintro e w5 ⟨rfl, hb5⟩; have hy5 : Below W.heap.size W w5 := ((Below.refl _ _).drew).trans hb5; have k0 := (hy5.cell (p := ⟨w.heap.size, 0, none⟩) HS0.out).trans c0; have k1 := (hy5.cell (p := ⟨w.heap.size, 1, none⟩) HS0.out).trans c1; clear hb5)))
    all_goals
      go_wp2
      go_ret
      exact ⟨by rw [HRR.out]; rfl, HB0.out.trans (hy6.mono HB0.out.size)⟩

theorem take_set_succ : ∀ (xs : List Value) (j : Nat) (v : Value), j < xs.length → (xs.set j v).take (j + 1) = xs.take j ++ [v]
  | [], _, _, h => by simp at h
  | x :: xs, 0, v, _ => by simp
  | x :: xs, j + 1, v, h => by
    have := take_set_succ xs j v (by simpa using h)
    rw [List.set_cons_succ, List.take_succ_cons, this, List.take_succ_cons, List.cons_append]
theorem made_bound16 {i0 : TypeInfo} {n : Nat} (h : i0.bytes = 16) (hn : n ≤ 1048576) : i0.bytes * n ≤ 281474976710656 := by rw [h]; omega
theorem okEvs_each' {l : List Ev} (h : okEvs l = true) : l.length ≤ 64 ∧ ∀ j, j < l.length → okEv (evD l j) = true := by
  unfold okEvs at h
  rw [Bool.and_eq_true] at h
  refine ⟨of_decide_eq_true h.2, fun j hj => ?_⟩
  have := okEvN_at h.1 j hj
  unfold okAt at this
  rw [Bool.and_eq_true, Bool.and_eq_true] at this
  exact this.1.1

set_option maxHeartbeats 2000000 in
set_option maxRecDepth 100000 in
theorem implFormatEvents_any (v : Value) (l : List Ev) (w : World) (hl : l.length ≤ maxLen) (h : RdN w v l.length (flatEv l)) (htab : Lib.TabIs Tryd.prog w "internal/strconv.uint64pow10" .u64 Lib.pow10Tab) :
    Calls Tryd.prog 9 #[v] w fun e w' => e = .returned (.string (evS l)) ∧ Below w.heap.size w w' := by
  obtain ⟨i0, hi, hz0, hz1, hz2⟩ := info_parts info_str
  have HT := Lib.hid htab
  have HR0 := Lib.hid h
  have HLL := Lib.hid hl
  obtain ⟨ok, hok⟩ : ∃ ok, ok = okEvs l := ⟨_, rfl⟩
  have HOK := Lib.hid hok
  clear htab hok
  cases ok
  · have hr : evS l = ⟨#[]⟩ := by rw [evS, evTexts, ← HOK.out]; rfl
    rw [hr]
    clear hr h
    have HB0 := Lib.hid (Below.refl w.heap.size w)
    go_enter Tryd.func9, Tryd.ntmps9
    go_wp2_with fail
    refine (implIsEvents_any _ l _ HLL.out HR0.out).mono ?_
    rw [← HOK.out]
    rintro e w1 ⟨rfl, hb⟩
    have HB1 := Lib.hid (HB0.out.trans (hb.mono HB0.out.size))
    clear hb
    go_wp2
    go_ret
    exact ⟨rfl, HB1.out⟩
  · obtain ⟨h64, heach⟩ := okEvs_each' HOK.out.symm
    have HEA := Lib.hid heach
    obtain ⟨r, hr⟩ : ∃ r, r = evS l := ⟨_, rfl⟩
    rw [← hr]
    have HRR : Hid (r = joined (l.map evText) blank) := Lib.hid (by rw [hr, evS, evTexts, ← HOK.out]; rfl)
    clear hr heach
    obtain ⟨av, capv, rfl⟩ : ∃ a cap, v = .slice a l.length cap := by obtain ⟨a, cap, hu, _⟩ := h; exact ⟨a, cap, hu⟩
    obtain ⟨N, hN⟩ : ∃ N, N = l.length := ⟨_, rfl⟩
    have HNN := Lib.hid hN
    clear h
    have HB0 := Lib.hid (Below.refl w.heap.size w)
    go_enter Tryd.func9, Tryd.ntmps9
    go_wp2_with fail
    refine (implIsEvents_any _ l _ HLL.out HR0.out).mono ?_
    rw [← HOK.out]
    rintro e w1 ⟨rfl, hb⟩
    have HB1 := Lib.hid (HB0.out.trans (hb.mono HB0.out.size))
    clear hb
    rw [← hN] at h64 ⊢
    clear hN
    go_wp2_with (at_make; refine wpList_make_full _ rfl _ _ 46 rfl w.heap.size 9 i0 (.string ByteArray.empty) 1 Tryd.underlying46 hi hz0 hz1 .i64 .i64 _ _ N rfl rfl rfl rfl (made_bound16 hz2 (by omega)) ?_ ?_ ?_)
    · unfold maxLen; omega
    · exact HB1.out.size
    · intro w2 hown hgr
      have HB2 := Lib.hid (HB1.out.grown hgr HB1.out.size (fun q hq => by cases hq))
      have HO2 := Lib.hid hown
      obtain ⟨g, hg⟩ : ∃ g, g = w1.heap.size := ⟨_, rfl⟩
      have HG : Hid (w.heap.size ≤ g) := Lib.hid (by rw [hg]; exact HB1.out.size)
      rw [← hg] at HO2
      clear hown hgr
      go_wp2
      rw [← hg]
      clear hg
      go_loopw [14] (fun i wr => ∃ (j : Nat) (xs : List Value), j ≤ N ∧ i = .int .i64 j ∧ wr.ownsRow w.heap.size 9 1 (.slice (some ⟨g, 0, none⟩) N N) N xs ∧ xs.take j = ((l.take j).map evText).map .string ∧ Below w.heap.size w wr) (fun i _ => N - (intOf i).toNat)
      case atStart => exact ⟨0, _, Nat.zero_le _, rfl, HO2.out, rfl, HB2.out⟩
      case round =>
        obtain ⟨j, xs, hj, rfl, hown, hxs, hb⟩ := hrel
        have hlx : xs.length = N := by simpa using hown.1
        have HO := Lib.hid hown
        have HB := Lib.hid hb
        have HXS := Lib.hid hxs
        have HLX := Lib.hid hlx
        by_cases hlt' : j < N
        · have hjl : j < l.length := by rw [← HNN.out]; exact hlt'
          rcases rd_evs HR0.out with ⟨hnil, _⟩ | ⟨b, off, cap1, _, hu, hbl, hc⟩
          · exfalso; rw [hnil] at hjl; simp at hjl
          · simp only [Value.slice.injEq] at hu
            obtain ⟨rfl, _, rfl⟩ := hu
            obtain ⟨c0, c1, c2⟩ := hc j hjl
            have r0 := (hb.cell (p := ⟨b, off + j * 3, none⟩) hbl).trans c0
            have r1 := (hb.cell (p := ⟨b, off + j * 3 + 1, none⟩) hbl).trans c1
            have r2 := (hb.cell (p := ⟨b, off + j * 3 + 2, none⟩) hbl).trans c2
            have hev := HEA.out j hjl
            have hsn := evtake_snoc l j hjl
            obtain ⟨e, he⟩ : ∃ e, e = evD l j := ⟨_, rfl⟩
            rw [← he] at r0 r1 r2 hev hsn
            have HEV := Lib.hid hev
            have HSN := Lib.hid hsn
            clear c0 c1 c2 hc hown hb hxs hlx hev hsn he hjl
            obtain ⟨et, ek, ed⟩ := e
            simp only at r0 r1 r2
            go_upto_region 7 with (fail)
            obtain ⟨wb, hwb⟩ : ∃ x, x = wr.alloc (.cells #[.int .i64 et, .int .i64 ek, .bool ed] 30) := ⟨_, rfl⟩
            rw [← hwb]
            have hx := Bxd.new wr [.int .i64 et, .int .i64 ek, .bool ed] 30
            have HB3 := Lib.hid (show Below w.heap.size w wb by rw [hwb]; exact HB.out.alloc HB.out.size _)
            have HO3 := Lib.hid (show wb.ownsRow w.heap.size 9 1 (.slice (some ⟨g, 0, none⟩) N N) N xs by rw [hwb]; exact HO.out.alloc _)
            have k0 : wb.cell? ⟨wr.heap.size, 0, none⟩ = some (.int .i64 et) := by rw [hwb]; exact hx.at 0 _ rfl
            have k1 : wb.cell? ⟨wr.heap.size, 1, none⟩ = some (.int .i64 ek) := by rw [hwb]; exact hx.at 1 _ rfl
            have k2 : wb.cell? ⟨wr.heap.size, 2, none⟩ = some (.bool ed) := by rw [hwb]; exact hx.at 2 _ rfl
            clear hwb hx r0 r1 r2
            go_wp2_with fail
            refine (formatEvent_any et ek ed _ HEV.out (tab_below HT.out HB3.out)).mono ?_
            rintro e w4 ⟨rfl, hb4⟩
            have HB4 := Lib.hid (HB3.out.trans (hb4.mono HB3.out.size))
            have ho4 := owns_below HO3.out hb4
            obtain ⟨y, hst⟩ : ∃ y, w4.cell? ⟨g, j, none⟩ = some y := ⟨xs[j]'(by have := HLX.out; omega), by rw [ho4.cellAt j (by omega), List.getElem?_eq_getElem (show j < xs.length by have := HLX.out; omega)]⟩
            have hfr := ho4.frozenAt j
            obtain ⟨T, hT⟩ : ∃ T, T = evText ⟨et, ek, ed⟩ := ⟨_, rfl⟩
            rw [← hT]
            have HS := Lib.hid (ho4.stored j (.string T)).1
            have HX2 : Hid ((xs.set j (.string T)).take (j + 1) = ((l.take (j + 1)).map evText).map .string) := Lib.hid (by
              rw [HSN.out, List.map_append, ← HXS.out, take_set_succ _ _ _ (by have := HLX.out; omega), hT]; rfl)
            clear hb4 ho4 hT k0 k1 k2
            go_wp2
            go_roundw
            case rel => exact ⟨j + 1, _, by omega, by go_num, HS.out, HX2.out, HB4.out.setCell HG.out _⟩
            case measure => simp [intOf]; omega
        · obtain rfl : j = N := by omega
          have hxe : xs = (l.map evText).map .string := by
            have := HXS.out
            rw [List.take_of_length_le (by omega), List.take_of_length_le (by rw [← HNN.out]; exact Nat.le_refl _)] at this
            exact this
          subst hxe
          have hrd : Rd wr (.slice (some ⟨g, 0, none⟩) j j) ((l.map evText).map .string) := Rd.of_owns hown
          have hsz : ∀ s ∈ l.map evText, s.size ≤ 19 := by
            intro s hs
            obtain ⟨e, he, rfl⟩ := List.mem_map.1 hs
            obtain ⟨q, hq, rfl⟩ := List.getElem_of_mem he
            have := evText_size (HEA.out q hq)
            simpa [evD, List.getD_eq_getElem?_getD, hq] using this
          have hjn : ∀ k, k ≤ (l.map evText).length → (jn (l.map evText) blank k).length ≤ 70368744177664 := fun k hk => by
            have h1 := jn_le 19 _ blank hsz k hk
            have h2 : (blank).size = 1 := rfl
            rw [List.length_map, ← HNN.out] at hk
            rw [h2] at h1
            omega
          have hlm : (l.map evText).length ≤ 1048576 := by rw [List.length_map, ← HNN.out]; omega
          have HRD := Lib.hid hrd
          have HJN := Lib.hid hjn
          have HLM := Lib.hid hlm
          clear hown hb hxs hlx hrd hsz hjn hlm HO HXS HLX
          go_wp2_with fail
          refine (implJoin_any _ (l.map evText) blank _ HLM.out HJN.out HRD.out).mono ?_
          rintro e w5 ⟨rfl, hb5⟩
          have HB5 := Lib.hid (HB.out.trans (hb5.mono HB.out.size))
          clear hb5
          go_wp2
          go_ret
          exact ⟨ret_s (by rw [HRR.out]), HB5.out⟩

end Go.Proofs.YtkhakelhfnoeoaaDoor
