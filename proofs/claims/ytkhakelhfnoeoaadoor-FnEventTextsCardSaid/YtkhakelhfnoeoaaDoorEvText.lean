/- DERIVED. The reference's FormatEvents: the events' texts, joined by blanks. -/
import Derived.Test.YtkhakelhfnoeoaaDoorEvSpec
import Derived.Test.YtkhakelhfnoeoaaDoorParseInt
import Derived.Test.YtkhakelhfnoeoaaDoorSplit
import Derived.Test.YtkhakelhfnoeoaaDoorJoin
namespace Go.Proofs.YtkhakelhfnoeoaaDoor
open Go.RowKit

def sgn (d : Bool) : ByteArray := if d = true then ⟨#[43]⟩ else ⟨#[45]⟩
def evText (e : Ev) : ByteArray := itoaText e.t ++ sgn e.d ++ itoaText e.k
def evTexts (l : List Ev) : List ByteArray := if okEvs l = true then l.map evText else []
def blank : ByteArray := ⟨#[32]⟩
def evS (l : List Ev) : ByteArray := joined (evTexts l) blank

theorem evText_size {e : Ev} (h : okEv e = true) : (evText e).size ≤ 19 := by
  obtain ⟨h0, h1, h2, h3⟩ := okEv_key h
  have a := itoa_size_pos (n := e.t.toNat) (by omega)
  have b := itoa_size_pos (n := e.k.toNat) (by omega)
  rw [Int.toNat_of_nonneg h0] at a
  rw [Int.toNat_of_nonneg h2] at b
  have c : (sgn e.d).size = 1 := by unfold sgn; split <;> rfl
  simp only [evText, ByteArray.size_append]
  omega
theorem evtake_snoc (l : List Ev) (j : Nat) (h : j < l.length) : (l.take (j + 1)).map evText = (l.take j).map evText ++ [evText (evD l j)] := by
  rw [List.take_add_one, List.map_append, List.getElem?_eq_getElem h]
  simp [evD, List.getD_eq_getElem?_getD, h]
theorem jn_le (m : Nat) (ss : List ByteArray) (sep : ByteArray) (h : ∀ s ∈ ss, s.size ≤ m) : ∀ k, k ≤ ss.length → (jn ss sep k).length ≤ k * (m + sep.size) := by
  intro k
  induction k with
  | zero => intro _; simp [jn]
  | succ k ih =>
    intro hk
    have hs : (ss.getD k ByteArray.empty).size ≤ m := by
      rw [List.getD_eq_getElem?_getD, List.getElem?_eq_getElem (by omega)]
      exact h _ (List.getElem_mem _)
    rcases Nat.eq_zero_or_pos k with rfl | hp
    · rw [jn_first, size_toList]; omega
    · rw [jn_later _ _ hp, List.length_append, List.length_append, size_toList, size_toList]
      have := ih (by omega)
      rw [Nat.add_mul]
      omega
theorem ret_s {a b : ByteArray} (h : a = b) : Ending.returned (.string a) = .returned (.string b) := by rw [h]
set_option maxHeartbeats 2000000 in
theorem specFormatEvents_any (v : Value) (l : List Ev) (w : World) (hl : l.length ≤ 1048576) (h : RdN w v l.length (flatEv l)) :
    Calls Tryd.prog 16 #[v] w fun e w' => e = .returned (.string (evS l)) ∧ Below w.heap.size w w' := by
  have hlit := World.ownsRow_lit (e := 9) (size := 1) w #[] 0 (Nat.le_refl _) (by simp [maxLen]) rfl
  have hbel : Below w.heap.size w (w.alloc (.cells #[] 9)) := (Below.refl _ _).alloc (Nat.le_refl _) _
  have HL := Lib.hid hlit
  have HB := Lib.hid hbel
  have HRd := Lib.hid h
  have hlm : l.length ≤ maxLen := by unfold maxLen; omega
  have HLL := Lib.hid hlm
  clear hlm
  clear hlit hbel
  obtain ⟨i0, hi, hz0, hz1, hz2⟩ := info_parts info_str
  obtain ⟨r, hr⟩ : ∃ r, r = evS l := ⟨_, rfl⟩
  rw [← hr]
  have HR := Lib.hid hr
  have hj0 : Rd (w.alloc (.cells #[] 9)) (.slice (some ⟨w.heap.size, 0, none⟩) 0 0) (([] : List ByteArray).map .string) := Rd.of_owns HL.out
  have HJ0 := Lib.hid hj0
  clear hj0
  have hje : ∀ k, k ≤ ([] : List ByteArray).length → (jn [] blank k).length ≤ 70368744177664 := by intro k hk; simp at hk; subst hk; simp [jn]
  have HJE := Lib.hid hje
  clear hje
  have hbk : (blank).size ≤ 1048576 := by simp [blank, ByteArray.size]
  have HBK := Lib.hid hbk
  clear hbk
  rcases rd_evs h with ⟨rfl, a, cap, rfl⟩ | ⟨b, off, cap, hpos, rfl, hlt, hc⟩
  · clear h hr
    go_enter Tryd.func16, Tryd.ntmps16
    go_wp2
    refine wp_loop_rounds 1 ?_
    rw [rounds_succ]
    go_wp2_with fail
    refine (specJoin_any _ [] blank _ (by simp) HBK.out HJE.out HJ0.out).mono ?_
    rintro e w1 ⟨rfl, hb⟩
    have HB1 := Lib.hid hb
    clear hb
    go_wp2
    go_ret
    exact ⟨ret_s (by rw [HR.out, evS]; rfl), HB.out.trans (HB1.out.mono (by simp))⟩
  · have HC := Lib.hid hc
    obtain ⟨ok, hok⟩ : ∃ ok, ok = okEvs l := ⟨_, rfl⟩
    have HOK := Lib.hid hok
    clear h hr hc hok
    cases ok
    · go_enter Tryd.func16, Tryd.ntmps16
      go_wp2
      refine wp_loop_rounds 1 ?_
      rw [rounds_succ]
      go_wp2_with fail
      refine (specIsEvents_any _ l _ HLL.out (HRd.out.below HB.out)).mono ?_
      rw [← HOK.out]
      rintro e w0 ⟨rfl, hb0⟩
      have HB0 := Lib.hid hb0
      clear hb0
      go_wp2_with fail
      refine (specJoin_any _ [] blank _ (by simp) HBK.out HJE.out (HJ0.out.below HB0.out)).mono ?_
      rintro e w1 ⟨rfl, hb⟩
      have HB1 := Lib.hid hb
      clear hb
      go_wp2
      go_ret
      exact ⟨ret_s (by rw [HR.out, evS, evTexts, ← HOK.out]; rfl), HB.out.trans ((HB0.out.mono (by simp)).trans (HB1.out.mono (Nat.le_trans (by simp) HB0.out.size)))⟩
    · have hok := HOK.out
      have hokN : okEvN l l.length = true ∧ l.length ≤ 64 := by
        unfold okEvs at hok
        have := hok.symm
        rw [Bool.and_eq_true] at this
        exact ⟨this.1, by simpa using this.2⟩
      obtain ⟨hokN, hl64⟩ := hokN
      have hokA := okEvN_at hokN
      have HN := Lib.hid hokA
      clear hok hokN hokA
      go_enter Tryd.func16, Tryd.ntmps16
      go_wp2
      go_loopw [3, 4, 5] (fun u i _ wr => ∃ j : Nat, j ≤ l.length ∧ i = .int .i64 j ∧ wr.ownsRow w.heap.size 9 1 u j (((l.take j).map evText).map .string) ∧ Below w.heap.size w wr) (fun _ i _ _ => l.length - (intOf i).toNat)
      case atStart => exact ⟨0, Nat.zero_le _, rfl, HL.out, HB.out⟩
      case round =>
        obtain ⟨j, hj, rfl, hown, hb⟩ := hrel
        by_cases hlt' : j < l.length
        · obtain ⟨c0, c1, c2⟩ := HC.out j hlt'
          have hev : okEv (evD l j) = true := by
            have := HN.out j hlt'
            unfold okAt at this
            rw [Bool.and_eq_true, Bool.and_eq_true] at this
            exact this.1.1
          obtain ⟨t0, t1, k0, k1⟩ := okEv_key hev
          have hsz := evText_size hev
          have htx : evText (evD l j) = itoaText (evD l j).t ++ sgn (evD l j).d ++ itoaText (evD l j).k := rfl
          obtain ⟨et, het⟩ : ∃ x, x = (evD l j).t := ⟨_, rfl⟩
          obtain ⟨ek, hek⟩ : ∃ x, x = (evD l j).k := ⟨_, rfl⟩
          obtain ⟨ed, hed⟩ : ∃ x, x = (evD l j).d := ⟨_, rfl⟩
          rw [← het] at c0 t0 t1 htx
          rw [← hek] at c1 k0 k1 htx
          rw [← hed] at c2 htx
          have hsz' := hsz
          rw [htx, ByteArray.size_append, ByteArray.size_append] at hsz'
          have hsg : (sgn ed).size = 1 := by unfold sgn; split <;> rfl
          rw [hsg] at hsz'
          have HSZ := Lib.hid hsz'
          clear hsz' hsg
          have HTX := Lib.hid htx
          have HO := Lib.hid hown
          have HBB := Lib.hid hb
          have C0 := Lib.hid c0
          have C1 := Lib.hid c1
          have C2 := Lib.hid c2
          have T0 := Lib.hid (show -9223372036854775808 ≤ et ∧ et ≤ 9223372036854775807 from ⟨by omega, by omega⟩)
          have K0 := Lib.hid (show -9223372036854775808 ≤ ek ∧ ek ≤ 9223372036854775807 from ⟨by omega, by omega⟩)
          clear htx hown hb c0 c1 c2 het hek hed hev hsz
          have b63 : j + 1 ≤ maxLen := by unfold maxLen; omega
          have b47 : (j + 1) * 16 ≤ 140737488355328 := by omega
          go_wp2_with fail
          refine (specIsEvents_any _ l _ HLL.out (HRd.out.below HBB.out)).mono ?_
          rw [← HOK.out]
          rintro e w1 ⟨rfl, hb1⟩
          have HB1 := Lib.hid (HBB.out.trans (hb1.mono HBB.out.size))
          have HO1 := Lib.hid (owns_below HO.out hb1)
          have c0 := (HB1.out.cell (p := ⟨b, off + j * 3 + 0, none⟩) hlt).trans C0.out
          have c1 := (HB1.out.cell (p := ⟨b, off + j * 3 + 1, none⟩) hlt).trans C1.out
          have c2 := (HB1.out.cell (p := ⟨b, off + j * 3 + 2, none⟩) hlt).trans C2.out
          have hbw : b < w1.heap.size := Nat.lt_of_lt_of_le hlt HB1.out.size
          clear hb1
          have hnb : u3.ownBlock ≠ some b := fun e => by have := HO1.out.lt b e; omega
          have hbs : w.heap.size ≤ w1.heap.size := HB1.out.size
          rw [Nat.add_zero] at c0
          cases ed
          · have hadd1 := fun (w : World) => run_string_add_sum (P := Tryd.prog) w (itoaText et) ⟨#[45]⟩ (by have := HSZ.out; have h1 : (⟨#[45]⟩ : ByteArray).size = 1 := rfl; omega)
            have hadd2 := fun (w : World) => run_string_add_sum (P := Tryd.prog) w (itoaText et ++ ⟨#[45]⟩) (itoaText ek) (by have := HSZ.out; have h1 : (⟨#[45]⟩ : ByteArray).size = 1 := rfl; rw [ByteArray.size_append]; omega)
            go_wp2
            go_region_held3 (fun w' => w'.cell? ⟨b, off + j * 3, none⟩ = some (.int .i64 et) ∧ w'.cell? ⟨b, off + j * 3 + 1, none⟩ = some (.int .i64 ek)) (first | go_keep | (rw [hgrow.cell_far _ (by simp; omega) (Ne.symm hnb), hgrow.cell_far _ (by simp; omega) (Ne.symm hnb)]; simp [go_sem, *]))
              (first
                | (go_at_call 34; refine (specFormatInt_any _ _ (by first | exact T0.out.1 | exact K0.out.1) (by first | exact T0.out.2 | exact K0.out.2)).mono ?_; first
                    | (rintro e w6 ⟨rfl, hb6⟩; have hy6 : Below w1.heap.size w1 w6 := hy5.trans (hb6.mono hy5.size); have k2 := (hy6.cell (p := ⟨b, off + j * 3, none⟩) hbw).trans c0; have k3 := (hy6.cell (p := ⟨b, off + j * 3 + 1, none⟩) hbw).trans c1; have hbs6 : w.heap.size ≤ w6.heap.size := Nat.le_trans hbs hy6.size; have hbw6 : b < w6.heap.size := Nat.lt_of_lt_of_le hbw hy6.size; clear hb6)
                    | (rintro e w5 ⟨rfl, hb5⟩; have hy5 : Below w1.heap.size w1 w5 := ((Below.refl _ _).drew).trans hb5; have k0 := (hy5.cell (p := ⟨b, off + j * 3, none⟩) hbw).trans c0; have k1 := (hy5.cell (p := ⟨b, off + j * 3 + 1, none⟩) hbw).trans c1; clear hb5))
                | (refine step_append_lies _ (by rfl) _ _ _ (by rfl) w.heap.size 9 i0 (.string ByteArray.empty) 1 16 Tryd.underlying46 hi hz0 hz1 hz2 rfl (by omega) u3 _ _ (by rfl) ((owns_below HO1.out hy6).alloc _) ⟨w6.heap.size, 0, none⟩ 1 1 [.string (itoaText et ++ ⟨#[45]⟩ ++ itoaText ek)] (by rfl) (by rfl) (World.news_of_block (cs := #[.string (itoaText et ++ ⟨#[45]⟩ ++ itoaText ek)]) (t := 9) (fr := (0, 0)) (heap_alloc_new w6 _)) (by simp [Value.oneCell']) (by omega) b63 b47 (by simp; omega) (w6.heap.size + 1) (by simp) ?_; intro gg cap1 w7 hown1 hgrow hat hlt1))
            have hbw1 : Below w.heap.size w w7 := (((HB1.out.trans (hy6.mono hbs)).alloc hbs6 _).grown hgrow (by simp; omega) (fun q hq => (HO1.out.lt q hq).1))
            have HG := Lib.hid hown1
            have HB2 := Lib.hid hbw1
            clear hown1 hbw1 hgrow hat hlt1 c0 c1 c2 hadd1 hadd2
            go_wp2
            go_roundw
            case rel =>
              refine ⟨j + 1, by omega, by go_num, ?_, HB2.out⟩
              rw [evtake_snoc l j hlt', List.map_append, HTX.out]
              exact HG.out
            case measure => simp [intOf]; omega
          · have hadd1 := fun (w : World) => run_string_add_sum (P := Tryd.prog) w (itoaText et) ⟨#[43]⟩ (by have := HSZ.out; have h1 : (⟨#[43]⟩ : ByteArray).size = 1 := rfl; omega)
            have hadd2 := fun (w : World) => run_string_add_sum (P := Tryd.prog) w (itoaText et ++ ⟨#[43]⟩) (itoaText ek) (by have := HSZ.out; have h1 : (⟨#[43]⟩ : ByteArray).size = 1 := rfl; rw [ByteArray.size_append]; omega)
            go_wp2
            go_region_held3 (fun w' => w'.cell? ⟨b, off + j * 3, none⟩ = some (.int .i64 et) ∧ w'.cell? ⟨b, off + j * 3 + 1, none⟩ = some (.int .i64 ek)) (first | go_keep | (rw [hgrow.cell_far _ (by simp; omega) (Ne.symm hnb), hgrow.cell_far _ (by simp; omega) (Ne.symm hnb)]; simp [go_sem, *]))
              (first
                | (go_at_call 34; refine (specFormatInt_any _ _ (by first | exact T0.out.1 | exact K0.out.1) (by first | exact T0.out.2 | exact K0.out.2)).mono ?_; first
                    | (rintro e w6 ⟨rfl, hb6⟩; have hy6 : Below w1.heap.size w1 w6 := hy5.trans (hb6.mono hy5.size); have k2 := (hy6.cell (p := ⟨b, off + j * 3, none⟩) hbw).trans c0; have k3 := (hy6.cell (p := ⟨b, off + j * 3 + 1, none⟩) hbw).trans c1; have hbs6 : w.heap.size ≤ w6.heap.size := Nat.le_trans hbs hy6.size; have hbw6 : b < w6.heap.size := Nat.lt_of_lt_of_le hbw hy6.size; clear hb6)
                    | (rintro e w5 ⟨rfl, hb5⟩; have hy5 : Below w1.heap.size w1 w5 := ((Below.refl _ _).drew).trans hb5; have k0 := (hy5.cell (p := ⟨b, off + j * 3, none⟩) hbw).trans c0; have k1 := (hy5.cell (p := ⟨b, off + j * 3 + 1, none⟩) hbw).trans c1; clear hb5))
                | (refine step_append_lies _ (by rfl) _ _ _ (by rfl) w.heap.size 9 i0 (.string ByteArray.empty) 1 16 Tryd.underlying46 hi hz0 hz1 hz2 rfl (by omega) u3 _ _ (by rfl) ((owns_below HO1.out hy6).alloc _) ⟨w6.heap.size, 0, none⟩ 1 1 [.string (itoaText et ++ ⟨#[43]⟩ ++ itoaText ek)] (by rfl) (by rfl) (World.news_of_block (cs := #[.string (itoaText et ++ ⟨#[43]⟩ ++ itoaText ek)]) (t := 9) (fr := (0, 0)) (heap_alloc_new w6 _)) (by simp [Value.oneCell']) (by omega) b63 b47 (by simp; omega) (w6.heap.size + 1) (by simp) ?_; intro gg cap1 w7 hown1 hgrow hat hlt1))
            have hbw1 : Below w.heap.size w w7 := (((HB1.out.trans (hy6.mono hbs)).alloc hbs6 _).grown hgrow (by simp; omega) (fun q hq => (HO1.out.lt q hq).1))
            have HG := Lib.hid hown1
            have HB2 := Lib.hid hbw1
            clear hown1 hbw1 hgrow hat hlt1 c0 c1 c2 hadd1 hadd2
            go_wp2
            go_roundw
            case rel =>
              refine ⟨j + 1, by omega, by go_num, ?_, HB2.out⟩
              rw [evtake_snoc l j hlt', List.map_append, HTX.out]
              exact HG.out
            case measure => simp [intOf]; omega
        · obtain rfl : j = l.length := by omega
          have HO := Lib.hid hown
          have HBB := Lib.hid hb
          clear hown hb
          have hsz : ∀ s ∈ l.map evText, s.size ≤ 19 := by
            intro s hs
            obtain ⟨e, he, rfl⟩ := List.mem_map.1 hs
            obtain ⟨q, hq, rfl⟩ := List.getElem_of_mem he
            have := HN.out q hq
            unfold okAt at this
            rw [Bool.and_eq_true, Bool.and_eq_true] at this
            have h1 := evText_size this.1.1
            simpa [evD, List.getD_eq_getElem?_getD, hq] using h1
          have hjn : ∀ k, k ≤ (l.map evText).length → (jn (l.map evText) blank k).length ≤ 70368744177664 := fun k hk => by
            have h1 := jn_le 19 _ blank hsz k hk
            have h2 : (blank).size = 1 := rfl
            rw [List.length_map] at hk
            rw [h2] at h1
            omega
          have HJN := Lib.hid hjn
          clear hsz hjn
          have hlm : (l.map evText).length ≤ 1048576 := by rw [List.length_map]; omega
          have HLM := Lib.hid hlm
          clear hlm
          have hrd := Rd.of_owns HO.out
          rw [List.take_length] at hrd
          have HRR := Lib.hid hrd
          clear hrd
          go_wp2_with fail
          refine (specJoin_any _ (l.map evText) blank _ HLM.out HBK.out HJN.out HRR.out).mono ?_
          rintro e w1 ⟨rfl, hb1⟩
          have HB1 := Lib.hid (HBB.out.trans (hb1.mono HBB.out.size))
          clear hb1
          go_wp2
          go_ret
          exact ⟨ret_s (by rw [HR.out, evS, evTexts, ← HOK.out]; rfl), HB1.out⟩

end Go.Proofs.YtkhakelhfnoeoaaDoor
