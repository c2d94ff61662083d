/- DERIVED. The program's FormatMods, ParseMods: each returns what a plain function says. -/
import Derived.Test.YticpfciebpdkdaaDoorAcDef
import Derived.Test.YticpfciebpdkdaaDoorAcImpl
import Derived.Laws.Runes
namespace Go.Proofs.YticpfciebpdkdaaDoor
open Go.RowKit

theorem csag_at (pos : Nat) (h : pos < 4) : ∃ (R : Nat) (E : ByteArray), Utf8.decode csag pos = (R, 1) ∧ Utf8.encode (R : Int) = E ∧ csag.extract pos (pos + 1) = E ∧ E.size = 1 := by
  have : pos = 0 ∨ pos = 1 ∨ pos = 2 ∨ pos = 3 := by omega
  rcases this with rfl | rfl | rfl | rfl
  · exact ⟨67, ⟨#[67]⟩, by rfl, by rfl, by rfl, by rfl⟩
  · exact ⟨83, ⟨#[83]⟩, by rfl, by rfl, by rfl, by rfl⟩
  · exact ⟨65, ⟨#[65]⟩, by rfl, by rfl, by rfl, by rfl⟩
  · exact ⟨71, ⟨#[71]⟩, by rfl, by rfl, by rfl, by rfl⟩

set_option maxRecDepth 100000 in
theorem implFormatMods_any (m : Int) (w : World) : Calls Tryd.prog 25 #[.int .i64 m] w fun e w' => e = .returned (.string (mdV m)) ∧ Below w.heap.size w w' := by
  obtain ⟨v, hv⟩ : ∃ v, v = inB m 1 15 := ⟨_, rfl⟩
  cases v
  · have hn : mdV m = ⟨#[]⟩ := by rw [mdV, ← hv]; rfl
    rw [hn]
    have HV := Lib.hid hv
    clear hn hv
    go_enter Tryd.func25, Tryd.ntmps25
    go_wp2_with fail
    refine (isBetween_any m 1 15 _).mono ?_
    rw [← HV.out]
    rintro e w0 ⟨rfl, rfl⟩
    go_wp2
    go_ret
    exact ⟨rfl, Below.refl _ _⟩
  · have h1 := of_decide_eq_true (show decide (1 ≤ m ∧ m ≤ 15) = true from hv.symm)
    obtain ⟨q, rfl⟩ := Int.eq_ofNat_of_zero_le (show 0 ≤ m by omega)
    have hq : q < 2 ^ 62 := by omega
    have hn : mdV q = mdN q 4 := by rw [mdV, ← hv, if_pos rfl, Int.toNat_natCast]
    obtain ⟨r, hr⟩ : ∃ r, r = mdN q 4 := ⟨_, rfl⟩
    rw [hn, ← hr]
    have HR := Lib.hid hr
    have HV := Lib.hid hv
    clear hn hv h1 hr
    go_enter Tryd.func25, Tryd.ntmps25
    go_wp2_with fail
    refine (isBetween_any q 1 15 _).mono ?_
    rw [← HV.out]
    rintro e w0 ⟨rfl, rfl⟩
    go_wp2
    go_loopw [3] (fun t wr => ∃ k : Nat, k ≤ 4 ∧ t = .string (mdN q k) ∧ wr = w.iter csag k) (fun _ wr => 4 - wr.iterPos w.heap.size)
    case atStart => exact ⟨0, Nat.zero_le _, rfl, rfl⟩
    case round =>
      obtain ⟨k, hk, rfl, rfl⟩ := hrel
      have hmeas : (w.iter csag k).iterPos w.heap.size = k := by simp [World.iterPos, World.iter_heap]
      have HM := Lib.hid hmeas
      clear hmeas
      by_cases hlt : k < 4
      · obtain ⟨R, E, hdec, henc, hext, hE1⟩ := csag_at k hlt
        have hnx : ∀ ty, (Instr.next (.pointer (some ⟨w.heap.size, 0, none⟩)) true ty).run Tryd.prog (w.iter csag k) = _ := fun ty => run_next_any w csag k ty hlt
        rw [hdec] at hnx
        simp only [] at hnx
        have hsz := mdN_size q k
        have hb := bit_nat q k hq
        have hnx2 : mdN q (k + 1) = if q.testBit k = true then mdN q k ++ csag.extract k (k + 1) else mdN q k := by rw [mdN]
        rw [hext] at hnx2
        obtain ⟨tb, htb⟩ : ∃ tb, tb = q.testBit k := ⟨_, rfl⟩
        obtain ⟨A, hA⟩ : ∃ A, A = mdN q k := ⟨_, rfl⟩
        rw [← htb] at hb hnx2
        rw [← hA] at hnx2 hsz ⊢
        clear htb hA hdec hext
        cases tb
        · have hb0 : bits .and .i64 ((q : Int) / 2 ^ k) 1 = 0 := by rw [hb]; rfl
          have HN := Lib.hid (show mdN q (k + 1) = A by rw [hnx2]; rfl)
          clear hb hnx2 henc
          go_wp2
          go_roundw
          case rel => exact ⟨k + 1, by omega, by rw [HN.out], rfl⟩
          case measure => rw [HM.out]; simp [World.iterPos, World.iter_heap]; omega
        · have hb0 : bits .and .i64 ((q : Int) / 2 ^ k) 1 = 1 := by rw [hb]; rfl
          have HN := Lib.hid (show mdN q (k + 1) = A ++ E by rw [hnx2]; rfl)
          have hadd := fun (w : World) => run_string_add_sum (P := Tryd.prog) w A E (by omega)
          clear hb hnx2
          go_wp2
          go_roundw
          case rel => exact ⟨k + 1, by omega, by rw [HN.out], rfl⟩
          case measure => rw [HM.out]; simp [World.iterPos, World.iter_heap]; omega
      · obtain rfl : k = 4 := by omega
        have hnx : ∀ ty, (Instr.next (.pointer (some ⟨w.heap.size, 0, none⟩)) true ty).run Tryd.prog (w.iter csag 4) = _ := fun ty => run_next_end w csag 4 ty hlt
        rw [← HR.out]
        go_wp2
        go_ret
        exact ⟨rfl, (Below.refl _ _).alloc (Nat.le_refl _) _⟩

theorem implParseMods_any (s : ByteArray) (w : World) : Calls Tryd.prog 37 #[.string s] w fun e w' => e = .returned (.int .i64 (pmV s : Nat)) ∧ Below w.heap.size w w' := by
  obtain ⟨r, hr⟩ : ∃ r, r = pmV s := ⟨_, rfl⟩
  rw [← hr]
  have HR := Lib.hid hr
  clear hr
  go_enter Tryd.func37, Tryd.ntmps37
  go_wp2
  go_loopw [3] (fun i wr => ∃ k : Nat, k ≤ 15 ∧ i = .int .i64 ((k : Int) + 1) ∧ pmN s k = 0 ∧ Below w.heap.size w wr) (fun i _ => 16 - (intOf i).toNat)
  case atStart => exact ⟨0, Nat.zero_le _, rfl, rfl, Below.refl _ _⟩
  case round =>
    obtain ⟨k, hk, rfl, hc, hb⟩ := hrel
    have HB := Lib.hid hb
    clear hb
    by_cases hlt : k < 15
    · have hle : ((k : Int) + 1) ≤ 15 := by omega
      obtain ⟨T, hT⟩ : ∃ T, T = mdV ((k : Int) + 1) := ⟨_, rfl⟩
      have HT := Lib.hid hT
      have HC := Lib.hid hc
      clear hc hT
      by_cases hts : T = s
      · have hrk : r = k + 1 := by rw [HR.out, pmV]; exact pmN_hit HC.out (by rw [← hts, HT.out]; rfl) 15 hlt
        subst hts
        have HRK := Lib.hid hrk
        clear hrk
        go_wp2_with fail
        refine (implFormatMods_any _ _).mono ?_
        rw [← HT.out]
        rintro e w1 ⟨rfl, hb1⟩
        have HB1 := Lib.hid (HB.out.trans (hb1.mono HB.out.size))
        clear hb1
        go_wp2
        go_ret
        exact ⟨ret_int (by rw [HRK.out]; rfl), HB1.out⟩
      · have hne := toList_ne hts
        have hmiss := pmN_miss HC.out (fun h => hts (by rw [HT.out]; exact h))
        have HM := Lib.hid hmiss
        clear hmiss
        go_wp2_with fail
        refine (implFormatMods_any _ _).mono ?_
        rw [← HT.out]
        rintro e w1 ⟨rfl, hb1⟩
        have HB1 := Lib.hid (HB.out.trans (hb1.mono HB.out.size))
        clear hb1
        go_wp2
        go_roundw
        case rel => exact ⟨k + 1, by omega, by go_num, HM.out, HB1.out⟩
        case measure => simp [intOf]; omega
    · obtain rfl : k = 15 := by omega
      have HRK := Lib.hid (show r = 0 by rw [HR.out, pmV]; exact hc)
      clear hc
      go_wp2
      go_ret
      exact ⟨ret_int (by rw [HRK.out]; rfl), HB.out⟩

end Go.Proofs.YticpfciebpdkdaaDoor
