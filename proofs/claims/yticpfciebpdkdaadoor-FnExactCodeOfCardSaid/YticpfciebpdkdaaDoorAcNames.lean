/- DERIVED. The program's CodeName, CodeOf and kindOf: each returns what a plain function says, where the program's tables of names and words are as its text lays them. -/
import Derived.Test.YticpfciebpdkdaaDoorAcDef
import Derived.Test.YticpfciebpdkdaaDoorAcImpl
import Derived.Test.YticpfciebpdkdaaDoorTabs
namespace Go.Proofs.YticpfciebpdkdaaDoor
open Go.RowKit

def nmTab : List ByteArray := ⟨#[]⟩ :: nms
def wdTab : List ByteArray := [⟨#[110, 111, 110, 101]⟩, ⟨#[112, 97, 115, 115]⟩, ⟨#[]⟩, ⟨#[109, 111]⟩, ⟨#[116, 103]⟩, ⟨#[116, 111]⟩, ⟨#[]⟩, ⟨#[]⟩, ⟨#[111, 110, 99, 101]⟩, ⟨#[109, 97, 99, 114, 111]⟩, ⟨#[99, 97, 112, 115]⟩]
theorem nmTab_len : nmTab.length = 57 := rfl
theorem wdTab_len : wdTab.length = 11 := rfl
theorem nmTab_at (q : Nat) (h : q < 57) : nmTab.getD q ⟨#[]⟩ = nmV (q : Int) := by
  cases q with
  | zero => rfl
  | succ k =>
    have : inB ((k + 1 : Nat) : Int) 1 56 = true := by unfold inB; exact decide_eq_true (by omega)
    rw [nmV, if_pos this]
    rfl
theorem tyNm : Tryd.prog.underlying 38 = some (.array 57 9) := by kernel_rfl
theorem tyWd : Tryd.prog.underlying 40 = some (.array 11 9) := by kernel_rfl
theorem i57 : (Tryd.prog.info? 38).map (·.size) = some 57 := by kernel_rfl
theorem i11 : (Tryd.prog.info? 40).map (·.size) = some 11 := by kernel_rfl

set_option maxRecDepth 100000 in
theorem implCodeName_any (c : Int) (w : World) (ht : TabH w 0 nmTab) : Calls Tryd.prog 8 #[.int .i64 c] w fun e w' => e = .returned (.string (nmV c)) ∧ w = w' := by
  obtain ⟨v, hv⟩ : ∃ v, v = inB c 1 56 := ⟨_, rfl⟩
  cases v
  · have hn : nmV c = ⟨#[]⟩ := by rw [nmV, ← hv]; rfl
    rw [hn]
    have HV := Lib.hid hv
    clear hn hv
    go_enter Tryd.func8, Tryd.ntmps8
    go_wp2_with fail
    refine (isBetween_any c 1 56 _).mono ?_
    rw [← HV.out]
    rintro e w0 ⟨rfl, rfl⟩
    go_wp2
    go_ret
    exact ⟨rfl, rfl⟩
  · have h1 := of_decide_eq_true (show decide (1 ≤ c ∧ c ≤ 56) = true from hv.symm)
    obtain ⟨q, rfl⟩ := Int.eq_ofNat_of_zero_le (show 0 ≤ c by omega)
    have hcell := ht.cell q (by rw [nmTab_len]; omega)
    rw [nmTab_at q (by omega)] at hcell
    obtain ⟨T, hT⟩ : ∃ T, T = nmV (q : Int) := ⟨_, rfl⟩
    rw [← hT] at hcell ⊢
    have HV := Lib.hid hv
    have hi : (0 : Int) ≤ (q : Int) ∧ (q : Int) < 57 := by omega
    have hi0 : (0 : Int) ≤ (q : Int) := by omega
    have hi1 : (q : Int) < 57 := by omega
    clear hT hv h1 ht
    go_enter Tryd.func8, Tryd.ntmps8
    go_wp2_with fail
    refine (isBetween_any q 1 56 _).mono ?_
    rw [← HV.out]
    rintro e w0 ⟨rfl, rfl⟩
    go_wp2
    go_ret
    exact ⟨rfl, rfl⟩

theorem TabH.agg {w : World} {g : Nat} {ss : List ByteArray} (h : TabH w g ss) : ∃ (CS : Array Value) (t : TypeId) (fr : Nat × Nat), w.heap[g]? = some (.cells CS t fr) ∧ CS.size = ss.length ∧ ∀ j, j < ss.length → CS[j]? = some (.string (ss.getD j ⟨#[]⟩)) := by
  obtain ⟨t, fr, h⟩ := h
  exact ⟨_, t, fr, h, by simp, fun j hj => tab_at ss j hj⟩

theorem codeN_zero {s : ByteArray} : ∀ j : Nat, (∀ q : Nat, q ≤ j → nmV (q : Int) ≠ s) → codeN s j = 0
  | 0, _ => rfl
  | j + 1, h => codeN_miss (codeN_zero j (fun q hq => h q (by omega))) (h (j + 1) (Nat.le_refl _))
set_option maxRecDepth 1000000 in
theorem code_empty : codeV ⟨#[]⟩ = 0 := by kernel_rfl
theorem code_hit {s : ByteArray} {j : Nat} (hj : j < 57) (h : ∀ q : Nat, q < j → nmV (q : Int) ≠ s) (e : nmV (j : Int) = s) : codeV s = j := by
  cases j with
  | zero =>
    have : s = ⟨#[]⟩ := by rw [← e]; rfl
    rw [this, code_empty]
  | succ k => exact codeN_hit (codeN_zero k (fun q hq => h q (by omega))) e 56 (by omega)
theorem code_miss {s : ByteArray} (h : ∀ q : Nat, q < 57 → nmV (q : Int) ≠ s) : codeV s = 0 := codeN_zero 56 (fun q hq => h q (by omega))

theorem implCodeOf_any (s : ByteArray) (w : World) (ht : TabH w 0 nmTab) : Calls Tryd.prog 10 #[.string s] w fun e w' => e = .returned (.int .i64 (codeV s : Nat)) ∧ w = w' := by
  obtain ⟨r, hr⟩ : ∃ r, r = codeV s := ⟨_, rfl⟩
  rw [← hr]
  have HR := Lib.hid hr
  obtain ⟨CS, tt, fr, hg, hsz, hcs⟩ := ht.agg
  have hi : (Tryd.prog.info? 38).map (·.size) = some CS.size := by rw [hsz]; exact i57
  have HCS := Lib.hid hcs
  have HSZ := Lib.hid hsz
  clear hr ht hcs hsz
  go_enter Tryd.func10, Tryd.ntmps10
  go_wp2_with (refine wpList_load_row rfl 38 _ rfl 0 rfl tt CS fr _ hg tyNm rfl hi ?_)
  clear hg hi
  go_loopw [6] (fun i wr => ∃ k : Nat, k ≤ 57 ∧ i = .int .i64 (k : Int) ∧ (∀ q : Nat, q < k → nmV (q : Int) ≠ s) ∧ wr = w) (fun i _ => 57 - (intOf i).toNat)
  case atStart => exact ⟨0, Nat.zero_le _, rfl, fun q hq => by omega, rfl⟩
  case round =>
    obtain ⟨k, hk, rfl, hno, rfl⟩ := hrel
    have HNO := Lib.hid hno
    clear hno
    by_cases hlt : k < 57
    · have hlt2 : (k : Int) < 57 := by omega
      obtain ⟨T, hT⟩ : ∃ T, T = nmV (k : Int) := ⟨_, rfl⟩
      have hat := HCS.out k (by rw [nmTab_len]; exact hlt)
      rw [nmTab_at k hlt, ← hT] at hat
      have hix := run_index_arr (P := Tryd.prog) (j := k) tyNm hlt Tryd.isAgg9 Tryd.sizeOf9 hat
      have HT := Lib.hid hT
      clear hT hat
      by_cases hts : T = s
      · have hrk : r = k := by rw [HR.out]; exact code_hit hlt HNO.out (by rw [← HT.out]; exact hts)
        subst hts
        have HRK := Lib.hid hrk
        clear hrk
        go_wp2
        go_ret
        exact ⟨ret_int (by rw [HRK.out]), rfl⟩
      · have hne := toList_ne hts
        have HN2 := Lib.hid (show ∀ q : Nat, q < k + 1 → nmV (q : Int) ≠ s from fun q hq => by
          rcases Nat.lt_or_ge q k with h | h
          · exact HNO.out q h
          · obtain rfl : q = k := by omega
            rw [← HT.out]; exact hts)
        clear hts
        go_wp2
        go_roundw
        case rel => exact ⟨k + 1, by omega, by go_num, HN2.out, trivial⟩
        case measure => simp [intOf]; omega
    · obtain rfl : k = 57 := by omega
      have HRK := Lib.hid (show r = 0 by rw [HR.out]; exact code_miss HNO.out)
      go_wp2
      go_ret
      exact ⟨ret_int (by rw [HRK.out]; rfl), rfl⟩

/-- Word j is there and is s. -/
def wdIs (s : ByteArray) (j : Nat) : Prop := wdTab.getD j ⟨#[]⟩ ≠ ⟨#[]⟩ ∧ wdTab.getD j ⟨#[]⟩ = s
instance (s : ByteArray) (j : Nat) : Decidable (wdIs s j) := by unfold wdIs; infer_instance
/-- The kind of a word, 2 for all others. -/
def kindN (s : ByteArray) : Nat → Nat → Nat
  | _, 0 => 2
  | j, k + 1 => if wdIs s j then j else kindN s (j + 1) k
def kindV (s : ByteArray) : Nat := kindN s 0 11
theorem kindN_hit {s : ByteArray} {j : Nat} (e : wdIs s j) : ∀ (k a : Nat), a ≤ j → j < a + k → (∀ q : Nat, a ≤ q → q < j → ¬ wdIs s q) → kindN s a k = j
  | 0, a, h1, h2, _ => by omega
  | k + 1, a, h1, h2, h => by
    unfold kindN
    rcases Nat.eq_or_lt_of_le h1 with rfl | h3
    · rw [if_pos e]
    · rw [if_neg (h a (Nat.le_refl _) h3)]
      exact kindN_hit e k (a + 1) h3 (by omega) (fun q hq hj => h q (by omega) hj)
theorem kindN_miss {s : ByteArray} : ∀ (k a : Nat), (∀ q : Nat, a ≤ q → q < a + k → ¬ wdIs s q) → kindN s a k = 2
  | 0, _, _ => rfl
  | k + 1, a, h => by
    unfold kindN
    rw [if_neg (h a (Nat.le_refl _) (by omega))]
    exact kindN_miss k (a + 1) (fun q hq hj => h q (by omega) (by omega))

theorem kindOf_any (s : ByteArray) (w : World) (ht : TabH w 1 wdTab) : Calls Tryd.prog 35 #[.string s] w fun e w' => e = .returned (.int .i64 (kindV s : Nat)) ∧ w = w' := by
  obtain ⟨r, hr⟩ : ∃ r, r = kindV s := ⟨_, rfl⟩
  rw [← hr]
  have HR := Lib.hid hr
  obtain ⟨CS, tt, fr, hg, hsz, hcs⟩ := ht.agg
  have hi : (Tryd.prog.info? 40).map (·.size) = some CS.size := by rw [hsz]; exact i11
  have HCS := Lib.hid hcs
  have HSZ := Lib.hid hsz
  clear hr ht hcs hsz
  go_enter Tryd.func35, Tryd.ntmps35
  go_wp2_with (refine wpList_load_row rfl 40 _ rfl 1 rfl tt CS fr _ hg tyWd rfl hi ?_)
  clear hg hi
  go_loopw [6] (fun i wr => ∃ k : Nat, k ≤ 11 ∧ i = .int .i64 (k : Int) ∧ (∀ q : Nat, q < k → ¬ wdIs s q) ∧ wr = w) (fun i _ => 11 - (intOf i).toNat)
  case atStart => exact ⟨0, Nat.zero_le _, rfl, fun q hq => by omega, rfl⟩
  case round =>
    obtain ⟨k, hk, rfl, hno, rfl⟩ := hrel
    have HNO := Lib.hid hno
    clear hno
    by_cases hlt : k < 11
    · have hlt2 : (k : Int) < 11 := by omega
      obtain ⟨T, hT⟩ : ∃ T, T = wdTab.getD k ⟨#[]⟩ := ⟨_, rfl⟩
      have hat := HCS.out k (by rw [wdTab_len]; exact hlt)
      rw [← hT] at hat
      have hix := run_index_arr (P := Tryd.prog) (j := k) tyWd hlt Tryd.isAgg9 Tryd.sizeOf9 hat
      have HT := Lib.hid hT
      clear hT hat
      by_cases hts : T = s
      · by_cases hte : T = ⟨#[]⟩
        · have HN2 := Lib.hid (show ∀ q : Nat, q < k + 1 → ¬ wdIs s q from fun q hq => by
            rcases Nat.lt_or_ge q k with h | h
            · exact HNO.out q h
            · obtain rfl : q = k := by omega
              rintro ⟨h1, _⟩
              rw [← HT.out] at h1; exact h1 hte)
          have h0 : (T.toList == []) = true := lit_eq [] hte
          have h0' : (!(T.toList == [])) = false := by rw [h0]; rfl
          have HTS := Lib.hid hts
          clear hts hte
          go_wp2
          go_roundw
          case rel => exact ⟨k + 1, by omega, by go_num, HN2.out, trivial⟩
          case measure => simp [intOf]; omega
        · have hrk : r = k := by rw [HR.out]; exact kindN_hit ⟨by rw [← HT.out]; exact hte, by rw [← HT.out]; exact hts⟩ 11 0 (Nat.zero_le _) (by omega) (fun q _ hq => HNO.out q hq)
          subst hts
          have HRK := Lib.hid hrk
          have h0 : (T.toList == []) = false := lit_ne [] hte
          have h0' : (!(T.toList == [])) = true := by rw [h0]; rfl
          clear hrk hte
          go_wp2
          go_ret
          exact ⟨ret_int (by rw [HRK.out]), rfl⟩
      · have hne := toList_ne hts
        have HN2 := Lib.hid (show ∀ q : Nat, q < k + 1 → ¬ wdIs s q from fun q hq => by
          rcases Nat.lt_or_ge q k with h | h
          · exact HNO.out q h
          · obtain rfl : q = k := by omega
            rintro ⟨_, h1⟩
            rw [← HT.out] at h1; exact hts h1)
        by_cases hte : T = ⟨#[]⟩
        · have h0 : (T.toList == []) = true := lit_eq [] hte
          have h0' : (!(T.toList == [])) = false := by rw [h0]; rfl
          clear hts hte
          go_wp2
          go_roundw
          case rel => exact ⟨k + 1, by omega, by go_num, HN2.out, trivial⟩
          case measure => simp [intOf]; omega
        · have h0 : (T.toList == []) = false := lit_ne [] hte
          have h0' : (!(T.toList == [])) = true := by rw [h0]; rfl
          clear hts hte
          go_wp2
          go_roundw
          case rel => exact ⟨k + 1, by omega, by go_num, HN2.out, trivial⟩
          case measure => simp [intOf]; omega
    · obtain rfl : k = 11 := by omega
      have HRK := Lib.hid (show r = 2 by rw [HR.out]; exact kindN_miss 11 0 (fun q _ hq => HNO.out q (by omega)))
      go_wp2
      go_ret
      exact ⟨ret_int (by rw [HRK.out]; rfl), rfl⟩

end Go.Proofs.YticpfciebpdkdaaDoor
