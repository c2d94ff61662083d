/- DERIVED. A package-level array of strings that holds given texts: what a walk reads of it. No condition. · The program's CodeName, CodeOf and kindOf: each returns what a plain function says, where the program's tables of names and words are as its text lays them. · The program's FormatMods, ParseMods: each returns what a plain function says. · The program's formatKey and FormatAction: each returns the text of an action, where the tables are as their texts lay them. -/
import Derived.Test.YtnfnhbldphiohaaDoorCore
import Derived.Laws.Rows
import Derived.Lib.LaidTab
import Derived.Test.YtnfnhbldphiohaaDoorAcs
import Derived.Test.YtnfnhbldphiohaaDoorAcOk
import Derived.Laws.Runes
import Derived.Test.YtnfnhbldphiohaaDoorAcTx
namespace Go.Proofs.YtnfnhbldphiohaaDoor
open Go.RowKit

/-- Block g holds these texts, one a cell. -/
def TabH (w : World) (g : Nat) (ss : List ByteArray) : Prop := ∃ t fr, w.heap[g]? = some (.cells (ss.map Value.string).toArray t fr)
theorem TabH.lt {w : World} {g : Nat} {ss : List ByteArray} (h : TabH w g ss) : g < w.heap.size := by
  obtain ⟨t, fr, h⟩ := h
  exact (Array.getElem?_eq_some_iff.1 h).1
theorem TabH.below {w w' : World} {B g : Nat} {ss : List ByteArray} (h : TabH w g ss) (hb : Below B w w') (hg : g < B) : TabH w' g ss := by
  obtain ⟨t, fr, h⟩ := h
  exact ⟨t, fr, (hb.block g hg).trans h⟩
theorem TabH.cell {w : World} {g : Nat} {ss : List ByteArray} (h : TabH w g ss) (j : Nat) (hj : j < ss.length) : w.cell? ⟨g, j, none⟩ = some (.string (ss.getD j ⟨#[]⟩)) := by
  obtain ⟨t, fr, h⟩ := h
  rw [cell_of_row w g j _ t fr h]
  simp [List.getD, hj]
theorem TabH.load {P : Program} {w : World} {g : Nat} {ss : List ByteArray} (h : TabH w g ss) {ty e : TypeId} {n : Nat} (hu : P.underlying ty = some (.array n e)) (hi : (P.info? ty).map (·.size) = some n) (hn : ss.length = n) :
    (loadVar ty ⟨g, 0, none⟩).run P w = .ok (.agg (ss.map Value.string).toArray) w := by
  obtain ⟨t, fr, h⟩ := h
  exact run_loadVar_row w g t ty _ fr _ h hu rfl (by rw [hi]; simp [hn])
theorem run_index_arr {P : Program} {ty e : TypeId} {n : Nat} {cs : Array Value} {j : Nat} {v : Value} (hu : P.underlying ty = some (.array n e)) (hj : j < n) (ha : ∀ w, (isAgg e).run P w = .ok false w) (hz : ∀ w, (sizeOf e).run P w = .ok 1 w) (hv : cs[j]? = some v) (w : World) :
    (Instr.index ty (.agg cs) (.int .i64 (j : Int))).run P w = .ok v w := by
  have h1 : (0 : Int) ≤ (j : Int) ∧ (j : Int) < (n : Int) := by omega
  simp [Instr.index, run_underlying hu, asIntOf, hj, part, ha, hz, hv]
theorem tab_at (ss : List ByteArray) (j : Nat) (hj : j < ss.length) : (ss.map Value.string).toArray[j]? = some (.string (ss.getD j ⟨#[]⟩)) := by simp [List.getD, hj]

/-- The table as a row lists it: an array of texts. -/
def strData {H : Type} (ss : List ByteArray) : DataW H := .agg (ss.map fun s => .lit (.string s.data.toList))
theorem data_inj {a b : ByteArray} (h : a.data.toList = b.data.toList) : a = b := by
  cases a; cases b; simp at h; simp [h]
theorem cells_of_strs {H : Type} {enc : TypeId × Value → H} {P : Program} {w : World} {base : Nat} {sp : Nat → Bool} {held : Bool} {fuel : Nat} {t e : TypeId} {n : Nat} {cs : List Value} {ss : List ByteArray} {p : List MemPlace}
    (ht : P.underlying t = some (.array n e)) (he : P.underlying e = some .string) (hce : P.cellsOf e = 1) (hct : P.cellsOf t = n)
    (h : DataW.trod enc P w base sp held fuel t cs = some (strData ss, p)) : cs = ss.map Value.string := by
  cases fuel with
  | zero => simp [DataW.trod] at h
  | succ fuel =>
    simp only [DataW.trod, ht, hce, hct, Nat.mul_one] at h
    split at h
    · rename_i hl
      obtain ⟨xs, hm, hx⟩ := Option.map_eq_some_iff.1 h
      have hxs : xs.map (·.1) = ss.map fun s => (DataW.lit (.string s.data.toList) : DataW H) := by
        have := congrArg Prod.fst hx
        simpa [strData] using this
      have hxl : xs.length = n := by simpa using Lib.mapM_length hm
      have hzl : ss.length = n := by
        have := congrArg List.length hxs
        simp at this
        omega
      apply List.ext_getElem?
      intro i
      by_cases hi : i < n
      · obtain ⟨b, hb, hf⟩ := Lib.mapM_at hm i i (by simp [hi])
        obtain ⟨s, hc, rfl, _⟩ := DataW.trod_string he hf
        have h1 : cs[i]? = some (.string s) := by
          have := congrArg (·[0]?) hc
          simpa [List.getElem?_take, List.getElem?_drop] using this
        have h2 : (xs.map (·.1))[i]? = some (DataW.lit (.string s.data.toList) : DataW H) := by simp [hb]
        rw [hxs] at h2
        simp only [List.getElem?_map, Option.map_eq_some_iff, DataW.lit.injEq, Lit.string.injEq] at h2
        obtain ⟨s', hs', e⟩ := h2
        simp [h1, hs', data_inj e]
      · rw [List.getElem?_eq_none (by omega), List.getElem?_eq_none (by simp; omega)]
    · cases h
theorem tabH_of_head {P : Program} {W : World} {name : String} {ss : List ByteArray} {rest : List (String × DataW Unit)} {g : Nat} {t e : TypeId} {n : Nat}
    (hg : P.globalNamed name = some g) (hty : (P.globals[g]?).map (·.type) = some t) (ht : P.underlying t = some (.array n e)) (he : P.underlying e = some .string) (hce : P.cellsOf e = 1) (hct : P.cellsOf t = n)
    (h : laidMet P ((name, strData ss) :: rest) W) : TabH W g ss := by
  obtain ⟨ps, ⟨g', t', cs, fuel, p, q, hg', ht', hvar, hd, _, _⟩, _⟩ := h
  obtain rfl := Option.some.inj (hg.symm.trans hg')
  obtain rfl := Option.some.inj (hty.symm.trans ht')
  have hc := cells_of_strs ht he hce hct hd
  unfold World.var? at hvar
  rw [hg] at hvar
  simp only [Option.bind_some] at hvar
  split at hvar
  · rename_i c t2 fr hh
    simp only [Option.some.injEq] at hvar
    subst hvar
    refine ⟨t2, fr, ?_⟩
    rw [hh, ← hc]
  · cases hvar
end Go.Proofs.YtnfnhbldphiohaaDoor

namespace Go.Proofs.YtnfnhbldphiohaaDoor
open Go.RowKit

def nmTab : List ByteArray := ⟨#[]⟩ :: nms
def wdTab : List ByteArray := [⟨#[110, 111, 110, 101]⟩, ⟨#[112, 97, 115, 115]⟩, ⟨#[]⟩, ⟨#[109, 111]⟩, ⟨#[116, 103]⟩, ⟨#[116, 111]⟩, ⟨#[]⟩, ⟨#[]⟩, ⟨#[111, 110, 99, 101]⟩, ⟨#[109, 97, 99, 114, 111]⟩, ⟨#[99, 97, 112, 115]⟩]
theorem nmTab_len : nmTab.length = 57 := rfl
theorem wdTab_len : wdTab.length = 11 := rfl
theorem nmTab_at (q : Nat) (h : q < 57) : nmTab.getD q ⟨#[]⟩ = nmV (q : Int) := by
  cases q with
  | zero => rfl
  | succ k =>
    have : inB ((k + 1 : Nat) : Int) 1 56 = true := by unfold inB; exact decide_eq_true (by omega)
    rw [nmV, if_pos this]
    rfl
theorem tyNm : Tryd.prog.underlying 108 = some (.array 57 9) := by kernel_rfl
theorem tyWd : Tryd.prog.underlying 101 = some (.array 11 9) := by kernel_rfl
theorem i57 : (Tryd.prog.info? 108).map (·.size) = some 57 := by kernel_rfl
theorem i11 : (Tryd.prog.info? 101).map (·.size) = some 11 := by kernel_rfl

set_option maxRecDepth 100000 in
theorem implCodeName_any (c : Int) (w : World) (ht : TabH w 1 nmTab) : Calls Tryd.prog 62 #[.int .i64 c] w fun e w' => e = .returned (.string (nmV c)) ∧ w = w' := by
  obtain ⟨v, hv⟩ : ∃ v, v = inB c 1 56 := ⟨_, rfl⟩
  cases v
  · have hn : nmV c = ⟨#[]⟩ := by rw [nmV, ← hv]; rfl
    rw [hn]
    have HV := Lib.hid hv
    clear hn hv
    go_enter Tryd.func62, Tryd.ntmps62
    go_wp2_with fail
    refine (isBetween_any c 1 56 _).mono ?_
    rw [← HV.out]
    rintro e w0 ⟨rfl, rfl⟩
    go_wp2
    go_ret
    exact ⟨rfl, rfl⟩
  · have h1 := of_decide_eq_true (show decide (1 ≤ c ∧ c ≤ 56) = true from hv.symm)
    obtain ⟨q, rfl⟩ := Int.eq_ofNat_of_zero_le (show 0 ≤ c by omega)
    have hcell := ht.cell q (by rw [nmTab_len]; omega)
    rw [nmTab_at q (by omega)] at hcell
    obtain ⟨T, hT⟩ : ∃ T, T = nmV (q : Int) := ⟨_, rfl⟩
    rw [← hT] at hcell ⊢
    have HV := Lib.hid hv
    have hi : (0 : Int) ≤ (q : Int) ∧ (q : Int) < 57 := by omega
    have hi0 : (0 : Int) ≤ (q : Int) := by omega
    have hi1 : (q : Int) < 57 := by omega
    clear hT hv h1 ht
    go_enter Tryd.func62, Tryd.ntmps62
    go_wp2_with fail
    refine (isBetween_any q 1 56 _).mono ?_
    rw [← HV.out]
    rintro e w0 ⟨rfl, rfl⟩
    go_wp2
    go_ret
    exact ⟨rfl, rfl⟩

theorem TabH.agg {w : World} {g : Nat} {ss : List ByteArray} (h : TabH w g ss) : ∃ (CS : Array Value) (t : TypeId) (fr : Nat × Nat), w.heap[g]? = some (.cells CS t fr) ∧ CS.size = ss.length ∧ ∀ j, j < ss.length → CS[j]? = some (.string (ss.getD j ⟨#[]⟩)) := by
  obtain ⟨t, fr, h⟩ := h
  exact ⟨_, t, fr, h, by simp, fun j hj => tab_at ss j hj⟩

theorem codeN_zero {s : ByteArray} : ∀ j : Nat, (∀ q : Nat, q ≤ j → nmV (q : Int) ≠ s) → codeN s j = 0
  | 0, _ => rfl
  | j + 1, h => codeN_miss (codeN_zero j (fun q hq => h q (by omega))) (h (j + 1) (Nat.le_refl _))
set_option maxRecDepth 1000000 in
theorem code_empty : codeV ⟨#[]⟩ = 0 := by kernel_rfl
theorem code_hit {s : ByteArray} {j : Nat} (hj : j < 57) (h : ∀ q : Nat, q < j → nmV (q : Int) ≠ s) (e : nmV (j : Int) = s) : codeV s = j := by
  cases j with
  | zero =>
    have : s = ⟨#[]⟩ := by rw [← e]; rfl
    rw [this, code_empty]
  | succ k => exact codeN_hit (codeN_zero k (fun q hq => h q (by omega))) e 56 (by omega)
theorem code_miss {s : ByteArray} (h : ∀ q : Nat, q < 57 → nmV (q : Int) ≠ s) : codeV s = 0 := codeN_zero 56 (fun q hq => h q (by omega))

theorem implCodeOf_any (s : ByteArray) (w : World) (ht : TabH w 1 nmTab) : Calls Tryd.prog 98 #[.string s] w fun e w' => e = .returned (.int .i64 (codeV s : Nat)) ∧ w = w' := by
  obtain ⟨r, hr⟩ : ∃ r, r = codeV s := ⟨_, rfl⟩
  rw [← hr]
  have HR := Lib.hid hr
  obtain ⟨CS, tt, fr, hg, hsz, hcs⟩ := ht.agg
  have hi : (Tryd.prog.info? 108).map (·.size) = some CS.size := by rw [hsz]; exact i57
  have HCS := Lib.hid hcs
  have HSZ := Lib.hid hsz
  clear hr ht hcs hsz
  go_enter Tryd.func98, Tryd.ntmps98
  go_wp2_with (refine wpList_load_row rfl 108 _ rfl 1 rfl tt CS fr _ hg tyNm rfl hi ?_)
  clear hg hi
  go_loopw [6] (fun i wr => ∃ k : Nat, k ≤ 57 ∧ i = .int .i64 (k : Int) ∧ (∀ q : Nat, q < k → nmV (q : Int) ≠ s) ∧ wr = w) (fun i _ => 57 - (intOf i).toNat)
  case atStart => exact ⟨0, Nat.zero_le _, rfl, fun q hq => by omega, rfl⟩
  case round =>
    obtain ⟨k, hk, rfl, hno, rfl⟩ := hrel
    have HNO := Lib.hid hno
    clear hno
    by_cases hlt : k < 57
    · have hlt2 : (k : Int) < 57 := by omega
      obtain ⟨T, hT⟩ : ∃ T, T = nmV (k : Int) := ⟨_, rfl⟩
      have hat := HCS.out k (by rw [nmTab_len]; exact hlt)
      rw [nmTab_at k hlt, ← hT] at hat
      have hix := run_index_arr (P := Tryd.prog) (j := k) tyNm hlt Tryd.isAgg9 Tryd.sizeOf9 hat
      have HT := Lib.hid hT
      clear hT hat
      by_cases hts : T = s
      · have hrk : r = k := by rw [HR.out]; exact code_hit hlt HNO.out (by rw [← HT.out]; exact hts)
        subst hts
        have HRK := Lib.hid hrk
        clear hrk
        go_wp2
        go_ret
        exact ⟨ret_int (by rw [HRK.out]), rfl⟩
      · have hne := toList_ne hts
        have HN2 := Lib.hid (show ∀ q : Nat, q < k + 1 → nmV (q : Int) ≠ s from fun q hq => by
          rcases Nat.lt_or_ge q k with h | h
          · exact HNO.out q h
          · obtain rfl : q = k := by omega
            rw [← HT.out]; exact hts)
        clear hts
        go_wp2
        go_roundw
        case rel => exact ⟨k + 1, by omega, by go_num, HN2.out, trivial⟩
        case measure => simp [intOf]; omega
    · obtain rfl : k = 57 := by omega
      have HRK := Lib.hid (show r = 0 by rw [HR.out]; exact code_miss HNO.out)
      go_wp2
      go_ret
      exact ⟨ret_int (by rw [HRK.out]; rfl), rfl⟩

/-- Word j is there and is s. -/
def wdIs (s : ByteArray) (j : Nat) : Prop := wdTab.getD j ⟨#[]⟩ ≠ ⟨#[]⟩ ∧ wdTab.getD j ⟨#[]⟩ = s
instance (s : ByteArray) (j : Nat) : Decidable (wdIs s j) := by unfold wdIs; infer_instance
/-- The kind of a word, 2 for all others. -/
def kindN (s : ByteArray) : Nat → Nat → Nat
  | _, 0 => 2
  | j, k + 1 => if wdIs s j then j else kindN s (j + 1) k
def kindV (s : ByteArray) : Nat := kindN s 0 11
theorem kindN_hit {s : ByteArray} {j : Nat} (e : wdIs s j) : ∀ (k a : Nat), a ≤ j → j < a + k → (∀ q : Nat, a ≤ q → q < j → ¬ wdIs s q) → kindN s a k = j
  | 0, a, h1, h2, _ => by omega
  | k + 1, a, h1, h2, h => by
    unfold kindN
    rcases Nat.eq_or_lt_of_le h1 with rfl | h3
    · rw [if_pos e]
    · rw [if_neg (h a (Nat.le_refl _) h3)]
      exact kindN_hit e k (a + 1) h3 (by omega) (fun q hq hj => h q (by omega) hj)
theorem kindN_miss {s : ByteArray} : ∀ (k a : Nat), (∀ q : Nat, a ≤ q → q < a + k → ¬ wdIs s q) → kindN s a k = 2
  | 0, _, _ => rfl
  | k + 1, a, h => by
    unfold kindN
    rw [if_neg (h a (Nat.le_refl _) (by omega))]
    exact kindN_miss k (a + 1) (fun q hq hj => h q (by omega) (by omega))

theorem kindOf_any (s : ByteArray) (w : World) (ht : TabH w 0 wdTab) : Calls Tryd.prog 99 #[.string s] w fun e w' => e = .returned (.int .i64 (kindV s : Nat)) ∧ w = w' := by
  obtain ⟨r, hr⟩ : ∃ r, r = kindV s := ⟨_, rfl⟩
  rw [← hr]
  have HR := Lib.hid hr
  obtain ⟨CS, tt, fr, hg, hsz, hcs⟩ := ht.agg
  have hi : (Tryd.prog.info? 101).map (·.size) = some CS.size := by rw [hsz]; exact i11
  have HCS := Lib.hid hcs
  have HSZ := Lib.hid hsz
  clear hr ht hcs hsz
  go_enter Tryd.func99, Tryd.ntmps99
  go_wp2_with (refine wpList_load_row rfl 101 _ rfl 0 rfl tt CS fr _ hg tyWd rfl hi ?_)
  clear hg hi
  go_loopw [6] (fun i wr => ∃ k : Nat, k ≤ 11 ∧ i = .int .i64 (k : Int) ∧ (∀ q : Nat, q < k → ¬ wdIs s q) ∧ wr = w) (fun i _ => 11 - (intOf i).toNat)
  case atStart => exact ⟨0, Nat.zero_le _, rfl, fun q hq => by omega, rfl⟩
  case round =>
    obtain ⟨k, hk, rfl, hno, rfl⟩ := hrel
    have HNO := Lib.hid hno
    clear hno
    by_cases hlt : k < 11
    · have hlt2 : (k : Int) < 11 := by omega
      obtain ⟨T, hT⟩ : ∃ T, T = wdTab.getD k ⟨#[]⟩ := ⟨_, rfl⟩
      have hat := HCS.out k (by rw [wdTab_len]; exact hlt)
      rw [← hT] at hat
      have hix := run_index_arr (P := Tryd.prog) (j := k) tyWd hlt Tryd.isAgg9 Tryd.sizeOf9 hat
      have HT := Lib.hid hT
      clear hT hat
      by_cases hts : T = s
      · by_cases hte : T = ⟨#[]⟩
        · have HN2 := Lib.hid (show ∀ q : Nat, q < k + 1 → ¬ wdIs s q from fun q hq => by
            rcases Nat.lt_or_ge q k with h | h
            · exact HNO.out q h
            · obtain rfl : q = k := by omega
              rintro ⟨h1, _⟩
              rw [← HT.out] at h1; exact h1 hte)
          have h0 : (T.toList == []) = true := lit_eq [] hte
          have h0' : (!(T.toList == [])) = false := by rw [h0]; rfl
          have HTS := Lib.hid hts
          clear hts hte
          go_wp2
          go_roundw
          case rel => exact ⟨k + 1, by omega, by go_num, HN2.out, trivial⟩
          case measure => simp [intOf]; omega
        · have hrk : r = k := by rw [HR.out]; exact kindN_hit ⟨by rw [← HT.out]; exact hte, by rw [← HT.out]; exact hts⟩ 11 0 (Nat.zero_le _) (by omega) (fun q _ hq => HNO.out q hq)
          subst hts
          have HRK := Lib.hid hrk
          have h0 : (T.toList == []) = false := lit_ne [] hte
          have h0' : (!(T.toList == [])) = true := by rw [h0]; rfl
          clear hrk hte
          go_wp2
          go_ret
          exact ⟨ret_int (by rw [HRK.out]), rfl⟩
      · have hne := toList_ne hts
        have HN2 := Lib.hid (show ∀ q : Nat, q < k + 1 → ¬ wdIs s q from fun q hq => by
          rcases Nat.lt_or_ge q k with h | h
          · exact HNO.out q h
          · obtain rfl : q = k := by omega
            rintro ⟨_, h1⟩
            rw [← HT.out] at h1; exact hts h1)
        by_cases hte : T = ⟨#[]⟩
        · have h0 : (T.toList == []) = true := lit_eq [] hte
          have h0' : (!(T.toList == [])) = false := by rw [h0]; rfl
          clear hts hte
          go_wp2
          go_roundw
          case rel => exact ⟨k + 1, by omega, by go_num, HN2.out, trivial⟩
          case measure => simp [intOf]; omega
        · have h0 : (T.toList == []) = false := lit_ne [] hte
          have h0' : (!(T.toList == [])) = true := by rw [h0]; rfl
          clear hts hte
          go_wp2
          go_roundw
          case rel => exact ⟨k + 1, by omega, by go_num, HN2.out, trivial⟩
          case measure => simp [intOf]; omega
    · obtain rfl : k = 11 := by omega
      have HRK := Lib.hid (show r = 2 by rw [HR.out]; exact kindN_miss 11 0 (fun q _ hq => HNO.out q (by omega)))
      go_wp2
      go_ret
      exact ⟨ret_int (by rw [HRK.out]; rfl), rfl⟩
end Go.Proofs.YtnfnhbldphiohaaDoor

namespace Go.Proofs.YtnfnhbldphiohaaDoor
open Go.RowKit

theorem csag_at (pos : Nat) (h : pos < 4) : ∃ (R : Nat) (E : ByteArray), Utf8.decode csag pos = (R, 1) ∧ Utf8.encode (R : Int) = E ∧ csag.extract pos (pos + 1) = E ∧ E.size = 1 := by
  have : pos = 0 ∨ pos = 1 ∨ pos = 2 ∨ pos = 3 := by omega
  rcases this with rfl | rfl | rfl | rfl
  · exact ⟨67, ⟨#[67]⟩, by rfl, by rfl, by rfl, by rfl⟩
  · exact ⟨83, ⟨#[83]⟩, by rfl, by rfl, by rfl, by rfl⟩
  · exact ⟨65, ⟨#[65]⟩, by rfl, by rfl, by rfl, by rfl⟩
  · exact ⟨71, ⟨#[71]⟩, by rfl, by rfl, by rfl, by rfl⟩

set_option maxRecDepth 100000 in
theorem implFormatMods_any (m : Int) (w : World) : Calls Tryd.prog 61 #[.int .i64 m] w fun e w' => e = .returned (.string (mdV m)) ∧ Below w.heap.size w w' := by
  obtain ⟨v, hv⟩ : ∃ v, v = inB m 1 15 := ⟨_, rfl⟩
  cases v
  · have hn : mdV m = ⟨#[]⟩ := by rw [mdV, ← hv]; rfl
    rw [hn]
    have HV := Lib.hid hv
    clear hn hv
    go_enter Tryd.func61, Tryd.ntmps61
    go_wp2_with fail
    refine (isBetween_any m 1 15 _).mono ?_
    rw [← HV.out]
    rintro e w0 ⟨rfl, rfl⟩
    go_wp2
    go_ret
    exact ⟨rfl, Below.refl _ _⟩
  · have h1 := of_decide_eq_true (show decide (1 ≤ m ∧ m ≤ 15) = true from hv.symm)
    obtain ⟨q, rfl⟩ := Int.eq_ofNat_of_zero_le (show 0 ≤ m by omega)
    have hq : q < 2 ^ 62 := by omega
    have hn : mdV q = mdN q 4 := by rw [mdV, ← hv, if_pos rfl, Int.toNat_natCast]
    obtain ⟨r, hr⟩ : ∃ r, r = mdN q 4 := ⟨_, rfl⟩
    rw [hn, ← hr]
    have HR := Lib.hid hr
    have HV := Lib.hid hv
    clear hn hv h1 hr
    go_enter Tryd.func61, Tryd.ntmps61
    go_wp2_with fail
    refine (isBetween_any q 1 15 _).mono ?_
    rw [← HV.out]
    rintro e w0 ⟨rfl, rfl⟩
    go_wp2
    go_loopw [3] (fun t wr => ∃ k : Nat, k ≤ 4 ∧ t = .string (mdN q k) ∧ wr = w.iter csag k) (fun _ wr => 4 - wr.iterPos w.heap.size)
    case atStart => exact ⟨0, Nat.zero_le _, rfl, rfl⟩
    case round =>
      obtain ⟨k, hk, rfl, rfl⟩ := hrel
      have hmeas : (w.iter csag k).iterPos w.heap.size = k := by simp [World.iterPos, World.iter_heap]
      have HM := Lib.hid hmeas
      clear hmeas
      by_cases hlt : k < 4
      · obtain ⟨R, E, hdec, henc, hext, hE1⟩ := csag_at k hlt
        have hnx : ∀ ty, (Instr.next (.pointer (some ⟨w.heap.size, 0, none⟩)) true ty).run Tryd.prog (w.iter csag k) = _ := fun ty => run_next_any w csag k ty hlt
        rw [hdec] at hnx
        simp only [] at hnx
        have hsz := mdN_size q k
        have hb := bit_nat q k hq
        have hnx2 : mdN q (k + 1) = if q.testBit k = true then mdN q k ++ csag.extract k (k + 1) else mdN q k := by rw [mdN]
        rw [hext] at hnx2
        obtain ⟨tb, htb⟩ : ∃ tb, tb = q.testBit k := ⟨_, rfl⟩
        obtain ⟨A, hA⟩ : ∃ A, A = mdN q k := ⟨_, rfl⟩
        rw [← htb] at hb hnx2
        rw [← hA] at hnx2 hsz ⊢
        clear htb hA hdec hext
        cases tb
        · have hb0 : bits .and .i64 ((q : Int) / 2 ^ k) 1 = 0 := by rw [hb]; rfl
          have HN := Lib.hid (show mdN q (k + 1) = A by rw [hnx2]; rfl)
          clear hb hnx2 henc
          go_wp2
          go_roundw
          case rel => exact ⟨k + 1, by omega, by rw [HN.out], rfl⟩
          case measure => rw [HM.out]; simp [World.iterPos, World.iter_heap]; omega
        · have hb0 : bits .and .i64 ((q : Int) / 2 ^ k) 1 = 1 := by rw [hb]; rfl
          have HN := Lib.hid (show mdN q (k + 1) = A ++ E by rw [hnx2]; rfl)
          have hadd := fun (w : World) => run_string_add_sum (P := Tryd.prog) w A E (by omega)
          clear hb hnx2
          go_wp2
          go_roundw
          case rel => exact ⟨k + 1, by omega, by rw [HN.out], rfl⟩
          case measure => rw [HM.out]; simp [World.iterPos, World.iter_heap]; omega
      · obtain rfl : k = 4 := by omega
        have hnx : ∀ ty, (Instr.next (.pointer (some ⟨w.heap.size, 0, none⟩)) true ty).run Tryd.prog (w.iter csag 4) = _ := fun ty => run_next_end w csag 4 ty hlt
        rw [← HR.out]
        go_wp2
        go_ret
        exact ⟨rfl, (Below.refl _ _).alloc (Nat.le_refl _) _⟩

theorem implParseMods_any (s : ByteArray) (w : World) : Calls Tryd.prog 101 #[.string s] w fun e w' => e = .returned (.int .i64 (pmV s : Nat)) ∧ Below w.heap.size w w' := by
  obtain ⟨r, hr⟩ : ∃ r, r = pmV s := ⟨_, rfl⟩
  rw [← hr]
  have HR := Lib.hid hr
  clear hr
  go_enter Tryd.func101, Tryd.ntmps101
  go_wp2
  go_loopw [3] (fun i wr => ∃ k : Nat, k ≤ 15 ∧ i = .int .i64 ((k : Int) + 1) ∧ pmN s k = 0 ∧ Below w.heap.size w wr) (fun i _ => 16 - (intOf i).toNat)
  case atStart => exact ⟨0, Nat.zero_le _, rfl, rfl, Below.refl _ _⟩
  case round =>
    obtain ⟨k, hk, rfl, hc, hb⟩ := hrel
    have HB := Lib.hid hb
    clear hb
    by_cases hlt : k < 15
    · have hle : ((k : Int) + 1) ≤ 15 := by omega
      obtain ⟨T, hT⟩ : ∃ T, T = mdV ((k : Int) + 1) := ⟨_, rfl⟩
      have HT := Lib.hid hT
      have HC := Lib.hid hc
      clear hc hT
      by_cases hts : T = s
      · have hrk : r = k + 1 := by rw [HR.out, pmV]; exact pmN_hit HC.out (by rw [← hts, HT.out]; rfl) 15 hlt
        subst hts
        have HRK := Lib.hid hrk
        clear hrk
        go_wp2_with fail
        refine (implFormatMods_any _ _).mono ?_
        rw [← HT.out]
        rintro e w1 ⟨rfl, hb1⟩
        have HB1 := Lib.hid (HB.out.trans (hb1.mono HB.out.size))
        clear hb1
        go_wp2
        go_ret
        exact ⟨ret_int (by rw [HRK.out]; rfl), HB1.out⟩
      · have hne := toList_ne hts
        have hmiss := pmN_miss HC.out (fun h => hts (by rw [HT.out]; exact h))
        have HM := Lib.hid hmiss
        clear hmiss
        go_wp2_with fail
        refine (implFormatMods_any _ _).mono ?_
        rw [← HT.out]
        rintro e w1 ⟨rfl, hb1⟩
        have HB1 := Lib.hid (HB.out.trans (hb1.mono HB.out.size))
        clear hb1
        go_wp2
        go_roundw
        case rel => exact ⟨k + 1, by omega, by go_num, HM.out, HB1.out⟩
        case measure => simp [intOf]; omega
    · obtain rfl : k = 15 := by omega
      have HRK := Lib.hid (show r = 0 by rw [HR.out, pmV]; exact hc)
      clear hc
      go_wp2
      go_ret
      exact ⟨ret_int (by rw [HRK.out]; rfl), HB.out⟩
end Go.Proofs.YtnfnhbldphiohaaDoor

namespace Go.Proofs.YtnfnhbldphiohaaDoor
open Go.RowKit

/-- The tables that the program's chapter 5 reads are as their texts lay them. -/
structure AcTabs (w : World) : Prop where
  pow : Lib.TabIs Tryd.prog w "internal/strconv.uint64pow10" .u64 Lib.pow10Tab
  nm : TabH w 1 nmTab
  wd : TabH w 0 wdTab
theorem AcTabs.below {w w' : World} (h : AcTabs w) (hb : Below w.heap.size w w') : AcTabs w' := ⟨tab_below h.pow hb, h.nm.below hb h.nm.lt, h.wd.below hb h.wd.lt⟩
theorem AcTabs.alloc {w w' : World} {B : Nat} (h : AcTabs w) (hb : Below B w w') (hB : w.heap.size ≤ B) : AcTabs w' := h.below (hb.mono hB)
theorem AcTabs.drew {w : World} (h : AcTabs w) : AcTabs w.drew := h.below (Below.refl _ _).drew
/-- Whatever block b holds. -/
theorem AcTabs.ne {w : World} (h : AcTabs w) : 0 < w.heap.size := h.wd.lt

set_option maxRecDepth 100000 in
set_option maxHeartbeats 4000000 in
theorem formatKey_any (k c m n : Int) (T : ByteArray) (hT : T = if m = 0 then nmV c else mdV m ++ ⟨#[45]⟩ ++ nmV c) (w : World) (ht : AcTabs w) : Calls Tryd.prog 60 #[acv k c m n] w fun e w' => e = .returned (.string T) ∧ Below w.heap.size w w' := by
  have HR := Lib.hid hT
  have HT0 := Lib.hid ht
  clear hT ht
  obtain ⟨A, hA⟩ : ∃ A, A = mdV m := ⟨_, rfl⟩
  have hAs : A.size ≤ 4 := by rw [hA]; exact mdV_size m
  obtain ⟨N, hN⟩ : ∃ N, N = nmV c := ⟨_, rfl⟩
  have hNs : N.size ≤ 5 := by rw [hN]; exact nmV_size c
  have HA := Lib.hid hA
  have HN := Lib.hid hN
  have HAS := Lib.hid hAs
  have HNS := Lib.hid hNs
  clear hA hN hAs hNs
  obtain ⟨W, hW⟩ : ∃ W, W = w.alloc (.cells #[.int .i64 k, .int .i64 c, .int .i64 m, .int .i64 n] 67) := ⟨_, rfl⟩
  have HX0 := Lib.hid (show Bxd W w.heap.size [.int .i64 k, .int .i64 c, .int .i64 m, .int .i64 n] by rw [hW]; exact Bxd.new _ _ _)
  have HB0 := Lib.hid (show Below w.heap.size w W by rw [hW]; exact (Below.refl _ _).alloc (Nat.le_refl _) _)
  have HS0 := Lib.hid (show w.heap.size < W.heap.size by rw [hW]; simp)
  have HW := Lib.hid hW
  clear hW
  go_enter Tryd.func60, Tryd.ntmps60
  go_upto_region 1 with (fail)
  rw [← HW.out]
  have c0 := HX0.out.at 0 _ rfl
  have c1 := HX0.out.at 1 _ rfl
  have c2 := HX0.out.at 2 _ rfl
  have c3 := HX0.out.at 3 _ rfl
  have HTB := Lib.hid (HT0.out.below HB0.out)
  by_cases hm : m = 0
  · have HR3 := Lib.hid (show T = N by rw [HR.out, if_pos hm, HN.out])
    go_wp2_with fail
    refine (implCodeName_any c _ HTB.out.nm).mono ?_
    rw [← HN.out]
    rintro e w3 ⟨rfl, rfl⟩
    go_wp2
    go_ret
    exact ⟨ret_tx (by rw [HR3.out]), HB0.out⟩
  · have HR3 := Lib.hid (show T = A ++ ⟨#[45]⟩ ++ N by rw [HR.out, if_neg hm, HA.out, HN.out])
    have HS := HS0
    have hs : (⟨#[45]⟩ : ByteArray).size = 1 := rfl
    have hadd1 := fun (w : World) => run_string_add_sum (P := Tryd.prog) w A ⟨#[45]⟩ (by have := HAS.out; omega)
    have hadd2 := fun (w : World) => run_string_add_sum (P := Tryd.prog) w (A ++ ⟨#[45]⟩) N (by have := HAS.out; have := HNS.out; rw [ByteArray.size_append]; omega)
    clear hs
    go_wp2_with fail
    go_region_held3 (fun w' => w'.cell? ⟨w.heap.size, 1, none⟩ = some (.int .i64 c) ∧ w'.cell? ⟨w.heap.size, 2, none⟩ = some (.int .i64 m) ∧ w'.cell? ⟨w.heap.size, 3, none⟩ = some (.int .i64 n)) (first | go_keep)
      (first
        | (go_at_call 61; refine (implFormatMods_any m _).mono ?_; rw [← HA.out]; rintro e w5 ⟨rfl, hb5⟩; have hy5 : Below W.heap.size W w5 := ((Below.refl _ _).drew).trans hb5; have k1 := (hy5.cell (p := ⟨w.heap.size, 1, none⟩) HS.out).trans c1; have k2 := (hy5.cell (p := ⟨w.heap.size, 2, none⟩) HS.out).trans c2; have k3 := (hy5.cell (p := ⟨w.heap.size, 3, none⟩) HS.out).trans c3; clear hb5)
        | (go_at_call 62; refine (implCodeName_any c _ (HTB.out.below hy5).nm).mono ?_; rw [← HN.out]; rintro e w6 ⟨rfl, rfl⟩))
    all_goals
      go_wp2
      go_ret
      exact ⟨ret_tx (by rw [HR3.out]), HB0.out.trans (hy5.mono HB0.out.size)⟩

set_option maxRecDepth 100000 in
set_option maxHeartbeats 4000000 in
theorem implFormatAction_any (k c m n : Int) (w : World) (ht : AcTabs w) : Calls Tryd.prog 32 #[acv k c m n] w fun e w' => e = .returned (.string (acS k c m n)) ∧ Below w.heap.size w w' := by
  obtain ⟨v, hv⟩ : ∃ v, v = okAc k c m n := ⟨_, rfl⟩
  obtain ⟨r, hr⟩ : ∃ r, r = acS k c m n := ⟨_, rfl⟩
  have hr2 := hr
  rw [acS, ← hv] at hr2
  rw [← hr]
  have HV := Lib.hid hv
  have HR := Lib.hid hr2
  have HT0 := Lib.hid ht
  clear hv hr hr2 ht
  obtain ⟨W, hW⟩ : ∃ W, W = w.alloc (.cells #[.int .i64 k, .int .i64 c, .int .i64 m, .int .i64 n] 67) := ⟨_, rfl⟩
  have HX0 := Lib.hid (show Bxd W w.heap.size [.int .i64 k, .int .i64 c, .int .i64 m, .int .i64 n] by rw [hW]; exact Bxd.new _ _ _)
  have HB0 := Lib.hid (show Below w.heap.size w W by rw [hW]; exact (Below.refl _ _).alloc (Nat.le_refl _) _)
  have HS0 := Lib.hid (show w.heap.size < W.heap.size by rw [hW]; simp)
  have HW := Lib.hid hW
  clear hW
  go_enter Tryd.func32, Tryd.ntmps32
  go_wp2_with fail
  rw [← HW.out]
  have c0 := HX0.out.at 0 _ rfl
  have c1 := HX0.out.at 1 _ rfl
  have c2 := HX0.out.at 2 _ rfl
  have c3 := HX0.out.at 3 _ rfl
  refine (implIsAction_q k c m n v HV.out _).mono ?_
  rintro e w1 ⟨rfl, hb⟩
  have HB := Lib.hid (HB0.out.trans (hb.mono HB0.out.size))
  have HS := Lib.hid (Nat.lt_of_lt_of_le HS0.out hb.size)
  have HX1 := Lib.hid (HX0.out.below hb HS0.out)
  have HTB := Lib.hid (HT0.out.below HB.out)
  clear hb c0 c1 c2 c3
  have c0 := HX1.out.at 0 _ rfl
  have c1 := HX1.out.at 1 _ rfl
  have c2 := HX1.out.at 2 _ rfl
  have c3 := HX1.out.at 3 _ rfl
  cases v
  · go_wp2
    go_ret
    exact ⟨ret_tx HR.out.symm, HB.out⟩
  · obtain ⟨⟨k0, k1⟩, -, -, n0, n3⟩ := okAc_lim HV.out.symm
    have HR2 := Lib.hid (show r = acT k c m n from HR.out)
    obtain ⟨T, hT⟩ : ∃ T, T = itoaText n := ⟨_, rfl⟩
    have hTs : T.size = 1 := by rw [hT, itoa_few n0 n3]; rfl
    obtain ⟨A, hA⟩ : ∃ A, A = mdV m := ⟨_, rfl⟩
    have hAs : A.size ≤ 4 := by rw [hA]; exact mdV_size m
    obtain ⟨N, hN⟩ : ∃ N, N = nmV c := ⟨_, rfl⟩
    have hNs : N.size ≤ 5 := by rw [hN]; exact nmV_size c
    have HT := Lib.hid hT
    have HA := Lib.hid hA
    have HN := Lib.hid hN
    have HTS := Lib.hid hTs
    have HAS := Lib.hid hAs
    have HNS := Lib.hid hNs
    have HN0 := Lib.hid (show -9223372036854775808 ≤ n by omega)
    have HN1 := Lib.hid (show n ≤ 9223372036854775807 by omega)
    have key : k = 0 ∨ k = 1 ∨ k = 10 ∨ k = 3 ∨ k = 4 ∨ k = 5 ∨ k = 9 ∨ k = 6 ∨ k = 7 ∨ k = 8 ∨ k = 2 := by omega
    clear hT hA hN hTs hAs hNs k0 k1 n0 n3
    rcases key with rfl | rfl | rfl | rfl | rfl | rfl | rfl | rfl | rfl | rfl | rfl
    case inl =>
      have cw : w1.cell? ⟨0, 0, none⟩ = some (.string ⟨#[110, 111, 110, 101]⟩) := HTB.out.wd.cell 0 (by decide)
      go_wp2
      go_ret
      exact ⟨ret_tx HR2.out.symm, HB.out⟩
    case inr.inl =>
      have cw : w1.cell? ⟨0, 1, none⟩ = some (.string ⟨#[112, 97, 115, 115]⟩) := HTB.out.wd.cell 1 (by decide)
      go_wp2
      go_ret
      exact ⟨ret_tx HR2.out.symm, HB.out⟩
    case inr.inr.inl =>
      have cw : w1.cell? ⟨0, 10, none⟩ = some (.string ⟨#[99, 97, 112, 115]⟩) := HTB.out.wd.cell 10 (by decide)
      go_wp2
      go_ret
      exact ⟨ret_tx HR2.out.symm, HB.out⟩
    case inr.inr.inr.inl =>
      have cw : w1.cell? ⟨0, 3, none⟩ = some (.string ⟨#[109, 111]⟩) := HTB.out.wd.cell 3 (by decide)
      obtain ⟨WD, hWD⟩ : ∃ WD, WD = (⟨#[109, 111]⟩ : ByteArray) := ⟨_, rfl⟩
      rw [← hWD] at cw
      have HWD := Lib.hid hWD
      have hs1 : WD.size = 2 := by rw [hWD]; rfl
      have hs2 : (⟨#[58]⟩ : ByteArray).size = 1 := rfl
      have hadd1 := fun (w : World) => run_string_add_sum (P := Tryd.prog) w WD ⟨#[58]⟩ (by omega)
      have hadd2 := fun (w : World) => run_string_add_sum (P := Tryd.prog) w (WD ++ ⟨#[58]⟩) T (by have := HTS.out; rw [ByteArray.size_append]; omega)
      clear hs1 hs2 hWD
      go_wp2_with fail
      go_region_held3 (fun w' => w'.cell? ⟨w.heap.size, 0, none⟩ = some (.int .i64 3) ∧ w'.cell? ⟨w.heap.size, 1, none⟩ = some (.int .i64 c) ∧ w'.cell? ⟨w.heap.size, 2, none⟩ = some (.int .i64 m) ∧ w'.cell? ⟨w.heap.size, 3, none⟩ = some (.int .i64 n) ∧ w'.cell? ⟨0, 3, none⟩ = some (.string WD)) (first | go_keep)
        (first | (go_at_call 63; refine (implFormatInt_any n HN0.out HN1.out _ (tab_below HTB.out.pow (Below.refl _ _).drew)).mono ?_; rw [← HT.out]; rintro e w5 ⟨rfl, hb5⟩; have hy5 : Below w1.heap.size w1 w5 := ((Below.refl _ _).drew).trans hb5; have e0 := (hy5.cell (p := ⟨w.heap.size, 0, none⟩) HS.out).trans c0; have e1 := (hy5.cell (p := ⟨w.heap.size, 1, none⟩) HS.out).trans c1; have e2 := (hy5.cell (p := ⟨w.heap.size, 2, none⟩) HS.out).trans c2; have e3 := (hy5.cell (p := ⟨w.heap.size, 3, none⟩) HS.out).trans c3; have ew := (hy5.cell (p := ⟨0, 3, none⟩) HTB.out.wd.lt).trans cw; clear hb5))
      all_goals
        go_wp2
        go_ret
        exact ⟨ret_tx (by rw [HR2.out, HT.out, HWD.out]; rfl), HB.out.trans (hy5.mono HB.out.size)⟩
    case inr.inr.inr.inr.inl =>
      have cw : w1.cell? ⟨0, 4, none⟩ = some (.string ⟨#[116, 103]⟩) := HTB.out.wd.cell 4 (by decide)
      obtain ⟨WD, hWD⟩ : ∃ WD, WD = (⟨#[116, 103]⟩ : ByteArray) := ⟨_, rfl⟩
      rw [← hWD] at cw
      have HWD := Lib.hid hWD
      have hs1 : WD.size = 2 := by rw [hWD]; rfl
      have hs2 : (⟨#[58]⟩ : ByteArray).size = 1 := rfl
      have hadd1 := fun (w : World) => run_string_add_sum (P := Tryd.prog) w WD ⟨#[58]⟩ (by omega)
      have hadd2 := fun (w : World) => run_string_add_sum (P := Tryd.prog) w (WD ++ ⟨#[58]⟩) T (by have := HTS.out; rw [ByteArray.size_append]; omega)
      clear hs1 hs2 hWD
      go_wp2_with fail
      go_region_held3 (fun w' => w'.cell? ⟨w.heap.size, 0, none⟩ = some (.int .i64 4) ∧ w'.cell? ⟨w.heap.size, 1, none⟩ = some (.int .i64 c) ∧ w'.cell? ⟨w.heap.size, 2, none⟩ = some (.int .i64 m) ∧ w'.cell? ⟨w.heap.size, 3, none⟩ = some (.int .i64 n) ∧ w'.cell? ⟨0, 4, none⟩ = some (.string WD)) (first | go_keep)
        (first | (go_at_call 63; refine (implFormatInt_any n HN0.out HN1.out _ (tab_below HTB.out.pow (Below.refl _ _).drew)).mono ?_; rw [← HT.out]; rintro e w5 ⟨rfl, hb5⟩; have hy5 : Below w1.heap.size w1 w5 := ((Below.refl _ _).drew).trans hb5; have e0 := (hy5.cell (p := ⟨w.heap.size, 0, none⟩) HS.out).trans c0; have e1 := (hy5.cell (p := ⟨w.heap.size, 1, none⟩) HS.out).trans c1; have e2 := (hy5.cell (p := ⟨w.heap.size, 2, none⟩) HS.out).trans c2; have e3 := (hy5.cell (p := ⟨w.heap.size, 3, none⟩) HS.out).trans c3; have ew := (hy5.cell (p := ⟨0, 4, none⟩) HTB.out.wd.lt).trans cw; clear hb5))
      all_goals
        go_wp2
        go_ret
        exact ⟨ret_tx (by rw [HR2.out, HT.out, HWD.out]; rfl), HB.out.trans (hy5.mono HB.out.size)⟩
    case inr.inr.inr.inr.inr.inl =>
      have cw : w1.cell? ⟨0, 5, none⟩ = some (.string ⟨#[116, 111]⟩) := HTB.out.wd.cell 5 (by decide)
      obtain ⟨WD, hWD⟩ : ∃ WD, WD = (⟨#[116, 111]⟩ : ByteArray) := ⟨_, rfl⟩
      rw [← hWD] at cw
      have HWD := Lib.hid hWD
      have hs1 : WD.size = 2 := by rw [hWD]; rfl
      have hs2 : (⟨#[58]⟩ : ByteArray).size = 1 := rfl
      have hadd1 := fun (w : World) => run_string_add_sum (P := Tryd.prog) w WD ⟨#[58]⟩ (by omega)
      have hadd2 := fun (w : World) => run_string_add_sum (P := Tryd.prog) w (WD ++ ⟨#[58]⟩) T (by have := HTS.out; rw [ByteArray.size_append]; omega)
      clear hs1 hs2 hWD
      go_wp2_with fail
      go_region_held3 (fun w' => w'.cell? ⟨w.heap.size, 0, none⟩ = some (.int .i64 5) ∧ w'.cell? ⟨w.heap.size, 1, none⟩ = some (.int .i64 c) ∧ w'.cell? ⟨w.heap.size, 2, none⟩ = some (.int .i64 m) ∧ w'.cell? ⟨w.heap.size, 3, none⟩ = some (.int .i64 n) ∧ w'.cell? ⟨0, 5, none⟩ = some (.string WD)) (first | go_keep)
        (first | (go_at_call 63; refine (implFormatInt_any n HN0.out HN1.out _ (tab_below HTB.out.pow (Below.refl _ _).drew)).mono ?_; rw [← HT.out]; rintro e w5 ⟨rfl, hb5⟩; have hy5 : Below w1.heap.size w1 w5 := ((Below.refl _ _).drew).trans hb5; have e0 := (hy5.cell (p := ⟨w.heap.size, 0, none⟩) HS.out).trans c0; have e1 := (hy5.cell (p := ⟨w.heap.size, 1, none⟩) HS.out).trans c1; have e2 := (hy5.cell (p := ⟨w.heap.size, 2, none⟩) HS.out).trans c2; have e3 := (hy5.cell (p := ⟨w.heap.size, 3, none⟩) HS.out).trans c3; have ew := (hy5.cell (p := ⟨0, 5, none⟩) HTB.out.wd.lt).trans cw; clear hb5))
      all_goals
        go_wp2
        go_ret
        exact ⟨ret_tx (by rw [HR2.out, HT.out, HWD.out]; rfl), HB.out.trans (hy5.mono HB.out.size)⟩
    case inr.inr.inr.inr.inr.inr.inl =>
      have cw : w1.cell? ⟨0, 9, none⟩ = some (.string ⟨#[109, 97, 99, 114, 111]⟩) := HTB.out.wd.cell 9 (by decide)
      obtain ⟨WD, hWD⟩ : ∃ WD, WD = (⟨#[109, 97, 99, 114, 111]⟩ : ByteArray) := ⟨_, rfl⟩
      rw [← hWD] at cw
      have HWD := Lib.hid hWD
      have hs1 : WD.size = 5 := by rw [hWD]; rfl
      have hs2 : (⟨#[58]⟩ : ByteArray).size = 1 := rfl
      have hadd1 := fun (w : World) => run_string_add_sum (P := Tryd.prog) w WD ⟨#[58]⟩ (by omega)
      have hadd2 := fun (w : World) => run_string_add_sum (P := Tryd.prog) w (WD ++ ⟨#[58]⟩) T (by have := HTS.out; rw [ByteArray.size_append]; omega)
      clear hs1 hs2 hWD
      go_wp2_with fail
      go_region_held3 (fun w' => w'.cell? ⟨w.heap.size, 0, none⟩ = some (.int .i64 9) ∧ w'.cell? ⟨w.heap.size, 1, none⟩ = some (.int .i64 c) ∧ w'.cell? ⟨w.heap.size, 2, none⟩ = some (.int .i64 m) ∧ w'.cell? ⟨w.heap.size, 3, none⟩ = some (.int .i64 n) ∧ w'.cell? ⟨0, 9, none⟩ = some (.string WD)) (first | go_keep)
        (first | (go_at_call 63; refine (implFormatInt_any n HN0.out HN1.out _ (tab_below HTB.out.pow (Below.refl _ _).drew)).mono ?_; rw [← HT.out]; rintro e w5 ⟨rfl, hb5⟩; have hy5 : Below w1.heap.size w1 w5 := ((Below.refl _ _).drew).trans hb5; have e0 := (hy5.cell (p := ⟨w.heap.size, 0, none⟩) HS.out).trans c0; have e1 := (hy5.cell (p := ⟨w.heap.size, 1, none⟩) HS.out).trans c1; have e2 := (hy5.cell (p := ⟨w.heap.size, 2, none⟩) HS.out).trans c2; have e3 := (hy5.cell (p := ⟨w.heap.size, 3, none⟩) HS.out).trans c3; have ew := (hy5.cell (p := ⟨0, 9, none⟩) HTB.out.wd.lt).trans cw; clear hb5))
      all_goals
        go_wp2
        go_ret
        exact ⟨ret_tx (by rw [HR2.out, HT.out, HWD.out]; rfl), HB.out.trans (hy5.mono HB.out.size)⟩
    case inr.inr.inr.inr.inr.inr.inr.inl =>
      have hs : (⟨#[47]⟩ : ByteArray).size = 1 := rfl
      have hadd1 := fun (w : World) => run_string_add_sum (P := Tryd.prog) w A ⟨#[47]⟩ (by have := HAS.out; omega)
      have hadd2 := fun (w : World) => run_string_add_sum (P := Tryd.prog) w (A ++ ⟨#[47]⟩) N (by have := HAS.out; have := HNS.out; rw [ByteArray.size_append]; omega)
      clear hs
      go_wp2_with fail
      go_region_held3 (fun w' => w'.cell? ⟨w.heap.size, 0, none⟩ = some (.int .i64 6) ∧ w'.cell? ⟨w.heap.size, 1, none⟩ = some (.int .i64 c) ∧ w'.cell? ⟨w.heap.size, 2, none⟩ = some (.int .i64 m) ∧ w'.cell? ⟨w.heap.size, 3, none⟩ = some (.int .i64 n)) (first | go_keep)
        (first
          | (go_at_call 61; refine (implFormatMods_any m _).mono ?_; rw [← HA.out]; rintro e w5 ⟨rfl, hb5⟩; have hy5 : Below w1.heap.size w1 w5 := ((Below.refl _ _).drew).trans hb5; have e0 := (hy5.cell (p := ⟨w.heap.size, 0, none⟩) HS.out).trans c0; have e1 := (hy5.cell (p := ⟨w.heap.size, 1, none⟩) HS.out).trans c1; have e2 := (hy5.cell (p := ⟨w.heap.size, 2, none⟩) HS.out).trans c2; have e3 := (hy5.cell (p := ⟨w.heap.size, 3, none⟩) HS.out).trans c3; clear hb5)
          | (go_at_call 62; refine (implCodeName_any c _ (HTB.out.below hy5).nm).mono ?_; rw [← HN.out]; rintro e w6 ⟨rfl, rfl⟩))
      all_goals
        go_wp2
        go_ret
        exact ⟨ret_tx (by rw [HR2.out, HA.out, HN.out]; rfl), HB.out.trans (hy5.mono HB.out.size)⟩
    case inr.inr.inr.inr.inr.inr.inr.inr.inl =>
      have hs : (⟨#[47]⟩ : ByteArray).size = 1 := rfl
      have hadd1 := fun (w : World) => run_string_add_sum (P := Tryd.prog) w T ⟨#[47]⟩ (by have := HTS.out; omega)
      have hadd2 := fun (w : World) => run_string_add_sum (P := Tryd.prog) w (T ++ ⟨#[47]⟩) N (by have := HTS.out; have := HNS.out; rw [ByteArray.size_append]; omega)
      clear hs
      go_wp2_with fail
      go_region_held3 (fun w' => w'.cell? ⟨w.heap.size, 0, none⟩ = some (.int .i64 7) ∧ w'.cell? ⟨w.heap.size, 1, none⟩ = some (.int .i64 c) ∧ w'.cell? ⟨w.heap.size, 2, none⟩ = some (.int .i64 m) ∧ w'.cell? ⟨w.heap.size, 3, none⟩ = some (.int .i64 n)) (first | go_keep)
        (first
          | (go_at_call 63; refine (implFormatInt_any n HN0.out HN1.out _ (tab_below HTB.out.pow (Below.refl _ _).drew)).mono ?_; rw [← HT.out]; rintro e w5 ⟨rfl, hb5⟩; have hy5 : Below w1.heap.size w1 w5 := ((Below.refl _ _).drew).trans hb5; have e0 := (hy5.cell (p := ⟨w.heap.size, 0, none⟩) HS.out).trans c0; have e1 := (hy5.cell (p := ⟨w.heap.size, 1, none⟩) HS.out).trans c1; have e2 := (hy5.cell (p := ⟨w.heap.size, 2, none⟩) HS.out).trans c2; have e3 := (hy5.cell (p := ⟨w.heap.size, 3, none⟩) HS.out).trans c3; clear hb5)
          | (go_at_call 62; refine (implCodeName_any c _ (HTB.out.below hy5).nm).mono ?_; rw [← HN.out]; rintro e w6 ⟨rfl, rfl⟩))
      all_goals
        go_wp2
        go_ret
        exact ⟨ret_tx (by rw [HR2.out, HT.out, HN.out]; rfl), HB.out.trans (hy5.mono HB.out.size)⟩
    case inr.inr.inr.inr.inr.inr.inr.inr.inr.inl =>
      have cw : w1.cell? ⟨0, 8, none⟩ = some (.string ⟨#[111, 110, 99, 101]⟩) := HTB.out.wd.cell 8 (by decide)
      obtain ⟨WD, hWD⟩ : ∃ WD, WD = (⟨#[111, 110, 99, 101]⟩ : ByteArray) := ⟨_, rfl⟩
      rw [← hWD] at cw
      have HWD := Lib.hid hWD
      have hs1 : WD.size = 4 := by rw [hWD]; rfl
      have hs2 : (⟨#[58]⟩ : ByteArray).size = 1 := rfl
      have hadd1 := fun (w : World) => run_string_add_sum (P := Tryd.prog) w WD ⟨#[58]⟩ (by omega)
      have hadd2 := fun (w : World) => run_string_add_sum (P := Tryd.prog) w (WD ++ ⟨#[58]⟩) A (by have := HAS.out; rw [ByteArray.size_append]; omega)
      clear hs1 hs2 hWD
      go_wp2_with fail
      go_region_held3 (fun w' => w'.cell? ⟨w.heap.size, 0, none⟩ = some (.int .i64 8) ∧ w'.cell? ⟨w.heap.size, 1, none⟩ = some (.int .i64 c) ∧ w'.cell? ⟨w.heap.size, 2, none⟩ = some (.int .i64 m) ∧ w'.cell? ⟨w.heap.size, 3, none⟩ = some (.int .i64 n) ∧ w'.cell? ⟨0, 8, none⟩ = some (.string WD)) (first | go_keep)
        (first | (go_at_call 61; refine (implFormatMods_any m _).mono ?_; rw [← HA.out]; rintro e w5 ⟨rfl, hb5⟩; have hy5 : Below w1.heap.size w1 w5 := ((Below.refl _ _).drew).trans hb5; have e0 := (hy5.cell (p := ⟨w.heap.size, 0, none⟩) HS.out).trans c0; have e1 := (hy5.cell (p := ⟨w.heap.size, 1, none⟩) HS.out).trans c1; have e2 := (hy5.cell (p := ⟨w.heap.size, 2, none⟩) HS.out).trans c2; have e3 := (hy5.cell (p := ⟨w.heap.size, 3, none⟩) HS.out).trans c3; have ew := (hy5.cell (p := ⟨0, 8, none⟩) HTB.out.wd.lt).trans cw; clear hb5))
      all_goals
        go_wp2
        go_ret
        exact ⟨ret_tx (by rw [HR2.out, HA.out, HWD.out]; rfl), HB.out.trans (hy5.mono HB.out.size)⟩
    case inr.inr.inr.inr.inr.inr.inr.inr.inr.inr =>
      go_wp2_with fail
      refine (formatKey_any 2 c m n r (by rw [HR2.out]; rfl) _ HTB.out).mono ?_
      rintro e w2 ⟨rfl, hb⟩
      have HB2 := Lib.hid (HB.out.trans (hb.mono HB.out.size))
      clear hb
      go_wp2
      go_ret
      exact ⟨rfl, HB2.out⟩

end Go.Proofs.YtnfnhbldphiohaaDoor
