/- DERIVED. A package-level array of strings that holds given texts: what a walk reads of it. No condition. · The program's CodeName, CodeOf and kindOf: each returns what a plain function says, where the program's tables of names and words are as its text lays them. · The program's FormatMods, ParseMods: each returns what a plain function says. · The program's formatKey and FormatAction: each returns the text of an action, where the tables are as their texts lay them. -/
import Derived.Test.YtghijkpcmamebaaDoorCore
import Derived.Laws.Rows
import Derived.Lib.LaidTab
import Derived.Test.YtghijkpcmamebaaDoorAcs
import Derived.Test.YtghijkpcmamebaaDoorAcImpl
import Derived.Laws.Runes
import Derived.Test.YtghijkpcmamebaaDoorAcTx
namespace Go.Proofs.YtghijkpcmamebaaDoor
open Go.RowKit

/-- Block g holds these texts, one a cell. -/
def TabH (w : World) (g : Nat) (ss : List ByteArray) : Prop := ∃ t fr, w.heap[g]? = some (.cells (ss.map Value.string).toArray t fr)
theorem TabH.lt {w : World} {g : Nat} {ss : List ByteArray} (h : TabH w g ss) : g < w.heap.size := by
  obtain ⟨t, fr, h⟩ := h
  exact (Array.getElem?_eq_some_iff.1 h).1
theorem TabH.below {w w' : World} {B g : Nat} {ss : List ByteArray} (h : TabH w g ss) (hb : Below B w w') (hg : g < B) : TabH w' g ss := by
  obtain ⟨t, fr, h⟩ := h
  exact ⟨t, fr, (hb.block g hg).trans h⟩
theorem TabH.cell {w : World} {g : Nat} {ss : List ByteArray} (h : TabH w g ss) (j : Nat) (hj : j < ss.length) : w.cell? ⟨g, j, none⟩ = some (.string (ss.getD j ⟨#[]⟩)) := by
  obtain ⟨t, fr, h⟩ := h
  rw [cell_of_row w g j _ t fr h]
  simp [List.getD, hj]
theorem TabH.load {P : Program} {w : World} {g : Nat} {ss : List ByteArray} (h : TabH w g ss) {ty e : TypeId} {n : Nat} (hu : P.underlying ty = some (.array n e)) (hi : (P.info? ty).map (·.size) = some n) (hn : ss.length = n) :
    (loadVar ty ⟨g, 0, none⟩).run P w = .ok (.agg (ss.map Value.string).toArray) w := by
  obtain ⟨t, fr, h⟩ := h
  exact run_loadVar_row w g t ty _ fr _ h hu rfl (by rw [hi]; simp [hn])
theorem run_index_arr {P : Program} {ty e : TypeId} {n : Nat} {cs : Array Value} {j : Nat} {v : Value} (hu : P.underlying ty = some (.array n e)) (hj : j < n) (ha : ∀ w, (isAgg e).run P w = .ok false w) (hz : ∀ w, (sizeOf e).run P w = .ok 1 w) (hv : cs[j]? = some v) (w : World) :
    (Instr.index ty (.agg cs) (.int .i64 (j : Int))).run P w = .ok v w := by
  have h1 : (0 : Int) ≤ (j : Int) ∧ (j : Int) < (n : Int) := by omega
  simp [Instr.index, run_underlying hu, asIntOf, hj, part, ha, hz, hv]
theorem tab_at (ss : List ByteArray) (j : Nat) (hj : j < ss.length) : (ss.map Value.string).toArray[j]? = some (.string (ss.getD j ⟨#[]⟩)) := by simp [List.getD, hj]

/-- The table as a row lists it: an array of texts. -/
def strData {H : Type} (ss : List ByteArray) : DataW H := .agg (ss.map fun s => .lit (.string s.data.toList))
theorem data_inj {a b : ByteArray} (h : a.data.toList = b.data.toList) : a = b := by
  cases a; cases b; simp at h; simp [h]
theorem cells_of_strs {H : Type} {enc : TypeId × Value → H} {P : Program} {w : World} {base : Nat} {sp : Nat → Bool} {held : Bool} {fuel : Nat} {t e : TypeId} {n : Nat} {cs : List Value} {ss : List ByteArray} {p : List MemPlace}
    (ht : P.underlying t = some (.array n e)) (he : P.underlying e = some .string) (hce : P.cellsOf e = 1) (hct : P.cellsOf t = n)
    (h : DataW.trod enc P w base sp held fuel t cs = some (strData ss, p)) : cs = ss.map Value.string := by
  cases fuel with
  | zero => simp [DataW.trod] at h
  | succ fuel =>
    simp only [DataW.trod, ht, hce, hct, Nat.mul_one] at h
    split at h
    · rename_i hl
      obtain ⟨xs, hm, hx⟩ := Option.map_eq_some_iff.1 h
      have hxs : xs.map (·.1) = ss.map fun s => (DataW.lit (.string s.data.toList) : DataW H) := by
        have := congrArg Prod.fst hx
        simpa [strData] using this
      have hxl : xs.length = n := by simpa using Lib.mapM_length hm
      have hzl : ss.length = n := by
        have := congrArg List.length hxs
        simp at this
        omega
      apply List.ext_getElem?
      intro i
      by_cases hi : i < n
      · obtain ⟨b, hb, hf⟩ := Lib.mapM_at hm i i (by simp [hi])
        obtain ⟨s, hc, rfl, _⟩ := DataW.trod_string he hf
        have h1 : cs[i]? = some (.string s) := by
          have := congrArg (·[0]?) hc
          simpa [List.getElem?_take, List.getElem?_drop] using this
        have h2 : (xs.map (·.1))[i]? = some (DataW.lit (.string s.data.toList) : DataW H) := by simp [hb]
        rw [hxs] at h2
        simp only [List.getElem?_map, Option.map_eq_some_iff, DataW.lit.injEq, Lit.string.injEq] at h2
        obtain ⟨s', hs', e⟩ := h2
        simp [h1, hs', data_inj e]
      · rw [List.getElem?_eq_none (by omega), List.getElem?_eq_none (by simp; omega)]
    · cases h
theorem tabH_of_head {P : Program} {W : World} {name : String} {ss : List ByteArray} {rest : List (String × DataW Unit)} {g : Nat} {t e : TypeId} {n : Nat}
    (hg : P.globalNamed name = some g) (hty : (P.globals[g]?).map (·.type) = some t) (ht : P.underlying t = some (.array n e)) (he : P.underlying e = some .string) (hce : P.cellsOf e = 1) (hct : P.cellsOf t = n)
    (h : laidMet P ((name, strData ss) :: rest) W) : TabH W g ss := by
  obtain ⟨ps, ⟨g', t', cs, fuel, p, q, hg', ht', hvar, hd, _, _⟩, _⟩ := h
  obtain rfl := Option.some.inj (hg.symm.trans hg')
  obtain rfl := Option.some.inj (hty.symm.trans ht')
  have hc := cells_of_strs ht he hce hct hd
  unfold World.var? at hvar
  rw [hg] at hvar
  simp only [Option.bind_some] at hvar
  split at hvar
  · rename_i c t2 fr hh
    simp only [Option.some.injEq] at hvar
    subst hvar
    refine ⟨t2, fr, ?_⟩
    rw [hh, ← hc]
  · cases hvar
end Go.Proofs.YtghijkpcmamebaaDoor

namespace Go.Proofs.YtghijkpcmamebaaDoor
open Go.RowKit

def nmTab : List ByteArray := ⟨#[]⟩ :: nms
def wdTab : List ByteArray := [⟨#[110, 111, 110, 101]⟩, ⟨#[112, 97, 115, 115]⟩, ⟨#[]⟩, ⟨#[109, 111]⟩, ⟨#[116, 103]⟩, ⟨#[116, 111]⟩, ⟨#[]⟩, ⟨#[]⟩, ⟨#[111, 110, 99, 101]⟩, ⟨#[109, 97, 99, 114, 111]⟩, ⟨#[99, 97, 112, 115]⟩]
theorem nmTab_len : nmTab.length = 57 := rfl
theorem wdTab_len : wdTab.length = 11 := rfl
theorem nmTab_at (q : Nat) (h : q < 57) : nmTab.getD q ⟨#[]⟩ = nmV (q : Int) := by
  cases q with
  | zero => rfl
  | succ k =>
    have : inB ((k + 1 : Nat) : Int) 1 56 = true := by unfold inB; exact decide_eq_true (by omega)
    rw [nmV, if_pos this]
    rfl
theorem tyNm : Tryd.prog.underlying 74 = some (.array 57 9) := by kernel_rfl
theorem i57 : (Tryd.prog.info? 74).map (·.size) = some 57 := by kernel_rfl
set_option maxRecDepth 100000 in
theorem implCodeName_any (c : Int) (w : World) (ht : TabH w 1 nmTab) : Calls Tryd.prog 37 #[.int .i64 c] w fun e w' => e = .returned (.string (nmV c)) ∧ w = w' := by
  obtain ⟨v, hv⟩ : ∃ v, v = inB c 1 56 := ⟨_, rfl⟩
  cases v
  · have hn : nmV c = ⟨#[]⟩ := by rw [nmV, ← hv]; rfl
    rw [hn]
    have HV := Lib.hid hv
    clear hn hv
    go_enter Tryd.func37, Tryd.ntmps37
    go_wp2_with fail
    refine (isBetween_any c 1 56 _).mono ?_
    rw [← HV.out]
    rintro e w0 ⟨rfl, rfl⟩
    go_wp2
    go_ret
    exact ⟨rfl, rfl⟩
  · have h1 := of_decide_eq_true (show decide (1 ≤ c ∧ c ≤ 56) = true from hv.symm)
    obtain ⟨q, rfl⟩ := Int.eq_ofNat_of_zero_le (show 0 ≤ c by omega)
    have hcell := ht.cell q (by rw [nmTab_len]; omega)
    rw [nmTab_at q (by omega)] at hcell
    obtain ⟨T, hT⟩ : ∃ T, T = nmV (q : Int) := ⟨_, rfl⟩
    rw [← hT] at hcell ⊢
    have HV := Lib.hid hv
    have hi : (0 : Int) ≤ (q : Int) ∧ (q : Int) < 57 := by omega
    have hi0 : (0 : Int) ≤ (q : Int) := by omega
    have hi1 : (q : Int) < 57 := by omega
    clear hT hv h1 ht
    go_enter Tryd.func37, Tryd.ntmps37
    go_wp2_with fail
    refine (isBetween_any q 1 56 _).mono ?_
    rw [← HV.out]
    rintro e w0 ⟨rfl, rfl⟩
    go_wp2
    go_ret
    exact ⟨rfl, rfl⟩

theorem TabH.agg {w : World} {g : Nat} {ss : List ByteArray} (h : TabH w g ss) : ∃ (CS : Array Value) (t : TypeId) (fr : Nat × Nat), w.heap[g]? = some (.cells CS t fr) ∧ CS.size = ss.length ∧ ∀ j, j < ss.length → CS[j]? = some (.string (ss.getD j ⟨#[]⟩)) := by
  obtain ⟨t, fr, h⟩ := h
  exact ⟨_, t, fr, h, by simp, fun j hj => tab_at ss j hj⟩

theorem codeN_zero {s : ByteArray} : ∀ j : Nat, (∀ q : Nat, q ≤ j → nmV (q : Int) ≠ s) → codeN s j = 0
  | 0, _ => rfl
  | j + 1, h => codeN_miss (codeN_zero j (fun q hq => h q (by omega))) (h (j + 1) (Nat.le_refl _))
set_option maxRecDepth 1000000 in
theorem code_empty : codeV ⟨#[]⟩ = 0 := by kernel_rfl
theorem code_hit {s : ByteArray} {j : Nat} (hj : j < 57) (h : ∀ q : Nat, q < j → nmV (q : Int) ≠ s) (e : nmV (j : Int) = s) : codeV s = j := by
  cases j with
  | zero =>
    have : s = ⟨#[]⟩ := by rw [← e]; rfl
    rw [this, code_empty]
  | succ k => exact codeN_hit (codeN_zero k (fun q hq => h q (by omega))) e 56 (by omega)
theorem code_miss {s : ByteArray} (h : ∀ q : Nat, q < 57 → nmV (q : Int) ≠ s) : codeV s = 0 := codeN_zero 56 (fun q hq => h q (by omega))

theorem implCodeOf_any (s : ByteArray) (w : World) (ht : TabH w 1 nmTab) : Calls Tryd.prog 35 #[.string s] w fun e w' => e = .returned (.int .i64 (codeV s : Nat)) ∧ w = w' := by
  obtain ⟨r, hr⟩ : ∃ r, r = codeV s := ⟨_, rfl⟩
  rw [← hr]
  have HR := Lib.hid hr
  obtain ⟨CS, tt, fr, hg, hsz, hcs⟩ := ht.agg
  have hi : (Tryd.prog.info? 74).map (·.size) = some CS.size := by rw [hsz]; exact i57
  have HCS := Lib.hid hcs
  have HSZ := Lib.hid hsz
  clear hr ht hcs hsz
  go_enter Tryd.func35, Tryd.ntmps35
  go_wp2_with (refine wpList_load_row rfl 74 _ rfl 1 rfl tt CS fr _ hg tyNm rfl hi ?_)
  clear hg hi
  go_loopw [6] (fun i wr => ∃ k : Nat, k ≤ 57 ∧ i = .int .i64 (k : Int) ∧ (∀ q : Nat, q < k → nmV (q : Int) ≠ s) ∧ wr = w) (fun i _ => 57 - (intOf i).toNat)
  case atStart => exact ⟨0, Nat.zero_le _, rfl, fun q hq => by omega, rfl⟩
  case round =>
    obtain ⟨k, hk, rfl, hno, rfl⟩ := hrel
    have HNO := Lib.hid hno
    clear hno
    by_cases hlt : k < 57
    · have hlt2 : (k : Int) < 57 := by omega
      obtain ⟨T, hT⟩ : ∃ T, T = nmV (k : Int) := ⟨_, rfl⟩
      have hat := HCS.out k (by rw [nmTab_len]; exact hlt)
      rw [nmTab_at k hlt, ← hT] at hat
      have hix := run_index_arr (P := Tryd.prog) (j := k) tyNm hlt Tryd.isAgg9 Tryd.sizeOf9 hat
      have HT := Lib.hid hT
      clear hT hat
      by_cases hts : T = s
      · have hrk : r = k := by rw [HR.out]; exact code_hit hlt HNO.out (by rw [← HT.out]; exact hts)
        subst hts
        have HRK := Lib.hid hrk
        clear hrk
        go_wp2
        go_ret
        exact ⟨ret_int (by rw [HRK.out]), rfl⟩
      · have hne := toList_ne hts
        have HN2 := Lib.hid (show ∀ q : Nat, q < k + 1 → nmV (q : Int) ≠ s from fun q hq => by
          rcases Nat.lt_or_ge q k with h | h
          · exact HNO.out q h
          · obtain rfl : q = k := by omega
            rw [← HT.out]; exact hts)
        clear hts
        go_wp2
        go_roundw
        case rel => exact ⟨k + 1, by omega, by go_num, HN2.out, trivial⟩
        case measure => simp [intOf]; omega
    · obtain rfl : k = 57 := by omega
      have HRK := Lib.hid (show r = 0 by rw [HR.out]; exact code_miss HNO.out)
      go_wp2
      go_ret
      exact ⟨ret_int (by rw [HRK.out]; rfl), rfl⟩

/-- Word j is there and is s. -/
def wdIs (s : ByteArray) (j : Nat) : Prop := wdTab.getD j ⟨#[]⟩ ≠ ⟨#[]⟩ ∧ wdTab.getD j ⟨#[]⟩ = s
instance (s : ByteArray) (j : Nat) : Decidable (wdIs s j) := by unfold wdIs; infer_instance
/-- The kind of a word, 2 for all others. -/
def kindN (s : ByteArray) : Nat → Nat → Nat
  | _, 0 => 2
  | j, k + 1 => if wdIs s j then j else kindN s (j + 1) k
def kindV (s : ByteArray) : Nat := kindN s 0 11
theorem kindN_hit {s : ByteArray} {j : Nat} (e : wdIs s j) : ∀ (k a : Nat), a ≤ j → j < a + k → (∀ q : Nat, a ≤ q → q < j → ¬ wdIs s q) → kindN s a k = j
  | 0, a, h1, h2, _ => by omega
  | k + 1, a, h1, h2, h => by
    unfold kindN
    rcases Nat.eq_or_lt_of_le h1 with rfl | h3
    · rw [if_pos e]
    · rw [if_neg (h a (Nat.le_refl _) h3)]
      exact kindN_hit e k (a + 1) h3 (by omega) (fun q hq hj => h q (by omega) hj)
theorem kindN_miss {s : ByteArray} : ∀ (k a : Nat), (∀ q : Nat, a ≤ q → q < a + k → ¬ wdIs s q) → kindN s a k = 2
  | 0, _, _ => rfl
  | k + 1, a, h => by
    unfold kindN
    rw [if_neg (h a (Nat.le_refl _) (by omega))]
    exact kindN_miss k (a + 1) (fun q hq hj => h q (by omega) (by omega))

theorem csag_at (pos : Nat) (h : pos < 4) : ∃ (R : Nat) (E : ByteArray), Utf8.decode csag pos = (R, 1) ∧ Utf8.encode (R : Int) = E ∧ csag.extract pos (pos + 1) = E ∧ E.size = 1 := by
  have : pos = 0 ∨ pos = 1 ∨ pos = 2 ∨ pos = 3 := by omega
  rcases this with rfl | rfl | rfl | rfl
  · exact ⟨67, ⟨#[67]⟩, by rfl, by rfl, by rfl, by rfl⟩
  · exact ⟨83, ⟨#[83]⟩, by rfl, by rfl, by rfl, by rfl⟩
  · exact ⟨65, ⟨#[65]⟩, by rfl, by rfl, by rfl, by rfl⟩
  · exact ⟨71, ⟨#[71]⟩, by rfl, by rfl, by rfl, by rfl⟩

set_option maxRecDepth 100000 in
theorem implFormatMods_any (m : Int) (w : World) : Calls Tryd.prog 38 #[.int .i64 m] w fun e w' => e = .returned (.string (mdV m)) ∧ Below w.heap.size w w' := by
  obtain ⟨v, hv⟩ : ∃ v, v = inB m 1 15 := ⟨_, rfl⟩
  cases v
  · have hn : mdV m = ⟨#[]⟩ := by rw [mdV, ← hv]; rfl
    rw [hn]
    have HV := Lib.hid hv
    clear hn hv
    go_enter Tryd.func38, Tryd.ntmps38
    go_wp2_with fail
    refine (isBetween_any m 1 15 _).mono ?_
    rw [← HV.out]
    rintro e w0 ⟨rfl, rfl⟩
    go_wp2
    go_ret
    exact ⟨rfl, Below.refl _ _⟩
  · have h1 := of_decide_eq_true (show decide (1 ≤ m ∧ m ≤ 15) = true from hv.symm)
    obtain ⟨q, rfl⟩ := Int.eq_ofNat_of_zero_le (show 0 ≤ m by omega)
    have hq : q < 2 ^ 62 := by omega
    have hn : mdV q = mdN q 4 := by rw [mdV, ← hv, if_pos rfl, Int.toNat_natCast]
    obtain ⟨r, hr⟩ : ∃ r, r = mdN q 4 := ⟨_, rfl⟩
    rw [hn, ← hr]
    have HR := Lib.hid hr
    have HV := Lib.hid hv
    clear hn hv h1 hr
    go_enter Tryd.func38, Tryd.ntmps38
    go_wp2_with fail
    refine (isBetween_any q 1 15 _).mono ?_
    rw [← HV.out]
    rintro e w0 ⟨rfl, rfl⟩
    go_wp2
    go_loopw [3] (fun t wr => ∃ k : Nat, k ≤ 4 ∧ t = .string (mdN q k) ∧ wr = w.iter csag k) (fun _ wr => 4 - wr.iterPos w.heap.size)
    case atStart => exact ⟨0, Nat.zero_le _, rfl, rfl⟩
    case round =>
      obtain ⟨k, hk, rfl, rfl⟩ := hrel
      have hmeas : (w.iter csag k).iterPos w.heap.size = k := by simp [World.iterPos, World.iter_heap]
      have HM := Lib.hid hmeas
      clear hmeas
      by_cases hlt : k < 4
      · obtain ⟨R, E, hdec, henc, hext, hE1⟩ := csag_at k hlt
        have hnx : ∀ ty, (Instr.next (.pointer (some ⟨w.heap.size, 0, none⟩)) true ty).run Tryd.prog (w.iter csag k) = _ := fun ty => run_next_any w csag k ty hlt
        rw [hdec] at hnx
        simp only [] at hnx
        have hsz := mdN_size q k
        have hb := bit_nat q k hq
        have hnx2 : mdN q (k + 1) = if q.testBit k = true then mdN q k ++ csag.extract k (k + 1) else mdN q k := by rw [mdN]
        rw [hext] at hnx2
        obtain ⟨tb, htb⟩ : ∃ tb, tb = q.testBit k := ⟨_, rfl⟩
        obtain ⟨A, hA⟩ : ∃ A, A = mdN q k := ⟨_, rfl⟩
        rw [← htb] at hb hnx2
        rw [← hA] at hnx2 hsz ⊢
        clear htb hA hdec hext
        cases tb
        · have hb0 : bits .and .i64 ((q : Int) / 2 ^ k) 1 = 0 := by rw [hb]; rfl
          have HN := Lib.hid (show mdN q (k + 1) = A by rw [hnx2]; rfl)
          clear hb hnx2 henc
          go_wp2
          go_roundw
          case rel => exact ⟨k + 1, by omega, by rw [HN.out], rfl⟩
          case measure => rw [HM.out]; simp [World.iterPos, World.iter_heap]; omega
        · have hb0 : bits .and .i64 ((q : Int) / 2 ^ k) 1 = 1 := by rw [hb]; rfl
          have HN := Lib.hid (show mdN q (k + 1) = A ++ E by rw [hnx2]; rfl)
          have hadd := fun (w : World) => run_string_add_sum (P := Tryd.prog) w A E (by omega)
          clear hb hnx2
          go_wp2
          go_roundw
          case rel => exact ⟨k + 1, by omega, by rw [HN.out], rfl⟩
          case measure => rw [HM.out]; simp [World.iterPos, World.iter_heap]; omega
      · obtain rfl : k = 4 := by omega
        have hnx : ∀ ty, (Instr.next (.pointer (some ⟨w.heap.size, 0, none⟩)) true ty).run Tryd.prog (w.iter csag 4) = _ := fun ty => run_next_end w csag 4 ty hlt
        rw [← HR.out]
        go_wp2
        go_ret
        exact ⟨rfl, (Below.refl _ _).alloc (Nat.le_refl _) _⟩

theorem implParseMods_any (s : ByteArray) (w : World) : Calls Tryd.prog 33 #[.string s] w fun e w' => e = .returned (.int .i64 (pmV s : Nat)) ∧ Below w.heap.size w w' := by
  obtain ⟨r, hr⟩ : ∃ r, r = pmV s := ⟨_, rfl⟩
  rw [← hr]
  have HR := Lib.hid hr
  clear hr
  go_enter Tryd.func33, Tryd.ntmps33
  go_wp2
  go_loopw [3] (fun i wr => ∃ k : Nat, k ≤ 15 ∧ i = .int .i64 ((k : Int) + 1) ∧ pmN s k = 0 ∧ Below w.heap.size w wr) (fun i _ => 16 - (intOf i).toNat)
  case atStart => exact ⟨0, Nat.zero_le _, rfl, rfl, Below.refl _ _⟩
  case round =>
    obtain ⟨k, hk, rfl, hc, hb⟩ := hrel
    have HB := Lib.hid hb
    clear hb
    by_cases hlt : k < 15
    · have hle : ((k : Int) + 1) ≤ 15 := by omega
      obtain ⟨T, hT⟩ : ∃ T, T = mdV ((k : Int) + 1) := ⟨_, rfl⟩
      have HT := Lib.hid hT
      have HC := Lib.hid hc
      clear hc hT
      by_cases hts : T = s
      · have hrk : r = k + 1 := by rw [HR.out, pmV]; exact pmN_hit HC.out (by rw [← hts, HT.out]; rfl) 15 hlt
        subst hts
        have HRK := Lib.hid hrk
        clear hrk
        go_wp2_with fail
        refine (implFormatMods_any _ _).mono ?_
        rw [← HT.out]
        rintro e w1 ⟨rfl, hb1⟩
        have HB1 := Lib.hid (HB.out.trans (hb1.mono HB.out.size))
        clear hb1
        go_wp2
        go_ret
        exact ⟨ret_int (by rw [HRK.out]; rfl), HB1.out⟩
      · have hne := toList_ne hts
        have hmiss := pmN_miss HC.out (fun h => hts (by rw [HT.out]; exact h))
        have HM := Lib.hid hmiss
        clear hmiss
        go_wp2_with fail
        refine (implFormatMods_any _ _).mono ?_
        rw [← HT.out]
        rintro e w1 ⟨rfl, hb1⟩
        have HB1 := Lib.hid (HB.out.trans (hb1.mono HB.out.size))
        clear hb1
        go_wp2
        go_roundw
        case rel => exact ⟨k + 1, by omega, by go_num, HM.out, HB1.out⟩
        case measure => simp [intOf]; omega
    · obtain rfl : k = 15 := by omega
      have HRK := Lib.hid (show r = 0 by rw [HR.out, pmV]; exact hc)
      clear hc
      go_wp2
      go_ret
      exact ⟨ret_int (by rw [HRK.out]; rfl), HB.out⟩
end Go.Proofs.YtghijkpcmamebaaDoor

namespace Go.Proofs.YtghijkpcmamebaaDoor
open Go.RowKit

end Go.Proofs.YtghijkpcmamebaaDoor
