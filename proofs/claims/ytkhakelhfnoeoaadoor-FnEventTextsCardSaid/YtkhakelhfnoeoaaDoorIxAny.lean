/- DERIVED. Runes that are no ASCII: what a step over a string is at such a byte, that the library's IndexRune finds none of them among plus and minus, and which are valid. No condition. · The library's IndexAny for plus and minus, at any text: the place of the first of them, or -1. No condition. -/
import Derived.Test.YtkhakelhfnoeoaaDoorText
import Derived.Laws.Runes
import Derived.WalkMore
import Derived.Deep.DeepCutAuto
import Derived.Deep.RegionHeld3
import Derived.Deep.LoopGhost
import Derived.Test.YtkhakelhfnoeoaaDoorAnyShelf
namespace Go.Proofs.YtkhakelhfnoeoaaDoor
open Go.RowKit

theorem bt_get (s : ByteArray) (i k : Nat) (h : i + k < s.size) : ((s.get! (i + k)).toNat : Int) = bt s (i + k) := by
  have e : s.get! (i + k) = s[i + k]'h := by
    simp [ByteArray.get!, getElem!_pos, h]
    rfl
  rw [e]; exact bt_eq s (i + k) h
theorem bt_in {s : ByteArray} {i : Nat} (h : 128 ≤ bt s i) : i < s.size := by
  unfold bt at h
  split at h
  · assumption
  · omega
theorem cont_high {s : ByteArray} {i k : Nat} (h : (decide (i + k < s.size) && (s.get! (i + k)).toNat / 64 == 2) = true) : 128 ≤ bt s (i + k) := by
  rw [Bool.and_eq_true] at h
  have h1 := of_decide_eq_true h.1
  have h2 := beq_iff_eq.mp h.2
  have := bt_get s i k h1
  omega
/-- The bytes that a step at such a byte goes over are all such bytes. -/
theorem decode_span (s : ByteArray) (pos : Nat) (h : 128 ≤ bt s pos) : 1 ≤ (Utf8.decode s pos).2 ∧ ∀ k, k < (Utf8.decode s pos).2 → 128 ≤ bt s (pos + k) := by
  have hin := bt_in h
  have g0 := bt_get s pos 0 (by simpa using hin)
  rw [Nat.add_zero] at g0
  have hn : ¬ (s.get! (pos + 0)).toNat < 128 := by rw [Nat.add_zero]; omega
  have one : ∀ k, k < 1 → 128 ≤ bt s (pos + k) := fun k hk => by obtain rfl : k = 0 := by omega
                                                                 exact h
  have two : 128 ≤ bt s (pos + 1) → ∀ k, k < 2 → 128 ≤ bt s (pos + k) := fun h1 k hk => by
    rcases (by omega : k = 0 ∨ k = 1) with rfl | rfl
    · exact h
    · exact h1
  have three : 128 ≤ bt s (pos + 1) → 128 ≤ bt s (pos + 2) → ∀ k, k < 3 → 128 ≤ bt s (pos + k) := fun h1 h2 k hk => by
    rcases (by omega : k = 0 ∨ k = 1 ∨ k = 2) with rfl | rfl | rfl
    · exact h
    · exact h1
    · exact h2
  have four : 128 ≤ bt s (pos + 1) → 128 ≤ bt s (pos + 2) → 128 ≤ bt s (pos + 3) → ∀ k, k < 4 → 128 ≤ bt s (pos + k) := fun h1 h2 h3 k hk => by
    rcases (by omega : k = 0 ∨ k = 1 ∨ k = 2 ∨ k = 3) with rfl | rfl | rfl | rfl
    · exact h
    · exact h1
    · exact h2
    · exact h3
  unfold Utf8.decode
  simp only [hn, if_false]
  split
  · rename_i hc
    rw [Bool.and_eq_true] at hc
    split
    · exact ⟨by show 1 ≤ 2; omega, two (cont_high hc.2)⟩
    · exact ⟨by decide, one⟩
  · split
    · rename_i hc
      rw [Bool.and_eq_true, Bool.and_eq_true] at hc
      split
      · exact ⟨by show 1 ≤ 3; omega, three (cont_high hc.1.2) (cont_high hc.2)⟩
      · exact ⟨by decide, one⟩
    · split
      · rename_i hc
        rw [Bool.and_eq_true, Bool.and_eq_true, Bool.and_eq_true] at hc
        split
        · exact ⟨by show 1 ≤ 4; omega, four (cont_high hc.1.1.2) (cont_high hc.1.2) (cont_high hc.2)⟩
        · exact ⟨by decide, one⟩
      · exact ⟨by decide, one⟩

section
variable {P : Program}
theorem next_step (w : World) (g : Nat) (s : ByteArray) (pos : Nat) (hg : w.heap[g]? = some (.stringIter s pos)) (h : pos < s.size) :
    ∃ w2, (∀ ty, (Instr.next (.pointer (some ⟨g, 0, none⟩)) true ty).run P w = .ok (.tuple #[.bool true, .int .i64 pos, .int .i32 (Utf8.decode s pos).1]) w2) ∧ w2.heap[g]? = some (.stringIter s (pos + (Utf8.decode s pos).2)) ∧ ∀ B w0, B ≤ g → Below B w0 w → Below B w0 w2 := by
  have hlt := (Array.getElem?_eq_some_iff.mp hg).1
  refine ⟨{ w with heap := w.heap.setIfInBounds g (.stringIter s (pos + (Utf8.decode s pos).2)) }, fun ty => ?_, ?_, fun B w0 hB hb => ?_⟩
  · simp only [Instr.next, getObj, setObj, Sem.run_bind, Sem.run, hg, Result.andThen, h, if_true]
    simp [goInt]
  · simp [hlt]
  · exact ⟨hb.os, hb.tape, hb.output, by simpa using hb.size, fun k hk => by
      show (w.heap.setIfInBounds g _)[k]? = _
      rw [Array.getElem?_setIfInBounds, if_neg (by omega)]
      exact hb.block k hk⟩
theorem next_end (w : World) (g : Nat) (s : ByteArray) (pos : Nat) (hg : w.heap[g]? = some (.stringIter s pos)) (h : ¬ pos < s.size) (ty : TypeId) :
    (Instr.next (.pointer (some ⟨g, 0, none⟩)) true ty).run P w = .ok (.tuple #[.bool false]) w := by
  simp [Instr.next, getObj, Sem.run, hg, h]
end

theorem validRune_any (r : Int) (w : World) : Calls Tryd.prog 62 #[.int .i32 r] w fun e w' => e = .returned (.bool (validRune r)) ∧ w = w' := by
  obtain ⟨v, hv⟩ : ∃ v, v = validRune r := ⟨_, rfl⟩
  rw [← hv]
  unfold validRune at hv
  by_cases h0 : 0 ≤ r
  · by_cases h1 : r < 55296
    · rw [decide_eq_true (Or.inl ⟨h0, h1⟩)] at hv
      subst hv
      go_enter Tryd.func62, Tryd.ntmps62
      go_wp2
      go_ret
      exact ⟨rfl, rfl⟩
    · by_cases h2 : 57343 < r
      · by_cases h3 : r ≤ 1114111
        · rw [decide_eq_true (Or.inr ⟨h2, h3⟩)] at hv
          subst hv
          go_enter Tryd.func62, Tryd.ntmps62
          go_wp2
          go_ret
          exact ⟨rfl, rfl⟩
        · rw [decide_eq_false (by omega)] at hv
          subst hv
          go_enter Tryd.func62, Tryd.ntmps62
          go_wp2
          go_ret
          exact ⟨rfl, rfl⟩
      · rw [decide_eq_false (by omega)] at hv
        subst hv
        go_enter Tryd.func62, Tryd.ntmps62
        go_wp2
        go_ret
        exact ⟨rfl, rfl⟩
  · rw [decide_eq_false (by omega)] at hv
    subst hv
    have h2 : ¬ 57343 < r := by omega
    go_enter Tryd.func62, Tryd.ntmps62
    go_wp2
    go_ret
    exact ⟨rfl, rfl⟩

abbrev pm : ByteArray := ⟨#[43, 45]⟩
theorem indexByte_none (s : ByteArray) (hs : s.data.toList = []) (c : Int) (w : World) : Calls Tryd.prog 61 #[.string s, .int .u8 c] w fun e w' => e = .returned (.int .i64 (-1)) ∧ w' = w :=
  (Any.strings_IndexByte (ρ := anyRen) { anyLays with } s c w).mono fun e w' ⟨he, hw⟩ => ⟨by rw [he, hs]; rfl, hw⟩

set_option maxHeartbeats 2000000 in
set_option maxRecDepth 100000 in
theorem indexRune_high (r : Int) (h128 : 128 ≤ r) (w : World) : Calls Tryd.prog 52 #[.string pm, .int .i32 r] w fun e w' => e = .returned (.int .i64 (-1)) ∧ Below w.heap.size w w' := by
  by_cases he : r = 65533
  · subst he
    have n0 := fun ty => run_next_ascii (P := Tryd.prog) w pm 0 ty (by decide) (by decide)
    have n1 := fun ty => run_next_ascii (P := Tryd.prog) w pm 1 ty (by decide) (by decide)
    have n2 := fun ty => run_next_end (P := Tryd.prog) w pm 2 ty (by decide)
    have e0 : (pm[0]'(by decide)).toNat = 43 := by decide
    have e1 : (pm[1]'(by decide)).toNat = 45 := by decide
    rw [e0] at n0
    rw [e1] at n1
    simp only [Nat.zero_add, Nat.reduceAdd] at n0 n1
    clear e0 e1 h128
    go_enter Tryd.func52, Tryd.ntmps52
    go_wp2
    refine wp_loop_rounds 3 ?_
    rw [rounds_succ]
    go_wp2
    rw [rounds_succ]
    go_wp2
    rw [rounds_succ]
    go_wp2
    go_ret
    exact ⟨rfl, (Below.refl _ _).alloc (Nat.le_refl _) _⟩
  · obtain ⟨v, hv⟩ : ∃ v, v = validRune r := ⟨_, rfl⟩
    have HV := Lib.hid hv
    have hlt : ¬ r < 128 := by omega
    have h0 : 0 ≤ r := by omega
    have hbe : (r == 65533) = false := by simpa using he
    cases v
    · clear hv
      go_enter Tryd.func52, Tryd.ntmps52
      go_wp2_with fail
      refine (validRune_any r _).mono ?_
      rw [← HV.out]
      rintro e w0 ⟨rfl, rfl⟩
      go_wp2
      go_ret
      exact ⟨rfl, Below.refl _ _⟩
    · obtain ⟨z2, z4, zl⟩ := encode_facts r (by rw [validRune_eq]; exact hv.symm) h128
      obtain ⟨E, hE⟩ : ∃ E, E = Utf8.encode r := ⟨_, rfl⟩
      rw [← hE] at z2 z4 zl
      replace hE := hE.symm
      clear hv
      go_enter Tryd.func52, Tryd.ntmps52
      go_wp2_with fail
      refine (validRune_any r _).mono ?_
      rw [← HV.out]
      rintro e w0 ⟨rfl, rfl⟩
      go_wp2_with fail
      go_step3
      rcases (by omega : E.size = 2 ∨ E.size = 3 ∨ E.size = 4) with hn | hn | hn
      · obtain ⟨x, hx⟩ : ∃ x : UInt8, E[1]'(by omega) = x := ⟨_, rfl⟩
        have hx128 : 128 ≤ x.toNat := by
          have := zl (by omega)
          simp only [hn] at this
          rw [← hx]; exact this
        have hne : ((45 : Int) == (x.toNat : Int)) = false := beq_eq_false_iff_ne.2 (by omega)
        have hne2 : ((45 : Int) != (x.toNat : Int)) = true := by rw [bne, hne]; rfl
        have hi1 : 1 < E.size := by omega
        have es : ((E.size : Int) - 1) = 1 := by omega
        clear zl z2 z4
        go_wp2
        refine wp_loop_rounds 1 ?_
        rw [rounds_succ]
        have ew : IntKind.i64.wrap 2 = 2 := by decide
        have e45 : (pm[1]'(by decide)).toNat = 45 := by decide
        go_wp2_with fail
        go_step3
        go_upto_region 6 with (fail)
        go_quiet (fail)
        go_upto_region 7 with (fail)
        go_quiet ((go_at_call 61; exact (indexByte_none ByteArray.empty rfl x.toNat _).mono fun _ _ ⟨he, hm⟩ => ⟨he, _, hm⟩))
        go_wp2
        simp only [Exit.noGoto_ret, Exit.inBlock, Exit.then]
        go_ret
        exact ⟨rfl, below_drewN (Below.refl _ _) _⟩
      · have es : ((E.size : Int) - 1) = 2 := by omega
        go_wp2
        refine wp_loop_rounds 1 ?_
        rw [rounds_succ]
        go_wp2
        rw [Exit.noGoto_ret]
        go_ret
        exact ⟨rfl, Below.refl _ _⟩
      · have es : ((E.size : Int) - 1) = 3 := by omega
        go_wp2
        refine wp_loop_rounds 1 ?_
        rw [rounds_succ]
        go_wp2
        rw [Exit.noGoto_ret]
        go_ret
        exact ⟨rfl, Below.refl _ _⟩
end Go.Proofs.YtkhakelhfnoeoaaDoor

namespace Go.Proofs.YtkhakelhfnoeoaaDoor
open Go.RowKit

theorem indexRune_low (r : Int) (h0 : 0 ≤ r) (h1 : r < 128) (w : World) : Calls Tryd.prog 52 #[.string pm, .int .i32 r] w fun e w' => e = .returned (.int .i64 (Lib.indexByte pm.data.toList r.toNat.toUInt8)) ∧ w' = w :=
  Any.strings_IndexRune_ascii (ρ := anyRen) { anyLays with } pm r w h0 h1
theorem indexRune_pm (r : Int) (h0 : 0 ≤ r) (w : World) : Calls Tryd.prog 52 #[.string pm, .int .i32 r] w fun e w' => e = .returned (.int .i64 (if r = 43 then 0 else if r = 45 then 1 else -1)) ∧ Below w.heap.size w w' := by
  by_cases h : r < 128
  · refine (indexRune_low r h0 h w).mono fun e w' ⟨he, hw⟩ => ⟨?_, hw ▸ Below.refl _ _⟩
    rw [he]
    obtain ⟨n, rfl⟩ := Int.eq_ofNat_of_zero_le h0
    have hn : n < 128 := by omega
    have : ∀ m : Fin 128, Lib.indexByte pm.data.toList (m.val.toUInt8) = if (m.val : Int) = 43 then 0 else if (m.val : Int) = 45 then 1 else -1 := by decide
    have := this ⟨n, hn⟩
    simp only [Int.toNat_natCast]
    rw [this]
  · refine (indexRune_high r (by omega) w).mono fun e w' ⟨he, hw⟩ => ⟨?_, hw⟩
    rw [he, if_neg (by omega), if_neg (by omega)]

theorem indexRune_v (r : Int) (h0 : 0 ≤ r) (v : Int) (hv : v = if r = 43 then 0 else if r = 45 then 1 else -1) (w : World) : Calls Tryd.prog 52 #[.string pm, .int .i32 r] w fun e w' => e = .returned (.int .i64 v) ∧ Below w.heap.size w w' := by
  rw [hv]; exact indexRune_pm r h0 w
/-- The place of the first plus or minus from the place i on. -/
def isPm (x : Int) : Bool := decide (x = 43 ∨ x = 45)
/-- None of the first i bytes is plus or minus. -/
def noPm (s : ByteArray) (i : Nat) : Prop := ∀ j, j < i → isPm (bt s j) = false
theorem noPm_lib {s : ByteArray} {i : Nat} (h : noPm s i) : Lib.NoAny s.data.toList pm.data.toList i := fun j b hj hb => by
  have := h j hj
  have hjs : j < s.size := by
    have := (List.getElem?_eq_some_iff.mp hb).1
    rw [Lib.size_eq]; exact this
  have hbt : bt s j = (b.toNat : Int) := by
    rw [← bt_eq s j hjs]
    have h2 := Lib.data_getElem? s j hjs
    rw [hb] at h2
    simp only [Option.some.injEq] at h2
    rw [h2]
  rw [hbt] at this
  unfold isPm at this
  have hb' := of_decide_eq_false this
  have : b ≠ 43 ∧ b ≠ 45 := ⟨fun e => hb' (.inl (by rw [e]; rfl)), fun e => hb' (.inr (by rw [e]; rfl))⟩
  simp [this.1, this.2]

set_option maxHeartbeats 2000000 in
set_option maxRecDepth 100000 in
theorem indexAny_pm (s : ByteArray) (hs : s.size ≤ 1048576) (w : World) : Calls Tryd.prog 43 #[.string s, .string pm] w fun e w' => e = .returned (.int .i64 (Lib.indexAny s.data.toList pm.data.toList)) ∧ Below w.heap.size w w' := by
  by_cases h8 : 8 < s.size
  · refine (Any.strings_IndexAny_long anyLays (Go.zero_of_info anySet).1 (Go.zero_of_info anySet).2 s pm w (by decide) h8 (by omega) (by decide) ?_).mono fun e w' ⟨h1, h2⟩ => ⟨h1, ?_⟩
    · intro j b hb
      have : j < 2 := by have := (List.getElem?_eq_some_iff.mp hb).1; simpa using this
      rcases (by omega : j = 0 ∨ j = 1) with rfl | rfl <;> simp at hb <;> subst hb <;> decide
    · rw [h2]
      exact ((Below.refl _ _).alloc (Nat.le_refl _) _).alloc (by simp) _
  · have h8' : ¬ (8 : Int) < (s.size : Int) := by omega
    go_enter Tryd.func43, Tryd.ntmps43
    go_wp2
    go_loopg [9, 10] s.size (fun g _ _ wx => ∃ i : Nat, s.size ≤ i + g ∧ i ≤ s.size ∧ wx.heap[w.heap.size]? = some (.stringIter s i) ∧ noPm s i ∧ Below w.heap.size w wx)
    case atStart => exact ⟨0, by omega, Nat.zero_le _, World.iter_heap w s 0, fun j hj => by omega, (Below.refl _ _).alloc (Nat.le_refl _) _⟩
    case round =>
      obtain ⟨i, hig, his, hit, hno, hb⟩ := hrel
      by_cases hi : i < s.size
      · obtain ⟨g, rfl⟩ : ∃ g, gk = g + 1 := ⟨gk - 1, by omega⟩
        obtain ⟨w2, hnx, hg2, hb2⟩ := next_step (P := Tryd.prog) wr w.heap.size s i hit hi
        have HB2 := Lib.hid (hb2 w.heap.size w (Nat.le_refl _) hb)
        have HNO := Lib.hid hno
        have hlt2 := (Array.getElem?_eq_some_iff.mp hg2).1
        have hdec := decode_at s i hi
        have hspan := decode_span s i
        have hbd := bt_bound s i
        obtain ⟨r, hr⟩ : ∃ r, r = (Utf8.decode s i).1 := ⟨_, rfl⟩
        obtain ⟨k, hk⟩ : ∃ k, k = (Utf8.decode s i).2 := ⟨_, rfl⟩
        rw [← hr] at hnx hdec
        rw [← hk] at hg2 hspan
        have hdec2 : (bt s i < 128 ∧ (r : Int) = bt s i ∧ k = 1) ∨ (128 ≤ bt s i ∧ 128 ≤ r) := by
          rcases hdec with ⟨h1, h2⟩ | h
          · rw [h2] at hr hk
            simp only at hr hk
            exact .inl ⟨h1, by rw [hr]; exact Int.toNat_of_nonneg hbd.1, hk⟩
          · exact .inr h
        clear hb2 hb hno hit hdec hr hk
        by_cases hp : isPm (bt s i) = true
        · have hpm := of_decide_eq_true (show decide (bt s i = 43 ∨ bt s i = 45) = true from hp)
          have hrv : (r : Int) = 43 ∨ (r : Int) = 45 := by omega
          have hres : Lib.indexAny s.data.toList pm.data.toList = i := by
            obtain ⟨x, hx⟩ : ∃ x : UInt8, s[i]'hi = x := ⟨_, rfl⟩
            have hxl : s.data.toList[i]? = some x := by rw [← hx]; exact Lib.data_getElem? s i hi
            have hxb : (x.toNat : Int) = bt s i := by rw [← hx]; exact bt_eq s i hi
            refine Lib.indexAny_hit (noPm_lib HNO.out) hxl ?_
            have : x = 43 ∨ x = 45 := by
              rcases hpm with h | h
              · left; apply UInt8.toNat_inj.mp; show x.toNat = 43; omega
              · right; apply UInt8.toNat_inj.mp; show x.toNat = 45; omega
            rcases this with rfl | rfl <;> decide
          have HRES := Lib.hid hres
          clear hres hdec2 hspan
          rcases hrv with hrv | hrv
          · go_wp2_with fail
            refine (indexRune_v 43 (by decide) 0 rfl _).mono ?_
            rintro e w3 ⟨rfl, hb3⟩
            have HB3 := Lib.hid (HB2.out.trans (hb3.mono HB2.out.size))
            clear hb3
            go_wp2
            go_ret
            exact ⟨by rw [HRES.out]; rfl, HB3.out⟩
          · go_wp2_with fail
            refine (indexRune_v 45 (by decide) 1 rfl _).mono ?_
            rintro e w3 ⟨rfl, hb3⟩
            have HB3 := Lib.hid (HB2.out.trans (hb3.mono HB2.out.size))
            clear hb3
            go_wp2
            go_ret
            exact ⟨by rw [HRES.out]; rfl, HB3.out⟩
        · have hpn := of_decide_eq_false (show decide (bt s i = 43 ∨ bt s i = 45) = false from Bool.eq_false_iff.mpr hp)
          have hrv : ¬ (r : Int) = 43 ∧ ¬ (r : Int) = 45 := by omega
          have hk1 : 1 ≤ k := by rcases hdec2 with h | h
                                 · omega
                                 · exact (hspan h.1).1
          have hno2 : noPm s (i + k) := by
            intro j hj
            by_cases hji : j < i
            · exact HNO.out j hji
            · rcases hdec2 with h | h
              · obtain rfl : j = i := by omega
                exact Bool.eq_false_iff.mpr hp
              · have := (hspan h.1).2 (j - i) (by omega)
                rw [show i + (j - i) = j by omega] at this
                exact decide_eq_false (by omega)
          have hle : i + k ≤ s.size := by
            rcases hdec2 with h | h
            · omega
            · have := bt_in ((hspan h.1).2 (k - 1) (by omega))
              omega
          have HN2 := Lib.hid hno2
          have HLE := Lib.hid hle
          have HK1 := Lib.hid hk1
          have HIG := Lib.hid hig
          clear hno2 hle hspan hdec2 hpn hk1 hp
          go_wp2_with fail
          refine (indexRune_v r (by omega) (-1) (by rw [if_neg hrv.1, if_neg hrv.2]) _).mono ?_
          rintro e w3 ⟨rfl, hb3⟩
          have HB3 := Lib.hid (HB2.out.trans (hb3.mono HB2.out.size))
          have HG3 := Lib.hid ((hb3.block w.heap.size hlt2).trans hg2)
          clear hb3
          go_wp2
          go_roundg g
          case measure => omega
          case rel => exact ⟨i + k, by have := HIG.out; have := HK1.out; omega, HLE.out, HG3.out, HN2.out, HB3.out⟩
      · obtain rfl : i = s.size := by omega
        have hnx := next_end (P := Tryd.prog) wr w.heap.size s s.size hit hi
        have HRES := Lib.hid (show Lib.indexAny s.data.toList pm.data.toList = -1 from Lib.indexAny_none (by rw [← Lib.size_eq]; exact noPm_lib hno))
        have HB := Lib.hid hb
        clear hno hb hit
        go_wp2
        go_ret
        exact ⟨by rw [HRES.out]; rfl, HB.out⟩

end Go.Proofs.YtkhakelhfnoeoaaDoor
