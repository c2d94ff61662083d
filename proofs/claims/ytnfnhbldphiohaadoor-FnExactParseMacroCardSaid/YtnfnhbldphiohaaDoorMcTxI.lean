/- DERIVED. strings.Index at this program: the numbers are this program's; and of a text of three letters: where a letter stands. · The program's parseStep: it tells the step that a word tells. Called with any text, where the listed tables are as their texts lay them. · The program's ParseMacro: the macro that a text tells. Called with any text, where the listed tables are as their texts lay them. · The program's FormatMacro: the text of a macro. Called with any steps, at most 1048576, where the listed tables are as their texts lay them. -/
import Derived.Shelf.Lay
import Derived.Shelf.Strings.Search3
import Derived.Test.YtnfnhbldphiohaaDoorSplitShelf
import Derived.Test.YtnfnhbldphiohaaDoorAcFol
import Derived.Test.YtnfnhbldphiohaaDoorMcTx
import Derived.Test.YtnfnhbldphiohaaDoorMcImpl
import Derived.Test.YtnfnhbldphiohaaDoorMcLawD
namespace Go.Proofs.YtnfnhbldphiohaaDoor
open Go.Shelf Go.RowKit
def indexRen : Go.Shelf.Ren := ⟨fun | 143 => 58 | 217 => 93 | 219 => 79 | 224 => 95 | 225 => 94 | 266 => 105 | 267 => 96 | 314 => 106 | n => n, fun | 3 => 3 | 4 => 4 | 5 => 5 | 9 => 9 | 46 => 122 | 51 => 131 | 146 => 132 | n => n, fun | 1 => 2 | n => n⟩
theorem indexLays : Go.Proofs.Lays.n143 Tryd.prog indexRen := {
  mixed := by kernel_rfl
  g1 := by kernel_rfl
  f143 := Tryd.func58.trans (congrArg some (by kernel_rfl))
  f217 := Tryd.func93.trans (congrArg some (by kernel_rfl))
  f219 := Tryd.func79.trans (congrArg some (by kernel_rfl))
  f224 := Tryd.func95.trans (congrArg some (by kernel_rfl))
  f225 := Tryd.func94.trans (congrArg some (by kernel_rfl))
  f266 := Tryd.func105.trans (congrArg some (by kernel_rfl))
  f267 := Tryd.func96.trans (congrArg some (by kernel_rfl))
  f314 := Tryd.func106.trans (congrArg some (by kernel_rfl))
  t3 := Tryd.underlying3
  a3 := Tryd.isAgg3
  z3 := Tryd.sizeOf3
  v3 := Tryd.zeroValue3
  t4 := Tryd.underlying4
  a4 := Tryd.isAgg4
  z4 := Tryd.sizeOf4
  v4 := Tryd.zeroValue4
  t5 := Tryd.underlying5
  a5 := Tryd.isAgg5
  z5 := Tryd.sizeOf5
  v5 := Tryd.zeroValue5
  t9 := Tryd.underlying9
  a9 := Tryd.isAgg9
  z9 := Tryd.sizeOf9
  v9 := Tryd.zeroValue9
  t46 := Tryd.underlying122
  a46 := Tryd.isAgg122
  z46 := Tryd.sizeOf122
  v46 := Tryd.zeroValue122
  t51 := Tryd.underlying131
  a51 := Tryd.isAgg131
  z51 := Tryd.sizeOf131
  v51 := Tryd.zeroValue131
  t146 := Tryd.underlying132
  a146 := Tryd.isAgg132
  z146 := Tryd.sizeOf132
  v146 := Tryd.zeroValue132 }
theorem strIndex_any (s sub : ByteArray) (w : World) (hM : MaxInt w) (hs : s.size < 4294967281) : Calls Tryd.prog 58 #[.string s, .string sub] w fun e w' => e = .returned (.int .i64 (Lib.index s.data.toList sub.data.toList)) ∧ w = w' := by
  obtain ⟨m, hm⟩ := hM
  exact (Any.strings_Index (ρ := indexRen) indexLays s sub m w hs hm).mono fun e w' ⟨he, hw⟩ => ⟨he, hw.symm⟩
/-- The place of a letter among t, d and u. -/
def kindI (b : Nat) : Int := if b = 116 then 0 else if b = 100 then 1 else if b = 117 then 2 else -1
abbrev tduS : ByteArray := ⟨#[116, 100, 117]⟩
theorem tdu_all : ((List.range 256).all fun n => Lib.index tduS.data.toList [UInt8.ofNat n] == kindI n) = true := by kernel_rfl
theorem tdu_at (x : UInt8) : Lib.index tduS.data.toList [x] = kindI x.toNat := by
  have h := List.all_eq_true.1 tdu_all x.toNat (List.mem_range.2 x.toNat_lt)
  simpa using h
end Go.Proofs.YtnfnhbldphiohaaDoor

namespace Go.Proofs.YtnfnhbldphiohaaDoor
open Go.RowKit

theorem ix_cons (a : UInt8) (l : List UInt8) (x : UInt8) : Lib.indexByte (a :: l) x = if a = x then 0 else if Lib.indexByte l x < 0 then -1 else Lib.indexByte l x + 1 := by
  rw [Lib.indexByte]
  by_cases h : a = x
  · subst h; simp
  · simp [h]
    have h1 := Lib.indexByte_ge l x
    by_cases h2 : Lib.indexByte l x = -1
    · rw [if_pos h2, if_pos (by omega)]
    · rw [if_neg h2, if_neg (by omega)]
theorem bt_cons0 (a : UInt8) (l : List UInt8) : bt ⟨(a :: l).toArray⟩ 0 = (a.toNat : Int) := bt_list (a :: l) 0 (by simp)
theorem bt_cons1 (a b : UInt8) (l : List UInt8) : bt ⟨(a :: b :: l).toArray⟩ 1 = (b.toNat : Int) := bt_list (a :: b :: l) 1 (by simp)
theorem u61 (a : UInt8) : a = 61 ↔ (a.toNat : Int) = 61 := by
  constructor
  · rintro rfl; rfl
  · intro h
    have h2 : a.toNat = (61 : UInt8).toNat := by have h3 : (61 : UInt8).toNat = 61 := rfl; omega
    exact UInt8.toNat_inj.1 h2
/-- The step that the program reads: a letter, and the text of an action. -/
def mqL (x : UInt8) (R : ByteArray) : St × Bool := (⟨kindI x.toNat, (acP R).1.c, (acP R).1.m⟩, decide (0 ≤ kindI x.toNat) && ((acP R).2 && decide ((acP R).1.k = 2)))
theorem mq_cut (s : ByteArray) : ((mqS s).2 = false ∧ ((cutV s 61).2.2 = false ∨ (cutV s 61).1.size ≠ 1)) ∨
    ∃ x, (cutV s 61).2.2 = true ∧ (cutV s 61).1 = ⟨#[x]⟩ ∧ (mqS s).2 = (mqL x (cutV s 61).2.1).2 ∧ ((mqS s).2 = true → (mqS s).1 = (mqL x (cutV s 61).2.1).1) := by
  obtain ⟨⟨l⟩⟩ := s
  have hsz : ∀ l : List UInt8, (⟨⟨l⟩⟩ : ByteArray).size = l.length := fun _ => rfl
  rcases l with _ | ⟨a, l⟩
  · refine .inl ⟨by rw [mqS, if_pos (.inl (by rw [hsz]; decide))], .inl ?_⟩
    rw [cutV]; rfl
  · rcases l with _ | ⟨b, l⟩
    · refine .inl ⟨by rw [mqS, if_pos (.inl (by rw [hsz]; simp))], ?_⟩
      have h : ixB ⟨⟨[a]⟩⟩ 61 = if a = 61 then 0 else -1 := by rw [ixB, ix_cons]; simp [Lib.indexByte]
      by_cases ha : a = 61
      · rw [if_pos ha] at h
        right; rw [cutV, h, if_neg (by decide)]
        show (ByteArray.extract _ 0 0).size ≠ 1
        rw [ByteArray.size_extract]; simp
      · rw [if_neg ha] at h
        left; rw [cutV, h]; rfl
    · have hb0 : bt ⟨⟨a :: b :: l⟩⟩ 0 = (a.toNat : Int) := bt_cons0 a (b :: l)
      have hb1 : bt ⟨⟨a :: b :: l⟩⟩ 1 = (b.toNat : Int) := bt_cons1 a b l
      have h : ixB ⟨⟨a :: b :: l⟩⟩ 61 = if a = 61 then 0 else if Lib.indexByte (b :: l) 61 < 0 then -1 else Lib.indexByte (b :: l) 61 + 1 := by rw [ixB]; exact ix_cons a (b :: l) 61
      by_cases ha : a = 61
      · rw [if_pos ha] at h
        refine .inl ⟨?_, .inr ?_⟩
        · have h61 := (u61 a).1 ha
          rw [mqS, hb0, hb1, h61]
          split
          · rfl
          · rw [if_neg (by decide), if_neg (by decide), if_neg (by decide)]
        · rw [cutV, h, if_neg (by decide)]
          show (ByteArray.extract _ 0 0).size ≠ 1
          rw [ByteArray.size_extract]; simp
      · rw [if_neg ha] at h
        have h2 := ix_cons b l 61
        by_cases hb : b = 61
        · rw [if_pos hb] at h2
          rw [h2, if_neg (by decide)] at h
          have hc : cutV ⟨⟨a :: b :: l⟩⟩ 61 = ((⟨⟨a :: b :: l⟩⟩ : ByteArray).extract 0 1, (⟨⟨a :: b :: l⟩⟩ : ByteArray).extract 2 (⟨⟨a :: b :: l⟩⟩ : ByteArray).size, true) := by
            rw [cutV, h, if_neg (by decide)]; rfl
          rw [hc]
          refine .inr ⟨a, rfl, ?_, ?_⟩
          · apply ByteArray.ext
            apply Array.ext'
            simp [ByteArray.data_extract]
          · obtain ⟨R, hR⟩ : ∃ R, R = (⟨⟨a :: b :: l⟩⟩ : ByteArray).extract 2 (⟨⟨a :: b :: l⟩⟩ : ByteArray).size := ⟨_, rfl⟩
            have h61 := (u61 b).1 hb
            rw [mqS, hb0, hb1, h61, ← hR]
            simp only []
            by_cases hs : (⟨⟨a :: b :: l⟩⟩ : ByteArray).size < 3
            · rw [if_pos (.inl hs)]
              have hRe : R = ⟨#[]⟩ := by
                rw [hR]
                apply ByteArray.ext
                apply Array.ext'
                rw [hsz] at hs
                simp only [List.length_cons] at hs
                obtain rfl : l = [] := List.eq_nil_of_length_eq_zero (by omega)
                simp [hsz]
              have hf : (mqL a R).2 = false := by
                rw [hRe, mqL]
                have : acP ⟨#[]⟩ = (⟨0, 0, 0, 0⟩, false) := by rw [acP, if_pos (.inl rfl)]
                rw [this]; simp
              exact ⟨hf.symm, fun h => absurd h (by decide)⟩
            · rw [if_neg (by intro e; rcases e with e | e; exact hs e; exact e rfl)]
              unfold mqL kindI mqK
              by_cases k0 : a.toNat = 116
              · have k0' : (a.toNat : Int) = 116 := by omega
                rw [if_pos k0', if_pos k0]
                exact ⟨rfl, fun _ => rfl⟩
              · have k0' : ¬ (a.toNat : Int) = 116 := by omega
                rw [if_neg k0', if_neg k0]
                by_cases k1 : a.toNat = 100
                · have k1' : (a.toNat : Int) = 100 := by omega
                  rw [if_pos k1', if_pos k1]
                  exact ⟨rfl, fun _ => rfl⟩
                · have k1' : ¬ (a.toNat : Int) = 100 := by omega
                  rw [if_neg k1', if_neg k1]
                  by_cases k2 : a.toNat = 117
                  · have k2' : (a.toNat : Int) = 117 := by omega
                    rw [if_pos k2', if_pos k2]
                    exact ⟨rfl, fun _ => rfl⟩
                  · have k2' : ¬ (a.toNat : Int) = 117 := by omega
                    rw [if_neg k2', if_neg k2]
                    exact ⟨rfl, fun h => absurd h (by decide)⟩
        · rw [if_neg hb] at h2
          have hmq : (mqS ⟨⟨a :: b :: l⟩⟩).2 = false := by
            rw [mqS, hb1, if_pos (.inr (fun e => hb ((u61 b).2 e)))]
          refine .inl ⟨hmq, ?_⟩
          by_cases hl : Lib.indexByte l 61 < 0
          · rw [if_pos hl] at h2
            rw [h2, if_pos (by decide)] at h
            left; rw [cutV, h]; rfl
          · rw [if_neg hl] at h2
            have hlt := indexByte_lt l 61
            right
            rw [cutV, h, h2, if_neg (by omega), if_neg (by omega)]
            show (ByteArray.extract _ 0 _).size ≠ 1
            rw [ByteArray.size_extract, hsz]
            simp only [List.length_cons]
            omega
theorem cut_left (s : ByteArray) : (cutV s 61).1.size ≤ s.size := (cut_sizes s 61).1

/-- What parseStep returns. -/
def PsO (s : ByteArray) (w : World) (e : Ending) (w' : World) : Prop := ∃ k c m, e = .returned (.tuple #[stv k c m, .bool (mqS s).2]) ∧ ((mqS s).2 = true → (mqS s).1 = ⟨k, c, m⟩) ∧ Below w.heap.size w w'
set_option maxRecDepth 100000 in
set_option maxHeartbeats 8000000 in
theorem parseStep_any (s : ByteArray) (w : World) (ht : AcTabs w) (hM : MaxInt w) (hl : s.size ≤ 1048576) :
    Calls Tryd.prog 31 #[.string s] w (PsO s w) := by
  obtain ⟨⟨L, R, b⟩, hc⟩ : ∃ r, r = cutV s 61 := ⟨_, rfl⟩
  have hq := mq_cut s
  have hsz := cut_sizes s 61
  rw [← hc] at hq hsz
  simp only at hq hsz
  obtain ⟨Q, hQ⟩ : ∃ Q, Q = mqS s := ⟨_, rfl⟩
  rw [← hQ] at hq
  have hout : ∀ (k c m : Int) (w' : World), Below w.heap.size w w' → (Q.2 = true → Q.1 = ⟨k, c, m⟩) → PsO s w (.returned (.tuple #[stv k c m, .bool Q.2])) w' := fun k c m w' hb h => ⟨k, c, m, by rw [hQ], by rw [← hQ]; exact h, hb⟩
  have HOUT := Lib.hid hout
  have HC := Lib.hid hc
  have HQ := Lib.hid hq
  have HSZ := Lib.hid hsz
  have HT := Lib.hid ht
  have HMx := Lib.hid hM
  have HL := Lib.hid hl
  clear hc hq hsz ht hM hl hQ hout
  go_enter Tryd.func31, Tryd.ntmps31
  go_upto_region 1 with (fail)
  obtain ⟨V, hV⟩ : ∃ V, V = w.alloc (.cells #[.int .i64 0, .int .i64 0, .int .i64 0] 39) := ⟨_, rfl⟩
  obtain ⟨gr, hgr⟩ : ∃ x, x = w.heap.size := ⟨_, rfl⟩
  have hb0 : Below w.heap.size w V := by rw [hV]; exact below_alloc1 _ _
  have hg0 : V.heap[gr]? = some (.cells #[.int .i64 0, .int .i64 0, .int .i64 0] 39 (0, 0)) := by rw [hV, hgr]; exact heap_alloc_new _ _
  have HS0 := Lib.hid (show gr < V.heap.size by rw [hV, hgr]; simp)
  have HGR := Lib.hid (show w.heap.size ≤ gr by rw [hgr]; exact Nat.le_refl _)
  rw [← hV, ← hgr]
  have HB0 := Lib.hid hb0
  have HG0 := Lib.hid hg0
  clear hV hgr hb0 hg0
  go_wp2_with fail
  refine (cut_n s eqlS 61 (oneB 61) L R b HC.out _ HL.out).mono ?_
  rintro e w1 ⟨rfl, hb⟩
  have HB1 := Lib.hid (HB0.out.trans (hb.mono HB0.out.size))
  have HG1 := Lib.hid ((hb.block gr HS0.out).trans HG0.out)
  have HS1 := Lib.hid (Nat.lt_of_lt_of_le HS0.out hb.size)
  clear hb
  go_wp2_with fail
  refine (strIndex_any tduS L _ (HMx.out.below HB1.out) (by decide)).mono ?_
  rintro e wq ⟨rfl, rfl⟩
  obtain ⟨r, hr⟩ : ∃ r, r = Lib.index tduS.data.toList L.data.toList := ⟨_, rfl⟩
  rw [← hr]
  have HRi := Lib.hid hr
  clear hr
  have hgr0 : w.heap.size ≤ gr := HGR.out
  rcases HQ.out with ⟨hf, hbad⟩ | ⟨x, hbt, hLx, hq2, hq1⟩
  · have HF := Lib.hid hf
    have hfin : ∀ w', Below w.heap.size w w' → PsO s w (.returned (.tuple #[stv 0 0 0, .bool false])) w' := fun w' hb => by have := HOUT.out 0 0 0 w' hb (fun h => by rw [HF.out] at h; exact absurd h (by decide)); rw [HF.out] at this; exact this
    have HFin := Lib.hid hfin
    obtain ⟨x0, p0⟩ := cells_of_heap HG1.out 0 (by simp)
    obtain ⟨x1, p1⟩ := cells_of_heap HG1.out 1 (by simp)
    obtain ⟨x2, p2⟩ := cells_of_heap HG1.out 2 (by simp)
    clear hf hfin
    rcases hbad with rfl | hL1
    · go_wp2
      clear x0 x1 x2 p0 p1 p2
      obtain ⟨wf, hwf⟩ : ∃ x, x = putW (w1) (gr) 0 [.int .i64 0, .int .i64 0, .int .i64 0] := ⟨_, rfl⟩
      have kf := putW_all [.int .i64 0, .int .i64 0, .int .i64 0] HG1.out rfl
      have bf := putW_below (b := gr) (by first | omega | simp) [.int .i64 0, .int .i64 0, .int .i64 0] 0 _ HB1.out
      have of := bf
      rw [← hwf] at kf bf of
      have cf := hwf.symm
      simp only [putW, Nat.reduceAdd] at cf
      rw [cf]
      clear cf hwf
      have f0 := (cells_of_heap kf 0 (by simp)).1
      have f1 := (cells_of_heap kf 1 (by simp)).1
      have f2 := (cells_of_heap kf 2 (by simp)).1
      simp only [List.getElem_toArray, List.getElem_cons_zero, List.getElem_cons_succ] at f0 f1 f2
      refine bodyPost_ret (v := .tuple #[stv 0 0 0, .bool false]) (by simp [results, Tryd.results31, go_sem, f0, f1, f2]) rfl (HFin.out wf bf)
    · have hL1' : ¬ (L.size : Int) = 1 := by omega
      cases b
      · go_wp2
        clear x0 x1 x2 p0 p1 p2
        obtain ⟨wf, hwf⟩ : ∃ x, x = putW (w1) (gr) 0 [.int .i64 0, .int .i64 0, .int .i64 0] := ⟨_, rfl⟩
        have kf := putW_all [.int .i64 0, .int .i64 0, .int .i64 0] HG1.out rfl
        have bf := putW_below (b := gr) (by first | omega | simp) [.int .i64 0, .int .i64 0, .int .i64 0] 0 _ HB1.out
        have of := bf
        rw [← hwf] at kf bf of
        have cf := hwf.symm
        simp only [putW, Nat.reduceAdd] at cf
        rw [cf]
        clear cf hwf
        have f0 := (cells_of_heap kf 0 (by simp)).1
        have f1 := (cells_of_heap kf 1 (by simp)).1
        have f2 := (cells_of_heap kf 2 (by simp)).1
        simp only [List.getElem_toArray, List.getElem_cons_zero, List.getElem_cons_succ] at f0 f1 f2
        refine bodyPost_ret (v := .tuple #[stv 0 0 0, .bool false]) (by simp [results, Tryd.results31, go_sem, f0, f1, f2]) rfl (HFin.out wf bf)
      · go_wp2
        clear x0 x1 x2 p0 p1 p2
        obtain ⟨wf, hwf⟩ : ∃ x, x = putW (w1) (gr) 0 [.int .i64 0, .int .i64 0, .int .i64 0] := ⟨_, rfl⟩
        have kf := putW_all [.int .i64 0, .int .i64 0, .int .i64 0] HG1.out rfl
        have bf := putW_below (b := gr) (by first | omega | simp) [.int .i64 0, .int .i64 0, .int .i64 0] 0 _ HB1.out
        have of := bf
        rw [← hwf] at kf bf of
        have cf := hwf.symm
        simp only [putW, Nat.reduceAdd] at cf
        rw [cf]
        clear cf hwf
        have f0 := (cells_of_heap kf 0 (by simp)).1
        have f1 := (cells_of_heap kf 1 (by simp)).1
        have f2 := (cells_of_heap kf 2 (by simp)).1
        simp only [List.getElem_toArray, List.getElem_cons_zero, List.getElem_cons_succ] at f0 f1 f2
        refine bodyPost_ret (v := .tuple #[stv 0 0 0, .bool false]) (by simp [results, Tryd.results31, go_sem, f0, f1, f2]) rfl (HFin.out wf bf)
  · subst hbt hLx
    have hrk : r = kindI x.toNat := by rw [HRi.out]; exact tdu_at x
    have hsz1 : (⟨#[x]⟩ : ByteArray).size = 1 := rfl
    have HRK := Lib.hid hrk
    have HQ2 := Lib.hid hq2
    have HQ1 := Lib.hid hq1
    clear hrk hq2 hq1
    have hfin : Q.2 = false → ∀ w', Below w.heap.size w w' → PsO s w (.returned (.tuple #[stv 0 0 0, .bool false])) w' := fun hf w' hb => by have := HOUT.out 0 0 0 w' hb (fun h => by rw [hf] at h; exact absurd h (by decide)); rw [hf] at this; exact this
    have HFin0 := Lib.hid hfin
    clear hfin
    by_cases h0 : r < 0
    · have HFin := Lib.hid (HFin0.out (by rw [HQ2.out, mqL, ← HRK.out, show decide (0 ≤ r) = false from decide_eq_false (by omega), Bool.false_and]))
      obtain ⟨x0, p0⟩ := cells_of_heap HG1.out 0 (by simp)
      obtain ⟨x1, p1⟩ := cells_of_heap HG1.out 1 (by simp)
      obtain ⟨x2, p2⟩ := cells_of_heap HG1.out 2 (by simp)
      go_wp2
      clear x0 x1 x2 p0 p1 p2
      obtain ⟨wf, hwf⟩ : ∃ x, x = putW (w1) (gr) 0 [.int .i64 0, .int .i64 0, .int .i64 0] := ⟨_, rfl⟩
      have kf := putW_all [.int .i64 0, .int .i64 0, .int .i64 0] HG1.out rfl
      have bf := putW_below (b := gr) (by first | omega | simp) [.int .i64 0, .int .i64 0, .int .i64 0] 0 _ HB1.out
      have of := bf
      rw [← hwf] at kf bf of
      have cf := hwf.symm
      simp only [putW, Nat.reduceAdd] at cf
      rw [cf]
      clear cf hwf
      have f0 := (cells_of_heap kf 0 (by simp)).1
      have f1 := (cells_of_heap kf 1 (by simp)).1
      have f2 := (cells_of_heap kf 2 (by simp)).1
      simp only [List.getElem_toArray, List.getElem_cons_zero, List.getElem_cons_succ] at f0 f1 f2
      refine bodyPost_ret (v := .tuple #[stv 0 0 0, .bool false]) (by simp [results, Tryd.results31, go_sem, f0, f1, f2]) rfl (HFin.out wf bf)
    · have hd0 : decide (0 ≤ r) = true := decide_eq_true (by omega)
      have HD0 := Lib.hid hd0
      clear hd0
      obtain ⟨⟨z, pb⟩, hz⟩ : ∃ p, p = acP R := ⟨_, rfl⟩
      have hq2 := HQ2.out
      have hq1 := HQ1.out
      rw [mqL, ← hz, ← HRK.out, HD0.out] at hq2 hq1
      simp only [Bool.true_and] at hq2 hq1
      have HQ3 := Lib.hid hq2
      have HQ4 := Lib.hid hq1
      have HZ := Lib.hid hz
      clear hq2 hq1 hz
      go_wp2_with fail
      refine (implParseAction_n R z pb HZ.out _ (HT.out.below HB1.out) (by have := HSZ.out.2; have := HL.out; omega)).mono ?_
      rintro e w2 ⟨rfl, hb⟩
      have HB2 := Lib.hid (HB1.out.trans (hb.mono HB1.out.size))
      have HG2 := Lib.hid ((hb.block gr HS1.out).trans HG1.out)
      have HS2 := Lib.hid (Nat.lt_of_lt_of_le HS1.out hb.size)
      clear hb
      obtain ⟨ak, ac, am, an⟩ := z
      simp only [] at HQ3 HQ4
      go_upto_region 6 with (fail)
      obtain ⟨U, hU⟩ : ∃ U, U = w2.alloc (.cells #[.int .i64 ak, .int .i64 ac, .int .i64 am, .int .i64 an] 67) := ⟨_, rfl⟩
      obtain ⟨g, hg⟩ : ∃ g, g = w2.heap.size := ⟨_, rfl⟩
      have hu : Below w2.heap.size w2 U := by rw [hU]; exact below_alloc1 _ _
      have hgu : U.heap[g]? = some (.cells #[.int .i64 ak, .int .i64 ac, .int .i64 am, .int .i64 an] 67 (0, 0)) := by rw [hU, hg]; exact heap_alloc_new _ _
      rw [← hU, ← hg]
      have HG3 := Lib.hid ((hu.block gr HS2.out).trans HG2.out)
      have HB3 := Lib.hid (HB2.out.trans (hu.mono HB2.out.size))
      have HNE := Lib.hid (show ¬ g = gr by have := HS2.out; omega)
      clear hU hg hu
      obtain ⟨y0, -⟩ := cells_of_heap hgu 0 (by simp)
      obtain ⟨y1, -⟩ := cells_of_heap hgu 1 (by simp)
      obtain ⟨y2, -⟩ := cells_of_heap hgu 2 (by simp)
      obtain ⟨y3, -⟩ := cells_of_heap hgu 3 (by simp)
      clear hgu
      simp only [List.getElem_toArray, List.getElem_cons_zero, List.getElem_cons_succ] at y0 y1 y2 y3
      obtain ⟨x0, p0⟩ := cells_of_heap HG3.out 0 (by simp)
      obtain ⟨x1, p1⟩ := cells_of_heap HG3.out 1 (by simp)
      obtain ⟨x2, p2⟩ := cells_of_heap HG3.out 2 (by simp)
      have hn1 : ¬ g = gr := HNE.out
      have hn2 : ¬ gr = g := fun e => HNE.out e.symm
      cases pb
      · have HFin := Lib.hid (HFin0.out (by rw [HQ3.out, Bool.false_and]))
        go_wp2
        clear x0 x1 x2 p0 p1 p2 y0 y1 y2 y3 hn1 hn2
        obtain ⟨wf, hwf⟩ : ∃ x, x = putW (U) (gr) 0 [.int .i64 0, .int .i64 0, .int .i64 0] := ⟨_, rfl⟩
        have kf := putW_all [.int .i64 0, .int .i64 0, .int .i64 0] HG3.out rfl
        have bf := putW_below (b := gr) (by first | omega | simp) [.int .i64 0, .int .i64 0, .int .i64 0] 0 _ HB3.out
        have of := bf
        rw [← hwf] at kf bf of
        have cf := hwf.symm
        simp only [putW, Nat.reduceAdd] at cf
        rw [cf]
        clear cf hwf
        have f0 := (cells_of_heap kf 0 (by simp)).1
        have f1 := (cells_of_heap kf 1 (by simp)).1
        have f2 := (cells_of_heap kf 2 (by simp)).1
        simp only [List.getElem_toArray, List.getElem_cons_zero, List.getElem_cons_succ] at f0 f1 f2
        refine bodyPost_ret (v := .tuple #[stv 0 0 0, .bool false]) (by simp [results, Tryd.results31, go_sem, f0, f1, f2]) rfl (HFin.out wf bf)
      · by_cases hk : ak = 2
        · have hQt : Q.2 = true := by rw [HQ3.out, hk]; rfl
          have HQt := Lib.hid hQt
          have HFin := Lib.hid (show ∀ w', Below w.heap.size w w' → PsO s w (.returned (.tuple #[stv r ac am, .bool true])) w' from fun w' hb => by have := HOUT.out r ac am w' hb (fun h => HQ4.out h); rw [HQt.out] at this; exact this)
          clear hQt
          subst hk
          go_wp2
          clear x0 x1 x2 p0 p1 p2 y0 y1 y2 y3 hn1 hn2
          obtain ⟨wf, hwf⟩ : ∃ x, x = putW (U) (gr) 0 [.int .i64 r, .int .i64 ac, .int .i64 am] := ⟨_, rfl⟩
          have kf := putW_all [.int .i64 r, .int .i64 ac, .int .i64 am] HG3.out rfl
          have bf := putW_below (b := gr) (by first | omega | simp) [.int .i64 r, .int .i64 ac, .int .i64 am] 0 _ HB3.out
          have of := bf
          rw [← hwf] at kf bf of
          have cf := hwf.symm
          simp only [putW, Nat.reduceAdd] at cf
          rw [cf]
          clear cf hwf
          have f0 := (cells_of_heap kf 0 (by simp)).1
          have f1 := (cells_of_heap kf 1 (by simp)).1
          have f2 := (cells_of_heap kf 2 (by simp)).1
          simp only [List.getElem_toArray, List.getElem_cons_zero, List.getElem_cons_succ] at f0 f1 f2
          refine bodyPost_ret (v := .tuple #[stv r ac am, .bool true]) (by simp [results, Tryd.results31, go_sem, f0, f1, f2]) rfl (HFin.out wf bf)
        · have HFin := Lib.hid (HFin0.out (by rw [HQ3.out, Bool.true_and]; exact decide_eq_false hk))
          go_wp2
          clear x0 x1 x2 p0 p1 p2 y0 y1 y2 y3 hn1 hn2
          obtain ⟨wf, hwf⟩ : ∃ x, x = putW (U) (gr) 0 [.int .i64 0, .int .i64 0, .int .i64 0] := ⟨_, rfl⟩
          have kf := putW_all [.int .i64 0, .int .i64 0, .int .i64 0] HG3.out rfl
          have bf := putW_below (b := gr) (by first | omega | simp) [.int .i64 0, .int .i64 0, .int .i64 0] 0 _ HB3.out
          have of := bf
          rw [← hwf] at kf bf of
          have cf := hwf.symm
          simp only [putW, Nat.reduceAdd] at cf
          rw [cf]
          clear cf hwf
          have f0 := (cells_of_heap kf 0 (by simp)).1
          have f1 := (cells_of_heap kf 1 (by simp)).1
          have f2 := (cells_of_heap kf 2 (by simp)).1
          simp only [List.getElem_toArray, List.getElem_cons_zero, List.getElem_cons_succ] at f0 f1 f2
          refine bodyPost_ret (v := .tuple #[stv 0 0 0, .bool false]) (by simp [results, Tryd.results31, go_sem, f0, f1, f2]) rfl (HFin.out wf bf)
end Go.Proofs.YtnfnhbldphiohaaDoor

namespace Go.Proofs.YtnfnhbldphiohaaDoor
open Go.RowKit

theorem implSplit_m (s : ByteArray) (c : Int) (N : Nat) (hN : N = (parts s c).length) (w : World) (hl : s.size ≤ 1048576) : Calls Tryd.prog 30 #[.string s, .int .u8 c] w fun e w' => ∃ b cap, e = .returned (.slice (some ⟨b, 0, none⟩) N cap) ∧ w.heap.size ≤ b ∧ b < w'.heap.size ∧ (∀ j, j < N → w'.cell? ⟨b, j, none⟩ = some (.string (pt s c j))) ∧ Below w.heap.size w w' := by
  subst hN
  exact (implSplit_any s c w hl).mono fun e w' h => split_known h
theorem mqV_pr (s : ByteArray) (ws : List ByteArray) (N : Nat) (h : ws = parts s 32) (hN : N = ws.length) (h0 : s ≠ ⟨#[]⟩) (o : Bool) (ho : o = okMc (mqO ws N)) : mqV s = if mqN ws N = true ∧ o = true then (mqO ws N, true) else ([], false) := by
  subst hN
  rw [mqV_eq s ws h h0, ho]
  by_cases h1 : mqN ws ws.length = true
  · by_cases h2 : okMc (mqO ws ws.length) = true
    · have h8 := (okMc_at h2).1
      rw [mqO_len ws ws.length (Nat.le_refl _)] at h8
      rw [if_pos ⟨h8, h1, h2⟩, if_pos ⟨h1, h2⟩]
    · rw [if_neg (fun e => h2 e.2.2), if_neg (fun e => h2 e.2)]
  · rw [if_neg (fun e => h1 e.2.1), if_neg (fun e => h1 e.1)]

set_option maxRecDepth 100000 in
set_option maxHeartbeats 8000000 in
theorem implParseMacro_any (s : ByteArray) (w : World) (ht : AcTabs w) (hM : MaxInt w) (hl : s.size ≤ 1048576) :
    Calls Tryd.prog 10 #[.string s] w (StQ (mqV s) w) := by
  obtain ⟨iS, hi, hz0, hz1, hz2⟩ := info_parts info_st
  obtain ⟨Q, hQ⟩ : ∃ Q, Q = mqV s := ⟨_, rfl⟩
  rw [← hQ]
  have hnil : ∀ (b : Bool) (w' : World), Below w.heap.size w w' → Q = ([], b) → StQ Q w (.returned (.tuple #[.slice none 0 0, .bool b])) w' := fun b w' hb h => by
    subst h
    exact ⟨none, 0, [], rfl, ⟨⟨rfl, .inl ⟨rfl, rfl⟩⟩, rfl⟩, hb⟩
  have HNil := Lib.hid hnil
  have HQ := Lib.hid hQ
  have HT := Lib.hid ht
  have HMx := Lib.hid hM
  have HL := Lib.hid hl
  clear hnil hQ ht hM hl
  by_cases hs : s = ⟨#[]⟩
  · subst hs
    have hq : Q = ([], true) := by rw [HQ.out, mqV, if_pos rfl]
    have HQ2 := Lib.hid hq
    clear hq
    go_enter Tryd.func10, Tryd.ntmps10
    go_wp2
    go_ret2
    exact HNil.out true _ (Below.refl _ _) HQ2.out
  · have hse := lit_ne [] hs
    obtain ⟨ws, hws⟩ : ∃ ws, ws = parts s 32 := ⟨_, rfl⟩
    obtain ⟨N, hN⟩ : ∃ N, N = ws.length := ⟨_, rfl⟩
    have hpr := fun o ho => mqV_pr s ws N hws hN hs o ho
    have hNl : N ≤ 1048577 := by rw [hN, hws]; have := parts_len s 32; have := HL.out; omega
    have HPR := Lib.hid hpr
    have HWS := Lib.hid hws
    have HN := Lib.hid hN
    clear hws hN hpr hs
    go_enter Tryd.func10, Tryd.ntmps10
    go_wp2_with fail
    refine (implSplit_m s 32 N (by rw [HN.out, HWS.out]) _ HL.out).mono ?_
    rintro e W1 ⟨b9, c9, rfl, hb9, hb9l, hcell, hb⟩
    have HB1 := Lib.hid hb
    have HC := Lib.hid hcell
    have HB9 := Lib.hid hb9l
    clear hb hcell hb9 hb9l hse
    go_wp2
    go_loopw [4, 6, 7, 8, 14] (fun dn _ _ _ i wr => ∃ j : Nat, j ≤ N ∧ i = .int .i64 j ∧ mqN ws j = true ∧ wr.ownsRow W1.heap.size 39 3 dn j (flatSt (mqO ws j)) ∧ Below W1.heap.size W1 wr) (fun _ _ _ _ i _ => N - (intOf i).toNat)
    case atStart => exact ⟨0, Nat.zero_le _, rfl, rfl, ⟨rfl, .inl ⟨rfl, rfl⟩⟩, Below.refl _ _⟩
    case round =>
      obtain ⟨j, hj, rfl, hq, ho, hb⟩ := hrel
      by_cases hlt' : j < N
      · have hpt : pt s 32 j = ws.getD j ⟨#[]⟩ := by rw [HWS.out]; rfl
        have c0 := (hb.cell (p := ⟨b9, j, none⟩) HB9.out).trans (HC.out j hlt')
        have hps : (pt s 32 j).size ≤ 1048576 := pt_size s 32 j HL.out
        have hsu : mqO ws (j + 1) = mqO ws j ++ [(mqS (ws.getD j ⟨#[]⟩)).1] := mqO_succ ws j (by rw [← HN.out]; exact hlt')
        have hnx : mqN ws (j + 1) = (mqN ws j && (mqS (ws.getD j ⟨#[]⟩)).2) := rfl
        have hno : (mqS (ws.getD j ⟨#[]⟩)).2 = false → mqN ws N = false := fun h => mqN_no h N hlt'
        rw [hpt] at c0 hps
        obtain ⟨p, hp⟩ : ∃ p, p = ws.getD j ⟨#[]⟩ := ⟨_, rfl⟩
        rw [← hp] at c0 hps hsu hnx hno
        rw [hq, Bool.true_and] at hnx
        have HPs := Lib.hid hps
        have HSu := Lib.hid hsu
        have HNx := Lib.hid hnx
        have HNo := Lib.hid hno
        have HO := Lib.hid ho
        have HB := Lib.hid hb
        clear hpt hps hsu hnx hno hq ho hb hp
        go_wp2_with fail
        refine (parseStep_any p _ (HT.out.below (HB1.out.trans (HB.out.mono HB1.out.size))) (HMx.out.below (HB1.out.trans (HB.out.mono HB1.out.size))) HPs.out).mono ?_
        rintro e w2 ⟨k, c, m, rfl, hst, hb⟩
        have HB2 := Lib.hid (HB.out.trans (hb.mono HB.out.size))
        have HO2 := Lib.hid (owns_below HO.out hb)
        have HSt := Lib.hid hst
        clear hb hst c0
        obtain ⟨ok, hok⟩ : ∃ x, x = (mqS p).2 := ⟨_, rfl⟩
        rw [← hok] at HNx HNo HSt ⊢
        clear hok
        go_upto_region 8 with (fail)
        obtain ⟨U, hU⟩ : ∃ U, U = w2.alloc (.cells #[.int .i64 k, .int .i64 c, .int .i64 m] 39) := ⟨_, rfl⟩
        obtain ⟨g, hg⟩ : ∃ g, g = w2.heap.size := ⟨_, rfl⟩
        have hu : Below w2.heap.size w2 U := by rw [hU]; exact below_alloc1 _ _
        have hgu : U.heap[g]? = some (.cells #[.int .i64 k, .int .i64 c, .int .i64 m] 39 (0, 0)) := by rw [hU, hg]; exact heap_alloc_new _ _
        rw [← hU, ← hg]
        have HB3 := Lib.hid (HB2.out.trans (hu.mono HB2.out.size))
        have HO3 := Lib.hid (owns_below HO2.out hu)
        obtain ⟨y0, -⟩ := cells_of_heap hgu 0 (by simp)
        obtain ⟨y1, -⟩ := cells_of_heap hgu 1 (by simp)
        obtain ⟨y2, -⟩ := cells_of_heap hgu 2 (by simp)
        simp only [List.getElem_toArray, List.getElem_cons_zero, List.getElem_cons_succ] at y0 y1 y2
        clear hU hg hu hgu
        cases ok
        · have hqf : Q = ([], false) := by rw [HQ.out, HPR.out _ rfl, if_neg (fun e => by rw [HNo.out rfl] at e; exact absurd e.1 (by decide))]
          have HQf := Lib.hid hqf
          clear hqf
          go_wp2
          go_ret2
          exact HNil.out false _ (HB1.out.trans (HB3.out.mono HB1.out.size)) HQf.out
        · have hs1 : (mqS p).1 = ⟨k, c, m⟩ := HSt.out rfl
          have HSu2 := Lib.hid (show mqO ws (j + 1) = mqO ws j ++ [⟨k, c, m⟩] by rw [HSu.out, hs1])
          have b63 : j + 1 ≤ maxLen := by unfold maxLen; omega
          have b47 : (j + 1) * 24 ≤ 140737488355328 := by omega
          have hws3 : W1.heap.size ≤ U.heap.size := HB3.out.size
          clear hs1
          go_wp2_with (at_builtin; refine wpList_append_own _ rfl _ _ 26 rfl W1.heap.size 39 iS (.agg #[.int .i64 0, .int .i64 0, .int .i64 0]) 3 24 Tryd.underlying26 hi hz0 hz1 hz2 rfl (by decide) _ _ _ rfl (owns_below HO3.out (below_alloc1 _ _)) ⟨U.heap.size, 0, none⟩ 1 1 [.int .i64 k, .int .i64 c, .int .i64 m] rfl rfl (World.news_of_block (cs := #[.int .i64 k, .int .i64 c, .int .i64 m]) (t := 39) (fr := (0, 0)) (heap_alloc_new U _)) (by intro u hu; simp at hu; rcases hu with rfl | rfl | rfl <;> rfl) b63 b47 (by simp; omega) ?_)
          intro v4 w5 hown hgrow _
          have HB5 := Lib.hid (show Below W1.heap.size W1 w5 from Below.grown (HB3.out.alloc hws3 _) hgrow (by simp; omega) (fun q hq => (HO3.out.lt q hq).1))
          have HO5 := Lib.hid (show w5.ownsRow W1.heap.size 39 3 v4 (j + 1) (flatSt (mqO ws (j + 1))) by rw [HSu2.out, flatSt_snoc]; exact hown)
          obtain ⟨a4, c4, rfl⟩ := owns_shape hown
          clear hown hgrow b63 b47 hws3 y0 y1 y2
          go_wp2
          go_roundw
          case rel => exact ⟨j + 1, by omega, by go_num, HNx.out, HO5.out, HB5.out⟩
          case measure => simp [intOf]; omega
      · obtain rfl : j = N := by omega
        obtain ⟨a4, c4, rfl⟩ := owns_shape ho
        have hml : (mqO ws j).length = j := mqO_len ws j (by rw [HN.out]; exact Nat.le_refl _)
        obtain ⟨M, hM⟩ : ∃ M, M = mqO ws j := ⟨_, rfl⟩
        obtain ⟨o, hoo⟩ : ∃ o, o = okMc M := ⟨_, rfl⟩
        have hQv := HPR.out o (by rw [hoo, hM])
        rw [hq, ← HQ.out, ← hM] at hQv
        rw [← hM] at ho hml
        have HQv := Lib.hid hQv
        have HO := Lib.hid ho
        have HB := Lib.hid (HB1.out.trans (hb.mono HB1.out.size))
        have HOO := Lib.hid hoo
        have HML := Lib.hid hml
        clear hM hoo hQv hq ho hb hml
        go_wp2_with fail
        refine (implIsMacro_q _ M o HOO.out _ (by rw [HML.out]; unfold maxLen; omega) (by rw [HML.out]; exact RdN.of_owns HO.out)).mono ?_
        rintro e w6 ⟨rfl, hb⟩
        have HB6 := Lib.hid (HB.out.trans (hb.mono HB.out.size))
        have HO6 := Lib.hid (owns_below HO.out hb)
        clear hb
        cases o
        · have HQf := Lib.hid (show Q = ([], false) by rw [HQv.out, if_neg (fun e => absurd e.2 (by decide))])
          go_wp2
          go_ret2
          exact HNil.out false _ HB6.out HQf.out
        · have hQf : Q = (M, true) := by rw [HQv.out, if_pos ⟨by first | rfl | trivial, rfl⟩]
          have HQf := Lib.hid hQf
          clear hQf
          go_wp2
          go_ret2
          rw [HQf.out]
          exact ⟨a4, c4, _, by rw [HML.out]; rfl, by rw [HML.out]; exact OwF.mk' (owns_base HO6.out HB1.out.size), HB6.out⟩
end Go.Proofs.YtnfnhbldphiohaaDoor

namespace Go.Proofs.YtnfnhbldphiohaaDoor
open Go.RowKit

theorem implJoin_n8 (v : Value) (ss : List ByteArray) (sep T : ByteArray) (hT : T = joined ss sep) (w : World) (hl : ss.length ≤ 1048576) (hj : ∀ k, k ≤ ss.length → (jn ss sep k).length ≤ 70368744177664) (h : Rd w v (ss.map .string)) :
    Calls Tryd.prog 34 #[v, .string sep] w fun e w' => e = .returned (.string T) ∧ Below w.heap.size w w' := by
  rw [hT]; exact implJoin_any v ss sep w hl hj h
theorem implFormatAction_n8 (k c m n : Int) (T : ByteArray) (hT : T = acS k c m n) (w : World) (ht : AcTabs w) : Calls Tryd.prog 32 #[acv k c m n] w fun e w' => e = .returned (.string T) ∧ Below w.heap.size w w' := by
  rw [hT]; exact implFormatAction_any k c m n w ht

set_option maxRecDepth 100000 in
set_option maxHeartbeats 8000000 in
theorem implFormatMacro_any (v : Value) (l : List St) (w : World) (ht : AcTabs w) (hl : l.length ≤ 1048576) (h : RdN w v l.length (flatSt l)) :
    Calls Tryd.prog 11 #[v] w fun e w' => e = .returned (.string (fmV l)) ∧ Below w.heap.size w w' := by
  obtain ⟨i0, hi, hz0, hz1, hz2⟩ := info_parts info_str
  obtain ⟨r, hr⟩ : ∃ r, r = fmV l := ⟨_, rfl⟩
  rw [← hr]
  obtain ⟨O, hO⟩ : ∃ O, O = okMc l := ⟨_, rfl⟩
  rw [fmV, ← hO] at hr
  obtain ⟨a, cap, rfl⟩ := RdN.shape h
  obtain ⟨n, hnl⟩ : ∃ n, n = l.length := ⟨_, rfl⟩
  have HR := Lib.hid hr
  have HOO := Lib.hid hO
  have HN := Lib.hid hnl
  have H := Lib.hid (show RdN w (.slice a n cap) l.length (flatSt l) from by rw [hnl]; exact h)
  have HT := Lib.hid ht
  have hn : n ≤ 1048576 := by rw [hnl]; exact hl
  rw [← hnl]
  clear hr hO hnl h ht
  go_enter Tryd.func11, Tryd.ntmps11
  go_wp2_with fail
  refine (implIsMacro_q _ l O HOO.out _ (by unfold maxLen; omega) H.out).mono ?_
  rintro e w1 ⟨rfl, hb⟩
  have HB1 := Lib.hid hb
  clear hb hl
  cases O
  · have HR2 := Lib.hid (show r = ⟨#[]⟩ from HR.out)
    go_wp2
    go_ret
    exact ⟨by rw [HR2.out]; rfl, HB1.out⟩
  · have HR2 := Lib.hid (show r = joined (l.map stT) blank8 from HR.out)
    have HMac := Lib.hid (okMc_at HOO.out.symm)
    go_wp2_with (at_make; refine wpList_make_full _ rfl _ _ 61 rfl w.heap.size 9 i0 (.string ByteArray.empty) 1 Tryd.underlying61 hi hz0 hz1 .i64 .i64 _ _ n rfl rfl rfl rfl (by rw [hz2]; omega) ?_ ?_ ?_)
    · unfold maxLen; omega
    · exact HB1.out.size
    · intro w2 hown hg
      have hb2 : Below w1.heap.size w1 w2 := (Below.refl _ _).grown hg (Nat.le_refl _) (fun k hk => by cases hk)
      obtain ⟨gp, hgp⟩ : ∃ x, x = w1.heap.size := ⟨_, rfl⟩
      rw [← hgp] at hown ⊢
      have HO2 := Lib.hid hown
      have HB2 := Lib.hid (HB1.out.trans (hb2.mono HB1.out.size))
      have hgw : w.heap.size ≤ gp := by rw [hgp]; exact HB1.out.size
      clear hown hg hb2 hgp
      go_wp2
      go_loopw [4, 5, 14] (fun _ _ i wr => ∃ (j : Nat) (xs : List Value), j ≤ n ∧ i = .int .i64 j ∧ wr.ownsRow w.heap.size 9 1 (.slice (some ⟨gp, 0, none⟩) n n) n xs ∧ xs.take j = ((l.take j).map stT).map .string ∧ Below w.heap.size w wr) (fun _ _ i _ => n - (intOf i).toNat)
      case atStart => exact ⟨0, _, Nat.zero_le _, rfl, HO2.out, rfl, HB2.out⟩
      case round =>
        obtain ⟨j, xs, hj, rfl, hown, hxs, hb⟩ := hrel
        have HO := Lib.hid hown
        have HXS := Lib.hid hxs
        have HBB := Lib.hid hb
        by_cases hlt' : j < n
        · have hjz : j < l.length := by rw [← HN.out]; exact hlt'
          have hn8 : n ≤ 8 := by rw [HN.out]; exact HMac.out.1
          obtain ⟨b, off, rfl, hlt, s0, s1, s2⟩ := st_at H.out hjz
          have e0 := (hb.cell (p := ⟨b, off + j * 3, none⟩) hlt).trans s0
          have e1 := (hb.cell (p := ⟨b, off + j * 3 + 1, none⟩) hlt).trans s1
          have e2 := (hb.cell (p := ⟨b, off + j * 3 + 2, none⟩) hlt).trans s2
          have hok := okX_at (HMac.out.2.2 j hjz)
          have hst := stT_take l j hjz
          obtain ⟨x, hx⟩ : ∃ x, x = stD l j := ⟨_, rfl⟩
          rw [← hx] at e0 e1 e2 hst
          have hk := hok.1
          rw [← hx] at hk
          obtain ⟨k, c, m⟩ := x
          simp only at e0 e1 e2 hk
          obtain ⟨hk0, hk2⟩ := hk
          obtain ⟨T, hT⟩ : ∃ T, T = acS 2 c m 0 := ⟨_, rfl⟩
          have HTx := Lib.hid hT
          have HTS := Lib.hid (show T.size ≤ 10 by rw [hT]; exact acS_size8 c m)
          have HST := Lib.hid hst
          have hxl : xs.length = n := by have := hown.1; omega
          have HXL := Lib.hid hxl
          clear s0 s1 s2 hx hT hst hok hown hxs hxl hb
          go_upto_region 7 with (fail)
          obtain ⟨U, hU⟩ : ∃ U, U = wr.alloc (.cells #[.int .i64 k, .int .i64 c, .int .i64 m] 39) := ⟨_, rfl⟩
          obtain ⟨g5, hg5⟩ : ∃ g, g = wr.heap.size := ⟨_, rfl⟩
          have hu : Below wr.heap.size wr U := by rw [hU]; exact below_alloc1 _ _
          have hgu : U.heap[g5]? = some (.cells #[.int .i64 k, .int .i64 c, .int .i64 m] 39 (0, 0)) := by rw [hU, hg5]; exact heap_alloc_new _ _
          rw [← hU, ← hg5]
          have HOU := Lib.hid (owns_below HO.out hu)
          have HBU := Lib.hid (HBB.out.trans (hu.mono HBB.out.size))
          have hgs : g5 < U.heap.size := (Array.getElem?_eq_some_iff.mp hgu).1
          have c0 := (cells_of_heap hgu 0 (by simp)).1
          have c1 := (cells_of_heap hgu 1 (by simp)).1
          have c2 := (cells_of_heap hgu 2 (by simp)).1
          simp only [List.getElem_toArray, List.getElem_cons_zero, List.getElem_cons_succ] at c0 c1 c2
          have hgp5 : ¬ g5 = gp := by have := (HO.out.lt gp (by simp [Value.ownBlock])).2; omega
          have hgp6 : ¬ gp = g5 := fun e => hgp5 e.symm
          have X0 := Lib.hid (Below.refl U.heap.size U)
          have hjn : (j : Int) < (n : Int) := by omega
          clear hU hg5 hu hgu e0 e1 e2
          rcases (show k = 0 ∨ k = 1 ∨ k = 2 by omega) with rfl | rfl | rfl
          · have hadd1 := fun (w : World) => run_string_add_sum (P := Tryd.prog) w ⟨#[116]⟩ ⟨#[61]⟩ (by decide)
            have hadd2 := fun (w : World) => run_string_add_sum (P := Tryd.prog) w (⟨#[116]⟩ ++ ⟨#[61]⟩) T (by have := HTS.out; have h1 : (⟨#[116]⟩ ++ ⟨#[61]⟩ : ByteArray).size = 2 := rfl; rw [h1]; omega)
            have hsl : ∀ w : World, (Instr.slice 9 (.string ⟨#[116, 100, 117]⟩) (some (.int .i64 0)) (some (.int .i64 1)) none).run Tryd.prog w = .ok (.string ⟨#[116]⟩) w := fun w => (run_slice_string (P := Tryd.prog) w 9 ⟨#[116, 100, 117]⟩ .i64 .i64 0 1 Tryd.underlying9 (by decide) (by decide) (by decide)).trans (by rfl)
            have hw1 : IntKind.i64.wrap 1 = 1 := by rfl
            have hex : (⟨#[116, 100, 117]⟩ : ByteArray).extract 0 1 = ⟨#[116]⟩ := by rfl
            have HTX := Lib.hid (show stT ⟨0, c, m⟩ = ⟨#[116]⟩ ++ ⟨#[61]⟩ ++ T from by rw [HTx.out]; rfl)
            go_region_held3 (fun w' => w'.cell? ⟨g5, 0, none⟩ = some (.int .i64 0) ∧ w'.cell? ⟨g5, 1, none⟩ = some (.int .i64 c) ∧ w'.cell? ⟨g5, 2, none⟩ = some (.int .i64 m)) (first | go_keep | simp [go_sem, *])
              (first
                | (go_at_call 33; refine (pressOf_any 0 c m _).mono ?_; rintro e v1 ⟨rfl, hb⟩; have hbr : Below U.heap.size U v1 := below_via (by first | exact X0.out | exact X0.out.drew | exact X0.out.drew.drew) hb; have k0 := (hbr.cell (p := ⟨g5, 0, none⟩) hgs).trans c0; have k1 := (hbr.cell (p := ⟨g5, 1, none⟩) hgs).trans c1; have k2 := (hbr.cell (p := ⟨g5, 2, none⟩) hgs).trans c2; have X1 := Lib.hid hbr; clear hbr hb)
                | (go_at_call 32; refine (implFormatAction_n8 2 c m 0 T HTx.out _ (HT.out.below (HBU.out.trans (Below.mono (by first | exact X1.out | exact X1.out.drew | exact X1.out.drew.drew) HBU.out.size)))).mono ?_; rintro e v2 ⟨rfl, hb⟩; have hbr : Below U.heap.size U v2 := below_via (by first | exact X1.out | exact X1.out.drew | exact X1.out.drew.drew) hb; have k0 := (hbr.cell (p := ⟨g5, 0, none⟩) hgs).trans c0; have k1 := (hbr.cell (p := ⟨g5, 1, none⟩) hgs).trans c1; have k2 := (hbr.cell (p := ⟨g5, 2, none⟩) hgs).trans c2; obtain ⟨p0, p1⟩ := owns_place (owns_below HOU.out hbr) j (by omega); obtain ⟨y0, p0⟩ := Option.isSome_iff_exists.1 p0; have X2 := Lib.hid hbr; clear hbr hb))
            all_goals
              go_wp2
              have hput := owns_put (owns_below HOU.out X2.out) j [.string (⟨#[116]⟩ ++ ⟨#[61]⟩ ++ T)] (by rw [HXL.out]; simp; omega)
              have hbx : Below w.heap.size w (putW v2 gp j [.string (⟨#[116]⟩ ++ ⟨#[61]⟩ ++ T)]) := putW_below hgw _ _ _ (HBU.out.trans (X2.out.mono HBU.out.size))
              simp only [putW] at hput hbx
              have HPut := Lib.hid hput
              have HBx := Lib.hid hbx
              have HTk := Lib.hid (show (xs.take j ++ [Value.string (⟨#[116]⟩ ++ ⟨#[61]⟩ ++ T)] ++ xs.drop (j + 1)).take (j + 1) = ((l.take (j + 1)).map stT).map .string from by
                have h1 : (xs.take j ++ [Value.string (⟨#[116]⟩ ++ ⟨#[61]⟩ ++ T)]).length = j + 1 := by rw [List.length_append, List.length_take, HXL.out, Nat.min_eq_left (by omega)]; rfl
                have h2 : (xs.take j ++ [Value.string (⟨#[116]⟩ ++ ⟨#[61]⟩ ++ T)] ++ xs.drop (j + 1)).take (j + 1) = xs.take j ++ [Value.string (⟨#[116]⟩ ++ ⟨#[61]⟩ ++ T)] := by rw [← h1, List.take_left]
                rw [h2, HST.out, List.map_append, HXS.out, HTX.out]; rfl)
              clear hput hbx
              go_roundw
              case rel => first | exact ⟨j + 1, _, by omega, by go_num, HPut.out, HTk.out, HBx.out⟩ | exact ⟨j + 1, _, by omega, by go_num, owns_below HPut.out (Below.refl _ _).drew, HTk.out, HBx.out.drew⟩
              case measure => simp [intOf]; omega
          · have hadd1 := fun (w : World) => run_string_add_sum (P := Tryd.prog) w ⟨#[100]⟩ ⟨#[61]⟩ (by decide)
            have hadd2 := fun (w : World) => run_string_add_sum (P := Tryd.prog) w (⟨#[100]⟩ ++ ⟨#[61]⟩) T (by have := HTS.out; have h1 : (⟨#[100]⟩ ++ ⟨#[61]⟩ : ByteArray).size = 2 := rfl; rw [h1]; omega)
            have hsl : ∀ w : World, (Instr.slice 9 (.string ⟨#[116, 100, 117]⟩) (some (.int .i64 1)) (some (.int .i64 2)) none).run Tryd.prog w = .ok (.string ⟨#[100]⟩) w := fun w => (run_slice_string (P := Tryd.prog) w 9 ⟨#[116, 100, 117]⟩ .i64 .i64 1 2 Tryd.underlying9 (by decide) (by decide) (by decide)).trans (by rfl)
            have hw1 : IntKind.i64.wrap 2 = 2 := by rfl
            have hex : (⟨#[116, 100, 117]⟩ : ByteArray).extract 1 2 = ⟨#[100]⟩ := by rfl
            have HTX := Lib.hid (show stT ⟨1, c, m⟩ = ⟨#[100]⟩ ++ ⟨#[61]⟩ ++ T from by rw [HTx.out]; rfl)
            go_region_held3 (fun w' => w'.cell? ⟨g5, 0, none⟩ = some (.int .i64 1) ∧ w'.cell? ⟨g5, 1, none⟩ = some (.int .i64 c) ∧ w'.cell? ⟨g5, 2, none⟩ = some (.int .i64 m)) (first | go_keep | simp [go_sem, *])
              (first
                | (go_at_call 33; refine (pressOf_any 1 c m _).mono ?_; rintro e v1 ⟨rfl, hb⟩; have hbr : Below U.heap.size U v1 := below_via (by first | exact X0.out | exact X0.out.drew | exact X0.out.drew.drew) hb; have k0 := (hbr.cell (p := ⟨g5, 0, none⟩) hgs).trans c0; have k1 := (hbr.cell (p := ⟨g5, 1, none⟩) hgs).trans c1; have k2 := (hbr.cell (p := ⟨g5, 2, none⟩) hgs).trans c2; have X1 := Lib.hid hbr; clear hbr hb)
                | (go_at_call 32; refine (implFormatAction_n8 2 c m 0 T HTx.out _ (HT.out.below (HBU.out.trans (Below.mono (by first | exact X1.out | exact X1.out.drew | exact X1.out.drew.drew) HBU.out.size)))).mono ?_; rintro e v2 ⟨rfl, hb⟩; have hbr : Below U.heap.size U v2 := below_via (by first | exact X1.out | exact X1.out.drew | exact X1.out.drew.drew) hb; have k0 := (hbr.cell (p := ⟨g5, 0, none⟩) hgs).trans c0; have k1 := (hbr.cell (p := ⟨g5, 1, none⟩) hgs).trans c1; have k2 := (hbr.cell (p := ⟨g5, 2, none⟩) hgs).trans c2; obtain ⟨p0, p1⟩ := owns_place (owns_below HOU.out hbr) j (by omega); obtain ⟨y0, p0⟩ := Option.isSome_iff_exists.1 p0; have X2 := Lib.hid hbr; clear hbr hb))
            all_goals
              go_wp2
              have hput := owns_put (owns_below HOU.out X2.out) j [.string (⟨#[100]⟩ ++ ⟨#[61]⟩ ++ T)] (by rw [HXL.out]; simp; omega)
              have hbx : Below w.heap.size w (putW v2 gp j [.string (⟨#[100]⟩ ++ ⟨#[61]⟩ ++ T)]) := putW_below hgw _ _ _ (HBU.out.trans (X2.out.mono HBU.out.size))
              simp only [putW] at hput hbx
              have HPut := Lib.hid hput
              have HBx := Lib.hid hbx
              have HTk := Lib.hid (show (xs.take j ++ [Value.string (⟨#[100]⟩ ++ ⟨#[61]⟩ ++ T)] ++ xs.drop (j + 1)).take (j + 1) = ((l.take (j + 1)).map stT).map .string from by
                have h1 : (xs.take j ++ [Value.string (⟨#[100]⟩ ++ ⟨#[61]⟩ ++ T)]).length = j + 1 := by rw [List.length_append, List.length_take, HXL.out, Nat.min_eq_left (by omega)]; rfl
                have h2 : (xs.take j ++ [Value.string (⟨#[100]⟩ ++ ⟨#[61]⟩ ++ T)] ++ xs.drop (j + 1)).take (j + 1) = xs.take j ++ [Value.string (⟨#[100]⟩ ++ ⟨#[61]⟩ ++ T)] := by rw [← h1, List.take_left]
                rw [h2, HST.out, List.map_append, HXS.out, HTX.out]; rfl)
              clear hput hbx
              go_roundw
              case rel => first | exact ⟨j + 1, _, by omega, by go_num, HPut.out, HTk.out, HBx.out⟩ | exact ⟨j + 1, _, by omega, by go_num, owns_below HPut.out (Below.refl _ _).drew, HTk.out, HBx.out.drew⟩
              case measure => simp [intOf]; omega
          · have hadd1 := fun (w : World) => run_string_add_sum (P := Tryd.prog) w ⟨#[117]⟩ ⟨#[61]⟩ (by decide)
            have hadd2 := fun (w : World) => run_string_add_sum (P := Tryd.prog) w (⟨#[117]⟩ ++ ⟨#[61]⟩) T (by have := HTS.out; have h1 : (⟨#[117]⟩ ++ ⟨#[61]⟩ : ByteArray).size = 2 := rfl; rw [h1]; omega)
            have hsl : ∀ w : World, (Instr.slice 9 (.string ⟨#[116, 100, 117]⟩) (some (.int .i64 2)) (some (.int .i64 3)) none).run Tryd.prog w = .ok (.string ⟨#[117]⟩) w := fun w => (run_slice_string (P := Tryd.prog) w 9 ⟨#[116, 100, 117]⟩ .i64 .i64 2 3 Tryd.underlying9 (by decide) (by decide) (by decide)).trans (by rfl)
            have hw1 : IntKind.i64.wrap 3 = 3 := by rfl
            have hex : (⟨#[116, 100, 117]⟩ : ByteArray).extract 2 3 = ⟨#[117]⟩ := by rfl
            have HTX := Lib.hid (show stT ⟨2, c, m⟩ = ⟨#[117]⟩ ++ ⟨#[61]⟩ ++ T from by rw [HTx.out]; rfl)
            go_region_held3 (fun w' => w'.cell? ⟨g5, 0, none⟩ = some (.int .i64 2) ∧ w'.cell? ⟨g5, 1, none⟩ = some (.int .i64 c) ∧ w'.cell? ⟨g5, 2, none⟩ = some (.int .i64 m)) (first | go_keep | simp [go_sem, *])
              (first
                | (go_at_call 33; refine (pressOf_any 2 c m _).mono ?_; rintro e v1 ⟨rfl, hb⟩; have hbr : Below U.heap.size U v1 := below_via (by first | exact X0.out | exact X0.out.drew | exact X0.out.drew.drew) hb; have k0 := (hbr.cell (p := ⟨g5, 0, none⟩) hgs).trans c0; have k1 := (hbr.cell (p := ⟨g5, 1, none⟩) hgs).trans c1; have k2 := (hbr.cell (p := ⟨g5, 2, none⟩) hgs).trans c2; have X1 := Lib.hid hbr; clear hbr hb)
                | (go_at_call 32; refine (implFormatAction_n8 2 c m 0 T HTx.out _ (HT.out.below (HBU.out.trans (Below.mono (by first | exact X1.out | exact X1.out.drew | exact X1.out.drew.drew) HBU.out.size)))).mono ?_; rintro e v2 ⟨rfl, hb⟩; have hbr : Below U.heap.size U v2 := below_via (by first | exact X1.out | exact X1.out.drew | exact X1.out.drew.drew) hb; have k0 := (hbr.cell (p := ⟨g5, 0, none⟩) hgs).trans c0; have k1 := (hbr.cell (p := ⟨g5, 1, none⟩) hgs).trans c1; have k2 := (hbr.cell (p := ⟨g5, 2, none⟩) hgs).trans c2; obtain ⟨p0, p1⟩ := owns_place (owns_below HOU.out hbr) j (by omega); obtain ⟨y0, p0⟩ := Option.isSome_iff_exists.1 p0; have X2 := Lib.hid hbr; clear hbr hb))
            all_goals
              go_wp2
              have hput := owns_put (owns_below HOU.out X2.out) j [.string (⟨#[117]⟩ ++ ⟨#[61]⟩ ++ T)] (by rw [HXL.out]; simp; omega)
              have hbx : Below w.heap.size w (putW v2 gp j [.string (⟨#[117]⟩ ++ ⟨#[61]⟩ ++ T)]) := putW_below hgw _ _ _ (HBU.out.trans (X2.out.mono HBU.out.size))
              simp only [putW] at hput hbx
              have HPut := Lib.hid hput
              have HBx := Lib.hid hbx
              have HTk := Lib.hid (show (xs.take j ++ [Value.string (⟨#[117]⟩ ++ ⟨#[61]⟩ ++ T)] ++ xs.drop (j + 1)).take (j + 1) = ((l.take (j + 1)).map stT).map .string from by
                have h1 : (xs.take j ++ [Value.string (⟨#[117]⟩ ++ ⟨#[61]⟩ ++ T)]).length = j + 1 := by rw [List.length_append, List.length_take, HXL.out, Nat.min_eq_left (by omega)]; rfl
                have h2 : (xs.take j ++ [Value.string (⟨#[117]⟩ ++ ⟨#[61]⟩ ++ T)] ++ xs.drop (j + 1)).take (j + 1) = xs.take j ++ [Value.string (⟨#[117]⟩ ++ ⟨#[61]⟩ ++ T)] := by rw [← h1, List.take_left]
                rw [h2, HST.out, List.map_append, HXS.out, HTX.out]; rfl)
              clear hput hbx
              go_roundw
              case rel => first | exact ⟨j + 1, _, by omega, by go_num, HPut.out, HTk.out, HBx.out⟩ | exact ⟨j + 1, _, by omega, by go_num, owns_below HPut.out (Below.refl _ _).drew, HTk.out, HBx.out.drew⟩
              case measure => simp [intOf]; omega
        · obtain rfl : j = n := by omega
          have hll : (l.map stT).length = j := by rw [List.length_map, HN.out]
          have hxx : xs = (l.map stT).map .string := by
            have h1 := HXS.out
            have h2 : l.take j = l := List.take_of_length_le (by rw [HN.out]; exact Nat.le_refl _)
            have h3 : xs.take j = xs := List.take_of_length_le (by have := HO.out.1; omega)
            rw [h2, h3] at h1
            exact h1
          have hrd : Rd wr (.slice (some ⟨gp, 0, none⟩) j j) ((l.map stT).map .string) := by rw [← hxx]; exact Rd.of_owns HO.out
          have HRd := Lib.hid hrd
          have HLL := Lib.hid hll
          clear hown hxs hb hxx hrd hll
          go_wp2_with fail
          refine (implJoin_n8 _ (l.map stT) blank8 r HR2.out _ (by rw [HLL.out]; omega) (fm_jn l (by rw [← HN.out]; omega)) HRd.out).mono ?_
          rintro e w9 ⟨rfl, hb⟩
          have HB9 := Lib.hid (HBB.out.trans (hb.mono HBB.out.size))
          clear hb
          go_wp2
          go_ret
          exact ⟨rfl, HB9.out⟩

end Go.Proofs.YtnfnhbldphiohaaDoor
