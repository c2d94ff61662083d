/- DERIVED. A strings.Builder that the call itself has made: WriteString adds the text's bytes, String tells them. The new length takes at most 140737488355328 bytes. · JoinText, the program's and the reference's: the elements of a slice of strings with a text between each two. Called with at most 1048576 strings whose joined text takes at most 70368744177664 bytes. · The program's JoinText over its own joinParts and a strings.Builder, called with at most 1048576 strings whose joined text takes at most 70368744177664 bytes. -/
import Derived.Test.YtghijkpcmamebaaDoorText
import Derived.Shelf.Strings.Builder1
import Derived.Lib.AppendStr
namespace Go.Proofs.YtghijkpcmamebaaDoor
open Go.RowKit Go.Shelf

def stringRen : Go.Shelf.Ren := ⟨fun | 169 => 70 | n => n, fun | 70 => 81 | 9 => 9 | 0 => 0 | 72 => 83 | 37 => 22 | 127 => 92 | 3 => 3 | 5 => 5 | n => n, fun | n => n⟩
theorem stringLays : Lays.n169 Tryd.prog stringRen := { mixed := by kernel_rfl, f169 := Tryd.func70.trans (congrArg some (by kernel_rfl)), t0 := Tryd.underlying0, a0 := Tryd.isAgg0, z0 := Tryd.sizeOf0, v0 := Tryd.zeroValue0, t3 := Tryd.underlying3, a3 := Tryd.isAgg3, z3 := Tryd.sizeOf3, v3 := Tryd.zeroValue3, t9 := Tryd.underlying9, a9 := Tryd.isAgg9, z9 := Tryd.sizeOf9, v9 := Tryd.zeroValue9, t37 := Tryd.underlying22, a37 := Tryd.isAgg22, z37 := Tryd.sizeOf22, v37 := Tryd.zeroValue22, t70 := Tryd.underlying81, a70 := Tryd.isAgg81, z70 := Tryd.sizeOf81, v70 := Tryd.zeroValue81, t72 := Tryd.underlying83, a72 := Tryd.isAgg83, z72 := Tryd.sizeOf83, v72 := Tryd.zeroValue83, t127 := Tryd.underlying92, a127 := Tryd.isAgg92, z127 := Tryd.sizeOf92, v127 := Tryd.zeroValue92 }
theorem stringExtra : Builder.Extra Tryd.prog stringRen := { sizeBuilder := by kernel_rfl, liesBuilder := by kernel_rfl, t5 := Tryd.underlying5, a5 := Tryd.isAgg5, z5 := Tryd.sizeOf5, v5 := Tryd.zeroValue5, infoByte := by kernel_rfl, cellsByte := by kernel_rfl, sizeByte := by kernel_rfl, neB5 := by decide }
theorem bString_any (B b : Nat) (l : List UInt8) (w : World) (h : Lib.IsBuilder 83 5 B b (Lib.byteCells l) w) (hBw : B ≤ w.heap.size) :
    Calls Tryd.prog 70 #[.pointer (some ⟨b, 0, none⟩)] w fun e w' => e = .returned (.string ⟨l.toArray⟩) ∧ Below B w w' :=
  Any.Builder_String_any stringLays stringExtra B b l w h hBw

theorem sizeB : (Tryd.prog.info? 83).map (·.size) = some 2 := by kernel_rfl
theorem liesB : liesAt Tryd.prog Tryd.prog.depth 83 (2 / Tryd.prog.cellsOf 83) 0 83 1 = true := by kernel_rfl

set_option maxHeartbeats 1000000 in
set_option maxRecDepth 100000 in
theorem copyCheck_any (B b : Nat) (bs : List Value) (w : World) (h : Lib.IsBuilder 83 5 B b bs w) :
    Calls Tryd.prog 75 #[.pointer (some ⟨b, 0, none⟩)] w fun e w' => e = .returned (.tuple #[]) ∧ (Lib.BuilderAt 83 5 B b (.pointer (some ⟨b, 0, none⟩)) bs w' ∧ Below B w w') := by
  obtain ⟨j, hj, hjs⟩ := Option.map_eq_some_iff.1 sizeB
  rcases h with h | h
  · have h0 := h.cell0
    have hsh := h.shape
    have hfz := h.frozen0
    have HH := Lib.hid h
    clear h
    go_enter Tryd.func75, Tryd.ntmps75
    go_wp2
    rw [Lib.run_to_unsafe w ⟨b, 0, none⟩ Tryd.underlying81 Tryd.underlying96 hj (by rw [hjs]; decide) hsh (Nat.zero_lt_succ 1)]
    simp only [Result.andThen]
    rw [Oper.upon_value]
    go_wp2
    rw [run_callFunc_extern Tryd.func78 (by kernel_rfl) (by kernel_rfl) (by kernel_rfl) (e := Extern.AbiNoEscape.same) (by kernel_rfl)]
    rw [Lib.run_noEscape]
    simp only [Result.andThen]
    rw [Oper.upon_value]
    go_wp2
    rw [Lib.run_from_unsafe w ⟨b, 0, none⟩ Tryd.underlying96 Tryd.underlying81 hj hsh liesB]
    simp only [Result.andThen]
    rw [Oper.upon_value]
    go_wp2
    go_end0
    exact ⟨rfl, HH.out.used _, (Below.refl B w).setCell (p := ⟨b, 0, none⟩) HH.out.1 _⟩
  · have h0 := h.cell0
    have HH := Lib.hid h
    clear h
    go_enter Tryd.func75, Tryd.ntmps75
    go_wp2
    rw [Lib.run_neq_ptr_same w _ Tryd.underlying81 hj]
    go_wp2
    go_end0
    exact ⟨rfl, HH.out, Below.refl B _⟩

set_option maxHeartbeats 1000000 in
set_option maxRecDepth 100000 in
theorem bWrite_any (B b : Nat) (bs : List Value) (s : ByteArray) (w : World) (h : Lib.IsBuilder 83 5 B b bs w) (hlen : bs.length + s.size ≤ 140737488355328) (hBw : B ≤ w.heap.size) :
    Calls Tryd.prog 69 #[.pointer (some ⟨b, 0, none⟩), .string s] w fun e w' => e = .returned (.tuple #[.int .i64 s.size, .nilIface]) ∧ (Lib.IsBuilder 83 5 B b (bs ++ Lib.strCells s) w' ∧ Below B w w') := by
  obtain ⟨i0, hi, hz0, hz1, hz2⟩ := info_parts info_u8
  go_enter Tryd.func69, Tryd.ntmps69
  go_wp2_with fail
  refine (copyCheck_any B b bs _ h).mono ?_
  rintro e w1 ⟨rfl, h1, hb1⟩
  obtain ⟨hB, v, hbk, hown, hne⟩ := h1
  have c0 : w1.cell? ⟨b, 0, none⟩ = some (.pointer (some ⟨b, 0, none⟩)) := by rw [Lib.cell_of_heap hbk]; rfl
  have c1 : w1.cell? ⟨b, 1, none⟩ = some v := by rw [Lib.cell_of_heap hbk]; rfl
  go_wp2_with (at_builtin; refine Lib.wpList_append_own_string _ rfl _ _ 22 9 rfl B 5 i0 Tryd.underlying22 Tryd.underlying9 hi hz0 hz1 hz2 _ _ _ rfl hown s rfl ?c3 ?c4 ?c5 ?_)
  case c3 => unfold maxLen; omega
  case c4 => omega
  case c5 => have := hb1.size; omega
  intro v' w2 hown' hgrow _
  have hlt : b < w1.heap.size := (Array.getElem?_eq_some_iff.mp hbk).1
  have hb2 : w2.heap[b]? = some (.cells #[.pointer (some ⟨b, 0, none⟩), v] 83 (0, 0)) := by rw [hgrow.block b hlt (fun e => hne e.symm)]; exact hbk
  have d0 : w2.cell? ⟨b, 0, none⟩ = some (.pointer (some ⟨b, 0, none⟩)) := by rw [Lib.cell_of_heap hb2]; rfl
  have d1 : w2.cell? ⟨b, 1, none⟩ = some v := by rw [Lib.cell_of_heap hb2]; rfl
  have f1 : w2.frozen? ⟨b, 1, none⟩ = false := Lib.frozen_of_heap hb2 1
  obtain ⟨ao, n', cap, rfl⟩ : ∃ ao n' cap, v' = .slice ao n' cap := by
    rcases hown'.2 with ⟨hv, _⟩ | ⟨g, cap, cur, hv, _⟩
    · exact ⟨_, _, _, hv⟩
    · exact ⟨_, _, _, hv⟩
  go_wp2
  go_ret2
  refine ⟨rfl, .inr ?_, ?_⟩
  · exact Lib.BuilderAt.put (T := 83) (e := 5) hB hb2 (bs' := bs ++ Lib.strCells s) (by simpa [Lib.strCells_length] using hown') (by decide)
  · exact (hb1.grown hgrow (by have := hb1.size; omega) (fun k hk => (hown.lt k hk).1)).setCell (p := ⟨b, 1, none⟩) hB _
end Go.Proofs.YtghijkpcmamebaaDoor

namespace Go.Proofs.YtghijkpcmamebaaDoor
open Go.RowKit

theorem strCells_eq (s : ByteArray) : Lib.strCells s = Lib.byteCells s.data.toList := rfl
def nums (l : List UInt8) : List Int := l.map fun c => (c.toNat : Int)
theorem byteCells_eq (l : List UInt8) : Lib.byteCells l = (nums l).map (.int .u8) := by simp [Lib.byteCells, nums]
theorem strOfNums_nums (l : List UInt8) : strOfNums (nums l) = ⟨l.toArray⟩ := by
  unfold strOfNums nums
  congr 2
  rw [List.map_map]
  conv => rhs; rw [← List.map_id l]
  apply List.map_congr_left
  intro c _
  simp

/-- The joined bytes of the first k elements. -/
def jn (ss : List ByteArray) (sep : ByteArray) : Nat → List UInt8
  | 0 => []
  | k + 1 => (if 0 < k then jn ss sep k ++ sep.data.toList else jn ss sep k) ++ (ss.getD k ByteArray.empty).data.toList
theorem jn_first (ss : List ByteArray) (sep : ByteArray) : jn ss sep 1 = (ss.getD 0 ByteArray.empty).data.toList := by simp [jn]
theorem jn_later (ss : List ByteArray) (sep : ByteArray) {k : Nat} (h : 0 < k) : jn ss sep (k + 1) = jn ss sep k ++ sep.data.toList ++ (ss.getD k ByteArray.empty).data.toList := by rw [jn, if_pos h]
def joined (ss : List ByteArray) (sep : ByteArray) : ByteArray := ⟨(jn ss sep ss.length).toArray⟩

theorem size_toList (s : ByteArray) : s.data.toList.length = s.size := by rw [Array.length_toList]; rfl

theorem jn_le (m : Nat) (ss : List ByteArray) (sep : ByteArray) (h : ∀ s ∈ ss, s.size ≤ m) : ∀ k, k ≤ ss.length → (jn ss sep k).length ≤ k * (m + sep.size) := by
  intro k
  induction k with
  | zero => intro _; simp [jn]
  | succ k ih =>
    intro hk
    have hs : (ss.getD k ByteArray.empty).size ≤ m := by
      rw [List.getD_eq_getElem?_getD, List.getElem?_eq_getElem (by omega)]
      exact h _ (List.getElem_mem _)
    rcases Nat.eq_zero_or_pos k with rfl | hp
    · rw [jn_first, size_toList]; omega
    · rw [jn_later _ _ hp, List.length_append, List.length_append, size_toList, size_toList]
      have := ih (by omega)
      rw [Nat.add_mul]
      omega

set_option maxHeartbeats 1000000 in
theorem specJoin_any (v : Value) (ss : List ByteArray) (sep : ByteArray) (w : World) (hl : ss.length ≤ 1048576) (hsep : sep.size ≤ 1048576) (hj : ∀ k, k ≤ ss.length → (jn ss sep k).length ≤ 70368744177664) (h : Rd w v (ss.map .string)) :
    Calls Tryd.prog 51 #[v, .string sep] w fun e w' => e = .returned (.string (joined ss sep)) ∧ Below w.heap.size w w' := by
  obtain ⟨i0, hi, hz0, hz1, hz2⟩ := info_parts info_u8
  rcases h.cases with ⟨hx, a, cap, rfl⟩ | ⟨hx, b, off, cap, rfl, hlt, hc⟩
  · have hx' : ss = [] := by simpa using hx
    subst hx'
    have hcv := conv_owned (P := Tryd.prog) (src := 22) (dst := 9) (w := w.alloc (.cells #[] 5)) (base := w.heap.size) (v := .slice (some ⟨w.heap.size, 0, none⟩) 0 0) (n := 0) (ns := []) Tryd.underlying22 Tryd.underlying5 Tryd.underlying9 (World.ownsRow_lit w #[] 0 (Nat.le_refl _) (by simp [maxLen]) rfl)
    clear h hx hj
    go_enter Tryd.func51, Tryd.ntmps51
    go_wp2
    refine wp_loop_rounds 1 ?_
    rw [rounds_succ]
    go_wp2
    go_ret
    exact ⟨rfl, (Below.refl _ _).alloc (Nat.le_refl _) _⟩
  · have hn : (ss.map Value.string).length = ss.length := by simp
    rw [hn]
    have hc' : ∀ j, j < ss.length → w.cell? ⟨b, off + j, none⟩ = some (.string (ss.getD j ByteArray.empty)) := fun j hj => by
      rw [hc j (by simpa using hj), getD_map_str]
    clear hc h hx hn
    have HJ := Lib.hid hj
    have HC := Lib.hid hc'
    clear hj hc'
    go_enter Tryd.func51, Tryd.ntmps51
    go_wp2
    go_loopw [5, 6] (fun u i wr => ∃ (k n : Nat), k ≤ ss.length ∧ i = .int .i64 k ∧ n = (jn ss sep k).length ∧ wr.ownsRow w.heap.size 5 1 u n (Lib.byteCells (jn ss sep k)) ∧ Below w.heap.size w wr)
      (fun _ i _ => ss.length - (intOf i).toNat)
    case atStart => exact ⟨0, 0, Nat.zero_le _, rfl, rfl, World.ownsRow_lit w #[] 0 (Nat.le_refl _) (by simp [maxLen]) rfl, (Below.refl _ _).alloc (Nat.le_refl _) _⟩
    case round =>
      obtain ⟨k, n, hk, rfl, hnl, hown, hb⟩ := hrel
      have hbw : w.heap.size ≤ wr.heap.size := hb.size
      have hj0 := HJ.out k hk
      rw [← hnl] at hj0
      by_cases hlt' : k < ss.length
      · obtain ⟨x, hxd⟩ : ∃ x, x = ss.getD k ByteArray.empty := ⟨_, rfl⟩
        have hcell : wr.cell? ⟨b, off + k, none⟩ = some (.string x) := by rw [hxd]; exact (hb.cell (p := ⟨b, off + k, none⟩) hlt).trans (HC.out k hlt')
        have hj1 := HJ.out (k + 1) (by omega)
        have HX := Lib.hid hxd
        have HO := Lib.hid hown
        have HB := Lib.hid hb
        have HN := Lib.hid hnl
        clear hxd hown hb hnl
        by_cases hk0 : 0 < k
        · have hk1 : (0 : Int) < k := by omega
          have hj2 : n + sep.size + x.size ≤ 70368744177664 := by
            rw [jn_later ss sep hk0, List.length_append, List.length_append, size_toList, size_toList, ← HN.out, ← HX.out] at hj1
            exact hj1
          clear hj1
          have a63 : n + sep.size ≤ maxLen := by unfold maxLen; omega
          have a47 : n + sep.size ≤ 140737488355328 := by omega
          have b63 : n + sep.size + x.size ≤ maxLen := by unfold maxLen; omega
          have b47 : n + sep.size + x.size ≤ 140737488355328 := by omega
          go_wp2_with (at_builtin; refine Lib.wpList_append_own_string _ rfl (.tmp 16) (.tmp 17) 22 9 rfl w.heap.size 5 i0 Tryd.underlying22 Tryd.underlying9 hi hz0 hz1 hz2 _ _ _ rfl HO.out sep rfl a63 a47 hbw ?_)
          intro u1 w1 ho1 hg1 _
          have hB1 := HB.out.grown hg1 hbw (fun j hj => (HO.out.lt j hj).1)
          have hcell1 : w1.cell? ⟨b, off + k, none⟩ = some (.string x) := by rw [hB1.cell (p := ⟨b, off + k, none⟩) hlt, ← HB.out.cell (p := ⟨b, off + k, none⟩) hlt]; exact hcell
          have hbw1 : w.heap.size ≤ w1.heap.size := hB1.size
          have HO1 := Lib.hid ho1
          have HB1 := Lib.hid hB1
          clear ho1 hB1 hg1 hcell
          go_wp2_with (at_builtin; refine Lib.wpList_append_own_string _ rfl (.tmp 19) (.tmp 23) 22 9 rfl w.heap.size 5 i0 Tryd.underlying22 Tryd.underlying9 hi hz0 hz1 hz2 _ _ _ rfl HO1.out x rfl b63 b47 hbw1 ?_)
          intro u2 w2 ho2 hg2 _
          have HB2 := Lib.hid (HB1.out.grown hg2 hbw1 (fun j hj => (HO1.out.lt j hj).1))
          have HO2 := Lib.hid ho2
          clear ho2 hg2
          go_wp2
          go_roundw
          case rel =>
            refine ⟨k + 1, n + sep.size + x.size, by omega, by go_num, ?_, ?_, HB2.out⟩
            · rw [jn_later ss sep hk0, List.length_append, List.length_append, size_toList, size_toList, ← HN.out, ← HX.out]
            · rw [jn_later ss sep hk0, Lib.byteCells_append, Lib.byteCells_append, ← HX.out, List.append_assoc]
              exact HO2.out
          case measure => simp [intOf]; omega
        · obtain rfl : k = 0 := by omega
          obtain rfl : n = 0 := HN.out
          rw [Nat.add_zero] at hcell
          have hj2 : x.size ≤ 70368744177664 := by
            rw [jn_first, size_toList, ← HX.out] at hj1
            exact hj1
          clear hj1
          have b63 : 0 + x.size ≤ maxLen := by unfold maxLen; omega
          have b47 : 0 + x.size ≤ 140737488355328 := by omega
          go_wp2_with (at_builtin; refine Lib.wpList_append_own_string _ rfl (.tmp 19) (.tmp 23) 22 9 rfl w.heap.size 5 i0 Tryd.underlying22 Tryd.underlying9 hi hz0 hz1 hz2 _ _ _ rfl HO.out x rfl b63 b47 hbw ?_)
          intro u2 w2 ho2 hg2 _
          have HB2 := Lib.hid (HB.out.grown hg2 hbw (fun j hj => (HO.out.lt j hj).1))
          have HO2 := Lib.hid ho2
          clear ho2 hg2
          go_wp2
          go_roundw
          case rel =>
            refine ⟨1, x.size, by omega, by go_num, ?_, ?_, HB2.out⟩
            · rw [jn_first, size_toList, ← HX.out]
            · rw [jn_first, ← HX.out]
              exact HO2.out
          case measure => simp [intOf]; omega
      · obtain rfl : k = ss.length := by omega
        have hcv := conv_owned (P := Tryd.prog) (src := 22) (dst := 9) Tryd.underlying22 Tryd.underlying5 Tryd.underlying9 (by rw [byteCells_eq] at hown; exact hown)
        rw [strOfNums_nums] at hcv
        have HB := Lib.hid hb
        clear hown hb hnl
        go_wp2
        go_ret
        exact ⟨rfl, HB.out⟩
end Go.Proofs.YtghijkpcmamebaaDoor

namespace Go.Proofs.YtghijkpcmamebaaDoor
open Go.RowKit

set_option maxHeartbeats 1000000 in
theorem joinParts_any (v : Value) (ss : List ByteArray) (sep : ByteArray) (w : World) (hl : ss.length ≤ 1048576) (hj : ∀ k, k ≤ ss.length → (jn ss sep k).length ≤ 70368744177664) (h : Rd w v (ss.map .string)) :
    Calls Tryd.prog 64 #[.string sep, v] w fun e w' => e = .returned (.string (joined ss sep)) ∧ Below w.heap.size w w' := by
  have hfr := Lib.hid (Lib.fresh_isBuilder 83 5 w)
  rcases h.cases with ⟨hx, a, cap, rfl⟩ | ⟨hx, b, off, cap, rfl, hlt, hc⟩
  · have hx' : ss = [] := by simpa using hx
    subst hx'
    clear h hx hj
    go_enter Tryd.func64, Tryd.ntmps64
    go_wp2
    refine wp_loop_rounds 1 ?_
    rw [rounds_succ]
    go_wp2_with fail
    refine (bString_any w.heap.size w.heap.size [] _ hfr.out (by simp)).mono ?_
    rintro e w1 ⟨rfl, hb⟩
    go_wp2
    go_ret
    exact ⟨rfl, ((Below.refl _ _).alloc (Nat.le_refl _) _).trans hb⟩
  · have hn : (ss.map Value.string).length = ss.length := by simp
    rw [hn]
    have hc' : ∀ j, j < ss.length → w.cell? ⟨b, off + j, none⟩ = some (.string (ss.getD j ByteArray.empty)) := fun j hj => by
      rw [hc j (by simpa using hj), getD_map_str]
    clear hc h hx hn
    have HJ := Lib.hid hj
    have HC := Lib.hid hc'
    clear hj hc'
    go_enter Tryd.func64, Tryd.ntmps64
    go_wp2
    go_loopw [10] (fun i wr => ∃ (k : Nat), k ≤ ss.length ∧ i = .int .i64 k ∧ Lib.IsBuilder 83 5 w.heap.size w.heap.size (Lib.byteCells (jn ss sep k)) wr ∧ Below w.heap.size w wr)
      (fun i _ => ss.length - (intOf i).toNat)
    case atStart => exact ⟨0, Nat.zero_le _, rfl, hfr.out, (Below.refl _ _).alloc (Nat.le_refl _) _⟩
    case round =>
      obtain ⟨k, hk, rfl, hI, hb⟩ := hrel
      have hbw : w.heap.size ≤ wr.heap.size := hb.size
      have hj0 := HJ.out k hk
      have HI := Lib.hid hI
      have HB := Lib.hid hb
      clear hI hb
      by_cases hlt' : k < ss.length
      · obtain ⟨x, hxd⟩ : ∃ x, x = ss.getD k ByteArray.empty := ⟨_, rfl⟩
        have hcell : wr.cell? ⟨b, off + k, none⟩ = some (.string x) := by rw [hxd]; exact (HB.out.cell (p := ⟨b, off + k, none⟩) hlt).trans (HC.out k hlt')
        have hj1 := HJ.out (k + 1) (by omega)
        have HX := Lib.hid hxd
        clear hxd
        by_cases hk0 : 0 < k
        · have hk1 : (0 : Int) < k := by omega
          have hj2 : (jn ss sep k).length + sep.size + x.size ≤ 70368744177664 := by
            rw [jn_later ss sep hk0, List.length_append, List.length_append, size_toList, size_toList, ← HX.out] at hj1
            exact hj1
          have HJ2 := Lib.hid hj2
          clear hj1 hj2 hj0
          go_wp2_with fail
          refine (bWrite_any w.heap.size w.heap.size _ sep _ HI.out (by rw [Lib.byteCells_length]; have := HJ2.out; omega) hbw).mono ?_
          rintro e w1 ⟨rfl, hI1, hb1⟩
          have HI1 := Lib.hid hI1
          have HB1 := Lib.hid (HB.out.trans hb1)
          clear hI1 hb1
          go_wp2_with fail
          refine (bWrite_any w.heap.size w.heap.size _ x _ HI1.out (by rw [List.length_append, Lib.byteCells_length, Lib.strCells_length]; have := HJ2.out; omega) HB1.out.size).mono ?_
          rintro e w2 ⟨rfl, hI2, hb2⟩
          have HI2 := Lib.hid hI2
          have HB2 := Lib.hid (HB1.out.trans hb2)
          clear hI2 hb2
          go_wp2
          go_roundw
          case rel =>
            refine ⟨k + 1, by omega, by go_num, ?_, HB2.out⟩
            rw [jn_later ss sep hk0, Lib.byteCells_append, Lib.byteCells_append, ← HX.out]
            exact HI2.out
          case measure => simp [intOf]; omega
        · obtain rfl : k = 0 := by omega
          rw [Nat.add_zero] at hcell
          have hj2 : x.size ≤ 70368744177664 := by
            rw [jn_first, size_toList, ← HX.out] at hj1
            exact hj1
          clear hj1 hj0
          go_wp2_with fail
          refine (bWrite_any w.heap.size w.heap.size [] x _ HI.out (by simp; omega) hbw).mono ?_
          rintro e w2 ⟨rfl, hI2, hb2⟩
          have HI2 := Lib.hid hI2
          have HB2 := Lib.hid (HB.out.trans hb2)
          clear hI2 hb2
          go_wp2
          go_roundw
          case rel =>
            refine ⟨1, by omega, by go_num, ?_, HB2.out⟩
            rw [jn_first, ← HX.out]
            exact HI2.out
          case measure => simp [intOf]; omega
      · obtain rfl : k = ss.length := by omega
        go_wp2_with fail
        refine (bString_any w.heap.size w.heap.size (jn ss sep ss.length) _ HI.out hbw).mono ?_
        rintro e w1 ⟨rfl, hb1⟩
        have HB1 := Lib.hid (HB.out.trans hb1)
        clear hb1
        go_wp2
        go_ret
        exact ⟨rfl, HB1.out⟩

theorem implJoin_any (v : Value) (ss : List ByteArray) (sep : ByteArray) (w : World) (hl : ss.length ≤ 1048576) (hj : ∀ k, k ≤ ss.length → (jn ss sep k).length ≤ 70368744177664) (h : Rd w v (ss.map .string)) :
    Calls Tryd.prog 39 #[v, .string sep] w fun e w' => e = .returned (.string (joined ss sep)) ∧ Below w.heap.size w w' := by
  have HJ := Lib.hid hj
  have HH := Lib.hid h
  clear hj h
  go_enter Tryd.func39, Tryd.ntmps39
  go_wp2_with fail
  refine (joinParts_any v ss sep _ hl HJ.out HH.out).mono ?_
  rintro e w1 ⟨rfl, hb1⟩
  go_wp2
  go_ret
  exact ⟨rfl, hb1⟩

end Go.Proofs.YtghijkpcmamebaaDoor
