/- DERIVED. Drawing timings and the arguments of a choice by the reference's cursor. -/
import Derived.Test.YtjfckchoklepbaaEvDraw
import Derived.Test.YtjfckchoklepbaaTm
namespace Go.Proofs.Ytjfckchoklepbaa
open Go.RowKit

/-- A box that the walk made stays as it is where only the cursor's block turns. -/
theorem blk_grown {w w' : World} {x b : Nat} {o : Obj} (h : w.heap[x]? = some o) (hg : w.grownBy w' (some b)) (hx : x ≠ b) : w'.heap[x]? = some o :=
  (hg.block x (Array.getElem?_eq_some_iff.mp h).1 (by simpa using hx)).trans h
theorem blk_alloc {w : World} {x : Nat} {o o' : Obj} (h : w.heap[x]? = some o) : (w.alloc o').heap[x]? = some o :=
  (((Below.refl _ _).alloc (Nat.le_refl _) o').block x (Array.getElem?_eq_some_iff.mp h).1).trans h

set_option maxHeartbeats 4000000 in
set_option maxRecDepth 100000 in
theorem l10Timing_draw {B b n : Nat} {v : Value} {zs : List Int} {w : World} (h : Draws B b v n zs w) :
    Calls Try.prog 49 #[.pointer (some ⟨b, 0, none⟩)] w fun e w' => ∃ t q f : Int, e = .returned (tmv t q f) ∧ (1 ≤ t ∧ t ≤ 9) ∧ Draws B b v n zs w' ∧ w.grownBy w' (some b) := by
  have hlt := h.lt
  obtain ⟨W, hW⟩ : ∃ W, W = w.alloc (.cells #[.int .i64 0, .int .i64 0, .int .i64 0] 47) := ⟨_, rfl⟩
  have HD0 := Lib.hid (show Draws B b v n zs W by rw [hW]; exact h.alloc _)
  have HG0 := Lib.hid (show w.grownBy W (some b) by rw [hW]; exact grown_alloc _ _ _)
  have K0 := Lib.hid (show W.heap[w.heap.size]? = some (.cells #[.int .i64 0, .int .i64 0, .int .i64 0] 47 (0, 0)) by rw [hW]; exact heap_alloc_new w _)
  have hne : w.heap.size ≠ b := by omega
  have HW := Lib.hid hW
  clear hW h
  go_enter Try.func49, Try.ntmps49
  go_wp2_with fail
  rw [← HW.out]
  refine (l1Below_draw 9 HD0.out (by omega) (by omega)).mono ?_
  rintro e w1 ⟨x, rfl, x0, x1, hd, hg⟩
  have HD1 := Lib.hid hd
  have K1 := Lib.hid (blk_grown K0.out hg hne)
  have HG1 := Lib.hid (grown_trans HG0.out hg)
  have hs1 : w.heap.size < w1.heap.size := (Array.getElem?_eq_some_iff.mp K1.out).1
  have hb1 := HD1.out.lt
  clear hd hg
  go_wp2_with fail
  have hcell : ∀ i, i < ([0, 0, 3, 6] : List Int).length → (w1.alloc (.cells #[.int .i64 0, .int .i64 0, .int .i64 3, .int .i64 6] 3)).cell? ⟨w1.heap.size, i, none⟩ = some (.int .i64 (([0, 0, 3, 6] : List Int).getD i 0)) := by
    intro i hi'
    have hh := heap_alloc_new w1 (.cells #[.int .i64 0, .int .i64 0, .int .i64 3, .int .i64 6] 3)
    simp only [List.length_cons, List.length_nil] at hi'
    have : i = 0 ∨ i = 1 ∨ i = 2 ∨ i = 3 := by omega
    rcases this with rfl | rfl | rfl | rfl <;> exact (cells_of_heap hh _ (by simp)).1
  refine (l1PickInt_draw w1.heap.size [0, 0, 3, 6] (HD1.out.alloc _) (by simp) (by simp) (by omega) hcell).mono ?_
  clear hcell
  rintro e w2 ⟨s, rfl, hs, hd, hg⟩
  have HD2 := Lib.hid hd
  have K2 := Lib.hid (blk_grown (blk_alloc K1.out) hg hne)
  have HG2 := Lib.hid (grown_trans (grown_high HG1.out (grown_alloc w1 (.cells #[.int .i64 0, .int .i64 0, .int .i64 3, .int .i64 6] 3) none) (fun q e => by cases e)) hg)
  clear hd hg hs
  go_wp2_with fail
  refine (l1Below_draw 3 HD2.out (by omega) (by omega)).mono ?_
  rintro e w3 ⟨f, rfl, f0, f1, hd, hg⟩
  have HD3 := Lib.hid hd
  have K3 := Lib.hid (blk_grown K2.out hg hne)
  have HG3 := Lib.hid (grown_trans HG2.out hg)
  have cd0 := (cells_of_heap K3.out 0 (by simp)).1
  have cd1 := (cells_of_heap K3.out 1 (by simp)).1
  have cd2 := (cells_of_heap K3.out 2 (by simp)).1
  have fr0 := (cells_of_heap K3.out 0 (by simp)).2
  have fr1 := (cells_of_heap K3.out 1 (by simp)).2
  have fr2 := (cells_of_heap K3.out 2 (by simp)).2
  have hs3 : w.heap.size < w3.heap.size := (Array.getElem?_eq_some_iff.mp K3.out).1
  clear hd hg
  go_wp2
  refine bodyPost_ret (v := tmv (1 + x) s f) (by simp [results, Try.results49, go_sem, cd0, cd1, cd2]) rfl ⟨_, _, _, rfl, ⟨by omega, by omega⟩, ?_, ?_⟩
  · exact ((HD3.out.setCell _ _ _ hne (by have := HD0.out.low; omega)).setCell _ _ _ hne (by have := HD0.out.low; omega)).setCell _ _ _ hne (by have := HD0.out.low; omega)
  · exact grown_new (grown_new (grown_new HG3.out _ _ _ (Nat.le_refl _)) _ _ _ (Nat.le_refl _)) _ _ _ (Nat.le_refl _)

/-- Events with another time at one place. -/
def setT : List Ev → Nat → Int → List Ev
  | [], _, _ => []
  | e :: l, 0, s => ⟨s, e.k, e.d⟩ :: l
  | e :: l, x + 1, s => e :: setT l x s
theorem setT_len : ∀ (l : List Ev) (x : Nat) (s : Int), (setT l x s).length = l.length
  | [], _, _ => rfl
  | _ :: _, 0, _ => rfl
  | _ :: l, x + 1, s => by show (setT l x s).length + 1 = l.length + 1; rw [setT_len l x s]
theorem flatEv_setT : ∀ (l : List Ev) (x : Nat) (s : Int), x < l.length → (flatEv l).take (x * 3) ++ [.int .i64 s] ++ (flatEv l).drop (x * 3 + 1) = flatEv (setT l x s)
  | [], _, _, h => absurd h (by simp)
  | e :: l, 0, s, _ => rfl
  | e :: l, x + 1, s, h => by
    have ih := flatEv_setT l x s (by simpa using h)
    have h1 : flatEv (e :: l) = e.cells ++ flatEv l := by simp [flatEv]
    have h2 : flatEv (setT (e :: l) (x + 1) s) = e.cells ++ flatEv (setT l x s) := by simp [flatEv, setT]
    have hc : e.cells.length = 3 := rfl
    rw [h1, h2, ← ih, show (x + 1) * 3 = e.cells.length + x * 3 by rw [hc]; omega, List.take_length_add_append, show e.cells.length + x * 3 + 1 = e.cells.length + (x * 3 + 1) by omega, List.drop_length_add_append, List.append_assoc, List.append_assoc, List.append_assoc]

/-- Six ints that a block holds from its beginning. -/
def Six (g : Nat) (a b c d e f : Int) (w : World) : Prop := ∀ i, i < ([a, b, c, d, e, f] : List Int).length → w.cell? ⟨g, i, none⟩ = some (.int .i64 (([a, b, c, d, e, f] : List Int).getD i 0))
theorem six_new {g : Nat} {w : World} {a b c d e f : Int} (hg : g = w.heap.size) : Six g a b c d e f (w.alloc (.cells #[.int .i64 a, .int .i64 b, .int .i64 c, .int .i64 d, .int .i64 e, .int .i64 f] 3)) := by
  subst hg
  intro i hi'
  have hh := heap_alloc_new w (.cells #[.int .i64 a, .int .i64 b, .int .i64 c, .int .i64 d, .int .i64 e, .int .i64 f] 3)
  simp only [List.length_cons, List.length_nil] at hi'
  have : i = 0 ∨ i = 1 ∨ i = 2 ∨ i = 3 ∨ i = 4 ∨ i = 5 := by omega
  rcases this with rfl | rfl | rfl | rfl | rfl | rfl <;> exact (cells_of_heap hh _ (by simp)).1
theorem Six.alloc {g : Nat} {w : World} {a b c d e f : Int} {o : Obj} (h : Six g a b c d e f w) : Six g a b c d e f (w.alloc o) := fun i hi => by rw [World.cell?_alloc_some _ _ _ (by rw [h i hi]; rfl), h i hi]
theorem Six.grown {g x : Nat} {w w' : World} {a b c d e f : Int} (h : Six g a b c d e f w) (hg : w.grownBy w' (some x)) (hx : g ≠ x) : Six g a b c d e f w' := fun i hi => by
  rw [World.cell?_of_block (w := w) (hg.block g (World.block_lt_of_cell? w _ (h 0 (by simp))) (by simpa using hx)), h i hi]
/-- A block that holds six ints from its beginning. -/
def SixIn (g : Nat) (w : World) : Prop := ∃ a b c d e f : Int, Six g a b c d e f w
theorem sixIn_new {g : Nat} {w : World} {a b c d e f : Int} (hg : g = w.heap.size) : SixIn g (w.alloc (.cells #[.int .i64 a, .int .i64 b, .int .i64 c, .int .i64 d, .int .i64 e, .int .i64 f] 3)) := ⟨a, b, c, d, e, f, six_new hg⟩
theorem SixIn.alloc {g : Nat} {w : World} {o : Obj} : SixIn g w → SixIn g (w.alloc o)
  | ⟨a, b, c, d, e, f, h⟩ => ⟨a, b, c, d, e, f, h.alloc⟩
theorem SixIn.drew {g : Nat} {w : World} : SixIn g w → SixIn g w.drew
  | ⟨a, b, c, d, e, f, h⟩ => ⟨a, b, c, d, e, f, h⟩
theorem SixIn.grown {g x : Nat} {w w' : World} (hg : w.grownBy w' (some x)) (hx : g ≠ x) : SixIn g w → SixIn g w'
  | ⟨a, b, c, d, e, f, h⟩ => ⟨a, b, c, d, e, f, h.grown hg hx⟩
theorem pick6 {B b n : Nat} {v : Value} {zs : List Int} {w : World} {g : Nat} (h : Draws B b v n zs w) (hgb : g ≠ b) (hs : SixIn g w) :
    Calls Try.prog 52 #[.pointer (some ⟨b, 0, none⟩), .slice (some ⟨g, 0, none⟩) 6 6] w fun e w' => ∃ s, e = .returned (.int .i64 s) ∧ Draws B b v n zs w' ∧ w.grownBy w' (some b) := by
  obtain ⟨a1, a2, a3, a4, a5, a6, hs⟩ := hs
  exact (l1PickInt_draw g [a1, a2, a3, a4, a5, a6] h (by simp) (by simp) hgb hs).mono fun _ _ ⟨s, he, _, hd, hg⟩ => ⟨s, he, hd, hg⟩
theorem grown_al {w0 w : World} {r : Option Nat} {o : Obj} (h : w0.grownBy w r) : w0.grownBy (w.alloc o) r := grown_high h (grown_alloc w o none) (fun q e => by cases e)
theorem grown_dr {w0 w : World} {r : Option Nat} (h : w0.grownBy w r) : w0.grownBy w.drew r := grown_high h (grown_drewN w 1 none) (fun q e => by cases e)
theorem Draws.dr {B b n : Nat} {v : Value} {zs : List Int} {w : World} (h : Draws B b v n zs w) : Draws B b v n zs w.drew := h.below ((Below.refl _ _).drew)

set_option maxHeartbeats 8000000 in
set_option maxRecDepth 100000 in
theorem DrawChoiceOf_draw (a : Option Addr) (cap : Nat) (zs : List Int) (w : World) (hl : zs.length ≤ 1099511627776) (hz : ∀ z ∈ zs, 0 ≤ z ∧ z < 256) (h : Rd w (.slice a zs.length cap) (zs.map (.int .u8))) :
    Calls Try.prog 17 #[.slice a zs.length cap] w fun e w' => ∃ (t q f key time now : Int) (g : Option Addr) (c : Nat) (l : List Ev), e = .returned (.tuple #[tmv t q f, .int .i64 key, .int .i64 time, .slice g l.length c, .int .i64 now]) ∧ l.length ≤ 5 ∧ w'.ownsRow w.heap.size 55 3 (.slice g l.length c) l.length (flatEv l) ∧ Below w.heap.size w w' := by
  obtain ⟨W, hW⟩ : ∃ W, W = w.alloc (.cells #[.int .i64 0, .int .i64 0, .int .i64 0] 47) := ⟨_, rfl⟩
  have HR0 := Lib.hid (show Rd W (.slice a zs.length cap) (zs.map (.int .u8)) by rw [hW]; exact h.below ((Below.refl _ _).alloc (Nat.le_refl _) _))
  have HB0 := Lib.hid (show Below w.heap.size w W by rw [hW]; exact (Below.refl _ _).alloc (Nat.le_refl _) _)
  have K0 := Lib.hid (show W.heap[w.heap.size]? = some (.cells #[.int .i64 0, .int .i64 0, .int .i64 0] 47 (0, 0)) by rw [hW]; exact heap_alloc_new w _)
  have HZ0 := Lib.hid (show W.heap.size = w.heap.size + 1 by rw [hW]; simp)
  have HW := Lib.hid hW
  clear hW h
  go_enter Try.func17, Try.ntmps17
  go_wp2_with fail
  rw [← HW.out]
  refine (l1New_draw (.slice a zs.length cap) zs W hl hz HR0.out).mono ?_
  rintro e w1 ⟨rfl, hd, hb, hlt1⟩
  obtain ⟨b, hbe⟩ : ∃ b, b = W.heap.size := ⟨_, rfl⟩
  rw [← hbe] at hd hb hlt1 ⊢
  have hrb : w.heap.size < b := by rw [hbe, HZ0.out]; omega
  have HBE := Lib.hid hbe
  clear hbe
  have HD1 := Lib.hid hd
  have HB1 := Lib.hid (HB0.out.trans (hb.mono (by omega)))
  have K1 := Lib.hid ((hb.block _ hrb).trans K0.out)
  clear hd hb hz
  go_wp2_with fail
  refine (l10Timing_draw HD1.out).mono ?_
  rintro e w2 ⟨t, q, f, rfl, ⟨t0, t1⟩, hd, hg⟩
  have hne : w.heap.size ≠ b := by omega
  have HD2 := Lib.hid hd
  have K2 := Lib.hid (blk_grown K1.out hg hne)
  have HB2 := Lib.hid (HB1.out.grown hg HB1.out.size (fun k hk => by cases hk; omega))
  have hs2 : b < w2.heap.size := HD2.out.lt
  clear hd hg
  go_wp2_with fail
  refine (l4Draw_draw 3 5 t (HD2.out.alloc _) (by omega) (by omega) (by omega) (by omega) (by omega) (by omega)).mono ?_
  rintro e w3 ⟨u, l, T, rfl, hl5, -, ho, hd, hg⟩
  obtain ⟨g, c, rfl⟩ := owns_shape ho
  have HB3 := Lib.hid ((HB2.out.alloc HB2.out.size (.cells #[.int .i64 t, .int .i64 q, .int .i64 f] 47)).grown hg (by have := HB2.out.size; simp; omega) (fun k hk => by cases hk; omega))
  have HD3 := Lib.hid hd
  have HO3 := Lib.hid ho
  have K3 := Lib.hid (blk_grown (blk_alloc K2.out) hg hne)
  have hne2 : w2.heap.size ≠ b := by omega
  have KT3 := Lib.hid (blk_grown (heap_alloc_new w2 (.cells #[.int .i64 t, .int .i64 q, .int .i64 f] 47)) hg hne2)
  have hs3 : w2.heap.size < w3.heap.size := (Array.getElem?_eq_some_iff.mp KT3.out).1
  have hb3 := HD3.out.lt
  clear hd ho hg
  go_upto_region 4 with (fail)
  go_cut [24] (fun s24 wx => (∃ tt : Bool, s24 = .bool tt ∧ (tt = true → 0 < l.length)) ∧ Draws b b (.slice a zs.length cap) zs.length zs wx ∧ w3.grownBy wx (some b))
  case first =>
    by_cases h0 : 0 < l.length
    · have h0' : (0 : Int) < (l.length : Int) := by omega
      go_wp2_with fail
      refine (l1Once_draw 12 HD3.out (by omega) (by omega)).mono ?_
      rintro e w4 ⟨tt, rfl, hd, hg⟩
      have HD4 := Lib.hid hd
      have HG4 := Lib.hid hg
      clear hd hg
      go_wp2
      go_meet
      exact ⟨⟨_, rfl, fun _ => h0⟩, HD4.out, HG4.out⟩
    · have h0' : ¬ (0 : Int) < (l.length : Int) := by omega
      go_wp2
      go_meet
      exact ⟨⟨false, rfl, fun h => by cases h⟩, HD3.out, grown_refl _ _⟩
  case rest =>
    obtain ⟨⟨tt, rfl, htt⟩, hd, hg⟩ := hcut
    obtain ⟨w4, rfl⟩ : ∃ w4, w4 = wc := ⟨_, rfl⟩
    have HD4 := Lib.hid hd
    have HB4 := Lib.hid (HB3.out.grown hg HB3.out.size (fun k hk => by cases hk; omega))
    have HO4 := Lib.hid (owns_grown HO3.out hg (by simp; omega))
    have K4 := Lib.hid (blk_grown K3.out hg hne)
    have KT4 := Lib.hid (blk_grown KT3.out hg hne2)
    have HTT := Lib.hid htt
    clear hd hg htt
    go_upto_if 24 with (fail)
    go_cut [9] (fun s9 wx => ∃ l' : List Ev, s9 = .slice g l.length c ∧ l'.length = l.length ∧ wx.ownsRow (w2.heap.size + 1) 55 3 (.slice g l.length c) l.length (flatEv l') ∧ Draws b b (.slice a zs.length cap) zs.length zs wx ∧ Below w.heap.size w wx ∧ wx.heap[w.heap.size]? = some (.cells #[.int .i64 0, .int .i64 0, .int .i64 0] 47 (0, 0)) ∧ wx.heap[w2.heap.size]? = some (.cells #[.int .i64 t, .int .i64 q, .int .i64 f] 47 (0, 0)))
    case first =>
      cases tt
      · go_wp2
        go_meet
        exact ⟨l, rfl, rfl, by simpa using HO4.out, HD4.out, HB4.out, K4.out, KT4.out⟩
      · have h0 := HTT.out rfl
        have hn0 : l.length ≤ 5 := by omega
        go_wp2_with fail
        refine (l1Below_draw (l.length : Int) HD4.out (by omega) (by omega)).mono ?_
        rintro e w5 ⟨x, rfl, x0, x1, hd, hg⟩
        obtain ⟨x, rfl⟩ := Int.eq_ofNat_of_zero_le x0
        have hx : x < l.length := by omega
        have HD5 := Lib.hid hd
        have HB5 := Lib.hid (HB4.out.grown hg HB4.out.size (fun k hk => by cases hk; omega))
        have HO5 := Lib.hid (owns_grown HO4.out hg (by simp; omega))
        have K5 := Lib.hid (blk_grown K4.out hg hne)
        have KT5 := Lib.hid (blk_grown KT4.out hg hne2)
        have hb5 := HD5.out.lt
        clear hd hg
        go_wp2_with fail
        have hcell : ∀ i, i < ([-1, 1000001] : List Int).length → (w5.alloc (.cells #[.int .i64 (-1), .int .i64 1000001] 3)).cell? ⟨w5.heap.size, i, none⟩ = some (.int .i64 (([-1, 1000001] : List Int).getD i 0)) := by
          intro i hi'
          have hh := heap_alloc_new w5 (.cells #[.int .i64 (-1), .int .i64 1000001] 3)
          simp only [List.length_cons, List.length_nil] at hi'
          have : i = 0 ∨ i = 1 := by omega
          rcases this with rfl | rfl <;> exact (cells_of_heap hh _ (by simp)).1
        refine (l1PickInt_draw w5.heap.size [-1, 1000001] (HD5.out.alloc _) (by simp) (by simp) (by omega) hcell).mono ?_
        clear hcell
        rintro e w6 ⟨s, rfl, hs, hd, hg⟩
        have HD6 := Lib.hid hd
        have HB6 := Lib.hid ((HB5.out.alloc HB5.out.size (.cells #[.int .i64 (-1), .int .i64 1000001] 3)).grown hg (by have := HB5.out.size; simp; omega) (fun k hk => by cases hk; omega))
        have HO6 := Lib.hid (owns_grown (HO5.out.alloc (.cells #[.int .i64 (-1), .int .i64 1000001] 3)) hg (by simp; omega))
        have K6 := Lib.hid (blk_grown (blk_alloc K5.out) hg hne)
        have KT6 := Lib.hid (blk_grown (blk_alloc KT5.out) hg hne2)
        clear hd hg hs
        obtain ⟨gb, cap', rfl, hgb, hcap⟩ : ∃ gb cap', g = some ⟨gb, 0, none⟩ ∧ w2.heap.size + 1 ≤ gb ∧ cap' = c := by
          rcases HO6.out.2 with ⟨e1, _⟩ | ⟨g', cap', cur, e1, e2, _⟩
          · omega
          · simp only [Value.slice.injEq] at e1
            exact ⟨g', cap', e1.1, by simpa using e2, e1.2.2.symm⟩
        subst hcap
        have hrow := HO6.out
        obtain ⟨cur, hcur, hcs⟩ : ∃ cur : Array Value, w6.heap[gb]? = some (.cells cur 55 (0, 0)) ∧ l.length * 3 ≤ cur.size := by
          rcases hrow.2 with ⟨e1, _⟩ | ⟨g', cap'', cur, e1, _, hh, hnc, _, hsz, _⟩
          · omega
          · simp only [Value.slice.injEq, Option.some.injEq, Addr.mk.injEq, and_true, true_and] at e1
            obtain ⟨rfl, rfl⟩ := e1
            exact ⟨cur, hh, by rw [hsz]; exact Nat.mul_le_mul_right _ hnc⟩
        obtain ⟨xc, fc⟩ := cells_of_heap hcur (x * 3) (by omega)
        have HP := Lib.hid (owns_put hrow (x * 3) [.int .i64 s] (by rw [flatEv_len]; simp; omega))
        clear hrow hcur
        go_wp2
        go_meet
        refine ⟨setT l x s, rfl, setT_len l x s, ?_, HD6.out.setCell _ _ _ (by omega) (by omega), HB6.out.setCell (show w.heap.size ≤ gb by omega) _, ?_, ?_⟩
        · rw [← flatEv_setT l x s hx]
          have := HP.out
          simpa [putW] using this
        · exact (Below.heap_setCell w6 ⟨gb, _, none⟩ _ w.heap.size (fun e => by simp at e; omega)).trans K6.out
        · exact (Below.heap_setCell w6 ⟨gb, _, none⟩ _ w2.heap.size (fun e => by simp at e; omega)).trans KT6.out
    case rest =>
      obtain ⟨l', rfl, hl', ho, hd, hb, k5, kt5⟩ := hcut
      obtain ⟨w5, rfl⟩ : ∃ w5, w5 = wc := ⟨_, rfl⟩
      have HD := Lib.hid hd
      have HO5 := Lib.hid ho
      have HB5 := Lib.hid hb
      have K5 := Lib.hid k5
      have KT5 := Lib.hid kt5
      have hs5 : w2.heap.size < w5.heap.size := (Array.getElem?_eq_some_iff.mp kt5).1
      have hb5 := HD.out.lt
      have ds0 := (cells_of_heap kt5 0 (by simp)).1
      have ds1 := (cells_of_heap kt5 1 (by simp)).1
      have ds2 := (cells_of_heap kt5 2 (by simp)).1
      obtain ⟨m0, n0⟩ := cells_of_heap k5 0 (by simp)
      obtain ⟨m1, n1⟩ := cells_of_heap k5 1 (by simp)
      obtain ⟨m2, n2⟩ := cells_of_heap k5 2 (by simp)
      clear ho hd hb k5 kt5
      have HGX := Lib.hid (grown_refl w5 (some b))
      have gn1 : ¬ w.heap.size = w2.heap.size := by omega
      have gn2 : ¬ w2.heap.size = w.heap.size := by omega
      go_upto_region 6 with (fail)
      go_region_held3 (fun w' => w'.cell? ⟨w2.heap.size, 0, none⟩ = some (.int .i64 t) ∧ w'.cell? ⟨w2.heap.size, 1, none⟩ = some (.int .i64 q) ∧ w'.cell? ⟨w2.heap.size, 2, none⟩ = some (.int .i64 f)) (first | go_keep | simp [go_sem, *])
        (first
          | (go_at_call 41; refine Calls.mono (l1Below_draw (B := b) (v := .slice a zs.length cap) (n := zs.length) (zs := zs) 4 ?_ (by omega) (by omega)) ?_; (focus repeat (first | with_reducible exact HD.out | with_reducible refine Draws.alloc ?_ _ | with_reducible refine Draws.dr ?_)); rintro e wl ⟨x, rfl, -, -, hd, hg⟩; have hgx : w5.grownBy wl (some b) := (by refine grown_trans ?_ hg; repeat (first | with_reducible exact HGX.out | with_reducible refine grown_al ?_ | with_reducible refine grown_dr ?_)); have HGX := Lib.hid hgx; have HD := Lib.hid hd; have hbl := HD.out.lt; have hsl := hgx.size; have KT := Lib.hid (blk_grown KT5.out hgx hne2); have KR := Lib.hid (blk_grown K5.out hgx hne); clear ds0 ds1 ds2 m0 m1 m2 n0 n1 n2; have ds0 := (cells_of_heap KT.out 0 (by simp)).1; have ds1 := (cells_of_heap KT.out 1 (by simp)).1; have ds2 := (cells_of_heap KT.out 2 (by simp)).1; obtain ⟨m0, n0⟩ := cells_of_heap KR.out 0 (by simp); obtain ⟨m1, n1⟩ := cells_of_heap KR.out 1 (by simp); obtain ⟨m2, n2⟩ := cells_of_heap KR.out 2 (by simp); have HC1 := Lib.hid hg; clear hg hd hgx)
          | (go_at_call 52; have zz := HC2; clear zz; refine Calls.mono (pick6 (B := b) (v := .slice a zs.length cap) (n := zs.length) (zs := zs) ?_ ?_ ?_) ?_; (focus repeat (first | with_reducible exact HD.out | with_reducible refine Draws.alloc ?_ _ | with_reducible refine Draws.dr ?_)); (focus omega); (focus repeat (first | (with_reducible refine sixIn_new ?_; focus (simp; done)) | with_reducible refine SixIn.alloc ?_ | with_reducible refine SixIn.drew ?_ | with_reducible refine SixIn.grown HC2.out (by omega) ?_ | with_reducible refine SixIn.grown HC1.out (by omega) ?_)); rintro e wl ⟨s3, rfl, hd, hg⟩; have hgx : w5.grownBy wl (some b) := (by refine grown_trans ?_ hg; repeat (first | with_reducible exact HGX.out | with_reducible refine grown_al ?_ | with_reducible refine grown_dr ?_)); have HGX := Lib.hid hgx; have HD := Lib.hid hd; have hbl := HD.out.lt; have hsl := hgx.size; have KT := Lib.hid (blk_grown KT5.out hgx hne2); have KR := Lib.hid (blk_grown K5.out hgx hne); clear ds0 ds1 ds2 m0 m1 m2 n0 n1 n2; have ds0 := (cells_of_heap KT.out 0 (by simp)).1; have ds1 := (cells_of_heap KT.out 1 (by simp)).1; have ds2 := (cells_of_heap KT.out 2 (by simp)).1; obtain ⟨m0, n0⟩ := cells_of_heap KR.out 0 (by simp); obtain ⟨m1, n1⟩ := cells_of_heap KR.out 1 (by simp); obtain ⟨m2, n2⟩ := cells_of_heap KR.out 2 (by simp); have HC3 := Lib.hid hg; clear hg hd hgx)
          | (go_at_call 52; refine Calls.mono (pick6 (B := b) (v := .slice a zs.length cap) (n := zs.length) (zs := zs) ?_ ?_ ?_) ?_; (focus repeat (first | with_reducible exact HD.out | with_reducible refine Draws.alloc ?_ _ | with_reducible refine Draws.dr ?_)); (focus omega); (focus repeat (first | (with_reducible refine sixIn_new ?_; focus (simp; done)) | with_reducible refine SixIn.alloc ?_ | with_reducible refine SixIn.drew ?_ | with_reducible refine SixIn.grown HC2.out (by omega) ?_ | with_reducible refine SixIn.grown HC1.out (by omega) ?_)); rintro e wl ⟨s2, rfl, hd, hg⟩; have hgx : w5.grownBy wl (some b) := (by refine grown_trans ?_ hg; repeat (first | with_reducible exact HGX.out | with_reducible refine grown_al ?_ | with_reducible refine grown_dr ?_)); have HGX := Lib.hid hgx; have HD := Lib.hid hd; have hbl := HD.out.lt; have hsl := hgx.size; have KT := Lib.hid (blk_grown KT5.out hgx hne2); have KR := Lib.hid (blk_grown K5.out hgx hne); clear ds0 ds1 ds2 m0 m1 m2 n0 n1 n2; have ds0 := (cells_of_heap KT.out 0 (by simp)).1; have ds1 := (cells_of_heap KT.out 1 (by simp)).1; have ds2 := (cells_of_heap KT.out 2 (by simp)).1; obtain ⟨m0, n0⟩ := cells_of_heap KR.out 0 (by simp); obtain ⟨m1, n1⟩ := cells_of_heap KR.out 1 (by simp); obtain ⟨m2, n2⟩ := cells_of_heap KR.out 2 (by simp); have HC2 := Lib.hid hg; clear hg hd hgx))
      all_goals
        go_wp2
        have z0 : (wl.setCell ⟨w.heap.size, 0, none⟩ (.int .i64 t)).heap[w.heap.size]? = some (.cells #[.int .i64 t, .int .i64 0, .int .i64 0] 47 (0, 0)) := heap_setCell_same _ _ 0 _ _ _ KR.out
        have z1 : ((wl.setCell ⟨w.heap.size, 0, none⟩ (.int .i64 t)).setCell ⟨w.heap.size, 1, none⟩ (.int .i64 q)).heap[w.heap.size]? = some (.cells #[.int .i64 t, .int .i64 q, .int .i64 0] 47 (0, 0)) := heap_setCell_same _ _ 1 _ _ _ z0
        have z2 : (((wl.setCell ⟨w.heap.size, 0, none⟩ (.int .i64 t)).setCell ⟨w.heap.size, 1, none⟩ (.int .i64 q)).setCell ⟨w.heap.size, 2, none⟩ (.int .i64 f)).heap[w.heap.size]? = some (.cells #[.int .i64 t, .int .i64 q, .int .i64 f] 47 (0, 0)) := heap_setCell_same _ _ 2 _ _ _ z1
        have bf : Below w.heap.size w (((wl.setCell ⟨w.heap.size, 0, none⟩ (.int .i64 t)).setCell ⟨w.heap.size, 1, none⟩ (.int .i64 q)).setCell ⟨w.heap.size, 2, none⟩ (.int .i64 f)) := (((HB5.out.grown HGX.out HB5.out.size (fun k hk => by cases hk; omega)).setCell (Nat.le_refl _) _).setCell (Nat.le_refl _) _).setCell (Nat.le_refl _) _
        have of : (((wl.setCell ⟨w.heap.size, 0, none⟩ (.int .i64 t)).setCell ⟨w.heap.size, 1, none⟩ (.int .i64 q)).setCell ⟨w.heap.size, 2, none⟩ (.int .i64 f)).ownsRow (w2.heap.size + 1) 55 3 (.slice g l.length c) l.length (flatEv l') := ownsRow_setCell_below (a := ⟨w.heap.size, 2, none⟩) (ownsRow_setCell_below (a := ⟨w.heap.size, 1, none⟩) (ownsRow_setCell_below (a := ⟨w.heap.size, 0, none⟩) (owns_grown HO5.out HGX.out (by omega)) (by simp; omega) _) (by simp; omega) _) (by simp; omega) _
        obtain ⟨wf, hwf⟩ : ∃ wf, wf = (((wl.setCell ⟨w.heap.size, 0, none⟩ (.int .i64 t)).setCell ⟨w.heap.size, 1, none⟩ (.int .i64 q)).setCell ⟨w.heap.size, 2, none⟩ (.int .i64 f)) := ⟨_, rfl⟩
        rw [← hwf] at z2 bf of ⊢
        clear hwf z0 z1 ds0 ds1 ds2 m0 m1 m2 n0 n1 n2
        have c0 := (cells_of_heap z2 0 (by simp)).1
        have c1 := (cells_of_heap z2 1 (by simp)).1
        have c2 := (cells_of_heap z2 2 (by simp)).1
        refine bodyPost_ret (v := .tuple #[tmv t q f, .int .i64 (IntKind.i64.wrap (x - 1)), .int .i64 s2, .slice g l.length c, .int .i64 s3]) (by simp [results, Try.results17, go_sem, c0, c1, c2]) rfl ⟨t, q, f, _, s2, s3, g, c, l', by rw [hl'], by omega, by rw [hl']; exact owns_base of (by omega), bf⟩

end Go.Proofs.Ytjfckchoklepbaa
