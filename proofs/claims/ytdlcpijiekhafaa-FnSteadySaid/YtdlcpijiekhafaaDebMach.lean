/- DERIVED. The program's state machines of a debouncer (keyMachine and its five function literals): each machine, called with a key, tells the age that the key gets and whether its change is shown. -/
import Derived.Test.YtdlcpijiekhafaaDebImpl
import Derived.Test.YtdlcpijiekhafaaDebStep
import Derived.Laws.EntriesVeiled
namespace Go.Proofs.Ytdlcpijiekhafaa
open Go.RowKit

/-- What the function literals of a machine find in memory: the debouncer's box at d, the samples at r. -/
structure MBox (k t n s l : Int) (u : Value) (raw : Int) (d r : Nat) (w : World) : Prop where
  hd : w.heap[d]? = some (.cells #[.int .i64 k, .int .i64 t, .int .i64 n, .int .i64 s, .int .i64 l, u] 26 (0, 0))
  hr : w.heap[r]? = some (.cells #[.int .i64 raw] 3 (0, 0))

theorem MBox.below {k t n s l : Int} {u : Value} {raw : Int} {d r : Nat} {w w' : World} (h : MBox k t n s l u raw d r w) (hb : Below w.heap.size w w') : MBox k t n s l u raw d r w' :=
  ⟨(hb.block d (Array.getElem?_eq_some_iff.mp h.hd).1).trans h.hd, (hb.block r (Array.getElem?_eq_some_iff.mp h.hr).1).trans h.hr⟩

/-- The age of a key: anew, or one more. -/
theorem ageOf_any (k t n s l : Int) (u : Value) (raw : Int) (d r : Nat) (zs : List Int) (j : Nat) (b : Bool) (w : World) (h : MBox k t n s l u raw d r w) (hr : Rd w u (zs.map (.int .i64))) (hj : j < zs.length) (h0 : 0 ≤ zs.getD j 0) (h9 : zs.getD j 0 ≤ 99) :
    Calls Try.prog 53 #[.int .i64 j, .bool b, .pointer (some ⟨d, 0, none⟩)] w fun e w' => e = .returned (.int .i64 (if b = true then 1 else min 99 (zs.getD j 0 + 1))) ∧ w = w' := by
  cases b
  · rcases rd_ints hr with ⟨hnil, _⟩ | ⟨b0, off, cap, _, rfl, hbl, hc⟩
    · exfalso; rw [hnil] at hj; simp at hj
    · have hcell := hc j hj
      have d5 := (cells_of_heap h.hd 5 (by simp)).1
      obtain ⟨z, hz⟩ : ∃ z, z = zs.getD j 0 := ⟨_, rfl⟩
      rw [← hz] at hcell h0 h9 ⊢
      clear hz h hr hc
      by_cases hm : z + 1 ≤ 99
      · have e : min 99 (z + 1) = z + 1 := by omega
        rw [e]
        clear e
        go_enter Try.func53, Try.ntmps53
        go_wp2
        go_ret
        exact ⟨rfl, rfl⟩
      · have e : min 99 (z + 1) = 99 := by omega
        rw [e]
        clear e
        go_enter Try.func53, Try.ntmps53
        go_wp2
        go_ret
        exact ⟨rfl, rfl⟩
  · clear h hr
    go_enter Try.func53, Try.ntmps53
    go_wp2
    go_ret
    exact ⟨rfl, rfl⟩

/-- Whether a change of the key is shown at this age. -/
theorem due_any (k t n : Int) (S : Nat) (l : Int) (u : Value) (Q : Nat) (d r : Nat) (j : Nat) (ag : Int) (w : World) (h : MBox k t n S l u Q d r w) (hj : j < 24) (hS : S < 2 ^ 24) (hQ : Q < 2 ^ 24) :
    Calls Try.prog 54 #[.int .i64 j, .int .i64 ag, .pointer (some ⟨d, 0, none⟩), .pointer (some ⟨r, 0, none⟩)] w fun e w' => e = .returned (.bool (decide (t ≤ ag) && (Q ^^^ S).testBit j)) ∧ w = w' := by
  have d1 := (cells_of_heap h.hd 1 (by simp)).1
  have d3 := (cells_of_heap h.hd 3 (by simp)).1
  have r0 := (cells_of_heap h.hr 0 (by simp)).1
  have hx := xor_nat Q S (by omega) (by omega)
  have hlt : Q ^^^ S < 2 ^ 24 := Nat.xor_lt_two_pow hQ hS
  obtain ⟨x, hxd⟩ : ∃ x, x = Q ^^^ S := ⟨_, rfl⟩
  rw [← hxd] at hx hlt ⊢
  have hb := hz_nat x j (by omega)
  obtain ⟨q, hq⟩ : ∃ q, q = x.testBit j := ⟨_, rfl⟩
  rw [← hq] at hb ⊢
  have HB := Lib.hid hb
  clear h hxd hq hb
  by_cases ht : t ≤ ag
  · rw [decide_eq_true ht, Bool.true_and]
    go_enter Try.func54, Try.ntmps54
    go_wp2_with fail
    refine (hasKey_any x j _ (by omega)).mono ?_
    rw [HB.out]
    rintro e w0 ⟨rfl, rfl⟩
    go_wp2
    go_ret
    exact ⟨rfl, rfl⟩
  · rw [decide_eq_false ht, Bool.false_and]
    go_enter Try.func54, Try.ntmps54
    go_wp2
    go_ret
    exact ⟨rfl, rfl⟩

/-- What keyMachine lays, from block h on. -/
structure MWorld (k t n : Int) (S L : Nat) (u : Value) (Q : Nat) (h : Nat) (w : World) : Prop where
  box : MBox k t n S L u Q h (h + 1) w
  hc : w.heap[h + 1 + 1]? = some (.cells #[.int .i64 ((Q ^^^ L : Nat) : Int)] 3 (0, 0))
  ha : w.heap[h + 1 + 1 + 1]? = some (.cells #[.func (.func 53) #[] #[.pointer (some ⟨h, 0, none⟩)]] 67 (0, 0))
  hu : w.heap[h + 1 + 1 + 1 + 1]? = some (.cells #[.func (.func 54) #[] #[.pointer (some ⟨h, 0, none⟩), .pointer (some ⟨h + 1, 0, none⟩)]] 56 (0, 0))
theorem MWorld.below {k t n : Int} {S L : Nat} {u : Value} {Q h : Nat} {w w' : World} (m : MWorld k t n S L u Q h w) (hb : Below w.heap.size w w') : MWorld k t n S L u Q h w' :=
  ⟨m.box.below hb, (hb.block _ (Array.getElem?_eq_some_iff.mp m.hc).1).trans m.hc, (hb.block _ (Array.getElem?_eq_some_iff.mp m.ha).1).trans m.ha, (hb.block _ (Array.getElem?_eq_some_iff.mp m.hu).1).trans m.hu⟩

theorem hasKey_q (z : Int) (k : Nat) (w : World) (v : Bool) (hk : k < 62) (hv : hz z k = v) : Calls Try.prog 45 #[.int .i64 z, .int .i64 k] w fun e w' => e = .returned (.bool v) ∧ w' = w :=
  (hasKey_any z k w hk).mono fun _ _ ⟨he, hw⟩ => ⟨by rw [he, hv], hw.symm⟩
theorem ageOf_q (k t n s l : Int) (u : Value) (raw : Int) (d r : Nat) (zs : List Int) (j : Nat) (b : Bool) (w : World) (ag : Int) (hag : ag = if b = true then 1 else min 99 (zs.getD j 0 + 1)) (h : MBox k t n s l u raw d r w) (hr : Rd w u (zs.map (.int .i64))) (hj : j < zs.length) (h0 : 0 ≤ zs.getD j 0) (h9 : zs.getD j 0 ≤ 99) :
    Calls Try.prog 53 #[.int .i64 j, .bool b, .pointer (some ⟨d, 0, none⟩)] w fun e w' => e = .returned (.int .i64 ag) ∧ w' = w :=
  (ageOf_any k t n s l u raw d r zs j b w h hr hj h0 h9).mono fun _ _ ⟨he, hw⟩ => ⟨by rw [he, hag], hw.symm⟩

set_option maxHeartbeats 1000000 in
theorem mach0_any (t n : Int) (S L : Nat) (u : Value) (Q h : Nat) (zs : List Int) (j : Nat) (w : World) (m : MWorld 0 t n S L u Q h w) (hr : Rd w u (zs.map (.int .i64))) (hj : j < zs.length) (h24 : zs.length ≤ 24) (h0 : 0 ≤ zs.getD j 0) (h9 : zs.getD j 0 ≤ 99) (hS : S < 2 ^ 24) (hL : L < 2 ^ 24) (hQ : Q < 2 ^ 24) :
    Calls Try.prog 55 #[.int .i64 j, .pointer (some ⟨h + 1 + 1 + 1, 0, none⟩), .pointer (some ⟨h + 1 + 1, 0, none⟩), .pointer (some ⟨h + 1 + 1 + 1 + 1, 0, none⟩)] w
      fun e w' => e = .returned (.tuple #[.int .i64 (ageTo 0 t Q L S (zs.getD j 0) j), .bool (flips 0 t Q L S (zs.getD j 0) j)]) ∧ ∃ q, w' = w.drewN q := by
  have c0 := (cells_of_heap m.hc 0 (by simp)).1
  have a0 := (cells_of_heap m.ha 0 (by simp)).1
  have u0 := (cells_of_heap m.hu 0 (by simp)).1
  have hlt : Q ^^^ L < 2 ^ 24 := Nat.xor_lt_two_pow hQ hL
  have hkq := hz_nat (Q ^^^ L) j (by omega)
  obtain ⟨b, hb⟩ : ∃ b, b = (Q ^^^ L).testBit j := ⟨_, rfl⟩
  rw [← hb] at hkq
  obtain ⟨x, hx⟩ : ∃ x, x = Q ^^^ L := ⟨_, rfl⟩
  rw [← hx] at c0 hkq
  obtain ⟨ag, hag⟩ : ∃ ag, ag = if b = true then 1 else min 99 (zs.getD j 0 + 1) := ⟨_, rfl⟩
  have hagd : aged 0 Q L (zs.getD j 0) j = ag := by
    rw [hag, aged, anew, hb]; simp
  have hfl : flips 0 t Q L S (zs.getD j 0) j = (decide (t ≤ ag) && (Q ^^^ S).testBit j) := by rw [flips, hagd]
  have hat : ageTo 0 t Q L S (zs.getD j 0) j = ag := by rw [ageTo, hagd]; simp
  rw [hat, hfl]
  obtain ⟨d, hd⟩ : ∃ d, d = (decide (t ≤ ag) && (Q ^^^ S).testBit j) := ⟨_, rfl⟩
  rw [← hd]
  have HK := Lib.hid hkq
  have HM := Lib.hid m
  have HD := Lib.hid hd
  have HAG := Lib.hid hag
  have HR := Lib.hid hr
  clear hkq m hd hag hr hb hx hlt hagd hfl hat
  go_enter Try.func55, Try.ntmps55
  go_wp2
  go_quiet ((first | (go_at_call 45; exact Calls.quiet_of_same (hasKey_q x j _ b (by omega) HK.out)) | (go_at_call 53; exact Calls.quiet_of_same (ageOf_q 0 t n S L u Q h (h + 1) zs j b _ ag HAG.out (HM.out.box.below (below_drewN (Below.refl _ _) _)) (HR.out.below (below_drewN (Below.refl _ _) _)) hj h0 h9))))
  go_wp2_with fail
  refine (due_any 0 t n S L u Q h (h + 1) j ag _ (HM.out.box.below (below_drewN (Below.refl _ _) _)) (by omega) hS hQ).mono ?_
  rw [← HD.out]
  rintro e w0 ⟨rfl, rfl⟩
  go_wp2
  go_ret2
  exact ⟨rfl, _, rfl⟩

set_option maxHeartbeats 1000000 in
theorem mach1_any (t n : Int) (S L : Nat) (u : Value) (Q h : Nat) (zs : List Int) (j : Nat) (w : World) (m : MWorld 1 t n S L u Q h w) (hr : Rd w u (zs.map (.int .i64))) (hj : j < zs.length) (h24 : zs.length ≤ 24) (h0 : 0 ≤ zs.getD j 0) (h9 : zs.getD j 0 ≤ 99) (hS : S < 2 ^ 24) (hQ : Q < 2 ^ 24) :
    Calls Try.prog 56 #[.int .i64 j, .pointer (some ⟨h + 1 + 1 + 1, 0, none⟩), .pointer (some ⟨h + 1 + 1, 0, none⟩), .pointer (some ⟨h + 1 + 1 + 1 + 1, 0, none⟩)] w
      fun e w' => e = .returned (.tuple #[.int .i64 (ageTo 1 t Q L S (zs.getD j 0) j), .bool (flips 1 t Q L S (zs.getD j 0) j)]) ∧ ∃ q, w' = w.drewN q := by
  have c0 := (cells_of_heap m.hc 0 (by simp)).1
  have a0 := (cells_of_heap m.ha 0 (by simp)).1
  have u0 := (cells_of_heap m.hu 0 (by simp)).1
  obtain ⟨b, hb⟩ : ∃ b, b = !(Q == L) := ⟨_, rfl⟩
  have hx0 : (((Q ^^^ L : Nat) : Int) != 0) = b := by
    rw [hb]
    by_cases hq : Q = L
    · subst hq; simp
    · have h0 : Q ^^^ L ≠ 0 := fun h => hq (by
        have e : (Q ^^^ L) ^^^ L = 0 ^^^ L := by rw [h]
        rw [Nat.xor_assoc, Nat.xor_self, Nat.xor_zero, Nat.zero_xor] at e
        exact e)
      have h1 : ((Q ^^^ L : Nat) : Int) ≠ 0 := by omega
      rw [show (((Q ^^^ L : Nat) : Int) != 0) = true from bne_iff_ne.mpr h1]
      simp [hq]
  obtain ⟨x, hx⟩ : ∃ x, x = Q ^^^ L := ⟨_, rfl⟩
  rw [← hx] at c0 hx0
  have hx1 : ((x : Int) == 0) = !b := by rw [← hx0]; simp [bne]
  obtain ⟨ag, hag⟩ : ∃ ag, ag = if b = true then 1 else min 99 (zs.getD j 0 + 1) := ⟨_, rfl⟩
  have hagd : aged 1 Q L (zs.getD j 0) j = ag := by
    rw [hag, aged, anew, hb]; simp
  have hfl : flips 1 t Q L S (zs.getD j 0) j = (decide (t ≤ ag) && (Q ^^^ S).testBit j) := by rw [flips, hagd]
  have hat : ageTo 1 t Q L S (zs.getD j 0) j = ag := by rw [ageTo, hagd]; simp
  rw [hat, hfl]
  obtain ⟨d, hd⟩ : ∃ d, d = (decide (t ≤ ag) && (Q ^^^ S).testBit j) := ⟨_, rfl⟩
  rw [← hd]
  have HM := Lib.hid m
  have HD := Lib.hid hd
  have HAG := Lib.hid hag
  have HR := Lib.hid hr
  clear m hd hag hr hb hx hagd hfl hat
  go_enter Try.func56, Try.ntmps56
  go_wp2_with fail
  refine (ageOf_q 1 t n S L u Q h (h + 1) zs j b _ ag HAG.out HM.out.box HR.out hj h0 h9).mono ?_
  rintro e w0 ⟨rfl, rfl⟩
  go_wp2_with fail
  refine (due_any 1 t n S L u Q h (h + 1) j ag _ HM.out.box (by omega) hS hQ).mono ?_
  rw [← HD.out]
  rintro e w0 ⟨rfl, rfl⟩
  go_wp2
  go_ret2
  exact ⟨rfl, 0, rfl⟩

set_option maxHeartbeats 1000000 in
theorem mach2_any (t n : Int) (S L : Nat) (u : Value) (Q h : Nat) (zs : List Int) (j : Nat) (w : World) (m : MWorld 2 t n S L u Q h w) (hr : Rd w u (zs.map (.int .i64))) (hj : j < zs.length) (h24 : zs.length ≤ 24) (h0 : 0 ≤ zs.getD j 0) (h9 : zs.getD j 0 ≤ 99) (hS : S < 2 ^ 24) (hQ : Q < 2 ^ 24) :
    Calls Try.prog 57 #[.int .i64 j, .pointer (some ⟨h + 1 + 1 + 1, 0, none⟩), .pointer (some ⟨h + 1 + 1 + 1 + 1, 0, none⟩)] w
      fun e w' => e = .returned (.tuple #[.int .i64 (ageTo 2 t Q L S (zs.getD j 0) j), .bool (flips 2 t Q L S (zs.getD j 0) j)]) ∧ ∃ q, w' = w.drewN q := by
  have a0 := (cells_of_heap m.ha 0 (by simp)).1
  have u0 := (cells_of_heap m.hu 0 (by simp)).1
  obtain ⟨ag, hag⟩ : ∃ ag, ag = if false = true then 1 else min 99 (zs.getD j 0 + 1) := ⟨_, rfl⟩
  have hagd : aged 2 Q L (zs.getD j 0) j = ag := by
    rw [hag, aged, anew]; simp
  have hfl : flips 2 t Q L S (zs.getD j 0) j = (decide (t ≤ ag) && (Q ^^^ S).testBit j) := by rw [flips, hagd]
  obtain ⟨d, hd⟩ : ∃ d, d = (decide (t ≤ ag) && (Q ^^^ S).testBit j) := ⟨_, rfl⟩
  have hat : ageTo 2 t Q L S (zs.getD j 0) j = if d = true then 0 else ag := by rw [ageTo, hagd, hfl, ← hd]; simp
  rw [hat, hfl, ← hd]
  have HM := Lib.hid m
  have HD := Lib.hid hd
  have HAG := Lib.hid hag
  have HR := Lib.hid hr
  clear m hd hag hr hagd hfl hat
  cases d
  · go_enter Try.func57, Try.ntmps57
    go_wp2_with fail
    refine (ageOf_q 2 t n S L u Q h (h + 1) zs j false _ ag HAG.out HM.out.box HR.out hj h0 h9).mono ?_
    rintro e w0 ⟨rfl, rfl⟩
    go_wp2_with fail
    refine (due_any 2 t n S L u Q h (h + 1) j ag _ HM.out.box (by omega) hS hQ).mono ?_
    rw [← HD.out]
    rintro e w0 ⟨rfl, rfl⟩
    go_wp2
    go_ret2
    exact ⟨rfl, 0, rfl⟩
  · go_enter Try.func57, Try.ntmps57
    go_wp2_with fail
    refine (ageOf_q 2 t n S L u Q h (h + 1) zs j false _ ag HAG.out HM.out.box HR.out hj h0 h9).mono ?_
    rintro e w0 ⟨rfl, rfl⟩
    go_wp2_with fail
    refine (due_any 2 t n S L u Q h (h + 1) j ag _ HM.out.box (by omega) hS hQ).mono ?_
    rw [← HD.out]
    rintro e w0 ⟨rfl, rfl⟩
    go_wp2
    go_ret2
    exact ⟨rfl, 0, rfl⟩

/-- A machine in memory: the function value v works on what lies below. -/
def Machine (k t : Int) (Q L S : Nat) (zs : List Int) (v : Value) (w : World) : Prop :=
  ∃ (F : FuncId) (caps : Array Value), v = .func (.func F) #[] caps ∧ ((F = 55 ∧ ∃ p q r, caps = #[p, q, r]) ∨ (F = 56 ∧ ∃ p q r, caps = #[p, q, r]) ∨ (F = 57 ∧ ∃ p q, caps = #[p, q])) ∧ ∀ (w' : World) (j : Nat), Below w.heap.size w w' → j < zs.length →
    Calls Try.prog F (#[.int .i64 j] ++ caps) w' fun e w'' => e = .returned (.tuple #[.int .i64 (ageTo k t Q L S (zs.getD j 0) j), .bool (flips k t Q L S (zs.getD j 0) j)]) ∧ ∃ m, w'' = w'.drewN m

theorem mworld_new (k t n : Int) (S L : Nat) (u : Value) (Q : Nat) (w : World) (x : Int) (hx : x = ((Q ^^^ L : Nat) : Int)) :
    MWorld k t n S L u Q w.heap.size (((((w.alloc (.cells #[.int .i64 k, .int .i64 t, .int .i64 n, .int .i64 S, .int .i64 L, u] 26)).alloc (.cells #[.int .i64 Q] 3)).alloc (.cells #[.int .i64 x] 3)).alloc
      (.cells #[.func (.func 53) #[] #[.pointer (some ⟨w.heap.size, 0, none⟩)]] 67)).alloc (.cells #[.func (.func 54) #[] #[.pointer (some ⟨w.heap.size, 0, none⟩), .pointer (some ⟨w.heap.size + 1, 0, none⟩)]] 56)) := by
  subst hx
  refine ⟨⟨?_, ?_⟩, ?_, ?_, ?_⟩
  · rw [Below.heap_alloc _ _ _ (by simp <;> omega), Below.heap_alloc _ _ _ (by simp <;> omega), Below.heap_alloc _ _ _ (by simp <;> omega), Below.heap_alloc _ _ _ (by simp)]
    exact heap_alloc_new _ _
  · rw [Below.heap_alloc _ _ _ (by simp <;> omega), Below.heap_alloc _ _ _ (by simp <;> omega), Below.heap_alloc _ _ _ (by simp)]
    simpa using heap_alloc_new (w.alloc (.cells #[.int .i64 k, .int .i64 t, .int .i64 n, .int .i64 S, .int .i64 L, u] 26)) _
  · rw [Below.heap_alloc _ _ _ (by simp <;> omega), Below.heap_alloc _ _ _ (by simp)]
    simpa using heap_alloc_new ((w.alloc (.cells #[.int .i64 k, .int .i64 t, .int .i64 n, .int .i64 S, .int .i64 L, u] 26)).alloc (.cells #[.int .i64 Q] 3)) _
  · rw [Below.heap_alloc _ _ _ (by simp)]
    simpa using heap_alloc_new (((w.alloc (.cells #[.int .i64 k, .int .i64 t, .int .i64 n, .int .i64 S, .int .i64 L, u] 26)).alloc (.cells #[.int .i64 Q] 3)).alloc (.cells #[.int .i64 ((Q ^^^ L : Nat) : Int)] 3)) _
  · simpa using heap_alloc_new ((((w.alloc (.cells #[.int .i64 k, .int .i64 t, .int .i64 n, .int .i64 S, .int .i64 L, u] 26)).alloc (.cells #[.int .i64 Q] 3)).alloc (.cells #[.int .i64 ((Q ^^^ L : Nat) : Int)] 3)).alloc
      (.cells #[.func (.func 53) #[] #[.pointer (some ⟨w.heap.size, 0, none⟩)]] 67)) _

theorem below_five (w : World) (o1 o2 o3 o4 o5 : Obj) : Below w.heap.size w (((((w.alloc o1).alloc o2).alloc o3).alloc o4).alloc o5) :=
  (((((Below.refl _ _).alloc (Nat.le_refl _) _).alloc (by simp) _).alloc (by simp; omega) _).alloc (by simp; omega) _).alloc (by simp; omega) _

set_option maxHeartbeats 1000000 in
theorem keyMachine_any (k t n : Int) (S L : Nat) (u : Value) (zs : List Int) (Q : Nat) (w : World) (hr : Rd w u (zs.map (.int .i64))) (hk0 : 0 ≤ k) (hk2 : k ≤ 2) (h24 : zs.length ≤ 24) (hz : ∀ j, j < zs.length → 0 ≤ zs.getD j 0 ∧ zs.getD j 0 ≤ 99) (hS : S < 2 ^ 24) (hL : L < 2 ^ 24) (hQ : Q < 2 ^ 24) :
    Calls Try.prog 43 #[dbv k t n S L u, .int .i64 Q] w fun e w' => ∃ v, e = .returned v ∧ Machine k t Q L S zs v w' ∧ Below w.heap.size w w' := by
  have hmf : ∀ (fn : Fn) (first cap : Array Value) (w : World), (Instr.makeFunc fn first cap).run Try.prog w = .ok (.func fn first cap) w := fun _ _ _ _ => rfl
  have hx := xor_nat Q L (by omega) (by omega)
  obtain ⟨x, hxd⟩ : ∃ x, x = bits .xor .i64 (Q : Int) (L : Int) := ⟨_, rfl⟩
  rw [← hxd] at hx
  have HX := Lib.hid hx
  have HB := Lib.hid (fun o1 o2 o3 o4 o5 => below_five w o1 o2 o3 o4 o5)
  have HR := Lib.hid hr
  have HZ := Lib.hid hz
  have hkc : k = 0 ∨ k = 1 ∨ k = 2 := by omega
  clear hk0 hk2 hx hr hz
  have hxd' := hxd.symm
  clear hxd
  rcases hkc with rfl | rfl | rfl
  · go_enter Try.func43, Try.ntmps43
    go_wp2
    go_ret
    refine ⟨_, rfl, ⟨55, _, rfl, .inl ⟨rfl, _, _, _, rfl⟩, fun w' j hb hj => ?_⟩, HB.out _ _ _ _ _⟩
    exact mach0_any t n S L u Q w.heap.size zs j w' ((mworld_new 0 t n S L u Q w x HX.out).below hb) (HR.out.below ((HB.out _ _ _ _ _).trans (hb.mono (by simp; omega)))) hj h24 (HZ.out j hj).1 (HZ.out j hj).2 hS hL hQ
  · go_enter Try.func43, Try.ntmps43
    go_wp2
    go_ret
    refine ⟨_, rfl, ⟨56, _, rfl, .inr (.inl ⟨rfl, _, _, _, rfl⟩), fun w' j hb hj => ?_⟩, HB.out _ _ _ _ _⟩
    exact mach1_any t n S L u Q w.heap.size zs j w' ((mworld_new 1 t n S L u Q w x HX.out).below hb) (HR.out.below ((HB.out _ _ _ _ _).trans (hb.mono (by simp; omega)))) hj h24 (HZ.out j hj).1 (HZ.out j hj).2 hS hQ
  · go_enter Try.func43, Try.ntmps43
    go_wp2
    go_ret
    refine ⟨_, rfl, ⟨57, _, rfl, .inr (.inr ⟨rfl, _, _, rfl⟩), fun w' j hb hj => ?_⟩, HB.out _ _ _ _ _⟩
    exact mach2_any t n S L u Q w.heap.size zs j w' ((mworld_new 2 t n S L u Q w x HX.out).below hb) (HR.out.below ((HB.out _ _ _ _ _).trans (hb.mono (by simp; omega)))) hj h24 (HZ.out j hj).1 (HZ.out j hj).2 hS hQ

end Go.Proofs.Ytdlcpijiekhafaa
