/- DERIVED. The exact laws of chapter 6 on bytes: each, called with any arguments, returns true and changes nothing that was there, where the program's function answers as the plain function. -/
import Derived.Test.YtleheibpgngmiaaKmLaw
import Derived.Test.YtleheibpgngmiaaKmSpec4
import Derived.Test.YtleheibpgngmiaaKmSpec7
import Derived.Test.YtleheibpgngmiaaBytesLaw
namespace Go.Proofs.Ytleheibpgngmiaa
open Go.RowKit

theorem specPackAction_law (k c m n : Int) (zr : List Int) (hz : zr = packV ⟨k, c, m, n⟩) (w : World) : Calls Try.prog 30 #[acv k c m n] w (ByOut zr w) := by
  rw [hz]; exact (specPackAction_any k c m n w).mono fun _ _ hp => byOut hp
theorem specPackKeymap_law (keys : Int) (v : Value) (L : List (List Ac)) (zr : List Int) (hz : zr = packK keys L) (w : World) (hn : L.length ≤ maxLen) (hm : ∀ l ∈ L, l.length ≤ maxLen) (h : LdS w v L) : Calls Try.prog 38 #[kmv keys v] w (ByOut zr w) := by
  rw [hz]; exact (specPackKeymap_any keys v L w hn hm h).mono fun _ _ hp => byOut hp
theorem rowB_len (l : List Ac) : (rowB l).length ≤ 3 * l.length := by
  induction l with
  | nil => simp [rowB]
  | cons a l ih =>
    have h1 := packV_len a
    have e : rowB (a :: l) = packV a ++ rowB l := by simp [rowB]
    rw [e, List.length_append, List.length_cons]; omega
theorem rowsB_len {m : Nat} : ∀ L : List (List Ac), (∀ l ∈ L, l.length ≤ m) → (L.flatMap rowB).length ≤ L.length * (3 * m)
  | [], _ => by simp
  | l :: L, h => by
    have h1 := rowB_len l
    have h2 := h l List.mem_cons_self
    have h3 := rowsB_len L (fun x hx => h x (List.mem_cons_of_mem _ hx))
    rw [List.flatMap_cons, List.length_append, List.length_cons, Nat.succ_mul]
    omega
theorem packK_len (keys : Int) (L : List (List Ac)) : (packK keys L).length ≤ 1048576 := by
  unfold packK
  split
  · rename_i h
    obtain ⟨⟨_, k32⟩, ⟨_, l4⟩, hall⟩ := okKm_at h
    have hr : ∀ l ∈ L, l.length ≤ 32 := fun l hl => by
      obtain ⟨i, hi, rfl⟩ := List.getElem_of_mem hl
      have h1 := (hall i hi).1
      have h3 : lD L i = L[i] := by unfold lD; rw [List.getD_eq_getElem?_getD, List.getElem?_eq_getElem hi]; rfl
      rw [h3] at h1
      omega
    have h4 := rowsB_len L hr
    have h5 : L.length * (3 * 32) ≤ 4 * (3 * 32) := Nat.mul_le_mul_right _ l4
    rw [List.length_append]
    simp only [List.length_cons, List.length_nil]
    omega
  · simp
theorem unK_len (zs : List Int) : (unK zs).l.length ≤ 4 ∧ ∀ l ∈ (unK zs).l, l.length ≤ 32 := by
  unfold unK unG
  split
  · split
    · rename_i h
      obtain ⟨⟨_, k32⟩, ⟨_, l4⟩, hall⟩ := okKm_at h.2
      refine ⟨l4, fun l hl => ?_⟩
      have h1 := unL_rows _ _ _ l hl
      omega
    · exact ⟨by simp, by simp⟩
  · exact ⟨by simp, by simp⟩
theorem owF_cap {w : World} {B : Nat} {T : TypeId} {a : Option Addr} {n c : Nat} {xs : List Value} {fp : List Nat} (h : OwF w B T 1 (.slice a n c) n xs fp) : n ≤ c := by
  rcases h.1.2 with ⟨_, h0⟩ | ⟨g, cap, cur, hs, _, _, hnc, _⟩
  · omega
  · obtain ⟨_, _, rfl⟩ := by simpa using hs
    exact hnc
theorem specUnpackKeymap_law (a : Option Addr) (zs : List Int) (cap : Nat) (rk : Int) (rl : List (List Ac)) (rb : Bool) (hR : unK zs = ⟨rk, rl, rb⟩) (w : World) (hl : zs.length ≤ maxLen) (hcap : zs.length ≤ cap) (hz : ∀ z ∈ zs, 0 ≤ z ∧ z < 256) (h : Rd w (.slice a zs.length cap) (zs.map (.int .u8))) :
    Calls Try.prog 40 #[.slice a zs.length cap] w (KmOut ⟨rk, rl, rb⟩ w) := by
  rw [← hR]; exact specUnpackKeymap_any a zs.length cap zs w rfl hl hcap hz h

set_option maxHeartbeats 1000000 in
set_option maxRecDepth 100000 in
theorem lawPackAction_walk (ek ec em en : Int) (w : World) (hI : ∀ w' : World, Below w.heap.size w w' → Calls Try.prog 31 #[acv ek ec em en] w' (ByOut (packV ⟨ek, ec, em, en⟩) w')) : Calls Try.prog 8 #[acv ek ec em en] w fun e w' => e = .returned (.bool true) ∧ Below w.heap.size w w' := by
  obtain ⟨zr, hz⟩ : ∃ x, x = packV ⟨ek, ec, em, en⟩ := ⟨_, rfl⟩
  have hz3 := packV_len ⟨ek, ec, em, en⟩
  rw [← hz] at hI hz3
  have HI := Lib.hid hI
  have HZR := Lib.hid hz
  have HZ1 := Lib.hid (show zr.length ≤ 1048576 by omega)
  have HZ2 := Lib.hid (show zr.length ≤ 1000000000000 by omega)
  clear hI hz hz3
  obtain ⟨qr, hqr⟩ : ∃ q : Int, q = 1 + (zr.length : Int) := ⟨_, rfl⟩
  have hqr0 : ¬ qr < 0 := by omega
  have HQR := Lib.hid hqr
  clear hqr
  obtain ⟨w0, hw0⟩ : ∃ x, x = (w.alloc (.cells #[.int .i64 ek, .int .i64 ec, .int .i64 em, .int .i64 en] 44)) := ⟨_, rfl⟩
  have HB0 := Lib.hid (show Below w.heap.size w w0 by rw [hw0]; exact (Below.refl _ _).alloc (Nat.le_refl _) _)
  have Ke_0 := Lib.hid (show w0.heap[w.heap.size]? = some (.cells #[.int .i64 ek, .int .i64 ec, .int .i64 em, .int .i64 en] 44 (0, 0)) by rw [hw0]; exact heap_alloc_new w _)
  have SZ0 := Lib.hid (show w0.heap.size = w.heap.size + 1 by rw [hw0]; simp)
  have HW := Lib.hid hw0
  clear hw0
  go_enter Try.func8, Try.ntmps8
  have ce0 := (cells_of_heap Ke_0.out 0 (by simp)).1
  have ce1 := (cells_of_heap Ke_0.out 1 (by simp)).1
  have ce2 := (cells_of_heap Ke_0.out 2 (by simp)).1
  have ce3 := (cells_of_heap Ke_0.out 3 (by simp)).1
  go_wp2_with fail
  rw [← HW.out]
  refine (toAction_any ek ec em en _).mono ?_
  rintro e w1 ⟨rfl, hb⟩
  clear ce0 ce1 ce2 ce3
  have HB1 := Lib.hid (HB0.out.trans (hb.mono HB0.out.size))
  have HS1 := Lib.hid hb.size
  have Ke_1 := Lib.hid (blk_below Ke_0.out hb)
  clear Ke_0
  clear hb
  go_wp2_with fail
  refine (specPackAction_law ek ec em en zr HZR.out _).mono ?_
  rintro e w2 ⟨a1, c1, f1, rfl, h1, hb⟩
  have HB2 := Lib.hid (HB1.out.trans (hb.mono HB1.out.size))
  have HS2 := Lib.hid hb.size
  have Ke_2 := Lib.hid (blk_below Ke_1.out hb)
  clear Ke_1
  have Rw := Lib.hid (h1.rng)
  have Ow_2 := Lib.hid h1
  clear hb h1
  have ce0 := (cells_of_heap Ke_2.out 0 (by simp)).1
  have ce1 := (cells_of_heap Ke_2.out 1 (by simp)).1
  have ce2 := (cells_of_heap Ke_2.out 2 (by simp)).1
  have ce3 := (cells_of_heap Ke_2.out 3 (by simp)).1
  go_wp2_with fail
  refine (toAction_any ek ec em en _).mono ?_
  rintro e w3 ⟨rfl, hb⟩
  clear ce0 ce1 ce2 ce3
  have HB3 := Lib.hid (HB2.out.trans (hb.mono HB2.out.size))
  have HS3 := Lib.hid hb.size
  have Ke_3 := Lib.hid (blk_below Ke_2.out hb)
  have Ow_3 := Lib.hid (Ow_2.out.below hb)
  clear Ke_2 Ow_2
  clear hb
  go_wp2_with fail
  refine (HI.out _ HB3.out).mono ?_
  rintro e w4 ⟨a2, c2, f2, rfl, h2, hb⟩
  have HB4 := Lib.hid (HB3.out.trans (hb.mono HB3.out.size))
  have HS4 := Lib.hid hb.size
  have Ke_4 := Lib.hid (blk_below Ke_3.out hb)
  have Ow_4 := Lib.hid (Ow_3.out.below hb)
  clear Ke_3 Ow_3
  have Rg := Lib.hid (h2.rng)
  have Og_4 := Lib.hid h2
  clear hb h2
  go_wp2_with fail
  refine (eqByteS_same _ _ zr _ HZ2.out Og_4.out.rd1 Ow_4.out.rd1).mono ?_
  rintro e w5 ⟨rfl, hb⟩
  have HB5 := Lib.hid (HB4.out.trans (hb.mono HB4.out.size))
  have HS5 := Lib.hid hb.size
  have Ke_5 := Lib.hid (blk_below Ke_4.out hb)
  have Ow_5 := Lib.hid (Ow_4.out.below hb)
  have Og_5 := Lib.hid (Og_4.out.below hb)
  clear Ke_4 Ow_4 Og_4
  clear hb
  go_wp2_with fail
  refine (markByteS_law _ _ zr _ 1 qr HQR.out _ HZ1.out (by decide) (by decide) Og_5.out).mono ?_
  rintro e w6 ⟨rfl, ho, ht⟩
  have HB6 := Lib.hid (HB5.out.trans (ht.below (fun b hb => by have := Rg.out b hb; have := HB3.out.size; omega) HB5.out.size))
  have HS6 := Lib.hid ht.size
  have Ke_6 := Lib.hid (blk_turn Ke_5.out ht (fun hm => by have := Rg.out _ hm; have := HS1.out; have := HS2.out; have := HS3.out; have := SZ0.out; omega))
  have Ow_6 := Lib.hid (Ow_5.out.turn ht (fun b hb hb' => by have := Rg.out b hb'; have := Rw.out b hb; have := HS3.out; have := SZ0.out; omega))
  have Og_6 := Lib.hid ho
  clear ho ht Ke_5 Ow_5 Og_5
  go_wp2_with fail
  refine (heldByteS_law _ _ zr.length _ 1 qr HQR.out _ HZ1.out (by decide) (by decide) Og_6.out).mono ?_
  rintro e w7 ⟨rfl, hb⟩
  have HB7 := Lib.hid (HB6.out.trans (hb.mono HB6.out.size))
  have HS7 := Lib.hid hb.size
  have Ke_7 := Lib.hid (blk_below Ke_6.out hb)
  have Ow_7 := Lib.hid (Ow_6.out.below hb)
  have Og_7 := Lib.hid (Og_6.out.below hb)
  clear Ke_6 Ow_6 Og_6
  clear hb
  have ce0 := (cells_of_heap Ke_7.out 0 (by simp)).1
  have ce1 := (cells_of_heap Ke_7.out 1 (by simp)).1
  have ce2 := (cells_of_heap Ke_7.out 2 (by simp)).1
  have ce3 := (cells_of_heap Ke_7.out 3 (by simp)).1
  go_wp2_with fail
  refine (toAction_any ek ec em en _).mono ?_
  rintro e w8 ⟨rfl, hb⟩
  clear ce0 ce1 ce2 ce3
  have HB8 := Lib.hid (HB7.out.trans (hb.mono HB7.out.size))
  have HS8 := Lib.hid hb.size
  have Ke_8 := Lib.hid (blk_below Ke_7.out hb)
  have Ow_8 := Lib.hid (Ow_7.out.below hb)
  have Og_8 := Lib.hid (Og_7.out.below hb)
  clear Ke_7 Ow_7 Og_7
  clear hb
  go_wp2_with fail
  refine (HI.out _ HB8.out).mono ?_
  rintro e w9 ⟨a3, c3, f3, rfl, h3, hb⟩
  have HB9 := Lib.hid (HB8.out.trans (hb.mono HB8.out.size))
  have HS9 := Lib.hid hb.size
  have Ke_9 := Lib.hid (blk_below Ke_8.out hb)
  have Ow_9 := Lib.hid (Ow_8.out.below hb)
  have Og_9 := Lib.hid (Og_8.out.below hb)
  clear Ke_8 Ow_8 Og_8
  have Rh := Lib.hid (h3.rng)
  have Oh_9 := Lib.hid h3
  clear hb h3
  go_wp2_with fail
  refine (eqByteS_same _ _ zr _ HZ2.out Oh_9.out.rd1 Ow_9.out.rd1).mono ?_
  rintro e w10 ⟨rfl, hb⟩
  have HB10 := Lib.hid (HB9.out.trans (hb.mono HB9.out.size))
  have HS10 := Lib.hid hb.size
  have Ke_10 := Lib.hid (blk_below Ke_9.out hb)
  have Ow_10 := Lib.hid (Ow_9.out.below hb)
  have Og_10 := Lib.hid (Og_9.out.below hb)
  have Oh_10 := Lib.hid (Oh_9.out.below hb)
  clear Ke_9 Ow_9 Og_9 Oh_9
  clear hb
  go_wp2_with fail
  refine (heldByteS_law _ _ zr.length _ 1 qr HQR.out _ HZ1.out (by decide) (by decide) Og_10.out).mono ?_
  rintro e w11 ⟨rfl, hb⟩
  have HB11 := Lib.hid (HB10.out.trans (hb.mono HB10.out.size))
  have HS11 := Lib.hid hb.size
  have Ke_11 := Lib.hid (blk_below Ke_10.out hb)
  have Ow_11 := Lib.hid (Ow_10.out.below hb)
  have Og_11 := Lib.hid (Og_10.out.below hb)
  have Oh_11 := Lib.hid (Oh_10.out.below hb)
  clear Ke_10 Ow_10 Og_10 Oh_10
  clear hb
  go_wp2
  go_ret
  exact ⟨rfl, HB11.out⟩

set_option maxHeartbeats 1000000 in
set_option maxRecDepth 100000 in
theorem lawUnpackAction_walk (a : Option Addr) (n cap : Nat) (zs : List Int) (w : World) (hn : zs.length = n) (hm : n ≤ maxLen) (hz : ∀ z ∈ zs, 0 ≤ z ∧ z < 256) (h : Rd w (.slice a n cap) (zs.map (.int .u8))) (hI : ∀ (w' : World) (u' : Value), Below w.heap.size w w' → Rd w' u' (zs.map (.int .u8)) → Calls Try.prog 37 #[u'] w' fun e w'' => e = .returned (.tuple #[acv (unpackV zs).1.k (unpackV zs).1.c (unpackV zs).1.m (unpackV zs).1.n, .bool (unpackV zs).2]) ∧ Below w'.heap.size w' w'') : Calls Try.prog 9 #[.slice a n cap] w fun e w' => e = .returned (.bool true) ∧ Below w.heap.size w w' := by
  subst hn
  have HR := Lib.hid h
  have HI := Lib.hid hI
  have HZB := Lib.hid hz
  have HM := Lib.hid hm
  clear h hI hz hm
  by_cases hl : zs.length ≤ 1048576
  · have hl2 : ¬ (1048576 : Int) < (zs.length : Int) := by omega
    have HL := Lib.hid hl
    have HZ2 := Lib.hid (show zs.length ≤ 1000000000000 by omega)
    clear hl
    obtain ⟨⟨r, b⟩, hr⟩ : ∃ x, x = unpackV zs := ⟨_, rfl⟩
    have HRR := Lib.hid hr
    clear hr
    have HB0 := Lib.hid (Below.refl w.heap.size w)
    go_enter Try.func9, Try.ntmps9
    go_wp2_with fail
    refine (toByteS_law _ zs _ HL.out (HR.out.below HB0.out)).mono ?_
    rintro e w1 ⟨a1, c1, f1, rfl, h1, hb⟩
    have HB1 := Lib.hid (HB0.out.trans (hb.mono HB0.out.size))
    have HS1 := Lib.hid hb.size
    have Rt := Lib.hid (h1.rng)
    have Ot_1 := Lib.hid h1
    clear hb h1
    go_wp2_with fail
    refine (specUnpackAction_any _ zs _ HM.out HZB.out Ot_1.out.rd1).mono ?_
    rw [← HRR.out]
    rintro e w2 ⟨rfl, hb⟩
    have HB2 := Lib.hid (HB1.out.trans (hb.mono HB1.out.size))
    have HS2 := Lib.hid hb.size
    have Ot_2 := Lib.hid (Ot_1.out.below hb)
    clear Ot_1
    clear hb
    go_upto_region 4 with (fail)
    obtain ⟨w3, hw⟩ : ∃ x, x = w2.alloc (.cells #[.int .i64 r.k, .int .i64 r.c, .int .i64 r.m, .int .i64 r.n] 31) := ⟨_, rfl⟩
    have hb : Below w2.heap.size w2 w3 := by rw [hw]; exact below_alloc1 _ _
    have hk : w3.heap[w2.heap.size]? = some (.cells #[.int .i64 r.k, .int .i64 r.c, .int .i64 r.m, .int .i64 r.n] 31 (0, 0)) := by rw [hw]; exact heap_alloc_new _ _
    rw [← hw]
    have HB3 := Lib.hid (HB2.out.trans (hb.mono HB2.out.size))
    have HS3 := Lib.hid (show w2.heap.size < w3.heap.size from (Array.getElem?_eq_some_iff.mp hk).1)
    have Ot_3 := Lib.hid (Ot_2.out.below hb)
    clear Ot_2
    have Kw_3 := Lib.hid hk
    clear hb hk hw
    go_wp2_with fail
    refine (toByteS_law _ zs _ HL.out (HR.out.below HB3.out)).mono ?_
    rintro e w4 ⟨a2, c2, f2, rfl, h2, hb⟩
    have HB4 := Lib.hid (HB3.out.trans (hb.mono HB3.out.size))
    have HS4 := Lib.hid hb.size
    have Kw_4 := Lib.hid (blk_below Kw_3.out hb)
    have Ot_4 := Lib.hid (Ot_3.out.below hb)
    clear Kw_3 Ot_3
    have Rx := Lib.hid (h2.rng)
    have Ox_4 := Lib.hid h2
    clear hb h2
    go_wp2_with fail
    refine (HI.out _ _ HB4.out Ox_4.out.rd1).mono ?_
    rw [← HRR.out]
    rintro e w5 ⟨rfl, hb⟩
    have HB5 := Lib.hid (HB4.out.trans (hb.mono HB4.out.size))
    have HS5 := Lib.hid hb.size
    have Kw_5 := Lib.hid (blk_below Kw_4.out hb)
    have Ot_5 := Lib.hid (Ot_4.out.below hb)
    have Ox_5 := Lib.hid (Ox_4.out.below hb)
    clear Kw_4 Ot_4 Ox_4
    clear hb
    go_upto_region 6 with (fail)
    obtain ⟨w6, hw⟩ : ∃ x, x = w5.alloc (.cells #[.int .i64 r.k, .int .i64 r.c, .int .i64 r.m, .int .i64 r.n] 31) := ⟨_, rfl⟩
    have hb : Below w5.heap.size w5 w6 := by rw [hw]; exact below_alloc1 _ _
    have hk : w6.heap[w5.heap.size]? = some (.cells #[.int .i64 r.k, .int .i64 r.c, .int .i64 r.m, .int .i64 r.n] 31 (0, 0)) := by rw [hw]; exact heap_alloc_new _ _
    rw [← hw]
    have HB6 := Lib.hid (HB5.out.trans (hb.mono HB5.out.size))
    have HS6 := Lib.hid (show w5.heap.size < w6.heap.size from (Array.getElem?_eq_some_iff.mp hk).1)
    have Kw_6 := Lib.hid (blk_below Kw_5.out hb)
    have Ot_6 := Lib.hid (Ot_5.out.below hb)
    have Ox_6 := Lib.hid (Ox_5.out.below hb)
    clear Kw_5 Ot_5 Ox_5
    have Kg_6 := Lib.hid hk
    clear hb hk hw
    have cg0 := (cells_of_heap Kg_6.out 0 (by simp)).1
    have cg1 := (cells_of_heap Kg_6.out 1 (by simp)).1
    have cg2 := (cells_of_heap Kg_6.out 2 (by simp)).1
    have cg3 := (cells_of_heap Kg_6.out 3 (by simp)).1
    have cw0 := (cells_of_heap Kw_6.out 0 (by simp)).1
    have cw1 := (cells_of_heap Kw_6.out 1 (by simp)).1
    have cw2 := (cells_of_heap Kw_6.out 2 (by simp)).1
    have cw3 := (cells_of_heap Kw_6.out 3 (by simp)).1
    go_wp2_with fail
    refine (eqAction_same r.k r.c r.m r.n _).mono ?_
    rintro e w7 ⟨rfl, hb⟩
    clear cg0 cg1 cg2 cg3 cw0 cw1 cw2 cw3
    have HB7 := Lib.hid (HB6.out.trans (hb.mono HB6.out.size))
    have HS7 := Lib.hid hb.size
    have Kw_7 := Lib.hid (blk_below Kw_6.out hb)
    have Kg_7 := Lib.hid (blk_below Kg_6.out hb)
    have Ot_7 := Lib.hid (Ot_6.out.below hb)
    have Ox_7 := Lib.hid (Ox_6.out.below hb)
    clear Kw_6 Kg_6 Ot_6 Ox_6
    clear hb
    go_wp2_with fail
    refine (toByteS_law _ zs _ HL.out (HR.out.below HB7.out)).mono ?_
    rintro e w8 ⟨a3, c3, f3, rfl, h3, hb⟩
    have HB8 := Lib.hid (HB7.out.trans (hb.mono HB7.out.size))
    have HS8 := Lib.hid hb.size
    have Kw_8 := Lib.hid (blk_below Kw_7.out hb)
    have Kg_8 := Lib.hid (blk_below Kg_7.out hb)
    have Ot_8 := Lib.hid (Ot_7.out.below hb)
    have Ox_8 := Lib.hid (Ox_7.out.below hb)
    clear Kw_7 Kg_7 Ot_7 Ox_7
    have Ry := Lib.hid (h3.rng)
    have Oy_8 := Lib.hid h3
    clear hb h3
    go_wp2_with fail
    refine (eqByteS_same _ _ zs _ HZ2.out Ox_8.out.rd1 Oy_8.out.rd1).mono ?_
    rintro e w9 ⟨rfl, hb⟩
    have HB9 := Lib.hid (HB8.out.trans (hb.mono HB8.out.size))
    have HS9 := Lib.hid hb.size
    have Kw_9 := Lib.hid (blk_below Kw_8.out hb)
    have Kg_9 := Lib.hid (blk_below Kg_8.out hb)
    have Ot_9 := Lib.hid (Ot_8.out.below hb)
    have Ox_9 := Lib.hid (Ox_8.out.below hb)
    have Oy_9 := Lib.hid (Oy_8.out.below hb)
    clear Kw_8 Kg_8 Ot_8 Ox_8 Oy_8
    clear hb
    go_wp2
    go_ret
    exact ⟨rfl, HB9.out⟩
  · have hl' : (1048576 : Int) < (zs.length : Int) := by omega
    clear hl
    go_enter Try.func9, Try.ntmps9
    go_wp2
    go_ret
    exact ⟨rfl, Below.refl _ _⟩

set_option maxHeartbeats 1000000 in
set_option maxRecDepth 100000 in
theorem lawPackKeymap_walk (k : Int) (u : Value) (L : List (List Ac)) (w : World) (hn : L.length ≤ maxLen) (hm : ∀ l ∈ L, l.length ≤ maxLen) (h : LdS w u L) (hI : ∀ (w' : World) (u' : Value), Below w.heap.size w w' → LdS w' u' L → Calls Try.prog 39 #[kmv k u'] w' (ByOut (packK k L) w')) : Calls Try.prog 10 #[kmv k u] w fun e w' => e = .returned (.bool true) ∧ Below w.heap.size w w' := by
  obtain ⟨a, c, rfl⟩ := RdS.shape h
  have HR := Lib.hid h
  have HN := Lib.hid hn
  have HM := Lib.hid hm
  obtain ⟨s, hs⟩ : ∃ s, s = (if L.length + lenS L L.length ≤ 1048576 then 1048576 - ((L.length + lenS L L.length : Nat) : Int) else -1) := ⟨_, rfl⟩
  have HSZ := Lib.hid hs
  obtain ⟨zr, hz⟩ : ∃ x, x = packK k L := ⟨_, rfl⟩
  have hz3 := packK_len k L
  rw [← hz] at hI hz3
  have HI := Lib.hid hI
  have HZR := Lib.hid hz
  have HZ1 := Lib.hid (show zr.length ≤ 1048576 by omega)
  have HZ2 := Lib.hid (show zr.length ≤ 1000000000000 by omega)
  clear h hn hm hI hz hz3
  obtain ⟨qr, hqr⟩ : ∃ q : Int, q = 1 + (zr.length : Int) := ⟨_, rfl⟩
  have hqr0 : ¬ qr < 0 := by omega
  have HQR := Lib.hid hqr
  clear hqr
  obtain ⟨qx, hqx⟩ : ∃ q : Int, q = 1 + ((lenS L L.length * 4 : Nat) : Int) := ⟨_, rfl⟩
  have hqx0 : ¬ qx < 0 := by omega
  have HQX := Lib.hid hqx
  clear hqx
  by_cases hl : L.length + lenS L L.length ≤ 1048576
  · have hs0 : ¬ s < 0 := by rw [hs, if_pos hl]; omega
    have HL1 := Lib.hid (show L.length ≤ 1048576 by omega)
    have HL2 := Lib.hid (show ∀ l ∈ L, l.length ≤ 1048576 from fun l hm => Nat.le_trans (lenS_mem hm) (by omega))
    have HL3 := Lib.hid (show ∀ l ∈ L, l.length ≤ 1000000000000 from fun l hm => Nat.le_trans (HL2.out l hm) (by decide))
    have HL4 := Lib.hid (show L.length ≤ 1000000000000 by omega)
    have HL5 := Lib.hid (show lenS L L.length ≤ 1048576 by omega)
    clear hs hl
    obtain ⟨w0, hw0⟩ : ∃ x, x = (w.alloc (.cells #[.int .i64 k, .slice a L.length c] 36)) := ⟨_, rfl⟩
    have HB0 := Lib.hid (show Below w.heap.size w w0 by rw [hw0]; exact (Below.refl _ _).alloc (Nat.le_refl _) _)
    have Kd_0 := Lib.hid (show w0.heap[w.heap.size]? = some (.cells #[.int .i64 k, .slice a L.length c] 36 (0, 0)) by rw [hw0]; exact heap_alloc_new w _)
    have SZ0 := Lib.hid (show w0.heap.size = w.heap.size + 1 by rw [hw0]; simp)
    have HW := Lib.hid hw0
    clear hw0
    go_enter Try.func10, Try.ntmps10
    have cd0 := (cells_of_heap Kd_0.out 0 (by simp)).1
    have cd1 := (cells_of_heap Kd_0.out 1 (by simp)).1
    go_wp2_with fail
    rw [← HW.out]
    refine (szKeymap_any k _ L _ HN.out HM.out (HR.out.below HB0.out)).mono ?_
    rw [← HSZ.out]
    rintro e w1 ⟨rfl, hb⟩
    clear cd0 cd1
    have HB1 := Lib.hid (HB0.out.trans (hb.mono HB0.out.size))
    have HS1 := Lib.hid hb.size
    have Kd_1 := Lib.hid (blk_below Kd_0.out hb)
    clear Kd_0
    clear hb
    have cd0 := (cells_of_heap Kd_1.out 0 (by simp)).1
    have cd1 := (cells_of_heap Kd_1.out 1 (by simp)).1
    go_wp2_with fail
    refine (toKeymap_any k _ L _ HL1.out HL2.out (HR.out.below HB1.out)).mono ?_
    rintro e w2 ⟨a1, c1, f1, rfl, h1, hb⟩
    clear cd0 cd1
    have HB2 := Lib.hid (HB1.out.trans (hb.mono HB1.out.size))
    have HS2 := Lib.hid hb.size
    have Kd_2 := Lib.hid (blk_below Kd_1.out hb)
    clear Kd_1
    have Rt := Lib.hid (h1.rng)
    have Ot_2 := Lib.hid h1
    clear hb h1
    go_wp2_with fail
    refine (specPackKeymap_law k _ L zr HZR.out _ HN.out HM.out Ot_2.out.rd).mono ?_
    rintro e w3 ⟨a4, c4, f4, rfl, h4, hb⟩
    have HB3 := Lib.hid (HB2.out.trans (hb.mono HB2.out.size))
    have HS3 := Lib.hid hb.size
    have Kd_3 := Lib.hid (blk_below Kd_2.out hb)
    have Ot_3 := Lib.hid (Ot_2.out.below hb)
    clear Kd_2 Ot_2
    have Rw := Lib.hid (h4.rng)
    have Ow_3 := Lib.hid h4
    clear hb h4
    have cd0 := (cells_of_heap Kd_3.out 0 (by simp)).1
    have cd1 := (cells_of_heap Kd_3.out 1 (by simp)).1
    go_wp2_with fail
    refine (toKeymap_any k _ L _ HL1.out HL2.out (HR.out.below HB3.out)).mono ?_
    rintro e w4 ⟨a2, c2, f2, rfl, h2, hb⟩
    clear cd0 cd1
    have HB4 := Lib.hid (HB3.out.trans (hb.mono HB3.out.size))
    have HS4 := Lib.hid hb.size
    have Kd_4 := Lib.hid (blk_below Kd_3.out hb)
    have Ot_4 := Lib.hid (Ot_3.out.below hb)
    have Ow_4 := Lib.hid (Ow_3.out.below hb)
    clear Kd_3 Ot_3 Ow_3
    have Rx := Lib.hid (h2.rng)
    have Ox_4 := Lib.hid h2
    clear hb h2
    go_upto_region 7 with (fail)
    obtain ⟨w5, hw⟩ : ∃ x, x = w4.alloc (.cells #[.int .i64 k, .slice a2 L.length c2] 26) := ⟨_, rfl⟩
    have hb : Below w4.heap.size w4 w5 := by rw [hw]; exact below_alloc1 _ _
    have hk : w5.heap[w4.heap.size]? = some (.cells #[.int .i64 k, .slice a2 L.length c2] 26 (0, 0)) := by rw [hw]; exact heap_alloc_new _ _
    rw [← hw]
    have HB5 := Lib.hid (HB4.out.trans (hb.mono HB4.out.size))
    have HS5 := Lib.hid (show w4.heap.size < w5.heap.size from (Array.getElem?_eq_some_iff.mp hk).1)
    have Kd_5 := Lib.hid (blk_below Kd_4.out hb)
    have Ot_5 := Lib.hid (Ot_4.out.below hb)
    have Ow_5 := Lib.hid (Ow_4.out.below hb)
    have Ox_5 := Lib.hid (Ox_4.out.below hb)
    clear Kd_4 Ot_4 Ow_4 Ox_4
    have Kx_5 := Lib.hid hk
    clear hb hk hw
    have cx0 := (cells_of_heap Kx_5.out 0 (by simp)).1
    have cx1 := (cells_of_heap Kx_5.out 1 (by simp)).1
    go_wp2_with fail
    refine (HI.out _ _ HB5.out Ox_5.out.rd).mono ?_
    rintro e w6 ⟨a5, c5, f5, rfl, h5, hb⟩
    clear cx0 cx1
    have HB6 := Lib.hid (HB5.out.trans (hb.mono HB5.out.size))
    have HS6 := Lib.hid hb.size
    have Kd_6 := Lib.hid (blk_below Kd_5.out hb)
    have Kx_6 := Lib.hid (blk_below Kx_5.out hb)
    have Ot_6 := Lib.hid (Ot_5.out.below hb)
    have Ow_6 := Lib.hid (Ow_5.out.below hb)
    have Ox_6 := Lib.hid (Ox_5.out.below hb)
    clear Kd_5 Kx_5 Ot_5 Ow_5 Ox_5
    have Rg := Lib.hid (h5.rng)
    have Og_6 := Lib.hid h5
    clear hb h5
    go_wp2_with fail
    refine (eqByteS_same _ _ zr _ HZ2.out Og_6.out.rd1 Ow_6.out.rd1).mono ?_
    rintro e w7 ⟨rfl, hb⟩
    have HB7 := Lib.hid (HB6.out.trans (hb.mono HB6.out.size))
    have HS7 := Lib.hid hb.size
    have Kd_7 := Lib.hid (blk_below Kd_6.out hb)
    have Kx_7 := Lib.hid (blk_below Kx_6.out hb)
    have Ot_7 := Lib.hid (Ot_6.out.below hb)
    have Ow_7 := Lib.hid (Ow_6.out.below hb)
    have Ox_7 := Lib.hid (Ox_6.out.below hb)
    have Og_7 := Lib.hid (Og_6.out.below hb)
    clear Kd_6 Kx_6 Ot_6 Ow_6 Ox_6 Og_6
    clear hb
    go_upto_region 10 with (fail)
    go_cut [31] (fun sd wx => sd = .bool false ∧ Below w7.heap.size w7 wx)
    case first =>
      have cd0 := (cells_of_heap Kd_7.out 0 (by simp)).1
      have cd1 := (cells_of_heap Kd_7.out 1 (by simp)).1
      have cx0 := (cells_of_heap Kx_7.out 0 (by simp)).1
      have cx1 := (cells_of_heap Kx_7.out 1 (by simp)).1
      have ld : w.heap.size < w7.heap.size := (Array.getElem?_eq_some_iff.mp Kd_7.out).1
      have lx : w4.heap.size < w7.heap.size := (Array.getElem?_eq_some_iff.mp Kx_7.out).1
      go_region_held3 (fun w' => w'.cell? ⟨w.heap.size, 0, none⟩ = some (.int .i64 k) ∧ w'.cell? ⟨w.heap.size, 1, none⟩ = some (.slice a L.length c) ∧ w'.cell? ⟨w4.heap.size, 0, none⟩ = some (.int .i64 k) ∧ w'.cell? ⟨w4.heap.size, 1, none⟩ = some (.slice a2 L.length c2)) (first | go_keep)
        (first | (go_at_call 19; refine (toKeymap_any k _ L _ HL1.out HL2.out (HR.out.below (by first | exact HB7.out | exact HB7.out.drew | exact HB7.out.drew.drew))).mono ?_; rintro e v1 ⟨a3, c3, f3, rfl, hy, hb1⟩; have hbr : Below w7.heap.size w7 v1 := (by first | exact hb1 | exact ((Below.refl _ _).drew).trans hb1 | exact ((Below.refl _ _).drew.drew).trans hb1); have kcd0 := (hbr.cell (p := ⟨w.heap.size, 0, none⟩) ld).trans cd0; have kcd1 := (hbr.cell (p := ⟨w.heap.size, 1, none⟩) ld).trans cd1; have kcx0 := (hbr.cell (p := ⟨w4.heap.size, 0, none⟩) lx).trans cx0; have kcx1 := (hbr.cell (p := ⟨w4.heap.size, 1, none⟩) lx).trans cx1; have HBR := Lib.hid hbr; have HY := Lib.hid hy; clear hbr hb1 hy) | (go_at_call 21; refine (eqKeymap_same k _ _ L _ HL4.out HL3.out (Ox_7.out.rd.below (by first | exact HBR.out | exact HBR.out.drew | exact HBR.out.drew.drew)) (HY.out.rd.below (by first | exact Below.refl _ _ | exact (Below.refl _ _).drew | exact (Below.refl _ _).drew.drew))).mono ?_; rintro e v2 ⟨rfl, hb2⟩; have hbr : Below w7.heap.size w7 v2 := (by first | exact HBR.out.trans (hb2.mono HBR.out.size) | exact HBR.out.trans (((Below.refl _ _).drew.trans hb2).mono HBR.out.size) | exact HBR.out.trans (((Below.refl _ _).drew.drew.trans hb2).mono HBR.out.size)); have kcd0 := (hbr.cell (p := ⟨w.heap.size, 0, none⟩) ld).trans cd0; have kcd1 := (hbr.cell (p := ⟨w.heap.size, 1, none⟩) ld).trans cd1; have kcx0 := (hbr.cell (p := ⟨w4.heap.size, 0, none⟩) lx).trans cx0; have kcx1 := (hbr.cell (p := ⟨w4.heap.size, 1, none⟩) lx).trans cx1; have HB2 := Lib.hid hbr; clear hbr hb2))
      all_goals
        go_wp2
        go_meet
        exact ⟨rfl, by first | exact HB2.out | exact HB2.out.drew⟩
    case rest =>
      obtain ⟨rfl, hb⟩ := hcut
      obtain ⟨w8, hw⟩ : ∃ x, x = wc := ⟨_, rfl⟩
      rw [← hw] at hb ⊢
      clear hw
      have HB8 := Lib.hid (HB7.out.trans (hb.mono HB7.out.size))
      have HS8 := Lib.hid hb.size
      have Kd_8 := Lib.hid (blk_below Kd_7.out hb)
      have Kx_8 := Lib.hid (blk_below Kx_7.out hb)
      have Ot_8 := Lib.hid (Ot_7.out.below hb)
      have Ow_8 := Lib.hid (Ow_7.out.below hb)
      have Ox_8 := Lib.hid (Ox_7.out.below hb)
      have Og_8 := Lib.hid (Og_7.out.below hb)
      clear Kd_7 Kx_7 Ot_7 Ow_7 Ox_7 Og_7
      clear hb
      have cx0 := (cells_of_heap Kx_8.out 0 (by simp)).1
      have cx1 := (cells_of_heap Kx_8.out 1 (by simp)).1
      go_wp2_with fail
      refine (markKeymap_q _ k _ L _ 1 qx HQX.out _ HL1.out HL5.out (by decide) (by decide) Ox_8.out).mono ?_
      rintro e w9 ⟨rfl, ho, ht⟩
      clear cx0 cx1
      have HB9 := Lib.hid (HB8.out.trans (ht.below (fun b hb => by have := Rx.out b hb; have := HB3.out.size; omega) HB8.out.size))
      have HS9 := Lib.hid ht.size
      have Kd_9 := Lib.hid (blk_turn Kd_8.out ht (fun hm => by have := Rx.out _ hm; have := HS1.out; have := HS2.out; have := HS3.out; have := SZ0.out; omega))
      have Kx_9 := Lib.hid (blk_turn Kx_8.out ht (fun hm => by have := Rx.out _ hm; have := SZ0.out; omega))
      have Ot_9 := Lib.hid (Ot_8.out.turn ht (fun b hb hb' => by have := Rx.out b hb'; have := Rt.out b hb; have := HS3.out; have := SZ0.out; omega))
      have Ow_9 := Lib.hid (Ow_8.out.turn ht (fun b hb hb' => by have := Rx.out b hb'; have := Rw.out b hb; have := SZ0.out; omega))
      have Og_9 := Lib.hid (Og_8.out.turn ht (fun b hb hb' => by have := Rx.out b hb'; have := Rg.out b hb; have := HS5.out; have := SZ0.out; omega))
      have Ox_9 := Lib.hid ho
      clear ho ht Kd_8 Kx_8 Ot_8 Ow_8 Ox_8 Og_8
      go_wp2_with fail
      refine (eqByteS_same _ _ zr _ HZ2.out Og_9.out.rd1 Ow_9.out.rd1).mono ?_
      rintro e w10 ⟨rfl, hb⟩
      have HB10 := Lib.hid (HB9.out.trans (hb.mono HB9.out.size))
      have HS10 := Lib.hid hb.size
      have Kd_10 := Lib.hid (blk_below Kd_9.out hb)
      have Kx_10 := Lib.hid (blk_below Kx_9.out hb)
      have Ot_10 := Lib.hid (Ot_9.out.below hb)
      have Ow_10 := Lib.hid (Ow_9.out.below hb)
      have Ox_10 := Lib.hid (Ox_9.out.below hb)
      have Og_10 := Lib.hid (Og_9.out.below hb)
      clear Kd_9 Kx_9 Ot_9 Ow_9 Ox_9 Og_9
      clear hb
      go_wp2_with fail
      refine (markByteS_law _ _ zr _ 1 qr HQR.out _ HZ1.out (by decide) (by decide) Og_10.out).mono ?_
      rintro e w11 ⟨rfl, ho, ht⟩
      have HB11 := Lib.hid (HB10.out.trans (ht.below (fun b hb => by have := Rg.out b hb; have := HB5.out.size; omega) HB10.out.size))
      have HS11 := Lib.hid ht.size
      have Kd_11 := Lib.hid (blk_turn Kd_10.out ht (fun hm => by have := Rg.out _ hm; have := HS1.out; have := HS2.out; have := HS3.out; have := HS4.out; have := HS5.out; have := SZ0.out; omega))
      have Kx_11 := Lib.hid (blk_turn Kx_10.out ht (fun hm => by have := Rg.out _ hm; have := HS5.out; have := SZ0.out; omega))
      have Ot_11 := Lib.hid (Ot_10.out.turn ht (fun b hb hb' => by have := Rg.out b hb'; have := Rt.out b hb; have := HS3.out; have := HS4.out; have := HS5.out; have := SZ0.out; omega))
      have Ow_11 := Lib.hid (Ow_10.out.turn ht (fun b hb hb' => by have := Rg.out b hb'; have := Rw.out b hb; have := HS4.out; have := HS5.out; have := SZ0.out; omega))
      have Ox_11 := Lib.hid (Ox_10.out.turn ht (fun b hb hb' => by have := Rg.out b hb'; have := Rx.out b hb; have := HS5.out; have := SZ0.out; omega))
      have Og_11 := Lib.hid ho
      clear ho ht Kd_10 Kx_10 Ot_10 Ow_10 Ox_10 Og_10
      go_wp2_with fail
      refine (heldByteS_law _ _ zr.length _ 1 qr HQR.out _ HZ1.out (by decide) (by decide) Og_11.out).mono ?_
      rintro e w12 ⟨rfl, hb⟩
      have HB12 := Lib.hid (HB11.out.trans (hb.mono HB11.out.size))
      have HS12 := Lib.hid hb.size
      have Kd_12 := Lib.hid (blk_below Kd_11.out hb)
      have Kx_12 := Lib.hid (blk_below Kx_11.out hb)
      have Ot_12 := Lib.hid (Ot_11.out.below hb)
      have Ow_12 := Lib.hid (Ow_11.out.below hb)
      have Ox_12 := Lib.hid (Ox_11.out.below hb)
      have Og_12 := Lib.hid (Og_11.out.below hb)
      clear Kd_11 Kx_11 Ot_11 Ow_11 Ox_11 Og_11
      clear hb
      have cd0 := (cells_of_heap Kd_12.out 0 (by simp)).1
      have cd1 := (cells_of_heap Kd_12.out 1 (by simp)).1
      go_wp2_with fail
      refine (toKeymap_any k _ L _ HL1.out HL2.out (HR.out.below HB12.out)).mono ?_
      rintro e w13 ⟨a6, c6, f6, rfl, h6, hb⟩
      clear cd0 cd1
      have HB13 := Lib.hid (HB12.out.trans (hb.mono HB12.out.size))
      have HS13 := Lib.hid hb.size
      have Kd_13 := Lib.hid (blk_below Kd_12.out hb)
      have Kx_13 := Lib.hid (blk_below Kx_12.out hb)
      have Ot_13 := Lib.hid (Ot_12.out.below hb)
      have Ow_13 := Lib.hid (Ow_12.out.below hb)
      have Ox_13 := Lib.hid (Ox_12.out.below hb)
      have Og_13 := Lib.hid (Og_12.out.below hb)
      clear Kd_12 Kx_12 Ot_12 Ow_12 Ox_12 Og_12
      have Ru := Lib.hid (h6.rng)
      have Ou_13 := Lib.hid h6
      clear hb h6
      go_wp2_with fail
      refine (HI.out _ _ HB13.out Ou_13.out.rd).mono ?_
      rintro e w14 ⟨a7, c7, f7, rfl, h7, hb⟩
      have HB14 := Lib.hid (HB13.out.trans (hb.mono HB13.out.size))
      have HS14 := Lib.hid hb.size
      have Kd_14 := Lib.hid (blk_below Kd_13.out hb)
      have Kx_14 := Lib.hid (blk_below Kx_13.out hb)
      have Ot_14 := Lib.hid (Ot_13.out.below hb)
      have Ow_14 := Lib.hid (Ow_13.out.below hb)
      have Ox_14 := Lib.hid (Ox_13.out.below hb)
      have Og_14 := Lib.hid (Og_13.out.below hb)
      have Ou_14 := Lib.hid (Ou_13.out.below hb)
      clear Kd_13 Kx_13 Ot_13 Ow_13 Ox_13 Og_13 Ou_13
      have Rh := Lib.hid (h7.rng)
      have Oh_14 := Lib.hid h7
      clear hb h7
      go_wp2_with fail
      refine (eqByteS_same _ _ zr _ HZ2.out Oh_14.out.rd1 Ow_14.out.rd1).mono ?_
      rintro e w15 ⟨rfl, hb⟩
      have HB15 := Lib.hid (HB14.out.trans (hb.mono HB14.out.size))
      have HS15 := Lib.hid hb.size
      have Kd_15 := Lib.hid (blk_below Kd_14.out hb)
      have Kx_15 := Lib.hid (blk_below Kx_14.out hb)
      have Ot_15 := Lib.hid (Ot_14.out.below hb)
      have Ow_15 := Lib.hid (Ow_14.out.below hb)
      have Ox_15 := Lib.hid (Ox_14.out.below hb)
      have Og_15 := Lib.hid (Og_14.out.below hb)
      have Ou_15 := Lib.hid (Ou_14.out.below hb)
      have Oh_15 := Lib.hid (Oh_14.out.below hb)
      clear Kd_14 Kx_14 Ot_14 Ow_14 Ox_14 Og_14 Ou_14 Oh_14
      clear hb
      go_wp2_with fail
      refine (heldByteS_law _ _ zr.length _ 1 qr HQR.out _ HZ1.out (by decide) (by decide) Og_15.out).mono ?_
      rintro e w16 ⟨rfl, hb⟩
      have HB16 := Lib.hid (HB15.out.trans (hb.mono HB15.out.size))
      have HS16 := Lib.hid hb.size
      have Kd_16 := Lib.hid (blk_below Kd_15.out hb)
      have Kx_16 := Lib.hid (blk_below Kx_15.out hb)
      have Ot_16 := Lib.hid (Ot_15.out.below hb)
      have Ow_16 := Lib.hid (Ow_15.out.below hb)
      have Ox_16 := Lib.hid (Ox_15.out.below hb)
      have Og_16 := Lib.hid (Og_15.out.below hb)
      have Ou_16 := Lib.hid (Ou_15.out.below hb)
      have Oh_16 := Lib.hid (Oh_15.out.below hb)
      clear Kd_15 Kx_15 Ot_15 Ow_15 Ox_15 Og_15 Ou_15 Oh_15
      clear hb
      go_wp2
      go_ret
      exact ⟨rfl, HB16.out⟩
  · have hs1 : s = -1 := by rw [hs, if_neg hl]
    have hs0 : s < 0 := by omega
    clear hs hl hs1
    obtain ⟨w0, hw0⟩ : ∃ x, x = (w.alloc (.cells #[.int .i64 k, .slice a L.length c] 36)) := ⟨_, rfl⟩
    have HB0 := Lib.hid (show Below w.heap.size w w0 by rw [hw0]; exact (Below.refl _ _).alloc (Nat.le_refl _) _)
    have Kd_0 := Lib.hid (show w0.heap[w.heap.size]? = some (.cells #[.int .i64 k, .slice a L.length c] 36 (0, 0)) by rw [hw0]; exact heap_alloc_new w _)
    have SZ0 := Lib.hid (show w0.heap.size = w.heap.size + 1 by rw [hw0]; simp)
    have HW := Lib.hid hw0
    clear hw0
    go_enter Try.func10, Try.ntmps10
    have cd0 := (cells_of_heap Kd_0.out 0 (by simp)).1
    have cd1 := (cells_of_heap Kd_0.out 1 (by simp)).1
    go_wp2_with fail
    rw [← HW.out]
    refine (szKeymap_any k _ L _ HN.out HM.out (HR.out.below HB0.out)).mono ?_
    rw [← HSZ.out]
    rintro e w1 ⟨rfl, hb⟩
    clear cd0 cd1
    have HB1 := Lib.hid (HB0.out.trans (hb.mono HB0.out.size))
    have HS1 := Lib.hid hb.size
    have Kd_1 := Lib.hid (blk_below Kd_0.out hb)
    clear Kd_0
    clear hb
    go_wp2
    go_ret
    exact ⟨rfl, HB1.out⟩

set_option maxHeartbeats 1000000 in
set_option maxRecDepth 100000 in
theorem lawUnpackKeymap_walk (a : Option Addr) (n cap : Nat) (zs : List Int) (w : World) (hn : zs.length = n) (hm : n ≤ maxLen) (hz : ∀ z ∈ zs, 0 ≤ z ∧ z < 256) (h : Rd w (.slice a n cap) (zs.map (.int .u8))) (hI : ∀ (w' : World) (a' : Option Addr) (c' : Nat), Below w.heap.size w w' → zs.length ≤ c' → Rd w' (.slice a' zs.length c') (zs.map (.int .u8)) → Calls Try.prog 41 #[.slice a' zs.length c'] w' (KmOut (unK zs) w')) : Calls Try.prog 11 #[.slice a n cap] w fun e w' => e = .returned (.bool true) ∧ Below w.heap.size w w' := by
  subst hn
  have HR := Lib.hid h
  have HI := Lib.hid hI
  have HZB := Lib.hid hz
  have HM := Lib.hid hm
  clear h hI hz hm
  by_cases hl : zs.length ≤ 1048576
  · have hl2 : ¬ (1048576 : Int) < (zs.length : Int) := by omega
    have HL := Lib.hid hl
    have HZ2 := Lib.hid (show zs.length ≤ 1000000000000 by omega)
    clear hl
    have hlen := unK_len zs
    obtain ⟨⟨rk, rl, rb⟩, hR⟩ : ∃ x, unK zs = x := ⟨_, rfl⟩
    have hI := HI.out
    rw [hR] at hlen hI
    clear HI
    have HI := Lib.hid hI
    obtain ⟨hrl1, hrl2⟩ := hlen
    replace hrl1 : rl.length ≤ 4 := hrl1
    replace hrl2 : ∀ l ∈ rl, l.length ≤ 32 := hrl2
    have hrl3 := lenS_le hrl2 rl.length
    have HE1 := Lib.hid (show rl.length ≤ 1048576 by omega)
    have HE2 := Lib.hid (show lenS rl rl.length ≤ 1048576 by omega)
    have HE3 := Lib.hid (show rl.length ≤ 1000000000000 by omega)
    have HE4 := Lib.hid (show ∀ l ∈ rl, l.length ≤ 1000000000000 from fun l hm => Nat.le_trans (hrl2 l hm) (by decide))
    have HRR := Lib.hid hR
    clear hI hR hrl1 hrl2 hrl3
    obtain ⟨qx, hqx⟩ : ∃ q : Int, q = 1 + (zs.length : Int) := ⟨_, rfl⟩
    obtain ⟨qr, hqr⟩ : ∃ q : Int, q = 1 + ((lenS rl rl.length * 4 : Nat) : Int) := ⟨_, rfl⟩
    have hqx0 : ¬ qx < 0 := by omega
    have hqr0 : ¬ qr < 0 := by omega
    have HQX := Lib.hid hqx
    have HQR := Lib.hid hqr
    clear hqx hqr
    have HB0 := Lib.hid (Below.refl w.heap.size w)
    go_enter Try.func11, Try.ntmps11
    go_wp2_with fail
    refine (toByteS_law _ zs _ HL.out (HR.out.below HB0.out)).mono ?_
    rintro e w1 ⟨a1, c1, f1, rfl, h1, hb⟩
    have HB1 := Lib.hid (HB0.out.trans (hb.mono HB0.out.size))
    have HS1 := Lib.hid hb.size
    have Rt := Lib.hid (h1.rng)
    have Ot_1 := Lib.hid h1
    clear hb h1
    go_wp2_with fail
    refine (specUnpackKeymap_law _ zs _ rk rl rb HRR.out _ HM.out (owF_cap Ot_1.out) HZB.out Ot_1.out.rd1).mono ?_
    rintro e w2 ⟨a2, c2, f2, rfl, h2, hb⟩
    have HB2 := Lib.hid (HB1.out.trans (hb.mono HB1.out.size))
    have HS2 := Lib.hid hb.size
    have Ot_2 := Lib.hid (Ot_1.out.below hb)
    clear Ot_1
    have Rw := Lib.hid (h2.rng)
    have Ow_2 := Lib.hid h2
    clear hb h2
    go_upto_region 4 with (fail)
    obtain ⟨w3, hw⟩ : ∃ x, x = w2.alloc (.cells #[.int .i64 rk, .slice a2 rl.length c2] 26) := ⟨_, rfl⟩
    have hb : Below w2.heap.size w2 w3 := by rw [hw]; exact below_alloc1 _ _
    have hk : w3.heap[w2.heap.size]? = some (.cells #[.int .i64 rk, .slice a2 rl.length c2] 26 (0, 0)) := by rw [hw]; exact heap_alloc_new _ _
    rw [← hw]
    have HB3 := Lib.hid (HB2.out.trans (hb.mono HB2.out.size))
    have HS3 := Lib.hid (show w2.heap.size < w3.heap.size from (Array.getElem?_eq_some_iff.mp hk).1)
    have Ot_3 := Lib.hid (Ot_2.out.below hb)
    have Ow_3 := Lib.hid (Ow_2.out.below hb)
    clear Ot_2 Ow_2
    have Kw_3 := Lib.hid hk
    clear hb hk hw
    go_wp2_with fail
    refine (toByteS_law _ zs _ HL.out (HR.out.below HB3.out)).mono ?_
    rintro e w4 ⟨a3, c3, f3, rfl, h3, hb⟩
    have HB4 := Lib.hid (HB3.out.trans (hb.mono HB3.out.size))
    have HS4 := Lib.hid hb.size
    have Kw_4 := Lib.hid (blk_below Kw_3.out hb)
    have Ot_4 := Lib.hid (Ot_3.out.below hb)
    have Ow_4 := Lib.hid (Ow_3.out.below hb)
    clear Kw_3 Ot_3 Ow_3
    have Rx := Lib.hid (h3.rng)
    have Ox_4 := Lib.hid h3
    clear hb h3
    go_wp2_with fail
    refine (HI.out _ _ _ HB4.out (owF_cap Ox_4.out) Ox_4.out.rd1).mono ?_
    rintro e w5 ⟨a4, c4, f4, rfl, h4, hb⟩
    have HB5 := Lib.hid (HB4.out.trans (hb.mono HB4.out.size))
    have HS5 := Lib.hid hb.size
    have Kw_5 := Lib.hid (blk_below Kw_4.out hb)
    have Ot_5 := Lib.hid (Ot_4.out.below hb)
    have Ow_5 := Lib.hid (Ow_4.out.below hb)
    have Ox_5 := Lib.hid (Ox_4.out.below hb)
    clear Kw_4 Ot_4 Ow_4 Ox_4
    have Rg := Lib.hid (h4.rng)
    have Og_5 := Lib.hid h4
    clear hb h4
    go_upto_region 6 with (fail)
    obtain ⟨w6, hw⟩ : ∃ x, x = w5.alloc (.cells #[.int .i64 rk, .slice a4 rl.length c4] 26) := ⟨_, rfl⟩
    have hb : Below w5.heap.size w5 w6 := by rw [hw]; exact below_alloc1 _ _
    have hk : w6.heap[w5.heap.size]? = some (.cells #[.int .i64 rk, .slice a4 rl.length c4] 26 (0, 0)) := by rw [hw]; exact heap_alloc_new _ _
    rw [← hw]
    have HB6 := Lib.hid (HB5.out.trans (hb.mono HB5.out.size))
    have HS6 := Lib.hid (show w5.heap.size < w6.heap.size from (Array.getElem?_eq_some_iff.mp hk).1)
    have Kw_6 := Lib.hid (blk_below Kw_5.out hb)
    have Ot_6 := Lib.hid (Ot_5.out.below hb)
    have Ow_6 := Lib.hid (Ow_5.out.below hb)
    have Ox_6 := Lib.hid (Ox_5.out.below hb)
    have Og_6 := Lib.hid (Og_5.out.below hb)
    clear Kw_5 Ot_5 Ow_5 Ox_5 Og_5
    have Kg_6 := Lib.hid hk
    clear hb hk hw
    have cg0 := (cells_of_heap Kg_6.out 0 (by simp)).1
    have cg1 := (cells_of_heap Kg_6.out 1 (by simp)).1
    have cw0 := (cells_of_heap Kw_6.out 0 (by simp)).1
    have cw1 := (cells_of_heap Kw_6.out 1 (by simp)).1
    go_wp2_with fail
    refine (eqKeymap_same rk _ _ rl _ HE3.out HE4.out Og_6.out.rd Ow_6.out.rd).mono ?_
    rintro e w7 ⟨rfl, hb⟩
    clear cg0 cg1 cw0 cw1
    have HB7 := Lib.hid (HB6.out.trans (hb.mono HB6.out.size))
    have HS7 := Lib.hid hb.size
    have Kw_7 := Lib.hid (blk_below Kw_6.out hb)
    have Kg_7 := Lib.hid (blk_below Kg_6.out hb)
    have Ot_7 := Lib.hid (Ot_6.out.below hb)
    have Ow_7 := Lib.hid (Ow_6.out.below hb)
    have Ox_7 := Lib.hid (Ox_6.out.below hb)
    have Og_7 := Lib.hid (Og_6.out.below hb)
    clear Kw_6 Kg_6 Ot_6 Ow_6 Ox_6 Og_6
    clear hb
    go_wp2_with fail
    refine (toByteS_law _ zs _ HL.out (HR.out.below HB7.out)).mono ?_
    rintro e w8 ⟨a5, c5, f5, rfl, h5, hb⟩
    have HB8 := Lib.hid (HB7.out.trans (hb.mono HB7.out.size))
    have HS8 := Lib.hid hb.size
    have Kw_8 := Lib.hid (blk_below Kw_7.out hb)
    have Kg_8 := Lib.hid (blk_below Kg_7.out hb)
    have Ot_8 := Lib.hid (Ot_7.out.below hb)
    have Ow_8 := Lib.hid (Ow_7.out.below hb)
    have Ox_8 := Lib.hid (Ox_7.out.below hb)
    have Og_8 := Lib.hid (Og_7.out.below hb)
    clear Kw_7 Kg_7 Ot_7 Ow_7 Ox_7 Og_7
    have Ry := Lib.hid (h5.rng)
    have Oy_8 := Lib.hid h5
    clear hb h5
    go_wp2_with fail
    refine (eqByteS_same _ _ zs _ HZ2.out Ox_8.out.rd1 Oy_8.out.rd1).mono ?_
    rintro e w9 ⟨rfl, hb⟩
    have HB9 := Lib.hid (HB8.out.trans (hb.mono HB8.out.size))
    have HS9 := Lib.hid hb.size
    have Kw_9 := Lib.hid (blk_below Kw_8.out hb)
    have Kg_9 := Lib.hid (blk_below Kg_8.out hb)
    have Ot_9 := Lib.hid (Ot_8.out.below hb)
    have Ow_9 := Lib.hid (Ow_8.out.below hb)
    have Ox_9 := Lib.hid (Ox_8.out.below hb)
    have Og_9 := Lib.hid (Og_8.out.below hb)
    have Oy_9 := Lib.hid (Oy_8.out.below hb)
    clear Kw_8 Kg_8 Ot_8 Ow_8 Ox_8 Og_8 Oy_8
    clear hb
    go_wp2_with fail
    refine (markByteS_law _ _ zs _ 1 qx HQX.out _ HL.out (by decide) (by decide) Ox_9.out).mono ?_
    rintro e w10 ⟨rfl, ho, ht⟩
    have HB10 := Lib.hid (HB9.out.trans (ht.below (fun b hb => by have := Rx.out b hb; have := HB3.out.size; omega) HB9.out.size))
    have HS10 := Lib.hid ht.size
    have Kw_10 := Lib.hid (blk_turn Kw_9.out ht (fun hm => by have := Rx.out _ hm; have := HS3.out; omega))
    have Kg_10 := Lib.hid (blk_turn Kg_9.out ht (fun hm => by have := Rx.out _ hm; have := HS5.out; omega))
    have Ot_10 := Lib.hid (Ot_9.out.turn ht (fun b hb hb' => by have := Rx.out b hb'; have := Rt.out b hb; have := HS2.out; have := HS3.out; omega))
    have Ow_10 := Lib.hid (Ow_9.out.turn ht (fun b hb hb' => by have := Rx.out b hb'; have := Rw.out b hb; have := HS3.out; omega))
    have Og_10 := Lib.hid (Og_9.out.turn ht (fun b hb hb' => by have := Rx.out b hb'; have := Rg.out b hb; omega))
    have Oy_10 := Lib.hid (Oy_9.out.turn ht (fun b hb hb' => by have := Rx.out b hb'; have := Ry.out b hb; have := HS5.out; have := HS6.out; have := HS7.out; omega))
    have Ox_10 := Lib.hid ho
    clear ho ht Kw_9 Kg_9 Ot_9 Ow_9 Ox_9 Og_9 Oy_9
    have cg0 := (cells_of_heap Kg_10.out 0 (by simp)).1
    have cg1 := (cells_of_heap Kg_10.out 1 (by simp)).1
    have cw0 := (cells_of_heap Kw_10.out 0 (by simp)).1
    have cw1 := (cells_of_heap Kw_10.out 1 (by simp)).1
    go_wp2_with fail
    refine (eqKeymap_same rk _ _ rl _ HE3.out HE4.out Og_10.out.rd Ow_10.out.rd).mono ?_
    rintro e w11 ⟨rfl, hb⟩
    clear cg0 cg1 cw0 cw1
    have HB11 := Lib.hid (HB10.out.trans (hb.mono HB10.out.size))
    have HS11 := Lib.hid hb.size
    have Kw_11 := Lib.hid (blk_below Kw_10.out hb)
    have Kg_11 := Lib.hid (blk_below Kg_10.out hb)
    have Ot_11 := Lib.hid (Ot_10.out.below hb)
    have Ow_11 := Lib.hid (Ow_10.out.below hb)
    have Ox_11 := Lib.hid (Ox_10.out.below hb)
    have Og_11 := Lib.hid (Og_10.out.below hb)
    have Oy_11 := Lib.hid (Oy_10.out.below hb)
    clear Kw_10 Kg_10 Ot_10 Ow_10 Ox_10 Og_10 Oy_10
    clear hb
    have cg0 := (cells_of_heap Kg_11.out 0 (by simp)).1
    have cg1 := (cells_of_heap Kg_11.out 1 (by simp)).1
    go_wp2_with fail
    refine (markKeymap_q _ rk _ rl _ 1 qr HQR.out _ HE1.out HE2.out (by decide) (by decide) Og_11.out).mono ?_
    rintro e w12 ⟨rfl, ho, ht⟩
    clear cg0 cg1
    have HB12 := Lib.hid (HB11.out.trans (ht.below (fun b hb => by have := Rg.out b hb; have := HB4.out.size; omega) HB11.out.size))
    have HS12 := Lib.hid ht.size
    have Kw_12 := Lib.hid (blk_turn Kw_11.out ht (fun hm => by have := Rg.out _ hm; have := HS3.out; have := HS4.out; omega))
    have Kg_12 := Lib.hid (blk_turn Kg_11.out ht (fun hm => by have := Rg.out _ hm; omega))
    have Ot_12 := Lib.hid (Ot_11.out.turn ht (fun b hb hb' => by have := Rg.out b hb'; have := Rt.out b hb; have := HS2.out; have := HS3.out; have := HS4.out; omega))
    have Ow_12 := Lib.hid (Ow_11.out.turn ht (fun b hb hb' => by have := Rg.out b hb'; have := Rw.out b hb; have := HS3.out; have := HS4.out; omega))
    have Ox_12 := Lib.hid (Ox_11.out.turn ht (fun b hb hb' => by have := Rg.out b hb'; have := Rx.out b hb; omega))
    have Oy_12 := Lib.hid (Oy_11.out.turn ht (fun b hb hb' => by have := Rg.out b hb'; have := Ry.out b hb; have := HS6.out; have := HS7.out; omega))
    have Og_12 := Lib.hid ho
    clear ho ht Kw_11 Kg_11 Ot_11 Ow_11 Ox_11 Og_11 Oy_11
    have cg0 := (cells_of_heap Kg_12.out 0 (by simp)).1
    have cg1 := (cells_of_heap Kg_12.out 1 (by simp)).1
    go_wp2_with fail
    refine (heldKeymap_q rk _ rl 1 qr HQR.out _ HE1.out HE2.out (by decide) (by decide) Og_12.out.rd).mono ?_
    rintro e w13 ⟨rfl, hb⟩
    clear cg0 cg1
    have HB13 := Lib.hid (HB12.out.trans (hb.mono HB12.out.size))
    have HS13 := Lib.hid hb.size
    have Kw_13 := Lib.hid (blk_below Kw_12.out hb)
    have Kg_13 := Lib.hid (blk_below Kg_12.out hb)
    have Ot_13 := Lib.hid (Ot_12.out.below hb)
    have Ow_13 := Lib.hid (Ow_12.out.below hb)
    have Ox_13 := Lib.hid (Ox_12.out.below hb)
    have Og_13 := Lib.hid (Og_12.out.below hb)
    have Oy_13 := Lib.hid (Oy_12.out.below hb)
    clear Kw_12 Kg_12 Ot_12 Ow_12 Ox_12 Og_12 Oy_12
    clear hb
    go_wp2_with fail
    refine (toByteS_law _ zs _ HL.out (HR.out.below HB13.out)).mono ?_
    rintro e w14 ⟨a6, c6, f6, rfl, h6, hb⟩
    have HB14 := Lib.hid (HB13.out.trans (hb.mono HB13.out.size))
    have HS14 := Lib.hid hb.size
    have Kw_14 := Lib.hid (blk_below Kw_13.out hb)
    have Kg_14 := Lib.hid (blk_below Kg_13.out hb)
    have Ot_14 := Lib.hid (Ot_13.out.below hb)
    have Ow_14 := Lib.hid (Ow_13.out.below hb)
    have Ox_14 := Lib.hid (Ox_13.out.below hb)
    have Og_14 := Lib.hid (Og_13.out.below hb)
    have Oy_14 := Lib.hid (Oy_13.out.below hb)
    clear Kw_13 Kg_13 Ot_13 Ow_13 Ox_13 Og_13 Oy_13
    have Ru := Lib.hid (h6.rng)
    have Ou_14 := Lib.hid h6
    clear hb h6
    go_wp2_with fail
    refine (HI.out _ _ _ HB14.out (owF_cap Ou_14.out) Ou_14.out.rd1).mono ?_
    rintro e w15 ⟨a7, c7, f7, rfl, h7, hb⟩
    have HB15 := Lib.hid (HB14.out.trans (hb.mono HB14.out.size))
    have HS15 := Lib.hid hb.size
    have Kw_15 := Lib.hid (blk_below Kw_14.out hb)
    have Kg_15 := Lib.hid (blk_below Kg_14.out hb)
    have Ot_15 := Lib.hid (Ot_14.out.below hb)
    have Ow_15 := Lib.hid (Ow_14.out.below hb)
    have Ox_15 := Lib.hid (Ox_14.out.below hb)
    have Og_15 := Lib.hid (Og_14.out.below hb)
    have Oy_15 := Lib.hid (Oy_14.out.below hb)
    have Ou_15 := Lib.hid (Ou_14.out.below hb)
    clear Kw_14 Kg_14 Ot_14 Ow_14 Ox_14 Og_14 Oy_14 Ou_14
    have Rh := Lib.hid (h7.rng)
    have Oh_15 := Lib.hid h7
    clear hb h7
    go_upto_region 23 with (fail)
    obtain ⟨w16, hw⟩ : ∃ x, x = w15.alloc (.cells #[.int .i64 rk, .slice a7 rl.length c7] 26) := ⟨_, rfl⟩
    have hb : Below w15.heap.size w15 w16 := by rw [hw]; exact below_alloc1 _ _
    have hk : w16.heap[w15.heap.size]? = some (.cells #[.int .i64 rk, .slice a7 rl.length c7] 26 (0, 0)) := by rw [hw]; exact heap_alloc_new _ _
    rw [← hw]
    have HB16 := Lib.hid (HB15.out.trans (hb.mono HB15.out.size))
    have HS16 := Lib.hid (show w15.heap.size < w16.heap.size from (Array.getElem?_eq_some_iff.mp hk).1)
    have Kw_16 := Lib.hid (blk_below Kw_15.out hb)
    have Kg_16 := Lib.hid (blk_below Kg_15.out hb)
    have Ot_16 := Lib.hid (Ot_15.out.below hb)
    have Ow_16 := Lib.hid (Ow_15.out.below hb)
    have Ox_16 := Lib.hid (Ox_15.out.below hb)
    have Og_16 := Lib.hid (Og_15.out.below hb)
    have Oy_16 := Lib.hid (Oy_15.out.below hb)
    have Ou_16 := Lib.hid (Ou_15.out.below hb)
    have Oh_16 := Lib.hid (Oh_15.out.below hb)
    clear Kw_15 Kg_15 Ot_15 Ow_15 Ox_15 Og_15 Oy_15 Ou_15 Oh_15
    have Kh_16 := Lib.hid hk
    clear hb hk hw
    have ch0 := (cells_of_heap Kh_16.out 0 (by simp)).1
    have ch1 := (cells_of_heap Kh_16.out 1 (by simp)).1
    have cw0 := (cells_of_heap Kw_16.out 0 (by simp)).1
    have cw1 := (cells_of_heap Kw_16.out 1 (by simp)).1
    go_wp2_with fail
    refine (eqKeymap_same rk _ _ rl _ HE3.out HE4.out Oh_16.out.rd Ow_16.out.rd).mono ?_
    rintro e w17 ⟨rfl, hb⟩
    clear ch0 ch1 cw0 cw1
    have HB17 := Lib.hid (HB16.out.trans (hb.mono HB16.out.size))
    have HS17 := Lib.hid hb.size
    have Kw_17 := Lib.hid (blk_below Kw_16.out hb)
    have Kg_17 := Lib.hid (blk_below Kg_16.out hb)
    have Kh_17 := Lib.hid (blk_below Kh_16.out hb)
    have Ot_17 := Lib.hid (Ot_16.out.below hb)
    have Ow_17 := Lib.hid (Ow_16.out.below hb)
    have Ox_17 := Lib.hid (Ox_16.out.below hb)
    have Og_17 := Lib.hid (Og_16.out.below hb)
    have Oy_17 := Lib.hid (Oy_16.out.below hb)
    have Ou_17 := Lib.hid (Ou_16.out.below hb)
    have Oh_17 := Lib.hid (Oh_16.out.below hb)
    clear Kw_16 Kg_16 Kh_16 Ot_16 Ow_16 Ox_16 Og_16 Oy_16 Ou_16 Oh_16
    clear hb
    have cg0 := (cells_of_heap Kg_17.out 0 (by simp)).1
    have cg1 := (cells_of_heap Kg_17.out 1 (by simp)).1
    go_wp2_with fail
    refine (heldKeymap_q rk _ rl 1 qr HQR.out _ HE1.out HE2.out (by decide) (by decide) Og_17.out.rd).mono ?_
    rintro e w18 ⟨rfl, hb⟩
    clear cg0 cg1
    have HB18 := Lib.hid (HB17.out.trans (hb.mono HB17.out.size))
    have HS18 := Lib.hid hb.size
    have Kw_18 := Lib.hid (blk_below Kw_17.out hb)
    have Kg_18 := Lib.hid (blk_below Kg_17.out hb)
    have Kh_18 := Lib.hid (blk_below Kh_17.out hb)
    have Ot_18 := Lib.hid (Ot_17.out.below hb)
    have Ow_18 := Lib.hid (Ow_17.out.below hb)
    have Ox_18 := Lib.hid (Ox_17.out.below hb)
    have Og_18 := Lib.hid (Og_17.out.below hb)
    have Oy_18 := Lib.hid (Oy_17.out.below hb)
    have Ou_18 := Lib.hid (Ou_17.out.below hb)
    have Oh_18 := Lib.hid (Oh_17.out.below hb)
    clear Kw_17 Kg_17 Kh_17 Ot_17 Ow_17 Ox_17 Og_17 Oy_17 Ou_17 Oh_17
    clear hb
    go_wp2
    go_ret
    exact ⟨rfl, HB18.out⟩
  · have hl' : (1048576 : Int) < (zs.length : Int) := by omega
    clear hl
    go_enter Try.func11, Try.ntmps11
    go_wp2
    go_ret
    exact ⟨rfl, Below.refl _ _⟩

end Go.Proofs.Ytleheibpgngmiaa
