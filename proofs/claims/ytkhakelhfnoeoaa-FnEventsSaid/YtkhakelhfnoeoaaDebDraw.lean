/- DERIVED. What the reference draws of chapter 3 by its cursor: samples, a new debouncer with samples. -/
import Derived.Test.YtkhakelhfnoeoaaDebNew
import Derived.Test.YtkhakelhfnoeoaaDraw
import Derived.Deep.DeepCutAuto
namespace Go.Proofs.Ytkhakelhfnoeoaa
open Go.RowKit

set_option maxHeartbeats 2000000 in
set_option maxRecDepth 100000 in
theorem l3Samples_draw {B b n : Nat} {v : Value} {zs : List Int} {w : World} (N M : Nat) (h : Draws B b v n zs w) (h1 : 1 ≤ N) (h24 : N ≤ 24) (hM : M ≤ 200) :
    Calls Try.prog 39 #[.pointer (some ⟨b, 0, none⟩), .int .i64 N, .int .i64 M] w fun e w' => ∃ (u : Value) (ys : List Int), e = .returned u ∧ ys.length ≤ M ∧ (∀ y ∈ ys, 0 ≤ y ∧ y < 2 ^ N) ∧ w'.ownsRow w.heap.size 3 1 u ys.length (ys.map (.int .i64)) ∧ Draws B b v n zs w' ∧ w.grownBy w' (some b) := by
  obtain ⟨i0, hi, hy0, hy1, hy2⟩ := info_parts info_int
  have hlt := h.lt
  obtain ⟨W, hW⟩ : ∃ W, W = w.alloc (.cells #[] 3) := ⟨_, rfl⟩
  have HO0 := Lib.hid (show W.ownsRow w.heap.size 3 1 (.slice (some ⟨w.heap.size, 0, none⟩) 0 0) 0 [] by rw [hW]; exact owns_none _ (Nat.le_refl _))
  have HD0 := Lib.hid (show Draws B b v n zs W by rw [hW]; exact h.alloc _)
  have HG0 := Lib.hid (show w.grownBy W (some b) by rw [hW]; exact grown_alloc _ _ _)
  have HW := Lib.hid hW
  clear hW h
  go_enter Try.func39, Try.ntmps39
  go_wp2_with fail
  rw [← HW.out]
  refine (l1Below_draw ((M : Int) + 1) HD0.out (by omega) (by omega)).mono ?_
  rintro e w1 ⟨m, rfl, m0, m1, hd, hg⟩
  obtain ⟨m, rfl⟩ := Int.eq_ofNat_of_zero_le m0
  have HD1 := Lib.hid hd
  have HO1 := Lib.hid (owns_grown HO0.out hg hlt)
  have HG1 := Lib.hid (grown_trans HG0.out hg)
  clear hd hg
  go_wp2
  go_loopw [7, 8, 9] (fun o x i wr => ∃ (j : Nat) (a : Option Addr) (cap xn : Nat) (ys : List Int), j ≤ m ∧ i = .int .i64 j ∧ x = .int .i64 xn ∧ xn < 2 ^ N ∧ o = .slice a ys.length cap ∧ ys.length + j = m ∧ (∀ y ∈ ys, 0 ≤ y ∧ y < 2 ^ N) ∧ wr.ownsRow w.heap.size 3 1 (.slice a ys.length cap) ys.length (ys.map (.int .i64)) ∧ Draws B b v n zs wr ∧ w.grownBy wr (some b)) (fun _ _ i _ => (intOf i).toNat)
  case atStart => exact ⟨m, _, _, 0, [], Nat.le_refl _, rfl, rfl, Nat.two_pow_pos _, rfl, by simp, by simp, HO1.out, HD1.out, HG1.out⟩
  case round =>
    obtain ⟨j, a, cap, xn, ys, hj, rfl, rfl, hxn, rfl, hyj, hys, hown, hd, hg⟩ := hrel
    have HXN := Lib.hid hxn
    have HYS := Lib.hid hys
    have HO := Lib.hid hown
    have HD := Lib.hid hd
    have HG := Lib.hid hg
    have HYJ := Lib.hid hyj
    have hyl : ys.length ≤ 200 := by omega
    clear hxn hys hown hd hg hyj
    by_cases hlt' : 0 < j
    · go_wp2_with fail
      refine (l1Once_draw 3 HD.out (by omega) (by omega)).mono ?_
      rintro e w2 ⟨t1, rfl, hd, hg⟩
      have HD2 := Lib.hid hd
      have HG2 := Lib.hid hg
      clear hd hg
      go_upto_if 20 with (fail)
      go_cut [8] (fun s8 wx => ∃ x1 : Nat, s8 = .int .i64 x1 ∧ x1 < 2 ^ N ∧ Draws B b v n zs wx ∧ wr.grownBy wx (some b))
      case first =>
        cases t1
        · go_wp2
          go_meet
          exact ⟨xn, rfl, HXN.out, HD2.out, HG2.out⟩
        · go_wp2_with fail
          refine (l1Below_draw (N : Int) HD2.out (by omega) (by omega)).mono ?_
          rintro e w3 ⟨q, rfl, q0, q1, hd, hg⟩
          obtain ⟨q, rfl⟩ := Int.eq_ofNat_of_zero_le q0
          have HD3 := Lib.hid hd
          have HG3 := Lib.hid (grown_trans HG2.out hg)
          have hw := wrap64_pow62 (k := q) (by omega)
          have hp : 2 ^ q < 2 ^ N := Nat.pow_lt_pow_right (by decide) (by omega)
          have hn62 := pow62 (k := N) (by omega)
          have hx := xor_nat xn (2 ^ q) (Nat.lt_trans HXN.out hn62) (Nat.lt_trans hp hn62)
          have HL := Lib.hid (Nat.xor_lt_two_pow HXN.out hp)
          obtain ⟨p, hpd⟩ : ∃ p, p = 2 ^ q := ⟨_, rfl⟩
          rw [← hpd] at hw hx HL
          clear hd hg hp hn62 hpd
          go_wp2
          go_meet
          exact ⟨xn ^^^ p, rfl, HL.out, HD3.out, HG3.out⟩
      case rest =>
        obtain ⟨x1, rfl, hx1, hd, hg⟩ := hcut
        have HX1 := Lib.hid hx1
        have HD3 := Lib.hid hd
        have HG3 := Lib.hid hg
        clear hx1 hd hg
        go_wp2_with fail
        refine (l1Once_draw 9 HD3.out (by omega) (by omega)).mono ?_
        rintro e w4 ⟨t2, rfl, hd, hg⟩
        have HD4 := Lib.hid hd
        have HG4 := Lib.hid (grown_trans HG3.out hg)
        clear hd hg
        go_upto_if 28 with (fail)
        go_cut [8] (fun s8 wx => ∃ x2 : Nat, s8 = .int .i64 x2 ∧ x2 < 2 ^ N ∧ Draws B b v n zs wx ∧ wr.grownBy wx (some b))
        case first =>
          cases t2
          · go_wp2
            go_meet
            exact ⟨x1, rfl, HX1.out, HD4.out, HG4.out⟩
          · go_wp2_with fail
            refine (l1Below_draw (N : Int) HD4.out (by omega) (by omega)).mono ?_
            rintro e w5 ⟨q, rfl, q0, q1, hd, hg⟩
            obtain ⟨q, rfl⟩ := Int.eq_ofNat_of_zero_le q0
            have HD5 := Lib.hid hd
            have HG5 := Lib.hid (grown_trans HG4.out hg)
            have hw := wrap64_pow62 (k := q) (by omega)
            have hp : 2 ^ q < 2 ^ N := Nat.pow_lt_pow_right (by decide) (by omega)
            have hn62 := pow62 (k := N) (by omega)
            have hx := xor_nat x1 (2 ^ q) (Nat.lt_trans HX1.out hn62) (Nat.lt_trans hp hn62)
            have HL := Lib.hid (Nat.xor_lt_two_pow HX1.out hp)
            obtain ⟨p, hpd⟩ : ∃ p, p = 2 ^ q := ⟨_, rfl⟩
            rw [← hpd] at hw hx HL
            clear hd hg hp hn62 hpd
            go_wp2
            go_meet
            exact ⟨x1 ^^^ p, rfl, HL.out, HD5.out, HG5.out⟩
        case rest =>
          obtain ⟨x2, rfl, hx2, hd, hg⟩ := hcut
          have HX2 := Lib.hid hx2
          have HD5 := Lib.hid hd
          have HG5 := Lib.hid (grown_trans HG.out hg)
          have HO5 := Lib.hid (owns_grown HO.out hg hlt)
          have hszc : w.heap.size ≤ wc.heap.size := Nat.le_trans HG.out.size hg.size
          have b63 : ys.length + 1 ≤ maxLen := by unfold maxLen; omega
          have b47 : (ys.length + 1) * 8 ≤ 140737488355328 := by omega
          clear hx2 hd hg
          go_wp2_with (at_builtin; refine wpList_append_own _ rfl _ _ 24 rfl w.heap.size 3 i0 (.int .i64 0) 1 8 Try.underlying24 hi hy0 hy1 hy2 rfl (by decide) _ _ _ rfl (HO5.out.alloc _) ⟨wc.heap.size, 0, none⟩ 1 1 [.int .i64 x2] rfl rfl ?c1 ?c2 b63 b47 ?c5 ?_)
          case c1 => exact cell_one_new _ _ _
          case c2 => intro u hu; simp at hu; subst hu; rfl
          case c5 => simp; omega
          · intro v' w6 hown1 hgrow _
            obtain ⟨a', cap', rfl⟩ := owns_shape hown1
            have hr : ∀ q, (Value.slice a ys.length cap).ownBlock = some q → w.heap.size ≤ q := fun q e => (HO5.out.lt q e).1
            have HD6 := Lib.hid ((HD5.out.alloc (.cells #[.int .i64 x2] 3)).high hgrow hr hlt)
            have HG6 := Lib.hid (grown_high (grown_high HG5.out (grown_alloc wc (.cells #[.int .i64 x2] 3) none) (fun q e => by cases e)) hgrow hr)
            have HO6 := Lib.hid hown1
            clear hown1 hgrow hr
            go_wp2
            go_roundw
            case rel =>
              refine ⟨j - 1, a', cap', x2, ys ++ [(x2 : Int)], by omega, by rw [show ((j - 1 : Nat) : Int) = (j : Int) - 1 by omega], rfl, HX2.out, by simp, by have := HYJ.out; simp; omega, ?_, ?_, HD6.out, HG6.out⟩
              · intro y hy
                rcases List.mem_append.mp hy with hy | hy
                · exact HYS.out y hy
                · simp at hy
                  have h1 := HX2.out
                  have h2 := pow_nat N
                  subst hy
                  omega
              · simpa using HO6.out
            case measure => simp [intOf]; omega
    · obtain rfl : j = 0 := by omega
      go_wp2
      go_ret
      exact ⟨_, ys, rfl, by have := HYJ.out; omega, HYS.out, HO.out, HD.out, HG.out⟩

theorem okNew_mk {k t n : Int} (h0 : 0 ≤ k) (h1 : k ≤ 2) (h2 : 1 ≤ t) (h3 : t ≤ 20) (h4 : 1 ≤ n) (h5 : n ≤ 24) : okNew k t n = true := by
  unfold okNew inB
  rw [decide_eq_true ⟨h0, h1⟩, decide_eq_true ⟨h2, h3⟩, decide_eq_true ⟨h4, h5⟩]
  rfl

set_option maxHeartbeats 2000000 in
set_option maxRecDepth 100000 in
theorem MakeDebouncer_draw (v : Value) (zs : List Int) (w : World) (hl : zs.length ≤ 1099511627776) (hz : ∀ z ∈ zs, 0 ≤ z ∧ z < 256) (h : Rd w v (zs.map (.int .u8))) :
    Calls Try.prog 11 #[v] w fun e w' => ∃ (k t : Int) (N : Nat) (a : Option Addr) (cap : Nat) (l : Value) (ys : List Int), e = .returned (.tuple #[dbv k t N 0 0 (.slice a N cap), l]) ∧ 0 ≤ k ∧ k ≤ 2 ∧ 1 ≤ t ∧ t ≤ 5 ∧ 1 ≤ N ∧ N ≤ 4 ∧ ys.length ≤ 40 ∧ (∀ y ∈ ys, 0 ≤ y ∧ y < 2 ^ N) ∧
      w'.ownsRow w.heap.size 3 1 (.slice a N cap) N ((List.replicate N (99 : Int)).map (.int .i64)) ∧ w'.ownsRow w.heap.size 3 1 l ys.length (ys.map (.int .i64)) ∧ Below w.heap.size w w' := by
  obtain ⟨W, hW⟩ : ∃ W, W = w.alloc (.cells #[.int .i64 0, .int .i64 0, .int .i64 0, .int .i64 0, .int .i64 0, .slice none 0 0] 26) := ⟨_, rfl⟩
  have HW := Lib.hid hW
  have HR := Lib.hid (show Rd W v (zs.map (.int .u8)) by rw [hW]; exact h.below ((Below.refl _ _).alloc (Nat.le_refl _) _))
  have HB0 := Lib.hid (show Below w.heap.size w W by rw [hW]; exact (Below.refl _ _).alloc (Nat.le_refl _) _)
  have HH := Lib.hid (show W.heap[w.heap.size]? = some (.cells #[.int .i64 0, .int .i64 0, .int .i64 0, .int .i64 0, .int .i64 0, .slice none 0 0] 26 (0, 0)) by rw [hW]; exact heap_alloc_new w _)
  have HSZ := Lib.hid (show W.heap.size = w.heap.size + 1 by rw [hW]; simp)
  have HZ := Lib.hid hz
  clear hW h hz
  go_enter Try.func11, Try.ntmps11
  go_wp2_with fail
  rw [← HW.out]
  refine (l24New_draw v zs 2 W hl HZ.out HR.out).mono ?_
  rintro e w1 ⟨rfl, hd, hb, hlt⟩
  have HD1 := Lib.hid hd
  have HB1 := Lib.hid (HB0.out.trans (hb.mono HB0.out.size))
  have HC1 := Lib.hid ((hb.block w.heap.size (by rw [HSZ.out]; omega)).trans HH.out)
  clear hd hb
  go_wp2_with fail
  refine (l1Below_draw 3 HD1.out (by omega) (by omega)).mono ?_
  rintro e w2 ⟨k, rfl, k0, k1, hd, hg⟩
  have HD2 := Lib.hid hd
  have HG2 := Lib.hid hg
  clear hd hg
  go_wp2_with fail
  refine (l1Below_draw 5 HD2.out (by omega) (by omega)).mono ?_
  rintro e w3 ⟨t1, rfl, t0, t2, hd, hg⟩
  have HD3 := Lib.hid hd
  have HG3 := Lib.hid (grown_trans HG2.out hg)
  clear hd hg
  go_wp2_with fail
  refine (l1Below_draw 4 HD3.out (by omega) (by omega)).mono ?_
  rintro e w4 ⟨n1, rfl, n0, n2, hd, hg⟩
  have HD4 := Lib.hid hd
  have HG4 := Lib.hid (grown_trans HG3.out hg)
  clear hd hg
  have hon := okNew_mk (k := k) (t := 1 + t1) (n := 1 + n1) (by omega) (by omega) (by omega) (by omega) (by omega) (by omega)
  have HON := Lib.hid hon
  obtain ⟨N, hN⟩ := Int.eq_ofNat_of_zero_le (show 0 ≤ 1 + n1 by omega)
  obtain ⟨t, ht⟩ : ∃ t, t = 1 + t1 := ⟨_, rfl⟩
  have HN := Lib.hid hN
  have HTT := Lib.hid ht
  have hNb : 1 ≤ N ∧ N ≤ 4 := by omega
  have htb : 1 ≤ t ∧ t ≤ 5 := by omega
  clear hon hN ht
  go_wp2_with fail
  ((with_reducible refine (specNewDebouncer_any k (1 + t1) (1 + n1) _).mono ?_); intro e w5 hp)
  rw [NewDeb, HON.out, if_pos rfl, HN.out, ← HTT.out] at hp
  obtain ⟨u, rfl, hu, hb⟩ := hp
  rw [Int.toNat_natCast] at hu
  obtain ⟨a, cap, rfl⟩ := owns_shape hu
  have hsz1 : W.heap.size < w1.heap.size := hlt
  have hsz4 : w1.heap.size ≤ w4.heap.size := HG4.out.size
  have hsz5 : w4.heap.size ≤ w5.heap.size := hb.size
  have hszW := HSZ.out
  have hc4 := (HG4.out.block w.heap.size (by omega) (by simp; omega)).trans HC1.out
  have hc5 := (hb.block w.heap.size (by omega)).trans hc4
  have HD5 := Lib.hid (HD4.out.below hb)
  have HU5 := Lib.hid (owns_base hu (show w.heap.size ≤ w4.heap.size by omega))
  have HU5b := Lib.hid hu
  have HC5 := Lib.hid hc5
  have hb5 : Below w.heap.size w w5 := by
    have h14 : Below w.heap.size w1 w4 := ⟨HG4.out.os, HG4.out.tape, HG4.out.output, HG4.out.size, fun q hq => HG4.out.block q (by omega) (by simp; omega)⟩
    exact (HB1.out.trans h14).trans (hb.mono (by omega))
  have HB5 := Lib.hid hb5
  have HNB := Lib.hid hNb
  have HTB := Lib.hid htb
  clear hu hb hc4 hc5 hb5 hNb htb t0 t2 n0 n2 hlt hszW
  have hww : w.heap.size < W.heap.size := by rw [HSZ.out]; omega
  obtain ⟨g, hg⟩ : ∃ g, g = w5.heap.size := ⟨_, rfl⟩
  obtain ⟨W6, hW6⟩ : ∃ W6, W6 = w5.alloc (.cells #[.int .i64 k, .int .i64 t, .int .i64 N, .int .i64 0, .int .i64 0, .slice a N cap] 26) := ⟨_, rfl⟩
  have hg6 : W6.heap[g]? = some (.cells #[.int .i64 k, .int .i64 t, .int .i64 N, .int .i64 0, .int .i64 0, .slice a N cap] 26 (0, 0)) := by rw [hW6, hg]; exact heap_alloc_new w5 _
  have hc6 : W6.heap[w.heap.size]? = some (.cells #[.int .i64 0, .int .i64 0, .int .i64 0, .int .i64 0, .int .i64 0, .slice none 0 0] 26 (0, 0)) := by rw [hW6, Below.heap_alloc _ _ _ (by omega)]; exact HC5.out
  have hs6 : W6.heap.size = g + 1 := by rw [hW6, hg]; simp
  have HD6 := Lib.hid (show Draws W.heap.size W.heap.size v zs.length zs W6 by rw [hW6]; exact HD5.out.alloc _)
  have HU6 := Lib.hid (show W6.ownsRow w4.heap.size 3 1 (.slice a N cap) N ((List.replicate N (99 : Int)).map (.int .i64)) by rw [hW6]; exact owns_below HU5b.out ((Below.refl _ _).alloc (Nat.le_refl _) _))
  have HU6b := Lib.hid (show ∀ q, (Value.slice a N cap).ownBlock = some q → w4.heap.size ≤ q from fun q e => (HU5b.out.lt q e).1)
  have HB6 := Lib.hid (show Below w.heap.size w W6 by rw [hW6]; exact HB5.out.alloc (by omega) _)
  have hgw : W.heap.size < g := by omega
  have hw4 : W.heap.size < w4.heap.size := by omega
  have HG6 := Lib.hid hg6
  have HC6 := Lib.hid hc6
  have HS6 := Lib.hid hs6
  have d0 : W6.cell? ⟨g, 0, none⟩ = some (.int .i64 k) := (cells_of_heap hg6 0 (by simp)).1
  have d1 : W6.cell? ⟨g, 1, none⟩ = some (.int .i64 t) := (cells_of_heap hg6 1 (by simp)).1
  have d2 : W6.cell? ⟨g, 2, none⟩ = some (.int .i64 N) := (cells_of_heap hg6 2 (by simp)).1
  have d3 : W6.cell? ⟨g, 3, none⟩ = some (.int .i64 0) := (cells_of_heap hg6 3 (by simp)).1
  have d4 : W6.cell? ⟨g, 4, none⟩ = some (.int .i64 0) := (cells_of_heap hg6 4 (by simp)).1
  have d5 : W6.cell? ⟨g, 5, none⟩ = some (.slice a N cap) := (cells_of_heap hg6 5 (by simp)).1
  have HWW := Lib.hid hW6
  have HGG := Lib.hid hg
  go_upto_region 3 with (fail)
  rw [← HWW.out, ← HGG.out]
  clear hg6 hc6 hs6 hW6 hg hsz5 hsz4 hsz1
  have gne : ¬ g = w.heap.size := by omega
  have gne2 : ¬ w.heap.size = g := by omega
  go_region_held3 (fun w' => w'.cell? ⟨g, 0, none⟩ = some (.int .i64 k) ∧ w'.cell? ⟨g, 1, none⟩ = some (.int .i64 t) ∧ w'.cell? ⟨g, 2, none⟩ = some (.int .i64 N) ∧ w'.cell? ⟨g, 3, none⟩ = some (.int .i64 0) ∧ w'.cell? ⟨g, 4, none⟩ = some (.int .i64 0) ∧ w'.cell? ⟨g, 5, none⟩ = some (.slice a N cap)) (first | go_keep)
    (first | (go_at_call 39; refine (l3Samples_draw (w := W6.drew) N 40 (HD6.out.below ((Below.refl _ _).drew)) HNB.out.1 (by have := HNB.out.2; omega) (by omega)).mono ?_; rintro e w7 ⟨l, ys, rfl, hl1, hl2, ho, hd, hgr⟩; obtain ⟨al, cl, rfl⟩ := owns_shape ho; have hg7 := (hgr.block g (show g < W6.drew.heap.size by have := HS6.out; simp; omega) (by simp; omega)).trans HG6.out; have hc7 := (hgr.block w.heap.size (show w.heap.size < W6.drew.heap.size by have := HS6.out; simp; omega) (by simp; omega)).trans HC6.out; have k0 : w7.cell? ⟨g, 0, none⟩ = some (.int .i64 k) := (cells_of_heap hg7 0 (by simp)).1; have k1 : w7.cell? ⟨g, 1, none⟩ = some (.int .i64 t) := (cells_of_heap hg7 1 (by simp)).1; have k2 : w7.cell? ⟨g, 2, none⟩ = some (.int .i64 N) := (cells_of_heap hg7 2 (by simp)).1; have k3 : w7.cell? ⟨g, 3, none⟩ = some (.int .i64 0) := (cells_of_heap hg7 3 (by simp)).1; have k4 : w7.cell? ⟨g, 4, none⟩ = some (.int .i64 0) := (cells_of_heap hg7 4 (by simp)).1; have k5 : w7.cell? ⟨g, 5, none⟩ = some (.slice a N cap) := (cells_of_heap hg7 5 (by simp)).1; obtain ⟨m0, n0⟩ := cells_of_heap hc7 0 (by simp); obtain ⟨m1, n1⟩ := cells_of_heap hc7 1 (by simp); obtain ⟨m2, n2⟩ := cells_of_heap hc7 2 (by simp); obtain ⟨m3, n3⟩ := cells_of_heap hc7 3 (by simp); obtain ⟨m4, n4⟩ := cells_of_heap hc7 4 (by simp); obtain ⟨m5, n5⟩ := cells_of_heap hc7 5 (by simp); have HC7 := Lib.hid hc7; have HO7 := Lib.hid ho; have HGR7 := Lib.hid hgr; have HL1 := Lib.hid hl1; have HL2 := Lib.hid hl2; clear hg7 hc7 ho hd hgr hl1 hl2))
  have hu7 : w7.ownsRow w4.heap.size 3 1 (.slice a N cap) N ((List.replicate N (99 : Int)).map (.int .i64)) := owns_apart HU6.out.drew HGR7.out (fun q hq e => by have := HU6b.out q hq; simp at e; omega)
  have hb7 : Below w.heap.size w w7 := HB6.out.drew.grown HGR7.out (by have := HS6.out; simp; omega) (fun q hq => by cases hq; omega)
  have hl7 : w7.ownsRow W.heap.size 3 1 (.slice al ys.length cl) ys.length (ys.map (.int .i64)) := owns_base HO7.out (by have := HS6.out; simp; omega)
  have HU7 := Lib.hid hu7
  have HB7 := Lib.hid hb7
  have HL7 := Lib.hid hl7
  clear hu7 hb7 hl7
  go_wp2
  have z0 : (w7.setCell ⟨w.heap.size, 0, none⟩ (.int .i64 k)).heap[w.heap.size]? = some (.cells #[.int .i64 k, .int .i64 0, .int .i64 0, .int .i64 0, .int .i64 0, .slice none 0 0] 26 (0, 0)) := heap_setCell_same _ _ 0 _ _ _ HC7.out
  have z1 : ((w7.setCell ⟨w.heap.size, 0, none⟩ (.int .i64 k)).setCell ⟨w.heap.size, 1, none⟩ (.int .i64 t)).heap[w.heap.size]? = some (.cells #[.int .i64 k, .int .i64 t, .int .i64 0, .int .i64 0, .int .i64 0, .slice none 0 0] 26 (0, 0)) := heap_setCell_same _ _ 1 _ _ _ z0
  have z2 : (((w7.setCell ⟨w.heap.size, 0, none⟩ (.int .i64 k)).setCell ⟨w.heap.size, 1, none⟩ (.int .i64 t)).setCell ⟨w.heap.size, 2, none⟩ (.int .i64 N)).heap[w.heap.size]? = some (.cells #[.int .i64 k, .int .i64 t, .int .i64 N, .int .i64 0, .int .i64 0, .slice none 0 0] 26 (0, 0)) := heap_setCell_same _ _ 2 _ _ _ z1
  have z3 : ((((w7.setCell ⟨w.heap.size, 0, none⟩ (.int .i64 k)).setCell ⟨w.heap.size, 1, none⟩ (.int .i64 t)).setCell ⟨w.heap.size, 2, none⟩ (.int .i64 N)).setCell ⟨w.heap.size, 3, none⟩ (.int .i64 0)).heap[w.heap.size]? = some (.cells #[.int .i64 k, .int .i64 t, .int .i64 N, .int .i64 0, .int .i64 0, .slice none 0 0] 26 (0, 0)) := heap_setCell_same _ _ 3 _ _ _ z2
  have z4 : (((((w7.setCell ⟨w.heap.size, 0, none⟩ (.int .i64 k)).setCell ⟨w.heap.size, 1, none⟩ (.int .i64 t)).setCell ⟨w.heap.size, 2, none⟩ (.int .i64 N)).setCell ⟨w.heap.size, 3, none⟩ (.int .i64 0)).setCell ⟨w.heap.size, 4, none⟩ (.int .i64 0)).heap[w.heap.size]? = some (.cells #[.int .i64 k, .int .i64 t, .int .i64 N, .int .i64 0, .int .i64 0, .slice none 0 0] 26 (0, 0)) := heap_setCell_same _ _ 4 _ _ _ z3
  have z5 : ((((((w7.setCell ⟨w.heap.size, 0, none⟩ (.int .i64 k)).setCell ⟨w.heap.size, 1, none⟩ (.int .i64 t)).setCell ⟨w.heap.size, 2, none⟩ (.int .i64 N)).setCell ⟨w.heap.size, 3, none⟩ (.int .i64 0)).setCell ⟨w.heap.size, 4, none⟩ (.int .i64 0)).setCell ⟨w.heap.size, 5, none⟩ (.slice a N cap)).heap[w.heap.size]? = some (.cells #[.int .i64 k, .int .i64 t, .int .i64 N, .int .i64 0, .int .i64 0, .slice a N cap] 26 (0, 0)) := heap_setCell_same _ _ 5 _ _ _ z4
  have bf : Below w.heap.size w ((((((w7.setCell ⟨w.heap.size, 0, none⟩ (.int .i64 k)).setCell ⟨w.heap.size, 1, none⟩ (.int .i64 t)).setCell ⟨w.heap.size, 2, none⟩ (.int .i64 N)).setCell ⟨w.heap.size, 3, none⟩ (.int .i64 0)).setCell ⟨w.heap.size, 4, none⟩ (.int .i64 0)).setCell ⟨w.heap.size, 5, none⟩ (.slice a N cap)) := ((((((HB7.out).setCell (Nat.le_refl _) _).setCell (Nat.le_refl _) _).setCell (Nat.le_refl _) _).setCell (Nat.le_refl _) _).setCell (Nat.le_refl _) _).setCell (Nat.le_refl _) _
  have of1 := ownsRow_setCell_below (a := ⟨w.heap.size, 5, none⟩) (ownsRow_setCell_below (a := ⟨w.heap.size, 4, none⟩) (ownsRow_setCell_below (a := ⟨w.heap.size, 3, none⟩) (ownsRow_setCell_below (a := ⟨w.heap.size, 2, none⟩) (ownsRow_setCell_below (a := ⟨w.heap.size, 1, none⟩) (ownsRow_setCell_below (a := ⟨w.heap.size, 0, none⟩) (HU7.out) (by simp; omega) (.int .i64 k)) (by simp; omega) (.int .i64 t)) (by simp; omega) (.int .i64 N)) (by simp; omega) (.int .i64 0)) (by simp; omega) (.int .i64 0)) (by simp; omega) (.slice a N cap)
  have of2 := ownsRow_setCell_below (a := ⟨w.heap.size, 5, none⟩) (ownsRow_setCell_below (a := ⟨w.heap.size, 4, none⟩) (ownsRow_setCell_below (a := ⟨w.heap.size, 3, none⟩) (ownsRow_setCell_below (a := ⟨w.heap.size, 2, none⟩) (ownsRow_setCell_below (a := ⟨w.heap.size, 1, none⟩) (ownsRow_setCell_below (a := ⟨w.heap.size, 0, none⟩) (HL7.out) (by simp; omega) (.int .i64 k)) (by simp; omega) (.int .i64 t)) (by simp; omega) (.int .i64 N)) (by simp; omega) (.int .i64 0)) (by simp; omega) (.int .i64 0)) (by simp; omega) (.slice a N cap)
  obtain ⟨wf, hwf⟩ : ∃ wf, wf = ((((((w7.setCell ⟨w.heap.size, 0, none⟩ (.int .i64 k)).setCell ⟨w.heap.size, 1, none⟩ (.int .i64 t)).setCell ⟨w.heap.size, 2, none⟩ (.int .i64 N)).setCell ⟨w.heap.size, 3, none⟩ (.int .i64 0)).setCell ⟨w.heap.size, 4, none⟩ (.int .i64 0)).setCell ⟨w.heap.size, 5, none⟩ (.slice a N cap)) := ⟨_, rfl⟩
  rw [← hwf] at z5 bf of1 of2 ⊢
  clear hwf z0 z1 z2 z3 z4
  have f0 := (cells_of_heap z5 0 (by simp)).1
  have f1 := (cells_of_heap z5 1 (by simp)).1
  have f2 := (cells_of_heap z5 2 (by simp)).1
  have f3 := (cells_of_heap z5 3 (by simp)).1
  have f4 := (cells_of_heap z5 4 (by simp)).1
  have f5 := (cells_of_heap z5 5 (by simp)).1
  clear m0 m1 m2 m3 m4 m5 n0 n1 n2 n3 n4 n5 d0 d1 d2 d3 d4 d5 k2 k3 k4 k5
  refine bodyPost_ret (v := .tuple #[dbv k t N 0 0 (.slice a N cap), .slice al ys.length cl]) (by simp [results, Try.results11, go_sem, f0, f1, f2, f3, f4, f5]) rfl ?_
  exact ⟨k, t, N, a, cap, _, ys, rfl, by assumption, by omega, HTB.out.1, HTB.out.2, HNB.out.1, HNB.out.2, HL1.out, HL2.out, owns_base of1 (by omega), owns_base of2 (by omega), bf⟩

end Go.Proofs.Ytkhakelhfnoeoaa
