/- DERIVED. The program's SameSent, over slices.EqualFunc and its own function literal. -/
import Derived.Test.YteljmfdlegohbaaSn3
import Derived.Test.YteljmfdlegohbaaRpImpl
namespace Go.Proofs.Yteljmfdlegohbaa
open Go.RowKit

theorem implSameReport_s (r1 : Int) (u1 : Value) (z1 : List Int) (r2 : Int) (u2 : Value) (z2 : List Int) (o : Bool) (ho : o = sameRp r1 z1 r2 z2) (w : World) (hl1 : z1.length ≤ maxLen) (h1 : Rd w u1 (z1.map (.int .i64))) (h2 : Rd w u2 (z2.map (.int .i64))) :
    Calls Try.prog 121 #[rpv r1 u1, rpv r2 u2] w fun e w' => e = .returned (.bool o) ∧ Below w.heap.size w w' := by
  rw [ho]; exact implSameReport_any r1 u1 z1 r2 u2 z2 w hl1 h1 h2

set_option maxRecDepth 100000 in
set_option maxHeartbeats 1000000 in
theorem sameOne_any (t m : Int) (u : Value) (z : List Int) (t' m' : Int) (u' : Value) (z' : List Int) (o : Bool) (ho : o = (decide (t = t') && sameRp m z m' z')) (w : World) (hl : z.length ≤ maxLen) (h1 : Rd w u (z.map (.int .i64))) (h2 : Rd w u' (z'.map (.int .i64))) :
    Calls Try.prog 120 #[snv t m u, snv t' m' u'] w fun e w' => e = .returned (.bool o) ∧ Below w.heap.size w w' := by
  obtain ⟨W, hW⟩ : ∃ W, W = (w.alloc (.cells #[.int .i64 t, .int .i64 m, u] 165)).alloc (.cells #[.int .i64 t', .int .i64 m', u'] 165) := ⟨_, rfl⟩
  have hB0 : Below w.heap.size w W := by rw [hW]; exact ((Below.refl _ _).alloc (Nat.le_refl _) _).alloc (by simp) _
  have HX := Lib.hid (show Bxd W w.heap.size [.int .i64 t, .int .i64 m, u] by rw [hW]; exact (Bxd.new _ _ _).below ((Below.refl _ _).alloc (Nat.le_refl _) _) (by simp))
  have HY := Lib.hid (show Bxd W (w.heap.size + 1) [.int .i64 t', .int .i64 m', u'] by rw [hW]; have := Bxd.new (w.alloc (.cells #[.int .i64 t, .int .i64 m, u] 165)) [.int .i64 t', .int .i64 m', u'] 165; simpa using this)
  have HA := Lib.hid (h1.below hB0)
  have HBb := Lib.hid (h2.below hB0)
  have HB0 := Lib.hid hB0
  have HW := Lib.hid hW
  obtain ⟨s, hs⟩ : ∃ s, s = sameRp m z m' z' := ⟨_, rfl⟩
  rw [← hs] at ho
  have HS := Lib.hid hs
  clear hW hB0 h1 h2 hs
  by_cases htt : t = t'
  · subst htt
    obtain rfl : o = s := by rw [ho]; simp
    have hb1 : (t == t) = true := by simp
    clear ho
    go_enter Try.func120, Try.ntmps120
    go_upto_region 1 with (fail)
    rw [← HW.out]
    have x0 := HX.out.at 0 _ rfl
    have x1 := HX.out.at 1 _ rfl
    have x2 := HX.out.at 2 _ rfl
    have y0 := HY.out.at 0 _ rfl
    have y1 := HY.out.at 1 _ rfl
    have y2 := HY.out.at 2 _ rfl
    go_wp2_with fail
    refine (implSameReport_s m u z m' u' z' o HS.out _ hl HA.out HBb.out).mono ?_
    rintro e w1 ⟨rfl, hb1⟩
    have HB1 := Lib.hid (HB0.out.trans (hb1.mono HB0.out.size))
    clear hb1 x0 x1 x2 y0 y1 y2
    go_wp2
    go_ret
    exact ⟨rfl, HB1.out⟩
  · obtain rfl : o = false := by rw [ho, decide_eq_false htt]; rfl
    have hb1 : (t == t') = false := by simp [htt]
    clear ho htt
    go_enter Try.func120, Try.ntmps120
    go_upto_region 1 with (fail)
    rw [← HW.out]
    have x0 := HX.out.at 0 _ rfl
    have y0 := HY.out.at 0 _ rfl
    go_wp2
    go_ret
    exact ⟨rfl, HB0.out⟩

abbrev snFn : Value := .func (.func 120) #[] #[]
set_option maxRecDepth 100000 in
set_option maxHeartbeats 4000000 in
theorem equalSent_any (va vb : Value) (L M : List Sv) (w : World) (hl : L.length ≤ 1048576) (hm : M.length ≤ 1048576) (hr : ∀ r ∈ L, r.2.length ≤ 1048576) (ha : RdQ snF w va L) (hb : RdQ snF w vb M) :
    Calls Try.prog 119 #[va, vb, snFn] w fun e w' => e = .returned (.bool (smV L M)) ∧ Below w.heap.size w w' := by
  obtain ⟨aa, ca, rfl, hc⟩ := sn_at ha
  obtain ⟨ab, cb, rfl, hc2⟩ := sn_at hb
  obtain ⟨V, hV⟩ : ∃ V, V = smV L M := ⟨_, rfl⟩
  rw [← hV]
  have HV := Lib.hid hV
  have HC := Lib.hid hc
  have HC2 := Lib.hid hc2
  have HR := Lib.hid (fun j => qS_le hr j)
  obtain ⟨n, hn⟩ : ∃ n, n = L.length := ⟨_, rfl⟩
  obtain ⟨n2, hn2⟩ : ∃ n, n = M.length := ⟨_, rfl⟩
  rw [← hn] at hl
  rw [← hn2] at hm
  rw [← hn, ← hn2]
  have HN := Lib.hid hn
  have HN2 := Lib.hid hn2
  clear ha hb hc hc2 hr hn hn2 hV
  by_cases hne : n = n2
  · subst hne
    have hb0 : (!((n : Int) == (n : Int))) = false := by simp
    go_enter Try.func119, Try.ntmps119
    go_wp2
    go_loopw [17] (fun i wr => ∃ k : Nat, k ≤ n ∧ i = .int .i64 k ∧ smN L M k = true ∧ Below w.heap.size w wr) (fun i _ => n - (intOf i).toNat)
    case atStart => exact ⟨0, Nat.zero_le _, rfl, rfl, Below.refl _ _⟩
    case round =>
      obtain ⟨k, hk, rfl, hsm, hb⟩ := hrel
      by_cases hlt' : k < n
      · have hk0 : (0 : Int) ≤ (k : Int) := by omega
        have hkn : (k : Int) < (n : Int) := by omega
        obtain ⟨b, off, rfl, hlt, ua, uc, c0, c1, c2, hrow⟩ := HC.out k (by rw [← HN.out]; exact hlt')
        obtain ⟨b2, off2, rfl, hlt2, ub, ud, d0, d1, d2, hrow2⟩ := HC2.out k (by rw [← HN2.out]; exact hlt')
        have hrl := HR.out k
        have hno := fun h => smN_no (L := L) (M := M) (j := k) h n hlt'
        have hnx : smN L M (k + 1) = (smN L M k && (decide ((qD L k).1.1 = (qD M k).1.1) && sameRp (qD L k).1.2 (qD L k).2 (qD M k).1.2 (qD M k).2)) := rfl
        obtain ⟨q, hq⟩ : ∃ q, q = qD L k := ⟨_, rfl⟩
        obtain ⟨p, hp⟩ : ∃ p, p = qD M k := ⟨_, rfl⟩
        rw [← hq, ← hp] at hno hnx
        rw [← hq] at c0 c1 c2 hrow hrl
        rw [← hp] at d0 d1 d2 hrow2
        obtain ⟨⟨t, m⟩, z⟩ := q
        obtain ⟨⟨t', m'⟩, z'⟩ := p
        simp only at c0 c1 c2 d0 d1 d2 hrow hrow2 hrl hno hnx
        rw [hsm, Bool.true_and] at hnx
        obtain ⟨sv, hsv⟩ : ∃ s, s = (decide (t = t') && sameRp m z m' z') := ⟨_, rfl⟩
        rw [← hsv] at hno hnx
        have r0 := (hb.cell (p := ⟨b, off + k * 3, none⟩) hlt).trans c0
        have r1 := (hb.cell (p := ⟨b, off + k * 3 + 1, none⟩) hlt).trans c1
        have r2 := (hb.cell (p := ⟨b, off + k * 3 + 2, none⟩) hlt).trans c2
        have t0 := (hb.cell (p := ⟨b2, off2 + k * 3, none⟩) hlt2).trans d0
        have t1 := (hb.cell (p := ⟨b2, off2 + k * 3 + 1, none⟩) hlt2).trans d1
        have t2 := (hb.cell (p := ⟨b2, off2 + k * 3 + 2, none⟩) hlt2).trans d2
        have hbl : b < wr.heap.size := Nat.lt_of_lt_of_le hlt hb.size
        have hbl2 : b2 < wr.heap.size := Nat.lt_of_lt_of_le hlt2 hb.size
        have HB := Lib.hid hb
        have HRL := Lib.hid (show z.length ≤ maxLen by unfold maxLen; omega)
        have HNO := Lib.hid hno
        have HNX := Lib.hid hnx
        have HSV := Lib.hid hsv
        have HR1 := Lib.hid hrow
        have HR2 := Lib.hid hrow2
        have hne2 : ¬ b2 = wr.heap.size := by omega
        clear c0 c1 c2 d0 d1 d2 hb hrow hrow2 hq hp hrl hno hnx hsv hsm
        go_upto_region 7 with (fail)
        obtain ⟨W, hW⟩ : ∃ x, x = (wr.alloc (.cells #[.int .i64 t, .int .i64 m, .slice ua z.length uc] 165)).alloc (.cells #[.int .i64 t', .int .i64 m', .slice ub z'.length ud] 165) := ⟨_, rfl⟩
        obtain ⟨h, hh⟩ : ∃ h, h = wr.heap.size := ⟨_, rfl⟩
        have hbW : Below wr.heap.size wr W := by rw [hW]; exact ((Below.refl _ _).alloc (Nat.le_refl _) _).alloc (by simp) _
        have HX := Lib.hid (show Bxd W h [.int .i64 t, .int .i64 m, .slice ua z.length uc] by rw [hW, hh]; exact (Bxd.new _ _ _).below ((Below.refl _ _).alloc (Nat.le_refl _) _) (by simp))
        have HY := Lib.hid (show Bxd W (h + 1) [.int .i64 t', .int .i64 m', .slice ub z'.length ud] by rw [hW, hh]; have := Bxd.new (wr.alloc (.cells #[.int .i64 t, .int .i64 m, .slice ua z.length uc] 165)) [.int .i64 t', .int .i64 m', .slice ub z'.length ud] 165; simpa using this)
        have HBW := Lib.hid (HB.out.trans (hbW.mono HB.out.size))
        rw [← hW, ← hh]
        clear hW hh hbW r0 r1 r2 t0 t1 t2
        have x0 := HX.out.at 0 _ rfl
        have x1 := HX.out.at 1 _ rfl
        have x2 := HX.out.at 2 _ rfl
        have y0 := HY.out.at 0 _ rfl
        have y1 := HY.out.at 1 _ rfl
        have y2 := HY.out.at 2 _ rfl
        go_wp2_with fail
        refine (sameOne_any t m _ z t' m' _ z' sv HSV.out _ HRL.out (HR1.out.below HBW.out) (HR2.out.below HBW.out)).mono ?_
        rintro e w1 ⟨rfl, hb1⟩
        have HB2 := Lib.hid (HBW.out.trans (hb1.mono HBW.out.size))
        clear hb1 x0 x1 x2 y0 y1 y2
        cases sv
        · obtain rfl : V = false := by rw [HV.out, smV, ← HN.out, HNO.out rfl, Bool.and_false]
          go_wp2
          go_ret
          exact ⟨rfl, HB2.out⟩
        · have HQ := Lib.hid (show smN L M (k + 1) = true from HNX.out)
          go_wp2
          go_roundw
          case rel => exact ⟨k + 1, by omega, by go_num, HQ.out, HB2.out⟩
          case measure => simp [intOf]; omega
      · obtain rfl : k = n := by omega
        obtain rfl : V = true := by rw [HV.out, smV, ← HN.out, ← HN2.out, hsm]; simp
        go_wp2
        go_ret
        exact ⟨rfl, hb⟩
  · have hb0 : (!((n : Int) == (n2 : Int))) = true := by simp; omega
    have hb1 : ((n : Int) == (n2 : Int)) = false := by simp; omega
    obtain rfl : V = false := by rw [HV.out, smV, ← HN.out, ← HN2.out, decide_eq_false hne, Bool.false_and]
    go_enter Try.func119, Try.ntmps119
    go_wp2
    go_ret
    exact ⟨rfl, Below.refl _ _⟩

theorem implSameSent_any (va vb : Value) (L M : List Sv) (w : World) (hl : L.length ≤ 1048576) (hm : M.length ≤ 1048576) (hr : ∀ r ∈ L, r.2.length ≤ 1048576) (ha : RdQ snF w va L) (hb : RdQ snF w vb M) :
    Calls Try.prog 45 #[va, vb] w fun e w' => e = .returned (.bool (smV L M)) ∧ Below w.heap.size w w' := by
  have HA := Lib.hid ha
  have HB := Lib.hid hb
  have HR := Lib.hid hr
  clear ha hb hr
  go_enter Try.func45, Try.ntmps45
  go_wp2_with fail
  refine (equalSent_any va vb L M _ hl hm HR.out HA.out HB.out).mono ?_
  rintro e w1 ⟨rfl, hb⟩
  have HB1 := Lib.hid hb
  clear hb
  go_wp2
  go_ret
  exact ⟨rfl, HB1.out⟩

end Go.Proofs.Yteljmfdlegohbaa
