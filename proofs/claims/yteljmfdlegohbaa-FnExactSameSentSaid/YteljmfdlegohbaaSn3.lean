/- DERIVED. Slices of what was sent: two that are alike; the reference's SameSent. -/
import Derived.Test.YteljmfdlegohbaaSn2
namespace Go.Proofs.Yteljmfdlegohbaa
open Go.RowKit

set_option maxRecDepth 100000 in
set_option maxHeartbeats 4000000 in
theorem eqSentS_same (va vb : Value) (L : List Sv) (w : World) (hl : L.length ≤ 1000000000000) (hr : ∀ r ∈ L, r.2.length ≤ 1000000000000) (ha : RdQ snF w va L) (hb : RdQ snF w vb L) :
    Calls Try.prog 46 #[va, vb] w fun e w' => e = .returned (.bool true) ∧ Below w.heap.size w w' := by
  obtain ⟨aa, ca, rfl, hc⟩ := sn_at ha
  obtain ⟨ab, cb, rfl, hc2⟩ := sn_at hb
  have HC := Lib.hid hc
  have HC2 := Lib.hid hc2
  have HR := Lib.hid (fun j => qS_le hr j)
  obtain ⟨n, hn⟩ : ∃ n, n = L.length := ⟨_, rfl⟩
  rw [← hn] at hl ⊢
  have HN := Lib.hid hn
  clear ha hb hc hc2 hr hn
  go_enter Try.func46, Try.ntmps46
  go_wp2
  go_loopw [5] (fun i wr => ∃ k : Nat, k ≤ n ∧ i = .int .i64 k ∧ Below w.heap.size w wr) (fun i _ => n - (intOf i).toNat)
  case atStart => exact ⟨0, Nat.zero_le _, rfl, Below.refl _ _⟩
  case round =>
    obtain ⟨k, hk, rfl, hb⟩ := hrel
    by_cases hlt' : k < n
    · have hk0 : (0 : Int) ≤ (k : Int) := by omega
      have hkn : (k : Int) < (n : Int) := by omega
      obtain ⟨b, off, rfl, hlt, ua, uc, c0, c1, c2, hrow⟩ := HC.out k (by rw [← HN.out]; exact hlt')
      obtain ⟨b2, off2, rfl, hlt2, ub, ud, d0, d1, d2, hrow2⟩ := HC2.out k (by rw [← HN.out]; exact hlt')
      have hrl := HR.out k
      obtain ⟨t, ht⟩ : ∃ t, t = (qD L k).1.1 := ⟨_, rfl⟩
      obtain ⟨m, hm⟩ : ∃ m, m = (qD L k).1.2 := ⟨_, rfl⟩
      obtain ⟨z, hz⟩ : ∃ z, z = (qD L k).2 := ⟨_, rfl⟩
      rw [← ht] at c0 d0
      rw [← hm] at c1 d1
      rw [← hz] at c2 d2 hrow hrow2 hrl
      have HW1 := Lib.hid (hrow.below hb)
      have HW2 := Lib.hid (hrow2.below hb)
      have r0 := (hb.cell (p := ⟨b, off + k * 3, none⟩) hlt).trans c0
      have r1 := (hb.cell (p := ⟨b, off + k * 3 + 1, none⟩) hlt).trans c1
      have r2 := (hb.cell (p := ⟨b, off + k * 3 + 2, none⟩) hlt).trans c2
      have t0 := (hb.cell (p := ⟨b2, off2 + k * 3, none⟩) hlt2).trans d0
      have t1 := (hb.cell (p := ⟨b2, off2 + k * 3 + 1, none⟩) hlt2).trans d1
      have t2 := (hb.cell (p := ⟨b2, off2 + k * 3 + 2, none⟩) hlt2).trans d2
      have hbl : b < wr.heap.size := Nat.lt_of_lt_of_le hlt hb.size
      have hbl2 : b2 < wr.heap.size := Nat.lt_of_lt_of_le hlt2 hb.size
      have HB := Lib.hid hb
      have HRL := Lib.hid hrl
      clear c0 c1 c2 d0 d1 d2 hb hrow hrow2 ht hm hz hrl
      go_upto_region 6 with (fail)
      go_cut [26] (fun sd wx => sd = .bool false ∧ Below wr.heap.size wr wx)
      case first =>
        go_region_held3 (fun w' => w'.cell? ⟨b, off + k * 3, none⟩ = some (.int .i64 t) ∧ w'.cell? ⟨b, off + k * 3 + 1, none⟩ = some (.int .i64 m) ∧ w'.cell? ⟨b, off + k * 3 + 2, none⟩ = some (.slice ua z.length uc) ∧ w'.cell? ⟨b2, off2 + k * 3, none⟩ = some (.int .i64 t) ∧ w'.cell? ⟨b2, off2 + k * 3 + 1, none⟩ = some (.int .i64 m) ∧ w'.cell? ⟨b2, off2 + k * 3 + 2, none⟩ = some (.slice ub z.length ud)) (first | go_keep)
          (first | (go_at_call 122; refine (eqSent_same t m _ _ z _ HRL.out (by first | exact HW1.out | exact HW1.out.below (Below.refl _ _).drew | exact HW1.out.below (Below.refl _ _).drew.drew) (by first | exact HW2.out | exact HW2.out.below (Below.refl _ _).drew | exact HW2.out.below (Below.refl _ _).drew.drew)).mono ?_; rintro e v1 ⟨rfl, hb1⟩; have hbr : Below wr.heap.size wr v1 := (by first | exact hb1 | exact ((Below.refl _ _).drew).trans hb1 | exact ((Below.refl _ _).drew.drew).trans hb1); have kr0 := (hbr.cell (p := ⟨b, off + k * 3, none⟩) hbl).trans r0; have kr1 := (hbr.cell (p := ⟨b, off + k * 3 + 1, none⟩) hbl).trans r1; have kr2 := (hbr.cell (p := ⟨b, off + k * 3 + 2, none⟩) hbl).trans r2; have kt0 := (hbr.cell (p := ⟨b2, off2 + k * 3, none⟩) hbl2).trans t0; have kt1 := (hbr.cell (p := ⟨b2, off2 + k * 3 + 1, none⟩) hbl2).trans t1; have kt2 := (hbr.cell (p := ⟨b2, off2 + k * 3 + 2, none⟩) hbl2).trans t2; have HBR := Lib.hid hbr; clear hbr hb1))
        all_goals
          go_wp2
          go_meet
          exact ⟨rfl, by first | exact HBR.out | exact HBR.out.drew⟩
      case rest =>
        obtain ⟨rfl, hb⟩ := hcut
        have HB2 := Lib.hid (HB.out.trans (hb.mono HB.out.size))
        clear hb r0 t0 r1 t1 r2 t2
        go_wp2
        go_roundw
        case rel => exact ⟨k + 1, by omega, by go_num, HB2.out⟩
        case measure => simp [intOf]; omega
    · obtain rfl : k = n := by omega
      go_wp2
      go_ret
      exact ⟨rfl, hb⟩

/-- The first n are alike. -/
def smN (L M : List Sv) : Nat → Bool
  | 0 => true
  | j + 1 => smN L M j && (decide ((qD L j).1.1 = (qD M j).1.1) && sameRp (qD L j).1.2 (qD L j).2 (qD M j).1.2 (qD M j).2)
def smV (L M : List Sv) : Bool := decide (L.length = M.length) && smN L M L.length
theorem smN_no {L M : List Sv} {j : Nat} (h : (decide ((qD L j).1.1 = (qD M j).1.1) && sameRp (qD L j).1.2 (qD L j).2 (qD M j).1.2 (qD M j).2) = false) : ∀ m, j < m → smN L M m = false
  | 0, hm => absurd hm (Nat.not_lt_zero _)
  | m + 1, hm => by
    rcases Nat.lt_or_ge j m with h2 | h2
    · rw [smN, smN_no h m h2, Bool.false_and]
    · obtain rfl : j = m := by omega
      rw [smN, h, Bool.and_false]
theorem specSameReport_s (r1 : Int) (u1 : Value) (z1 : List Int) (r2 : Int) (u2 : Value) (z2 : List Int) (o : Bool) (ho : o = sameRp r1 z1 r2 z2) (w : World) (hl1 : z1.length ≤ maxLen) (h1 : Rd w u1 (z1.map (.int .i64))) (h2 : Rd w u2 (z2.map (.int .i64))) :
    Calls Try.prog 117 #[rpv r1 u1, rpv r2 u2] w fun e w' => e = .returned (.bool o) ∧ Below w.heap.size w w' := by
  rw [ho]; exact specSameReport_any r1 u1 z1 r2 u2 z2 w hl1 h1 h2

set_option maxRecDepth 100000 in
set_option maxHeartbeats 4000000 in
theorem specSameSent_any (va vb : Value) (L M : List Sv) (w : World) (hl : L.length ≤ 1048576) (hm : M.length ≤ 1048576) (hr : ∀ r ∈ L, r.2.length ≤ 1048576) (ha : RdQ snF w va L) (hb : RdQ snF w vb M) :
    Calls Try.prog 43 #[va, vb] w fun e w' => e = .returned (.bool (smV L M)) ∧ Below w.heap.size w w' := by
  obtain ⟨aa, ca, rfl, hc⟩ := sn_at ha
  obtain ⟨ab, cb, rfl, hc2⟩ := sn_at hb
  obtain ⟨V, hV⟩ : ∃ V, V = smV L M := ⟨_, rfl⟩
  rw [← hV]
  have HV := Lib.hid hV
  have HC := Lib.hid hc
  have HC2 := Lib.hid hc2
  have HR := Lib.hid (fun j => qS_le hr j)
  obtain ⟨n, hn⟩ : ∃ n, n = L.length := ⟨_, rfl⟩
  obtain ⟨n2, hn2⟩ : ∃ n, n = M.length := ⟨_, rfl⟩
  rw [← hn] at hl
  rw [← hn2] at hm
  rw [← hn, ← hn2]
  have HN := Lib.hid hn
  have HN2 := Lib.hid hn2
  clear ha hb hc hc2 hr hn hn2 hV
  by_cases hne : n = n2
  · subst hne
    have hb0 : (!((n : Int) == (n : Int))) = false := by simp
    go_enter Try.func43, Try.ntmps43
    go_wp2
    go_loopw [5] (fun i wr => ∃ k : Nat, k ≤ n ∧ i = .int .i64 k ∧ smN L M k = true ∧ Below w.heap.size w wr) (fun i _ => n - (intOf i).toNat)
    case atStart => exact ⟨0, Nat.zero_le _, rfl, rfl, Below.refl _ _⟩
    case round =>
      obtain ⟨k, hk, rfl, hsm, hb⟩ := hrel
      by_cases hlt' : k < n
      · have hk0 : (0 : Int) ≤ (k : Int) := by omega
        have hkn : (k : Int) < (n : Int) := by omega
        obtain ⟨b, off, rfl, hlt, ua, uc, c0, c1, c2, hrow⟩ := HC.out k (by rw [← HN.out]; exact hlt')
        obtain ⟨b2, off2, rfl, hlt2, ub, ud, d0, d1, d2, hrow2⟩ := HC2.out k (by rw [← HN2.out]; exact hlt')
        have hrl := HR.out k
        have hno := fun h => smN_no (L := L) (M := M) (j := k) h n hlt'
        have hnx : smN L M (k + 1) = (smN L M k && (decide ((qD L k).1.1 = (qD M k).1.1) && sameRp (qD L k).1.2 (qD L k).2 (qD M k).1.2 (qD M k).2)) := rfl
        obtain ⟨q, hq⟩ : ∃ q, q = qD L k := ⟨_, rfl⟩
        obtain ⟨p, hp⟩ : ∃ p, p = qD M k := ⟨_, rfl⟩
        rw [← hq, ← hp] at hno hnx
        rw [← hq] at c0 c1 c2 hrow hrl
        rw [← hp] at d0 d1 d2 hrow2
        obtain ⟨⟨t, m⟩, z⟩ := q
        obtain ⟨⟨t', m'⟩, z'⟩ := p
        simp only at c0 c1 c2 d0 d1 d2 hrow hrow2 hrl hno hnx
        rw [hsm, Bool.true_and] at hnx
        obtain ⟨sv, hsv⟩ : ∃ s, s = sameRp m z m' z' := ⟨_, rfl⟩
        rw [← hsv] at hno hnx
        have HW1 := Lib.hid (hrow.below hb)
        have HW2 := Lib.hid (hrow2.below hb)
        have r0 := (hb.cell (p := ⟨b, off + k * 3, none⟩) hlt).trans c0
        have r1 := (hb.cell (p := ⟨b, off + k * 3 + 1, none⟩) hlt).trans c1
        have r2 := (hb.cell (p := ⟨b, off + k * 3 + 2, none⟩) hlt).trans c2
        have t0 := (hb.cell (p := ⟨b2, off2 + k * 3, none⟩) hlt2).trans d0
        have t1 := (hb.cell (p := ⟨b2, off2 + k * 3 + 1, none⟩) hlt2).trans d1
        have t2 := (hb.cell (p := ⟨b2, off2 + k * 3 + 2, none⟩) hlt2).trans d2
        have hbl : b < wr.heap.size := Nat.lt_of_lt_of_le hlt hb.size
        have hbl2 : b2 < wr.heap.size := Nat.lt_of_lt_of_le hlt2 hb.size
        have HB := Lib.hid hb
        have HRL := Lib.hid (show z.length ≤ maxLen by unfold maxLen; omega)
        have HNO := Lib.hid hno
        have HNX := Lib.hid hnx
        have HSV := Lib.hid hsv
        clear c0 c1 c2 d0 d1 d2 hb hrow hrow2 hq hp hrl hno hnx hsv hsm
        by_cases htt : t = t'
        · subst htt
          have hb1 : (!(t == t)) = false := by simp
          go_upto_region 6 with (fail)
          go_cut [41] (fun sd wx => sd = .bool (!sv) ∧ Below wr.heap.size wr wx)
          case first =>
            go_region_held3 (fun w' => w'.cell? ⟨b, off + k * 3, none⟩ = some (.int .i64 t) ∧ w'.cell? ⟨b, off + k * 3 + 1, none⟩ = some (.int .i64 m) ∧ w'.cell? ⟨b, off + k * 3 + 2, none⟩ = some (.slice ua z.length uc) ∧ w'.cell? ⟨b2, off2 + k * 3, none⟩ = some (.int .i64 t) ∧ w'.cell? ⟨b2, off2 + k * 3 + 1, none⟩ = some (.int .i64 m') ∧ w'.cell? ⟨b2, off2 + k * 3 + 2, none⟩ = some (.slice ub z'.length ud)) (first | go_keep)
              (first | (go_at_call 117; refine (specSameReport_s m _ z m' _ z' sv HSV.out _ HRL.out (by first | exact HW1.out | exact HW1.out.below (Below.refl _ _).drew | exact HW1.out.below (Below.refl _ _).drew.drew) (by first | exact HW2.out | exact HW2.out.below (Below.refl _ _).drew | exact HW2.out.below (Below.refl _ _).drew.drew)).mono ?_; rintro e v1 ⟨rfl, hb1⟩; have hbr : Below wr.heap.size wr v1 := (by first | exact hb1 | exact ((Below.refl _ _).drew).trans hb1 | exact ((Below.refl _ _).drew.drew).trans hb1); have kr0 := (hbr.cell (p := ⟨b, off + k * 3, none⟩) hbl).trans r0; have kr1 := (hbr.cell (p := ⟨b, off + k * 3 + 1, none⟩) hbl).trans r1; have kr2 := (hbr.cell (p := ⟨b, off + k * 3 + 2, none⟩) hbl).trans r2; have kt0 := (hbr.cell (p := ⟨b2, off2 + k * 3, none⟩) hbl2).trans t0; have kt1 := (hbr.cell (p := ⟨b2, off2 + k * 3 + 1, none⟩) hbl2).trans t1; have kt2 := (hbr.cell (p := ⟨b2, off2 + k * 3 + 2, none⟩) hbl2).trans t2; have HBR := Lib.hid hbr; clear hbr hb1))
            all_goals
              go_wp2
              go_meet
              exact ⟨rfl, by first | exact HBR.out | exact HBR.out.drew⟩
          case rest =>
            obtain ⟨rfl, hb⟩ := hcut
            have HB2 := Lib.hid (HB.out.trans (hb.mono HB.out.size))
            clear hb r0 t0 r1 t1 r2 t2
            cases sv
            · obtain rfl : V = false := by rw [HV.out, smV, ← HN.out, HNO.out (by simp), Bool.and_false]
              go_wp2
              go_ret
              exact ⟨rfl, HB2.out⟩
            · have HQ := Lib.hid (show smN L M (k + 1) = true by rw [HNX.out]; simp)
              go_wp2
              go_roundw
              case rel => exact ⟨k + 1, by omega, by go_num, HQ.out, HB2.out⟩
              case measure => simp [intOf]; omega
        · have hb1 : (!(t == t')) = true := by simp [htt]
          have hb2 : (t == t') = false := by simp [htt]
          have hb3 : (t != t') = true := by simp [htt]
          obtain rfl : V = false := by rw [HV.out, smV, ← HN.out, HNO.out (by rw [decide_eq_false htt, Bool.false_and]), Bool.and_false]
          clear htt
          go_upto_region 6 with (fail)
          go_quiet (fail)
          go_wp2
          go_ret
          exact ⟨rfl, below_drewN HB.out _⟩
      · obtain rfl : k = n := by omega
        obtain rfl : V = true := by rw [HV.out, smV, ← HN.out, ← HN2.out, hsm]; simp
        go_wp2
        go_ret
        exact ⟨rfl, hb⟩
  · have hb0 : (!((n : Int) == (n2 : Int))) = true := by simp; omega
    have hb1 : ((n : Int) == (n2 : Int)) = false := by simp; omega
    obtain rfl : V = false := by rw [HV.out, smV, ← HN.out, ← HN2.out, decide_eq_false hne, Bool.false_and]
    go_enter Try.func43, Try.ntmps43
    go_wp2
    go_ret
    exact ⟨rfl, Below.refl _ _⟩

end Go.Proofs.Yteljmfdlegohbaa
