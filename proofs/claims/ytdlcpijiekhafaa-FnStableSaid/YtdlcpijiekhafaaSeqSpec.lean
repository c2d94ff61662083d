/- DERIVED. The reference's LastStable, CountChanges and IsSpaced, each called with a slice that reads as known numbers: it returns what a plain function says. -/
import Derived.Test.YtdlcpijiekhafaaInts
import Derived.Test.YtdlcpijiekhafaaIn
import Derived.Test.YtdlcpijiekhafaaBits
namespace Go.Proofs.Ytdlcpijiekhafaa
open Go.RowKit

/-- Bit k of a number, as Go asks for it. -/
def bz (z : Int) (k : Nat) : Int := bits .and .i64 (z / 2 ^ k) 1
theorem bz01 (z : Int) (k : Nat) : bz z k = 0 ∨ bz z k = 1 := by
  unfold bz bits
  have e : (BitVec.ofInt 64 1).toNat = 1 := by decide
  have hle : (BitVec.ofInt 64 (z / 2 ^ k) &&& BitVec.ofInt 64 1).toNat ≤ 1 := by
    rw [BitVec.toNat_and, e]; exact Nat.and_le_right
  show IntKind.i64.wrap ((BitVec.ofInt 64 (z / 2 ^ k) &&& BitVec.ofInt 64 1).toNat : Int) = 0 ∨ IntKind.i64.wrap ((BitVec.ofInt 64 (z / 2 ^ k) &&& BitVec.ofInt 64 1).toNat : Int) = 1
  generalize (BitVec.ofInt 64 (z / 2 ^ k) &&& BitVec.ofInt 64 1).toNat = m at hle
  rw [IntWalk.i64_in _ ⟨by omega, by omega⟩]
  omega
theorem rd_ints {w : World} {v : Value} {zs : List Int} (h : Rd w v (zs.map (.int .i64))) :
    (zs = [] ∧ ∃ a cap, v = .slice a 0 cap) ∨ ∃ b off cap, 0 < zs.length ∧ v = .slice (some ⟨b, off, none⟩) zs.length cap ∧ b < w.heap.size ∧ ∀ j, j < zs.length → w.cell? ⟨b, off + j, none⟩ = some (.int .i64 (zs.getD j 0)) := by
  rcases h.cases with ⟨hx, a, cap, rfl⟩ | ⟨hx, b, off, cap, rfl, hlt, hc⟩
  · exact .inl ⟨by simpa using hx, a, cap, rfl⟩
  · refine .inr ⟨b, off, cap, ?_, by rw [List.length_map], hlt, fun j hj => ?_⟩
    · have : zs ≠ [] := fun e => hx (by rw [e]; rfl)
      exact List.length_pos_iff.mpr this
    · rw [hc j (by simpa using hj), getD_map_int]

def keyB (key : Int) : Bool := decide (0 ≤ key ∧ key ≤ 23)
theorem l3Key_any (key : Int) (w : World) : Calls Try.prog 49 #[.int .i64 key] w fun e w' => e = .returned (.bool (keyB key)) ∧ w = w' := by
  obtain ⟨v, hv⟩ : ∃ v, v = keyB key := ⟨_, rfl⟩
  rw [← hv]
  have HV := Lib.hid (show decide (0 ≤ key ∧ key ≤ 23) = v from hv.symm)
  clear hv
  go_enter Try.func49, Try.ntmps49
  go_wp2_with fail
  refine (l1In_any key 0 23 _).mono ?_
  rw [HV.out]
  rintro e w0 ⟨rfl, rfl⟩
  go_wp2
  go_ret
  exact ⟨rfl, rfl⟩

/-- The last bit and the number of changes behind j masks. -/
def ccN (zs : List Int) (k : Nat) : Nat → Int × Nat
  | 0 => (0, 0)
  | j + 1 => if bz (zs.getD j 0) k = (ccN zs k j).1 then ccN zs k j else (1 - (ccN zs k j).1, (ccN zs k j).2 + 1)
theorem ccN_bd (zs : List Int) (k j : Nat) : ((ccN zs k j).1 = 0 ∨ (ccN zs k j).1 = 1) ∧ (ccN zs k j).2 ≤ j := by
  induction j with
  | zero => exact ⟨.inl rfl, Nat.le_refl _⟩
  | succ j ih =>
    rw [ccN]
    split
    · exact ⟨ih.1, by omega⟩
    · constructor
      · simp only; omega
      · simp only; omega
def countV (zs : List Int) (key : Int) : Int := if keyB key = true then ((ccN zs key.toNat zs.length).2 : Int) else 0

set_option maxHeartbeats 1000000 in
theorem specCountChanges_any (v : Value) (zs : List Int) (key : Int) (w : World) (hl : zs.length ≤ 1048576) (h : Rd w v (zs.map (.int .i64))) :
    Calls Try.prog 37 #[v, .int .i64 key] w fun e w' => e = .returned (.int .i64 (countV zs key)) ∧ w = w' := by
  obtain ⟨r, hr⟩ : ∃ r, r = countV zs key := ⟨_, rfl⟩
  rw [← hr]
  rcases rd_ints h with ⟨rfl, a, cap, rfl⟩ | ⟨b, off, cap, hpos, rfl, hlt, hc⟩
  · obtain rfl : r = 0 := by rw [hr, countV]; split <;> rfl
    clear hr h
    go_enter Try.func37, Try.ntmps37
    go_wp2
    refine wp_loop_rounds 1 ?_
    rw [rounds_succ]
    go_wp2
    go_ret
    exact ⟨rfl, rfl⟩
  · obtain ⟨kb, hk⟩ : ∃ kb, kb = keyB key := ⟨_, rfl⟩
    have HC := Lib.hid hc
    cases kb
    · obtain rfl : r = 0 := by rw [hr, countV, ← hk]; rfl
      have HK := Lib.hid hk
      clear hr h hk hc
      go_enter Try.func37, Try.ntmps37
      go_wp2
      refine wp_loop_rounds 1 ?_
      rw [rounds_succ]
      go_wp2_with fail
      refine (l3Key_any key _).mono ?_
      rw [← HK.out]
      rintro e w0 ⟨rfl, rfl⟩
      go_wp2
      go_ret
      exact ⟨rfl, rfl⟩
    · have hk' := of_decide_eq_true (show decide (0 ≤ key ∧ key ≤ 23) = true from hk.symm)
      obtain ⟨k, rfl⟩ := Int.eq_ofNat_of_zero_le hk'.1
      have hk23 : k ≤ 23 := by omega
      have hrN : r = ((ccN zs k zs.length).2 : Int) := by rw [hr, countV, ← hk]; simp
      have HK := Lib.hid hk
      have HR := Lib.hid hrN
      clear hr h hk hk' hrN hc
      go_enter Try.func37, Try.ntmps37
      go_wp2
      go_loop [5, 6, 7] (fun n l i => ∃ j : Nat, j ≤ zs.length ∧ i = .int .i64 j ∧ l = .int .i64 (ccN zs k j).1 ∧ n = .int .i64 ((ccN zs k j).2 : Nat)) (fun _ _ i => zs.length - (intOf i).toNat)
      case atStart => exact ⟨0, Nat.zero_le _, rfl, rfl, rfl⟩
      case round =>
        obtain ⟨j, hj, rfl, rfl, rfl⟩ := hrel
        have hbd := ccN_bd zs k j
        obtain ⟨p, hp⟩ : ∃ p, p = ccN zs k j := ⟨_, rfl⟩
        rw [← hp] at hbd ⊢
        obtain ⟨l, n⟩ := p
        obtain ⟨hb1, hb2⟩ := hbd
        simp only at hb1 hb2 ⊢
        have hl01 : 0 ≤ l ∧ l ≤ 1 := by omega
        obtain ⟨hl0, hl1⟩ := hl01
        clear hb1
        by_cases hlt' : j < zs.length
        · have hcell := HC.out j hlt'
          obtain ⟨z, hz⟩ : ∃ z, z = zs.getD j 0 := ⟨_, rfl⟩
          rw [← hz] at hcell
          obtain ⟨q, hq⟩ : ∃ q, q = bz z k := ⟨_, rfl⟩
          have hbz : bits .and .i64 (z / 2 ^ k) 1 = q := hq.symm
          have hq01 : 0 ≤ q ∧ q ≤ 1 := by rcases bz01 z k with h | h <;> omega
          obtain ⟨hq0, hq1⟩ := hq01
          have hnext : ccN zs k (j + 1) = if q = l then (l, n) else (1 - l, n + 1) := by rw [ccN, ← hp, ← hz, ← hq]
          by_cases hql : q = l
          · subst hql
            rw [if_pos rfl] at hnext
            have HN := Lib.hid hnext
            clear hnext hp hz hq
            go_wp2_with fail
            refine (l3Key_any k _).mono ?_
            rw [← HK.out]
            rintro e w0 ⟨rfl, rfl⟩
            go_wp2
            go_round
            case rel => exact ⟨j + 1, by omega, by go_num, by rw [HN.out], by rw [HN.out]⟩
            case measure => simp [intOf]; omega
          · rw [if_neg hql] at hnext
            have HN := Lib.hid hnext
            have hne : (q == l) = false := beq_false_of_ne hql
            have hne2 : (q != l) = true := by rw [bne, hne]; rfl
            clear hnext hp hz hq hql
            go_wp2_with fail
            refine (l3Key_any k _).mono ?_
            rw [← HK.out]
            rintro e w0 ⟨rfl, rfl⟩
            go_wp2
            go_round
            case rel => exact ⟨j + 1, by omega, by go_num, by rw [HN.out], by rw [HN.out]; go_num⟩
            case measure => simp [intOf]; omega
        · obtain rfl : j = zs.length := by omega
          have HV : Hid (r = (n : Int)) := Lib.hid (by rw [HR.out, ← hp])
          clear hp
          go_wp2
          go_ret
          exact ⟨ret_int HV.out.symm, rfl⟩

/-- Behind j masks: the last bit, where it last changed (-1: nowhere), and whether all changes were spaced. -/
def spN (zs : List Int) (k : Nat) (n : Int) : Nat → Int × Int × Bool
  | 0 => (0, -1, true)
  | j + 1 => if bz (zs.getD j 0) k = (spN zs k n j).1 then spN zs k n j else (1 - (spN zs k n j).1, (j : Int), (spN zs k n j).2.2 && !(decide (0 ≤ (spN zs k n j).2.1) && decide ((j : Int) - (spN zs k n j).2.1 < n)))
theorem spN_bd (zs : List Int) (k : Nat) (n : Int) (j : Nat) : ((spN zs k n j).1 = 0 ∨ (spN zs k n j).1 = 1) ∧ -1 ≤ (spN zs k n j).2.1 ∧ (spN zs k n j).2.1 < j := by
  induction j with
  | zero => exact ⟨.inl rfl, by simp [spN], by simp [spN]⟩
  | succ j ih =>
    rw [spN]
    split
    · exact ⟨ih.1, by omega, by omega⟩
    · refine ⟨?_, ?_, ?_⟩
      · simp only; omega
      · simp only; omega
      · simp only; omega
theorem spN_no {zs : List Int} {k : Nat} {n : Int} {j : Nat} (h : (spN zs k n j).2.2 = false) : ∀ m, j ≤ m → (spN zs k n m).2.2 = false := by
  intro m hm
  induction m with
  | zero => obtain rfl : j = 0 := by omega
            exact h
  | succ m ih =>
    by_cases e : j = m + 1
    · subst e; exact h
    · rw [spN]
      split
      · exact ih (by omega)
      · simp only; rw [ih (by omega)]; rfl
def spacedV (zs : List Int) (key n : Int) : Bool := keyB key && (spN zs key.toNat n zs.length).2.2

set_option maxHeartbeats 1000000 in
theorem specIsSpaced_any (v : Value) (zs : List Int) (key n : Int) (w : World) (hl : zs.length ≤ 1048576) (h : Rd w v (zs.map (.int .i64))) :
    Calls Try.prog 38 #[v, .int .i64 key, .int .i64 n] w fun e w' => e = .returned (.bool (spacedV zs key n)) ∧ w = w' := by
  obtain ⟨r, hr⟩ : ∃ r, r = spacedV zs key n := ⟨_, rfl⟩
  rw [← hr]
  obtain ⟨kb, hk⟩ : ∃ kb, kb = keyB key := ⟨_, rfl⟩
  rcases rd_ints h with ⟨rfl, a, cap, rfl⟩ | ⟨b, off, cap, hpos, rfl, hlt, hc⟩
  · have hrk : r = kb := by rw [hr, spacedV, ← hk]; simp [spN]
    have HK := Lib.hid (show r = keyB key by rw [hrk, hk])
    clear hr h hk hrk
    go_enter Try.func38, Try.ntmps38
    go_wp2
    refine wp_loop_rounds 1 ?_
    rw [rounds_succ]
    go_wp2_with fail
    refine (l3Key_any key _).mono ?_
    rw [← HK.out]
    rintro e w0 ⟨rfl, rfl⟩
    go_wp2
    go_ret
    exact ⟨rfl, rfl⟩
  · have HC := Lib.hid hc
    cases kb
    · obtain rfl : r = false := by rw [hr, spacedV, ← hk]; rfl
      have HK := Lib.hid hk
      clear hr h hk hc
      go_enter Try.func38, Try.ntmps38
      go_wp2
      refine wp_loop_rounds 1 ?_
      rw [rounds_succ]
      go_wp2_with fail
      refine (l3Key_any key _).mono ?_
      rw [← HK.out]
      rintro e w0 ⟨rfl, rfl⟩
      go_wp2_with fail
      refine (l3Key_any key _).mono ?_
      rw [← HK.out]
      rintro e w0 ⟨rfl, rfl⟩
      go_wp2
      go_ret
      exact ⟨rfl, rfl⟩
    · have hk' := of_decide_eq_true (show decide (0 ≤ key ∧ key ≤ 23) = true from hk.symm)
      obtain ⟨k, rfl⟩ := Int.eq_ofNat_of_zero_le hk'.1
      have hk23 : k ≤ 23 := by omega
      have hrN : r = (spN zs k n zs.length).2.2 := by rw [hr, spacedV, ← hk]; simp
      have HK := Lib.hid hk
      have HR := Lib.hid hrN
      clear hr h hk hk' hrN hc
      go_enter Try.func38, Try.ntmps38
      go_wp2
      go_loop [7, 8, 9] (fun l t i => ∃ j : Nat, j ≤ zs.length ∧ i = .int .i64 j ∧ l = .int .i64 (spN zs k n j).1 ∧ t = .int .i64 (spN zs k n j).2.1 ∧ (spN zs k n j).2.2 = true) (fun _ _ i => zs.length - (intOf i).toNat)
      case atStart => exact ⟨0, Nat.zero_le _, rfl, rfl, rfl, rfl⟩
      case round =>
        obtain ⟨j, hj, rfl, rfl, rfl, hok⟩ := hrel
        have hbd := spN_bd zs k n j
        have hnx : spN zs k n (j + 1) = if bz (zs.getD j 0) k = (spN zs k n j).1 then spN zs k n j else (1 - (spN zs k n j).1, (j : Int), (spN zs k n j).2.2 && !(decide (0 ≤ (spN zs k n j).2.1) && decide ((j : Int) - (spN zs k n j).2.1 < n))) := by rw [spN]
        obtain ⟨p, hp⟩ : ∃ p, p = spN zs k n j := ⟨_, rfl⟩
        rw [← hp] at hbd hnx hok ⊢
        obtain ⟨l, t, ok⟩ := p
        obtain ⟨hb1, hb2, hb3⟩ := hbd
        simp only at hb1 hb2 hb3 hok hnx ⊢
        subst hok
        have hl01 : 0 ≤ l ∧ l ≤ 1 := by omega
        obtain ⟨hl0, hl1⟩ := hl01
        clear hb1
        by_cases hlt' : j < zs.length
        · have hcell := HC.out j hlt'
          obtain ⟨z, hz⟩ : ∃ z, z = zs.getD j 0 := ⟨_, rfl⟩
          rw [← hz] at hcell hnx
          obtain ⟨q, hq⟩ : ∃ q, q = bz z k := ⟨_, rfl⟩
          rw [← hq] at hnx
          have hbz : bits .and .i64 (z / 2 ^ k) 1 = q := hq.symm
          have hq01 : 0 ≤ q ∧ q ≤ 1 := by rcases bz01 z k with h | h <;> omega
          obtain ⟨hq0, hq1⟩ := hq01
          by_cases hql : q = l
          · subst hql
            rw [if_pos rfl] at hnx
            have HN := Lib.hid hnx
            clear hnx hp hz hq
            go_wp2_with fail
            refine (l3Key_any k _).mono ?_
            rw [← HK.out]
            rintro e w0 ⟨rfl, rfl⟩
            go_wp2
            go_round
            case rel => exact ⟨j + 1, by omega, by go_num, by rw [HN.out], by rw [HN.out], by rw [HN.out]⟩
            case measure => simp [intOf]; omega
          · rw [if_neg hql] at hnx
            have hne : (q == l) = false := beq_false_of_ne hql
            clear hp hz hq hql
            by_cases ht : 0 ≤ t
            · by_cases htn : (j : Int) - t < n
              · rw [decide_eq_true ht, decide_eq_true htn] at hnx
                have hF := spN_no (j := j + 1) (by rw [hnx]; rfl) zs.length (by omega)
                have HF : Hid (r = false) := Lib.hid (by rw [HR.out, hF])
                clear hnx hF
                go_wp2_with fail
                refine (l3Key_any k _).mono ?_
                rw [← HK.out]
                rintro e w0 ⟨rfl, rfl⟩
                go_wp2
                go_ret
                exact ⟨ret_bool HF.out.symm, rfl⟩
              · rw [decide_eq_true ht, decide_eq_false htn] at hnx
                have HN := Lib.hid hnx
                clear hnx
                go_wp2_with fail
                refine (l3Key_any k _).mono ?_
                rw [← HK.out]
                rintro e w0 ⟨rfl, rfl⟩
                go_wp2
                go_round
                case rel => exact ⟨j + 1, by omega, by go_num, by rw [HN.out], by rw [HN.out], by rw [HN.out]; rfl⟩
                case measure => simp [intOf]; omega
            · rw [decide_eq_false ht] at hnx
              have HN := Lib.hid hnx
              clear hnx
              go_wp2_with fail
              refine (l3Key_any k _).mono ?_
              rw [← HK.out]
              rintro e w0 ⟨rfl, rfl⟩
              go_wp2
              go_round
              case rel => exact ⟨j + 1, by omega, by go_num, by rw [HN.out], by rw [HN.out], by rw [HN.out]; rfl⟩
              case measure => simp [intOf]; omega
        · obtain rfl : j = zs.length := by omega
          have HV : Hid (r = true) := Lib.hid (by rw [HR.out, ← hp])
          clear hp hnx
          go_wp2_with fail
          refine (l3Key_any k _).mono ?_
          rw [← HK.out]
          rintro e w0 ⟨rfl, rfl⟩
          go_wp2
          go_ret
          exact ⟨ret_bool HV.out.symm, rfl⟩

/-- Behind j samples: the length of the run, what was last stable, and whether anything was. -/
def lsN (zs : List Int) (time : Int) (k : Nat) : Nat → Nat × Bool × Bool
  | 0 => (0, false, false)
  | j + 1 =>
    if time ≤ ((if 0 < j ∧ bz (zs.getD j 0) k = bz (zs.getD (j - 1) 0) k then (lsN zs time k j).1 + 1 else 1 : Nat) : Int) then
      (if 0 < j ∧ bz (zs.getD j 0) k = bz (zs.getD (j - 1) 0) k then (lsN zs time k j).1 + 1 else 1, bz (zs.getD j 0) k == 1, true)
    else (if 0 < j ∧ bz (zs.getD j 0) k = bz (zs.getD (j - 1) 0) k then (lsN zs time k j).1 + 1 else 1, (lsN zs time k j).2.1, (lsN zs time k j).2.2)
theorem lsN_bd (zs : List Int) (time : Int) (k j : Nat) : (lsN zs time k j).1 ≤ j := by
  induction j with
  | zero => exact Nat.le_refl _
  | succ j ih =>
    have e : (lsN zs time k (j + 1)).1 = if 0 < j ∧ bz (zs.getD j 0) k = bz (zs.getD (j - 1) 0) k then (lsN zs time k j).1 + 1 else 1 := by rw [lsN]; split <;> (split <;> rfl)
    rw [e]
    split <;> omega
def stableOk (time key : Int) : Bool := decide (1 ≤ time ∧ time ≤ 20) && keyB key
def stableV (zs : List Int) (time key : Int) : Bool := stableOk time key && (lsN zs time key.toNat zs.length).2.1
def stableB (zs : List Int) (time key : Int) : Bool := stableOk time key && (lsN zs time key.toNat zs.length).2.2

set_option maxHeartbeats 2000000 in
theorem specLastStable_any (v : Value) (zs : List Int) (time key : Int) (w : World) (hl : zs.length ≤ 1048576) (h : Rd w v (zs.map (.int .i64))) :
    Calls Try.prog 36 #[v, .int .i64 time, .int .i64 key] w fun e w' => e = .returned (.tuple #[.bool (stableV zs time key), .bool (stableB zs time key)]) ∧ ∃ n, w' = w.drewN n := by
  obtain ⟨r, hr⟩ : ∃ r, r = stableV zs time key := ⟨_, rfl⟩
  obtain ⟨o, ho⟩ : ∃ o, o = stableB zs time key := ⟨_, rfl⟩
  rw [← hr, ← ho]
  obtain ⟨tb, ht⟩ : ∃ tb, tb = decide (1 ≤ time ∧ time ≤ 20) := ⟨_, rfl⟩
  obtain ⟨kb, hk⟩ : ∃ kb, kb = keyB key := ⟨_, rfl⟩
  have hso : stableOk time key = (tb && kb) := by rw [stableOk, ht, hk]
  have hsh : ∃ a cap, v = .slice a zs.length cap := by obtain ⟨a, cap, hu, _⟩ := h; exact ⟨a, cap, by simpa using hu⟩
  have HT := Lib.hid ht
  have HK := Lib.hid hk
  cases tb
  · obtain rfl : r = false := by rw [hr, stableV, hso]; rfl
    obtain rfl : o = false := by rw [ho, stableB, hso]; rfl
    clear hr ho ht hk hso h
    go_enter Try.func36, Try.ntmps36
    go_wp2_with fail
    refine (l1In_any time 1 20 _).mono ?_
    rw [← HT.out]
    rintro e w0 ⟨rfl, rfl⟩
    go_wp2
    go_ret2
    exact ⟨rfl, 0, rfl⟩
  · cases kb
    · obtain rfl : r = false := by rw [hr, stableV, hso]; rfl
      obtain rfl : o = false := by rw [ho, stableB, hso]; rfl
      clear hr ho ht hk hso h
      go_enter Try.func36, Try.ntmps36
      go_wp2_with fail
      refine (l1In_any time 1 20 _).mono ?_
      rw [← HT.out]
      rintro e w0 ⟨rfl, rfl⟩
      go_wp2_with fail
      refine (l3Key_any key _).mono ?_
      rw [← HK.out]
      rintro e w0 ⟨rfl, rfl⟩
      go_wp2
      go_ret2
      exact ⟨rfl, 0, rfl⟩
    · have hk' := of_decide_eq_true (show decide (0 ≤ key ∧ key ≤ 23) = true from hk.symm)
      obtain ⟨k, rfl⟩ := Int.eq_ofNat_of_zero_le hk'.1
      have hk23 : k ≤ 23 := by omega
      have hrN : r = (lsN zs time k zs.length).2.1 := by rw [hr, stableV, hso]; simp
      have hoN : o = (lsN zs time k zs.length).2.2 := by rw [ho, stableB, hso]; simp
      have HR := Lib.hid hrN
      have HO := Lib.hid hoN
      clear hr ho ht hk hk' hrN hoN hso
      rcases rd_ints h with ⟨rfl, a, cap, rfl⟩ | ⟨b, off, cap, hpos, rfl, hlt, hc⟩
      · obtain rfl : r = false := HR.out
        obtain rfl : o = false := HO.out
        clear h hsh
        go_enter Try.func36, Try.ntmps36
        go_wp2_with fail
        refine (l1In_any time 1 20 _).mono ?_
        rw [← HT.out]
        rintro e w0 ⟨rfl, rfl⟩
        go_wp2_with fail
        refine (l3Key_any k _).mono ?_
        rw [← HK.out]
        rintro e w0 ⟨rfl, rfl⟩
        go_wp2
        refine wp_loop_rounds 1 ?_
        rw [rounds_succ]
        go_wp2
        go_ret2
        exact ⟨rfl, 0, rfl⟩
      · have HC := Lib.hid hc
        clear h hsh hc
        go_enter Try.func36, Try.ntmps36
        go_wp2_with fail
        refine (l1In_any time 1 20 _).mono ?_
        rw [← HT.out]
        rintro e w0 ⟨rfl, rfl⟩
        go_wp2_with fail
        refine (l3Key_any k _).mono ?_
        rw [← HK.out]
        rintro e w0 ⟨rfl, rfl⟩
        go_wp2
        go_loopw [8, 9, 10, 11] (fun x y q i wr => ∃ (j m : Nat), j ≤ zs.length ∧ i = .int .i64 j ∧ q = .int .i64 ((lsN zs time k j).1 : Nat) ∧ x = .bool (lsN zs time k j).2.1 ∧ y = .bool (lsN zs time k j).2.2 ∧ wr = w.drewN m) (fun _ _ _ i _ => zs.length - (intOf i).toNat)
        case atStart => exact ⟨0, 0, Nat.zero_le _, rfl, rfl, rfl, rfl, rfl⟩
        case round =>
          obtain ⟨j, m, hj, rfl, rfl, rfl, rfl, rfl⟩ := hrel
          have hbd := lsN_bd zs time k j
          by_cases hlt' : j < zs.length
          · have hcell := HC.out j hlt'
            have hnx : lsN zs time k (j + 1) = if time ≤ ((if 0 < j ∧ bz (zs.getD j 0) k = bz (zs.getD (j - 1) 0) k then (lsN zs time k j).1 + 1 else 1 : Nat) : Int) then
                (if 0 < j ∧ bz (zs.getD j 0) k = bz (zs.getD (j - 1) 0) k then (lsN zs time k j).1 + 1 else 1, bz (zs.getD j 0) k == 1, true)
              else (if 0 < j ∧ bz (zs.getD j 0) k = bz (zs.getD (j - 1) 0) k then (lsN zs time k j).1 + 1 else 1, (lsN zs time k j).2.1, (lsN zs time k j).2.2) := by rw [lsN]
            have hcell1 : 0 < j → w.cell? ⟨b, off + (j - 1), none⟩ = some (.int .i64 (zs.getD (j - 1) 0)) := fun h => HC.out (j - 1) (by omega)
            obtain ⟨p, hp⟩ : ∃ p, p = lsN zs time k j := ⟨_, rfl⟩
            rw [← hp] at hbd hnx ⊢
            obtain ⟨n, x, y⟩ := p
            simp only at hbd hnx ⊢
            obtain ⟨z, hz⟩ : ∃ z, z = zs.getD j 0 := ⟨_, rfl⟩
            obtain ⟨z1, hz1⟩ : ∃ z1, z1 = zs.getD (j - 1) 0 := ⟨_, rfl⟩
            rw [← hz] at hcell hnx
            rw [← hz1] at hcell1 hnx
            obtain ⟨q, hq⟩ : ∃ q, q = bz z k := ⟨_, rfl⟩
            obtain ⟨q1, hq1⟩ : ∃ q1, q1 = bz z1 k := ⟨_, rfl⟩
            rw [← hq, ← hq1] at hnx
            have hbz : bits .and .i64 (z / 2 ^ k) 1 = q := hq.symm
            have hbz1 : bits .and .i64 (z1 / 2 ^ k) 1 = q1 := hq1.symm
            clear hp hz hz1 hq hq1
            by_cases h0 : 0 < j
            · obtain ⟨i, hji⟩ : ∃ i, j = i + 1 := ⟨j - 1, by omega⟩
              have hc1 := hcell1 h0
              rw [show j - 1 = i by omega] at hc1
              have ei : IntKind.i64.wrap ((j : Int) - 1) = (i : Int) := by rw [show (j : Int) - 1 = (i : Int) by omega]; exact IntWalk.i64_in _ ⟨by omega, by omega⟩
              have hgt : decide ((0 : Int) < (j : Int)) = true := decide_eq_true (by omega)
              have hi0 : (0 : Int) ≤ (i : Int) := by omega
              have hi1 : (i : Int) < (zs.length : Int) := by omega
              have HJ := Lib.hid hji
              clear hcell1 hji
              by_cases hqq : q = q1
              · subst hqq
                rw [if_pos (show 0 < j ∧ q = q from ⟨h0, rfl⟩)] at hnx
                by_cases htm : time ≤ ((n + 1 : Nat) : Int)
                · rw [if_pos htm] at hnx
                  have HN := Lib.hid hnx
                  have htm' : time ≤ (n : Int) + 1 := by omega
                  clear hnx htm
                  go_wp2
                  go_quiet (fail)
                  go_wp2
                  go_roundw
                  case rel => exact ⟨j + 1, _, by omega, by go_num, by rw [HN.out]; go_num, by rw [HN.out], by rw [HN.out], rfl⟩
                  case measure => simp [intOf]; omega
                · rw [if_neg htm] at hnx
                  have HN := Lib.hid hnx
                  have htm' : ¬ time ≤ (n : Int) + 1 := by omega
                  clear hnx htm
                  go_wp2
                  go_quiet (fail)
                  go_wp2
                  go_roundw
                  case rel => exact ⟨j + 1, _, by omega, by go_num, by rw [HN.out]; go_num, by rw [HN.out], by rw [HN.out], rfl⟩
                  case measure => simp [intOf]; omega
              · have hne : (q == q1) = false := beq_false_of_ne hqq
                rw [if_neg (show ¬ (0 < j ∧ q = q1) from fun h => hqq h.2)] at hnx
                by_cases htm : time ≤ ((1 : Nat) : Int)
                · rw [if_pos htm] at hnx
                  have HN := Lib.hid hnx
                  have htm' : time ≤ 1 := by omega
                  clear hnx htm
                  go_wp2
                  go_quiet (fail)
                  go_wp2
                  go_roundw
                  case rel => exact ⟨j + 1, _, by omega, by go_num, by rw [HN.out]; go_num, by rw [HN.out], by rw [HN.out], rfl⟩
                  case measure => simp [intOf]; omega
                · rw [if_neg htm] at hnx
                  have HN := Lib.hid hnx
                  have htm' : ¬ time ≤ 1 := by omega
                  clear hnx htm
                  go_wp2
                  go_quiet (fail)
                  go_wp2
                  go_roundw
                  case rel => exact ⟨j + 1, _, by omega, by go_num, by rw [HN.out]; go_num, by rw [HN.out], by rw [HN.out], rfl⟩
                  case measure => simp [intOf]; omega
            · obtain rfl : j = 0 := by omega
              rw [if_neg (show ¬ (0 < 0 ∧ q = q1) from fun h => absurd h.1 (by omega))] at hnx
              have hcell0 : w.cell? ⟨b, off, none⟩ = some (.int .i64 z) := by rw [Nat.add_zero] at hcell; exact hcell
              clear hcell1
              by_cases htm : time ≤ ((1 : Nat) : Int)
              · rw [if_pos htm] at hnx
                have HN := Lib.hid hnx
                have htm' : time ≤ 1 := by omega
                clear hnx htm
                go_wp2
                go_quiet (fail)
                go_wp2
                go_roundw
                case rel => exact ⟨0 + 1, _, by omega, by go_num, by rw [HN.out]; go_num, by rw [HN.out], by rw [HN.out], rfl⟩
                case measure => simp [intOf]; omega
              · rw [if_neg htm] at hnx
                have HN := Lib.hid hnx
                have htm' : ¬ time ≤ 1 := by omega
                clear hnx htm
                go_wp2
                go_quiet (fail)
                go_wp2
                go_roundw
                case rel => exact ⟨0 + 1, _, by omega, by go_num, by rw [HN.out]; go_num, by rw [HN.out], by rw [HN.out], rfl⟩
                case measure => simp [intOf]; omega
          · obtain rfl : j = zs.length := by omega
            have HV : Hid (r = (lsN zs time k zs.length).2.1 ∧ o = (lsN zs time k zs.length).2.2) := Lib.hid ⟨HR.out, HO.out⟩
            go_wp2
            go_ret2
            exact ⟨ret_bb HV.out.1.symm HV.out.2.symm, _, rfl⟩

end Go.Proofs.Ytdlcpijiekhafaa
