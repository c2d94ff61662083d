/- DERIVED. The debouncer and the samples that the laws draw, and what a run from it comes to. -/
import Derived.Test.YtdlcpijiekhafaaDebLawC
import Derived.Test.YtdlcpijiekhafaaDebDraw
import Derived.Test.YtdlcpijiekhafaaDebMath
import Derived.Test.YtdlcpijiekhafaaBig
namespace Go.Proofs.Ytdlcpijiekhafaa
open Go.RowKit

/-- What is drawn. -/
structure DrawnDeb (k t : Int) (N : Nat) (ys : List Int) : Prop where
  k0 : 0 ≤ k
  k2 : k ≤ 2
  t1 : 1 ≤ t
  t5 : t ≤ 5
  N1 : 1 ≤ N
  N4 : N ≤ 4
  len : ys.length ≤ 40
  rng : ∀ y ∈ ys, 0 ≤ y ∧ y < 2 ^ N
theorem MakeDebouncer_law (v : Value) (zs : List Int) (w : World) (hl : zs.length ≤ 1099511627776) (hz : ∀ z ∈ zs, 0 ≤ z ∧ z < 256) (h : Rd w v (zs.map (.int .u8))) :
    Calls Try.prog 14 #[v] w fun e w' => ∃ (k t : Int) (N : Nat) (a : Option Addr) (c : Nat) (fp : List Nat) (al : Option Addr) (cl : Nat) (fl : List Nat) (ys : List Int), e = .returned (.tuple #[dbv k t N 0 0 (.slice a N c), .slice al ys.length cl]) ∧ DrawnDeb k t N ys ∧
      OwC w' w.heap.size (.row [.int .i64]) (.slice a N c) (.row (ones (List.replicate N 99))) fp ∧ OwC w' w.heap.size (.row [.int .i64]) (.slice al ys.length cl) (.row (ones ys)) fl ∧ Below w.heap.size w w' :=
  (MakeDebouncer_draw v zs w hl hz h).mono fun e w' ⟨k, t, N, a, cap, l, ys, he, k0, k2, t1, t5, n1, n4, hy, hr, h1, h2, hb⟩ => by
    obtain ⟨a', c', fp, e1, o1⟩ := owC_len h1 (by simp; omega)
    obtain ⟨al, cl, fl, rfl, o2⟩ := owC_len h2 (by omega)
    rw [List.length_replicate] at e1 o1
    simp only [Value.slice.injEq] at e1
    obtain ⟨rfl, _, rfl⟩ := e1
    exact ⟨k, t, N, a, cap, fp, al, cl, fl, ys, he, ⟨k0, k2, t1, t5, n1, n4, hy, hr⟩, o1, o2, hb⟩
theorem getD_rng {ys : List Int} {N : Nat} (h : ∀ y ∈ ys, 0 ≤ y ∧ y < 2 ^ N) (j : Nat) : 0 ≤ ys.getD j 0 ∧ ys.getD j 0 < 2 ^ N := by
  by_cases hj : j < ys.length
  · rw [show ys.getD j 0 = ys[j] by simp [List.getElem?_eq_getElem hj]]
    exact h _ (List.getElem_mem hj)
  · rw [show ys.getD j 0 = 0 by simp [List.getElem?_eq_none (show ys.length ≤ j by omega)]]
    exact ⟨Int.le_refl _, Int.pow_pos (by decide)⟩
theorem DrawnDeb.masks {k t : Int} {N : Nat} {ys : List Int} (h : DrawnDeb k t N ys) : Masks ys := fun i => by
  obtain ⟨a, b⟩ := getD_rng h.rng i
  have hp : 2 ^ N ≤ 2 ^ 4 := Nat.pow_le_pow_right (by decide) h.N4
  have := pow_nat N
  exact ⟨a, by omega⟩
theorem DrawnDeb.deb {k t : Int} {N : Nat} {ys : List Int} (h : DrawnDeb k t N ys) {q : Int} (h0 : 0 ≤ q) (h2 : q ≤ 2) : okDeb q t N 0 0 (List.replicate N 99) = true := by
  rw [okDeb_new q t N N (fun _ _ => rfl)]
  have := h.t1; have := h.t5; have := h.N1; have := h.N4
  exact okNew_mk h0 h2 (by omega) (by omega) (by omega) (by omega)
theorem DrawnDeb.run {k t : Int} {N : Nat} {ys : List Int} (h : DrawnDeb k t N ys) {q : Int} (h0 : 0 ≤ q) (h2 : q ≤ 2) : okRun q t N 0 0 (List.replicate N 99) ys = true := by
  unfold okRun
  have h3 : allIn 0 (2 ^ ((N : Nat) : Int).toNat - 1) ys = true := allIn_of fun i hi => by
    obtain ⟨a, b⟩ := getD_rng h.rng i
    exact decide_eq_true ⟨a, by simp only [Int.toNat_natCast]; omega⟩
  rw [h.deb h0 h2, h3, decide_eq_true (show ys.length ≤ 200 by have := h.len; omega)]
  rfl
theorem DrawnDeb.ok {k t : Int} {N : Nat} {ys : List Int} (h : DrawnDeb k t N ys) {q : Int} (h0 : 0 ≤ q) (h2 : q ≤ 2) (j : Nat) : okDeb q t N (runN q t N 0 0 (List.replicate N 99) ys j).1 (runN q t N 0 0 (List.replicate N 99) ys j).2.1 (runN q t N 0 0 (List.replicate N 99) ys j).2.2 = true :=
  runN_ok (h.deb h0 h2) j fun i _ => by
    obtain ⟨a, b⟩ := getD_rng h.rng i
    exact decide_eq_true ⟨a, by simp only [Int.toNat_natCast]; omega⟩
theorem DrawnDeb.shown {k t : Int} {N : Nat} {ys : List Int} (h : DrawnDeb k t N ys) {q : Int} (h0 : 0 ≤ q) (h2 : q ≤ 2) : Shown q t N (List.replicate N 99) ys ys.length := fun j _ => by
  obtain ⟨N', S, L, e1, e2, e3, _, _, _, _, _, _, _, hS, _⟩ := okDeb_nat (h.ok h0 h2 j)
  obtain rfl : N = N' := by omega
  have hp : 2 ^ N ≤ 2 ^ 4 := Nat.pow_le_pow_right (by decide) h.N4
  rw [e2]
  exact ⟨by omega, by omega⟩
theorem DrawnDeb.out {k t : Int} {N : Nat} {ys : List Int} (h : DrawnDeb k t N ys) {q : Int} (h0 : 0 ≤ q) (h2 : q ≤ 2) :
    runR q t N 0 0 (List.replicate N 99) ys = (⟨q, t, N, (runN q t N 0 0 (List.replicate N 99) ys ys.length).1, (runN q t N 0 0 (List.replicate N 99) ys ys.length).2.1, (runN q t N 0 0 (List.replicate N 99) ys ys.length).2.2⟩, runShown q t N 0 0 (List.replicate N 99) ys ys.length, true) := by
  unfold runR
  rw [if_pos (h.run h0 h2)]
theorem keyB_nat {q : Nat} (h : q ≤ 23) : keyB (q : Int) = true := decide_eq_true ⟨by omega, by omega⟩

/-- FnStable's equation, at one key. -/
theorem DrawnDeb.stable {k t : Int} {N : Nat} {ys : List Int} (h : DrawnDeb k t N ys) {q : Nat} (hq : q < N) :
    bits .and .i64 ((runN 0 t N 0 0 (List.replicate N 99) ys ys.length).1 / 2 ^ q) 1 = (if stableV ys t q = true then 1 else 0) ∧ (stableV ys t q = true → stableB ys t q = true) := by
  have h1 := h.t1; have h5 := h.t5; have hN := h.N4
  have hi := stable_inv t N (List.replicate N 99) ys q (by simpa using hq) (by simp [hq]) h1 (by omega) h.masks ys.length
  obtain ⟨i1, i2, _⟩ := hi
  have hso : stableOk t q = true := by
    unfold stableOk
    rw [keyB_nat (by omega), decide_eq_true ⟨h1, by omega⟩]; rfl
  obtain ⟨a, b⟩ := h.shown (q := 0) (by omega) (by omega) ys.length (Nat.le_refl _)
  have hz := bz_bit (q := q) a b
  unfold bz at hz
  unfold stableV stableB
  rw [hso, Bool.true_and, Bool.true_and, Int.toNat_natCast]
  exact ⟨by rw [hz, i1], i2⟩
theorem runShown_len (k t n s l : Int) (zs xs : List Int) (m : Nat) : (runShown k t n s l zs xs m).length = m := by simp [runShown]
/-- FnFewer's two facts, at one key. -/
theorem DrawnDeb.fewer {k t : Int} {N : Nat} {ys : List Int} (h : DrawnDeb k t N ys) {q : Nat} (hq : q < N) :
    countV (runShown k t N 0 0 (List.replicate N 99) ys ys.length) q ≤ countV ys q ∧ (k = 2 → spacedV (runShown k t N 0 0 (List.replicate N 99) ys ys.length) q t = true) := by
  have hN := h.N4
  have hk := keyB_nat (q := q) (by omega)
  have hs := h.shown h.k0 h.k2
  refine ⟨?_, ?_⟩
  · unfold countV
    rw [if_pos hk, if_pos hk, runShown_len, Int.toNat_natCast]
    have := fewer_inv (k := k) (t := t) (n := N) (q := q) (by simpa using hq) hs h.masks ys.length (Nat.le_refl _)
    omega
  · rintro rfl
    rw [spacedV_iff]
    refine ⟨hk, ?_⟩
    unfold chV
    rw [if_pos hk, runShown_len, Int.toNat_natCast]
    exact (eager_inv (t := t) (n := N) (q := q) (by simpa using hq) hs ys.length (Nat.le_refl _)).1
theorem DrawnDeb.age {k t : Int} {N : Nat} {ys : List Int} (h : DrawnDeb k t N ys) (j q : Nat) (hq : q < N) : 0 ≤ (runN k t N 0 0 (List.replicate N 99) ys j).2.2.getD q 0 := by
  obtain ⟨N', S, L, e1, e2, e3, _, _, _, _, _, _, _, _, _, ha⟩ := okDeb_nat (h.ok h.k0 h.k2 j)
  obtain rfl : N = N' := by omega
  exact (ha q hq).1
/-- FnSteady: behind as many steps as it waits, the samples that stay are shown. -/
theorem steady_end {k t s l raw : Int} {N T : Nat} {zs : List Int} (hok : okDeb k t N s l zs = true) (hT : (T : Int) = t) (hr0 : 0 ≤ raw) (hr1 : raw < 2 ^ N) :
    (runN k t N s l zs (List.replicate T raw) T).1 = raw ∧ (runN k t N s l zs (List.replicate T raw) T).2.1 = raw := by
  obtain ⟨N', S, L, e1, rfl, rfl, k0, k2, t1, t20, n1, n24, hlen, hS, hL, hage⟩ := okDeb_nat hok
  obtain rfl : N = N' := by omega
  have hin : ∀ i, i < T → inB ((List.replicate T raw).getD i 0) 0 (2 ^ ((N : Nat) : Int).toNat - 1) = true := fun i hi => by
    rw [rep_get hi]; exact decide_eq_true ⟨hr0, by simp only [Int.toNat_natCast]; omega⟩
  obtain ⟨N', S', L', f1, f2, f3, _, _, _, _, _, _, _, hS', _⟩ := okDeb_nat (runN_ok (xs := List.replicate T raw) hok T hin)
  obtain rfl : N = N' := by omega
  have hT0 : 0 < T := by omega
  refine ⟨?_, ?_⟩
  · rw [f2]
    obtain ⟨R, rfl⟩ := Int.eq_ofNat_of_zero_le hr0
    have hR : R < 2 ^ N := by have := pow_nat N; omega
    have : S' = R := by
      apply Nat.eq_of_testBit_eq
      intro q
      by_cases hq : q < N
      · obtain ⟨i1, _⟩ := steady_inv (k := k) (t := t) (n := N) (s := S) (l := L) (raw := R) (zs := zs) (q := q) (T := T) (by simpa using hq) hT t20 (hage q hq).1 T (Nat.le_refl _)
        rcases i1 with h | h
        · rw [f2] at h; simpa using h
        · omega
      · rw [Nat.testBit_lt_two_pow (Nat.lt_of_lt_of_le hS' (Nat.pow_le_pow_right (by decide) (by omega))), Nat.testBit_lt_two_pow (Nat.lt_of_lt_of_le hR (Nat.pow_le_pow_right (by decide) (by omega)))]
    rw [this]
  · obtain ⟨i, rfl⟩ : ∃ i, T = i + 1 := ⟨T - 1, by omega⟩
    rw [runN]
    exact rep_get (by omega)

end Go.Proofs.Ytdlcpijiekhafaa
