/- DERIVED. Valid engines stay valid: what a press settles is a valid action of the layers, and a press and a release leave a valid engine. No condition. -/
import Derived.Test.YtbpopgplpipfeaaEnDef
import Derived.Test.YtbpopgplpipfeaaRpDraw
namespace Go.Proofs.Ytbpopgplpipfeaa
open Go.RowKit

/-- A valid engine, part by part. -/
structure EnOk (e : En) : Prop where
  km : okKm e.k e.L = true
  fl : e.F.length ≤ 4
  hd : HdOk e.H
  mc : ∀ j, j < e.F.length → okMc (lD e.F j) = true
  ft : ∀ j, j < e.H.length → (hdD e.H j).h < e.k ∧ ((hdD e.H j).k = 9 ∨ (hdD e.H j).n < e.L.length)
  fx : ∃ X : Nat, e.x = X ∧ X < 2 ^ e.L.length ∧ X % 2 = 0
  on : ∃ O : Nat, e.o = O ∧ O < 16
theorem mcsN_iff (F : List (List St)) : ∀ m, mcsN F m = true ↔ ∀ j, j < m → okMc (lD F j) = true
  | 0 => by simp [mcsN]
  | m + 1 => by
    rw [mcsN, Bool.and_eq_true, mcsN_iff F m]
    constructor
    · rintro ⟨h1, h2⟩ j hj
      rcases Nat.lt_or_ge j m with h | h
      · exact h1 j h
      · obtain rfl : j = m := by omega
        exact h2
    · exact fun h => ⟨fun j hj => h j (by omega), h m (by omega)⟩
theorem hfit_iff (keys : Int) (n : Nat) (h : Hd) : hfit keys n h = true ↔ h.h < keys ∧ (h.k = 9 ∨ h.n < n) := by
  unfold hfit
  rw [Bool.not_eq_true', Bool.or_eq_false_iff, Bool.and_eq_false_iff, decide_eq_false_iff_not, decide_eq_false_iff_not, Bool.not_eq_false', decide_eq_true_eq]
  constructor
  · rintro ⟨h1, h2⟩; exact ⟨by omega, by rcases h2 with h2 | h2; exact .inl h2; exact .inr (by omega)⟩
  · rintro ⟨h1, h2⟩; exact ⟨by omega, by rcases h2 with h2 | h2; exact .inl h2; exact .inr (by omega)⟩
theorem hfN_iff (keys : Int) (n : Nat) (H : List Hd) : ∀ m, hfN keys n H m = true ↔ ∀ j, j < m → (hdD H j).h < keys ∧ ((hdD H j).k = 9 ∨ (hdD H j).n < n)
  | 0 => by simp [hfN]
  | m + 1 => by
    rw [hfN, Bool.and_eq_true, hfN_iff keys n H m, hfit_iff]
    constructor
    · rintro ⟨h1, h2⟩ j hj
      rcases Nat.lt_or_ge j m with h | h
      · exact h1 j h
      · obtain rfl : j = m := by omega
        exact h2
    · exact fun h => ⟨fun j hj => h j (by omega), h m (by omega)⟩
theorem okEn_iff {e : En} : okEn e = true ↔ EnOk e := by
  have hp : ((2 : Int) ^ e.L.length) = ((2 ^ e.L.length : Nat) : Int) := pow_nat _
  rw [okEn]
  simp only [Bool.and_eq_true, mcsN_iff, hfN_iff, okHd_iff, decide_eq_true_eq, inB]
  rw [hp]
  constructor
  · rintro ⟨⟨h1, h2, h3⟩, ⟨h4, h5⟩, h6, h7, h8⟩
    exact ⟨h1, h2, h3, h4, h5, ⟨e.x.toNat, by omega, by omega, by omega⟩, ⟨e.o.toNat, by omega, by omega⟩⟩
  · rintro ⟨h1, h2, h3, h4, h5, ⟨X, hX, hl, he⟩, ⟨O, hO, ho⟩⟩
    exact ⟨⟨h1, h2, h3⟩, ⟨h4, h5⟩, by omega, by omega, by omega⟩

/-- A valid action that does not pass and that n layers know. -/
structure AcE (n : Nat) (a : Ac) : Prop where
  np : AcNp a
  ft : a.k = 9 ∨ a.n < n
theorem laD_np {L : List (List Ac)} {on : Int} {key : Nat} : ∀ k, 0 < laD L on key k → (acD (lD L (laD L on key k)) key).k ≠ 1
  | 0, h => absurd h (Nat.lt_irrefl _)
  | k + 1, h => by
    rw [laD] at h ⊢
    by_cases hb : (bitOn on (k + 1) && !decide ((acD (lD L (k + 1)) key).k = 1)) = true
    · rw [if_pos hb]
      rw [Bool.and_eq_true] at hb
      simpa using hb.2
    · rw [if_neg hb] at h ⊢
      exact laD_np k h
theorem okA_at {n i : Nat} {a : Ac} (h : okA n i a = true) : okAc a.k a.c a.m a.n = true ∧ ¬ (a.k = 1 ∧ i = 0) ∧ (a.k = 9 ∨ a.n < n) := by
  unfold okA at h
  simp only [Bool.and_eq_true, Bool.not_eq_true', Bool.and_eq_false_iff, decide_eq_false_iff_not, Bool.not_eq_false', decide_eq_true_eq] at h
  obtain ⟨h1, h2, h3⟩ := h
  exact ⟨h1, fun e => by rcases h2 with h2 | h2; exact h2 e.1; exact h2 e.2, by rcases h3 with h3 | h3; exact .inl h3; exact .inr (by omega)⟩
theorem atV_ok {keys : Int} {L : List (List Ac)} (on : Int) {key : Int} (h : okKm keys L = true) (hk : 0 ≤ key ∧ key < keys) : AcE L.length (atV keys L on key) := by
  obtain ⟨_, hl, hr⟩ := okKm_at h
  have hb : inB key 0 (keys - 1) = true := decide_eq_true ⟨hk.1, by omega⟩
  rw [atV, h, hb, Bool.and_self, if_pos rfl]
  have hle := laD_le L on key.toNat (L.length - 1)
  obtain ⟨hlen, hall⟩ := hr (laD L on key.toNat (L.length - 1)) (by omega)
  obtain ⟨h1, h2, h3⟩ := okA_at (hall key.toNat (by omega))
  refine ⟨⟨h1, fun e => ?_⟩, h3⟩
  rcases Nat.eq_zero_or_pos (laD L on key.toNat (L.length - 1)) with h0 | h0
  · exact h2 ⟨e, h0⟩
  · exact laD_np _ h0 e
theorem tap_ok {n : Nat} {a : Ac} (hn : 1 ≤ n) (h : AcE n a) : AcE n (tapR a) ∧ holdAc (tapR a).k (tapR a).c (tapR a).m (tapR a).n = false := by
  rw [tapR]
  by_cases hh : holdAc a.k a.c a.m a.n = true
  · obtain ⟨hc, _, _⟩ := hold_parts hh
    rw [if_pos hh]
    exact ⟨⟨⟨by simp [okAc, inB]; omega, by simp⟩, .inr (by show (0 : Int) < n; omega)⟩, by simp [holdAc]⟩
  · rw [if_neg hh]
    exact ⟨h, by simpa using hh⟩
theorem hold_ok {n : Nat} {a : Ac} (hn : 1 ≤ n) (h : AcE n a) : AcE n (holdR a) ∧ holdAc (holdR a).k (holdR a).c (holdR a).m (holdR a).n = false := by
  have h1 := np_hold h.np
  by_cases hh : holdAc a.k a.c a.m a.n = true
  · have hk := (hold_kinds hh).2
    have hft := h.ft
    rw [holdR, if_pos hh] at h1 ⊢
    by_cases h6 : a.k = 6
    · rw [if_pos h6] at h1 ⊢
      exact ⟨⟨h1, .inr (by show (0 : Int) < n; omega)⟩, by simp [holdAc]⟩
    · rw [if_neg h6] at h1 ⊢
      exact ⟨⟨h1, .inr (by show a.n < n; omega)⟩, by simp [holdAc]⟩
  · rw [holdR, if_neg hh]
    exact ⟨h, by simpa using hh⟩
/-- What an engine keeps of its numbers. -/
def NumOk (n : Nat) (x o : Int) : Prop := (∃ X : Nat, x = X ∧ X < 2 ^ n ∧ X % 2 = 0) ∧ ∃ O : Nat, o = O ∧ O < 16
theorem even_xor {X k : Nat} (h : X % 2 = 0) (hk : 1 ≤ k) : (X ^^^ 2 ^ k) % 2 = 0 := by
  have h1 : X.testBit 0 = false := by rw [Nat.testBit_zero]; simp; omega
  have h2 : (X ^^^ 2 ^ k).testBit 0 = false := by
    rw [Nat.testBit_xor, h1, Nat.testBit_two_pow]
    simp; omega
  rw [Nat.testBit_zero] at h2
  have h3 := of_decide_eq_false h2
  have := Nat.mod_two_eq_zero_or_one (X ^^^ 2 ^ k)
  omega
theorem okAc_tg {c m n : Int} (h : okAc 4 c m n = true) : 1 ≤ n ∧ n ≤ 3 := by
  simp [okAc, inB] at h; omega
theorem okAc_to {c m n : Int} (h : okAc 5 c m n = true) : 0 ≤ n ∧ n ≤ 3 := by
  simp [okAc, inB] at h; omega
theorem okAc_once {c m n : Int} (h : okAc 8 c m n = true) : 1 ≤ m ∧ m ≤ 15 := by
  simp [okAc, inB] at h; omega
theorem okAc_code {c m n : Int} (h : okAc 2 c m n = true) (hc : 0 < c) : (1 ≤ c ∧ c ≤ 56) ∧ (0 ≤ m ∧ m ≤ 15) ∧ n = 0 := by
  simp [okAc, inB] at h; omega
theorem okAc_of_code {c m : Int} (hc : 1 ≤ c ∧ c ≤ 56) (hm : 0 ≤ m ∧ m ≤ 15) : okAc 2 c m 0 = true := by
  simp [okAc, inB]; omega
theorem to_even {N : Nat} (h : N ≤ 3) : dif (2 ^ N) 1 % 2 = 0 ∧ dif (2 ^ N) 1 < 2 ^ (N + 1) := by
  rcases (show N = 0 ∨ N = 1 ∨ N = 2 ∨ N = 3 by omega) with rfl | rfl | rfl | rfl <;> decide
theorem key_ok {e : En} {c m : Int} (hm : 0 ≤ m ∧ m ≤ 15) (ho : ∃ O : Nat, e.o = O ∧ O < 16) : 0 ≤ (keyO e c m).2 ∧ (keyO e c m).2 ≤ 15 := by
  obtain ⟨O, hO, hlt⟩ := ho
  obtain ⟨M, rfl⟩ : ∃ M : Nat, m = M := ⟨m.toNat, by omega⟩
  have h1 : bits .or .i64 (M : Int) e.o = ((M ||| O : Nat) : Int) := by rw [hO]; exact or_nat M O (by omega) (by omega)
  have h2 : M ||| O < 2 ^ 4 := Nat.or_lt_two_pow (by omega) (by omega)
  unfold keyO
  simp only [h1]
  split
  · omega
  · omega
theorem set_ok {e : En} {a : Ac} (hn : 1 ≤ e.L.length ∧ e.L.length ≤ 4) (hN : NumOk e.L.length e.x e.o) (ha : AcE e.L.length a) (hh : holdAc a.k a.c a.m a.n = false) :
    AcE e.L.length (setO e a).2 ∧ holdAc (setO e a).2.k (setO e a).2.c (setO e a).2.m (setO e a).2.n = false ∧ NumOk e.L.length (setO e a).1.x (setO e a).1.o ∧
    (setO e a).1.k = e.k ∧ (setO e a).1.L = e.L ∧ (setO e a).1.F = e.F ∧ (setO e a).1.H = e.H := by
  obtain ⟨⟨X, hX, hXl, hXe⟩, ⟨O, hO, hOl⟩⟩ := hN
  have hXb : X < 2 ^ 4 := Nat.lt_of_lt_of_le hXl (Nat.pow_le_pow_right (by decide) hn.2)
  obtain ⟨⟨hok, hnp⟩, hft⟩ := ha
  unfold setO
  by_cases h2 : a.k = 2 ∧ 0 < a.c
  · rw [if_pos h2]
    have h3 := hok
    rw [h2.1] at h3
    obtain ⟨hc, hm, hn0⟩ := okAc_code h3 h2.2
    have hk := key_ok (e := e) (c := a.c) hm ⟨O, hO, hOl⟩
    refine ⟨⟨⟨?_, hnp⟩, hft⟩, ?_, ⟨⟨X, hX, hXl, hXe⟩, ⟨0, rfl, by decide⟩⟩, rfl, rfl, rfl, rfl⟩
    · show okAc a.k a.c (keyO e a.c a.m).2 a.n = true
      rw [h2.1, hn0]; exact okAc_of_code hc hk
    · show holdAc a.k a.c (keyO e a.c a.m).2 a.n = false
      rw [holdAc, h2.1]; simp
  · rw [if_neg h2]
    by_cases h4 : a.k = 4
    · rw [if_pos h4]
      rw [h4] at hok
      have hnn := okAc_tg hok
      obtain ⟨N, hNn⟩ : ∃ N : Nat, a.n = N := ⟨a.n.toNat, by omega⟩
      have hlt : N < e.L.length := by rcases hft with h | h; omega; omega
      have h5 : bits .xor .i64 e.x ((2 : Int) ^ a.n.toNat) = ((X ^^^ 2 ^ N : Nat) : Int) := by
        rw [hX, show a.n.toNat = N by omega, pow_nat]
        exact xor_nat X (2 ^ N) (by omega) (pow62 (by omega))
      exact ⟨⟨⟨by rw [h4]; exact hok, hnp⟩, hft⟩, hh, ⟨⟨_, h5, Nat.xor_lt_two_pow hXl (Nat.pow_lt_pow_right (by decide) hlt), even_xor hXe (by omega)⟩, ⟨O, hO, hOl⟩⟩, rfl, rfl, rfl, rfl⟩
    · rw [if_neg h4]
      by_cases h5 : a.k = 5
      · rw [if_pos h5]
        rw [h5] at hok
        have hnn := okAc_to hok
        obtain ⟨N, hNn⟩ : ∃ N : Nat, a.n = N := ⟨a.n.toNat, by omega⟩
        have hlt : N < e.L.length := by rcases hft with h | h; omega; omega
        obtain ⟨hev, hpl⟩ := to_even (N := N) (by omega)
        have h6 : bits .andNot .i64 ((2 : Int) ^ a.n.toNat) 1 = ((dif (2 ^ N) 1 : Nat) : Int) := by
          rw [show a.n.toNat = N by omega, pow_nat, show (1 : Int) = ((1 : Nat) : Int) from rfl]
          exact dif_nat (2 ^ N) 1 (pow62 (by omega)) (by decide)
        exact ⟨⟨⟨by rw [h5]; exact hok, hnp⟩, hft⟩, hh, ⟨⟨_, h6, Nat.lt_of_lt_of_le hpl (Nat.pow_le_pow_right (by decide) hlt), hev⟩, ⟨O, hO, hOl⟩⟩, rfl, rfl, rfl, rfl⟩
      · rw [if_neg h5]
        by_cases h8 : a.k = 8
        · rw [if_pos h8]
          rw [h8] at hok
          have hmm := okAc_once hok
          obtain ⟨M, hM⟩ : ∃ M : Nat, a.m = M := ⟨a.m.toNat, by omega⟩
          have ho : ∃ Q : Nat, (if bits .and .i64 e.o a.m = a.m then bits .andNot .i64 e.o a.m else bits .or .i64 e.o a.m) = Q ∧ Q < 16 := by
            rw [hO, hM]
            split
            · exact ⟨_, dif_nat O M (by omega) (by omega), dif_lt (n := 4) (by omega)⟩
            · exact ⟨_, or_nat O M (by omega) (by omega), Nat.or_lt_two_pow (n := 4) (by omega) (by omega)⟩
          exact ⟨⟨⟨by rw [h8]; exact hok, hnp⟩, hft⟩, hh, ⟨⟨X, hX, hXl, hXe⟩, ho⟩, rfl, rfl, rfl, rfl⟩
        · rw [if_neg h8]
          by_cases h10 : a.k = 10
          · rw [if_pos h10]; exact ⟨⟨⟨hok, hnp⟩, hft⟩, hh, ⟨⟨X, hX, hXl, hXe⟩, ⟨O, hO, hOl⟩⟩, rfl, rfl, rfl, rfl⟩
          · rw [if_neg h10]; exact ⟨⟨⟨hok, hnp⟩, hft⟩, hh, ⟨⟨X, hX, hXl, hXe⟩, ⟨O, hO, hOl⟩⟩, rfl, rfl, rfl, rfl⟩
theorem haI_none {H : List Hd} {key : Int} (h : haI H key < 0) : ∀ q, q < H.length → (hdD H q).h ≠ key := by
  intro q hq e
  have h1 : haH H key ≤ q := by
    unfold haH
    rcases Nat.lt_or_ge q (H.findIdx fun h => decide (h.h = key)) with h2 | h2
    · have := List.not_of_lt_findIdx h2
      rw [hdD, List.getD_eq_getElem?_getD, List.getElem?_eq_getElem hq] at e
      simp at this
      exact absurd e this
    · exact h2
  rw [haI, if_pos (by omega)] at h
  exact absurd h (by omega)
theorem hdOk_snoc {l : List Hd} {e : Hd} (h : HdOk l) (he : okOne e = true) (hne : ∀ i, i < l.length → (hdD l i).h ≠ e.h) : HdOk (l ++ [e]) := by
  obtain ⟨h1, h2⟩ := h
  refine ⟨fun i hi => ?_, fun i j hij hj => ?_⟩
  · rw [List.length_append, List.length_singleton] at hi
    rw [hdD_snoc l e i hi]
    split
    · exact h1 i (by assumption)
    · exact he
  · rw [List.length_append, List.length_singleton] at hj
    rw [hdD_snoc l e i (by omega), hdD_snoc l e j hj, if_pos (show i < l.length by omega)]
    split
    · exact h2 i j hij (by assumption)
    · exact hne i (by omega)
theorem hdD_erase (l : List Hd) (k i : Nat) : hdD (l.eraseIdx k) i = if i < k then hdD l i else hdD l (i + 1) := by
  rw [hdD, hdD, hdD, List.getD_eq_getElem?_getD, List.getD_eq_getElem?_getD, List.getD_eq_getElem?_getD, List.getElem?_eraseIdx]
  split <;> rfl
theorem hdOk_erase {l : List Hd} (h : HdOk l) (k : Nat) : HdOk (l.eraseIdx k) := by
  by_cases hk : k < l.length
  · have hl : (l.eraseIdx k).length = l.length - 1 := List.length_eraseIdx_of_lt hk
    obtain ⟨h1, h2⟩ := h
    refine ⟨fun i hi => ?_, fun i j hij hj => ?_⟩
    · rw [hdD_erase]; split
      · exact h1 i (by omega)
      · exact h1 (i + 1) (by omega)
    · rw [hdD_erase, hdD_erase]
      split
      · split
        · exact h2 i j hij (by omega)
        · exact h2 i (j + 1) (by omega) (by omega)
      · split
        · omega
        · exact h2 (i + 1) (j + 1) (by omega) (by omega)
  · rw [List.eraseIdx_of_length_le (by omega)]; exact h
/-- The action of a press. -/
theorem prsA_ok {e : En} {key : Int} (hold : Bool) (h : EnOk e) (hk : 0 ≤ key ∧ key < e.k) : AcE e.L.length (prsA e key hold) ∧ holdAc (prsA e key hold).k (prsA e key hold).c (prsA e key hold).m (prsA e key hold).n = false := by
  have hl := (okKm_at h.km).2.1
  have ha := atV_ok (onV e.x e.H : Nat) h.km hk
  rw [prsA]
  split
  · exact hold_ok hl.1 ha
  · exact tap_ok hl.1 ha
theorem prs_ok {e : En} {key : Int} (hold : Bool) (h : EnOk e) (hk : 0 ≤ key ∧ key < e.k) (hno : haI e.H key < 0) : EnOk (prsE e key hold) := by
  have hkm := okKm_at h.km
  obtain ⟨ha, hh⟩ := prsA_ok hold h hk
  obtain ⟨hb, hhb, ⟨hx, ho⟩, e1, e2, e3, _⟩ := set_ok hkm.2.1 ⟨h.fx, h.on⟩ ha hh
  have hone : okOne ⟨key, (setO e (prsA e key hold)).2.k, (setO e (prsA e key hold)).2.c, (setO e (prsA e key hold)).2.m, (setO e (prsA e key hold)).2.n⟩ = true := by
    have hb1 : inB key 0 31 = true := decide_eq_true ⟨hk.1, by omega⟩
    rw [okOne]
    simp only [hb1, hb.np.1, hhb, Bool.true_and, Bool.not_false, Bool.and_true, Bool.not_eq_true', decide_eq_false_iff_not]
    exact hb.np.2
  refine ⟨?_, ?_, hdOk_snoc h.hd hone (haI_none hno), ?_, ?_, ?_, ho⟩
  · show okKm (setO e (prsA e key hold)).1.k (setO e (prsA e key hold)).1.L = true
    rw [e1, e2]; exact h.km
  · show (setO e (prsA e key hold)).1.F.length ≤ 4
    rw [e3]; exact h.fl
  · show ∀ j, j < (setO e (prsA e key hold)).1.F.length → okMc (lD (setO e (prsA e key hold)).1.F j) = true
    rw [e3]; exact h.mc
  · intro j hj
    show (hdD (e.H ++ [_]) j).h < (setO e (prsA e key hold)).1.k ∧ ((hdD (e.H ++ [_]) j).k = 9 ∨ (hdD (e.H ++ [_]) j).n < (setO e (prsA e key hold)).1.L.length)
    rw [e1, e2]
    have hj2 : j < e.H.length + 1 := by simpa [prsE] using hj
    rw [hdD_snoc _ _ j hj2]
    split
    · exact h.ft j (by assumption)
    · exact ⟨hk.2, hb.ft⟩
  · show ∃ X : Nat, (setO e (prsA e key hold)).1.x = X ∧ X < 2 ^ (setO e (prsA e key hold)).1.L.length ∧ X % 2 = 0
    rw [e2]; exact hx
theorem rel_ok {e : En} (key : Int) (h : EnOk e) : EnOk (relE e key) := by
  refine ⟨h.km, h.fl, hdOk_erase h.hd _, h.mc, fun j hj => ?_, h.fx, h.on⟩
  show (hdD (e.H.eraseIdx _) j).h < e.k ∧ ((hdD (e.H.eraseIdx _) j).k = 9 ∨ (hdD (e.H.eraseIdx _) j).n < e.L.length)
  have hj2 : j < (e.H.eraseIdx (haH e.H key)).length := hj
  have hle := List.length_eraseIdx_le e.H (haH e.H key)
  rw [hdD_erase]
  split
  · exact h.ft j (by omega)
  · rename_i hjk
    have : (e.H.eraseIdx (haH e.H key)).length = e.H.length - 1 := List.length_eraseIdx_of_lt (by omega)
    exact h.ft (j + 1) (by omega)
theorem haH_snoc {H : List Hd} {n : Hd} (h : haI H n.h < 0) : haH (H ++ [n]) n.h = H.length := by
  have h1 := haI_none h
  have : haH H n.h = H.length := by
    rcases haI_cases H n.h with h2 | ⟨h2, _⟩
    · rw [haI] at h2
      split at h2
      · omega
      · have : haH H n.h ≤ H.length := List.findIdx_le_length
        omega
    · omega
  unfold haH at this ⊢
  rw [List.findIdx_append, this, if_neg (Nat.lt_irrefl _)]
  simp [List.findIdx_cons]
/-- A key that goes down and up leaves what is held as it was. -/
theorem prs_rel {e : En} {key : Int} (hold : Bool) (hno : haI e.H key < 0) : (relE (prsE e key hold) key).H = e.H := by
  show (e.H ++ [_]).eraseIdx (haH (e.H ++ [_]) key) = e.H
  have := haH_snoc (H := e.H) (n := ⟨key, (setO e (prsA e key hold)).2.k, (setO e (prsA e key hold)).2.c, (setO e (prsA e key hold)).2.m, (setO e (prsA e key hold)).2.n⟩) hno
  rw [this]
  simp [List.eraseIdx_append_of_length_le]

end Go.Proofs.Ytbpopgplpipfeaa
