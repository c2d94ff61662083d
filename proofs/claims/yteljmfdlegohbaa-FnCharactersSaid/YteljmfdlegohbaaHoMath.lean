/- DERIVED. A text of characters that have a code: its reports type it, its taps are a macro whose reports type it. No condition. -/
import Derived.Test.YteljmfdlegohbaaHoTxt
import Derived.Test.YteljmfdlegohbaaHoTyp
namespace Go.Proofs.Yteljmfdlegohbaa
open Go.RowKit

/-- Each character has a code. -/
def TyO (l : List UInt8) : Prop := ∀ x ∈ l, ¬ (koP x).1 = 0
def tS (l : List UInt8) : ByteArray := ⟨l.toArray⟩
theorem tS_size (l : List UInt8) : (tS l).size = l.length := rfl
theorem koC_tS (l : List UInt8) (j : Nat) : koC (tS l) j = koP (l.getD j 0) := rfl
theorem TyO.at {l : List UInt8} (h : TyO l) {j : Nat} (hj : j < l.length) : ¬ (koC (tS l) j).1 = 0 := by
  rw [koC_tS, List.getD_eq_getElem?_getD, List.getElem?_eq_getElem hj]
  exact h _ (List.getElem_mem _)
theorem okTx_tS {l : List UInt8} (h : TyO l) : ∀ j, j ≤ l.length → okTx (tS l) j = true
  | 0, _ => rfl
  | j + 1, hj => by rw [okTx, okTx_tS h j (by omega), decide_eq_false (h.at (by omega))]; rfl
theorem koN_is {x : UInt8} {m : Int} : ∀ k, ¬ koN x m k = 0 → hoV ((koN x m k : Nat) : Int) m = ⟨#[x]⟩
  | 0, h => absurd rfl h
  | k + 1, h => by
    by_cases h0 : koN x m k = 0
    · by_cases h1 : hoV ((k + 1 : Nat) : Int) m = ⟨#[x]⟩
      · rw [koN, if_pos h0, if_pos h1]; exact h1
      · exact absurd (koN_miss h0 h1) h
    · have e : koN x m (k + 1) = koN x m k := by rw [koN, if_neg h0]
      rw [e]; exact koN_is k h0
theorem koP_is {x : UInt8} (h : ¬ (koP x).1 = 0) : hoV (koP x).1 (koP x).2 = ⟨#[x]⟩ := by
  have hk : koP x = if koN x 0 56 = 0 then (if koN x 2 56 = 0 then ((0 : Int), (0 : Int)) else (((koN x 2 56 : Nat) : Int), (2 : Int))) else (((koN x 0 56 : Nat) : Int), (0 : Int)) := rfl
  by_cases h0 : koN x 0 56 = 0
  · by_cases h2 : koN x 2 56 = 0
    · rw [if_pos h0, if_pos h2] at hk; rw [hk] at h; exact absurd rfl h
    · rw [if_pos h0, if_neg h2] at hk; rw [hk]; exact koN_is 56 h2
  · rw [if_neg h0] at hk; rw [hk]; exact koN_is 56 h0
theorem koP_types {x : UInt8} (h : ¬ (koP x).1 = 0) : hoU (koP x).1 (koP x).2 = [x] := by
  have := koP_is h
  rw [hoV] at this
  have h2 := congrArg ByteArray.data this
  simp only at h2
  have h3 := congrArg Array.toList h2
  simpa using h3
theorem ko_all : (List.range 256).all (fun n => decide ((koP (UInt8.ofNat n)).1 = 0) || (okAc 2 (koP (UInt8.ofNat n)).1 (koP (UInt8.ofNat n)).2 0 && (okRp (koP (UInt8.ofNat n)).2 [(koP (UInt8.ofNat n)).1] && decide (mrV [] [⟨0, 2, (koP (UInt8.ofNat n)).1, (koP (UInt8.ofNat n)).2, 0⟩] = ((koP (UInt8.ofNat n)).2, [(koP (UInt8.ofNat n)).1]))))) = true := by kernel_rfl
theorem ko_at {x : UInt8} (h : ¬ (koP x).1 = 0) : okAc 2 (koP x).1 (koP x).2 0 = true ∧ okRp (koP x).2 [(koP x).1] = true ∧ mrV [] [⟨0, 2, (koP x).1, (koP x).2, 0⟩] = ((koP x).2, [(koP x).1]) := by
  have h1 := List.all_eq_true.1 ko_all x.toNat (List.mem_range.2 (UInt8.toNat_lt x))
  rw [UInt8.ofNat_toNat, decide_eq_false h, Bool.false_or, Bool.and_eq_true, Bool.and_eq_true] at h1
  exact ⟨h1.1, h1.2.1, of_decide_eq_true h1.2.2⟩
theorem qD_app (L M : List Rv) {j : Nat} (h : j < L.length) : qD (L ++ M) j = qD L j := by rw [qD_append, if_pos h]
theorem qD_app2 (L M : List Rv) (j : Nat) : qD (L ++ M) (L.length + j) = qD M j := by
  rw [qD_append, if_neg (by omega), Nat.add_sub_cancel_left]
theorem prD_app (p : Rv) (L M : List Rv) : ∀ j, j ≤ L.length → prD p (L ++ M) j = prD p L j
  | 0, _ => rfl
  | j + 1, h => qD_app L M (by omega)
theorem tyJ_app (p : Rv) (L M : List Rv) : ∀ j, j ≤ L.length → tyJ p (L ++ M) j = tyJ p L j
  | 0, _ => rfl
  | j + 1, h => by rw [tyJ, tyJ, tyJ_app p L M j (by omega), prD_app p L M j (by omega), qD_app L M (by omega)]
/-- What two more reports type. -/
theorem tyJ_two (p : Rv) (L : List Rv) (A B : Rv) : tyJ p (L ++ [A, B]) (L.length + 2) = tyJ p L L.length ++ tyK A.1 (nkV (prD p L L.length) A) ++ tyK B.1 (nkV A B) := by
  have e0 : qD (L ++ [A, B]) L.length = A := by have := qD_app2 L [A, B] 0; rw [Nat.add_zero] at this; rw [this]; rfl
  have e1 : qD (L ++ [A, B]) (L.length + 1) = B := by rw [qD_app2]; rfl
  have s1 : tyJ p (L ++ [A, B]) (L.length + 2) = tyJ p (L ++ [A, B]) (L.length + 1) ++ tyK (qD (L ++ [A, B]) (L.length + 1)).1 (nkV (prD p (L ++ [A, B]) (L.length + 1)) (qD (L ++ [A, B]) (L.length + 1))) := rfl
  have s2 : tyJ p (L ++ [A, B]) (L.length + 1) = tyJ p (L ++ [A, B]) L.length ++ tyK (qD (L ++ [A, B]) L.length).1 (nkV (prD p (L ++ [A, B]) L.length) (qD (L ++ [A, B]) L.length)) := rfl
  have s3 : prD p (L ++ [A, B]) (L.length + 1) = qD (L ++ [A, B]) L.length := rfl
  rw [s1, s2, s3, e0, e1, tyJ_app p L _ _ (Nat.le_refl _), prD_app p L _ _ (Nat.le_refl _)]
theorem rpTx_types {l : List UInt8} (h : TyO l) : ∀ j, j ≤ l.length → tyJ (0, []) (rpTx (tS l) j) (rpTx (tS l) j).length = l.take j ∧ prD (0, []) (rpTx (tS l) j) (rpTx (tS l) j).length = (0, [])
  | 0, _ => ⟨rfl, rfl⟩
  | j + 1, hj => by
    obtain ⟨h1, h2⟩ := rpTx_types h j (by omega)
    have hjl : j < l.length := by omega
    obtain ⟨x, hx⟩ : ∃ x, x = l.getD j 0 := ⟨_, rfl⟩
    have hk : koC (tS l) j = koP x := by rw [koC_tS, hx]
    have hn : ¬ (koP x).1 = 0 := by rw [← hk]; exact h.at hjl
    obtain ⟨-, k2, -⟩ := ko_at hn
    have k4 := koP_types hn
    obtain ⟨q, hq⟩ : ∃ q, q = koP x := ⟨_, rfl⟩
    rw [← hq] at hk k2 k4
    clear hq hn
    obtain ⟨c, m⟩ := q
    simp only at k2 k4
    have hl2 : (rpTx (tS l) j ++ [(m, [c]), (0, [])]).length = (rpTx (tS l) j).length + 2 := by simp
    rw [rpTx_succ, hk, hl2]
    refine ⟨?_, ?_⟩
    · rw [tyJ_two, h1, h2]
      have n1 : nkV (0, []) (m, [c]) = [c] := by
        rw [nkV, show okRp (0, ([] : List Int)).1 (0, ([] : List Int)).2 = true from rfl, show okRp (m, [c]).1 (m, [c]).2 = true from k2]
        simp
      have n2 : nkV (m, [c]) (0, []) = [] := by rw [nkV]; split <;> rfl
      rw [n1, n2, List.take_succ_eq_append_getElem hjl]
      have e : l[j] = x := by rw [hx, List.getD_eq_getElem?_getD, List.getElem?_eq_getElem hjl]; rfl
      rw [e]
      have : tyK m [c] = [x] := by
        rw [tyK, List.flatMap_cons, List.flatMap_nil, List.append_nil]; exact k4
      rw [this]
      simp [tyK]
    · show qD (rpTx (tS l) j ++ [(m, [c]), (0, [])]) ((rpTx (tS l) j).length + 1) = (0, [])
      rw [qD_app2]; rfl
theorem tyV_text {l : List UInt8} (h : TyO l) : tyV (0, []) (rpTx (tS l) l.length) = tS l := by
  rw [tyV, (rpTx_types h l.length (Nat.le_refl _)).1, List.take_length]; rfl
theorem dwN_taps (s : ByteArray) (n : Nat) : ∀ j, j ≤ n → dwN (stTx s n) j = []
  | 0, _ => rfl
  | j + 1, h => by
    have e : stD (stTx s n) j = ⟨0, (koC s j).1, (koC s j).2⟩ := by simp [stD, stTx, show j < n by omega]
    rw [dwN, dwN_taps s n j (by omega), e, nxS, if_neg (show ¬ (0 : Int) = 1 by decide), if_neg (show ¬ (0 : Int) = 2 by decide)]
theorem mcN_taps {l : List UInt8} (h : TyO l) : ∀ j, j ≤ l.length → mcN (stTx (tS l) l.length) j = true ∧ mrN [] (stTx (tS l) l.length) j = rpTx (tS l) j
  | 0, _ => ⟨rfl, rfl⟩
  | j + 1, hj => by
    obtain ⟨h1, h2⟩ := mcN_taps h j (by omega)
    have e : stD (stTx (tS l) l.length) j = ⟨0, (koC (tS l) j).1, (koC (tS l) j).2⟩ := by simp [stD, stTx, show j < l.length by omega]
    have hn := h.at (show j < l.length by omega)
    have hs := rpTx_succ (tS l) j
    rw [koC_tS] at hn
    obtain ⟨k1, -, k3⟩ := ko_at hn
    rw [← koC_tS] at k1 k3
    clear hn
    obtain ⟨q, hq⟩ : ∃ q, q = koC (tS l) j := ⟨_, rfl⟩
    rw [← hq] at e hs k1 k3
    clear hq
    obtain ⟨c, m⟩ := q
    simp only at e hs k1 k3
    have k5 : mrV [] [] = (0, []) := by kernel_rfl
    refine ⟨?_, ?_⟩
    · rw [mcN, h1, dwN_taps _ _ j (by omega), e, okX]
      have f1 : fiI [] (⟨0, c, m⟩ : St) = -1 := fiI_no (fun q hq => absurd hq (Nat.not_lt_zero _))
      rw [f1, k1]
      simp [inB]
    · rw [mrN, h2, dwN_taps _ _ j (by omega), e, mrX, if_pos (show (⟨0, c, m⟩ : St).k = 0 from rfl), hs, k5]
      congr 1
      have e2 : ([] : List Hd) ++ [stA ⟨0, c, m⟩] = [⟨0, 2, c, m, 0⟩] := by simp [stA]
      rw [e2, k3]
theorem taps_macro {l : List UInt8} (h : TyO l) (h8 : l.length ≤ 8) : okMc (stTx (tS l) l.length) = true := by
  rw [okMc, stTx_len, (mcN_taps h l.length (Nat.le_refl _)).1, dwN_taps _ _ _ (Nat.le_refl _)]
  simp; omega
theorem taps_reports {l : List UInt8} (h : TyO l) (h8 : l.length ≤ 8) : mrP [] (stTx (tS l) l.length) = rpTx (tS l) l.length := by
  rw [mrP, taps_macro h h8, show okHd [] = true from rfl, if_pos (show (true && true) = true from rfl), stTx_len, (mcN_taps h l.length (Nat.le_refl _)).2]
theorem tpV_text {l : List UInt8} (h : TyO l) (h8 : l.length ≤ 8) : tpV 8 (tS l) = (stTx (tS l) l.length, true) := by
  rw [tpV, if_pos ⟨h8, okTx_tS h _ (Nat.le_refl _)⟩]; rfl
theorem trV_text {l : List UInt8} (h : TyO l) (h8 : l.length ≤ 8) : trV (tS l) = (rpTx (tS l) l.length, true) := by
  rw [trV, if_pos ⟨Nat.le_trans h8 (by decide), okTx_tS h _ (Nat.le_refl _)⟩]; rfl

end Go.Proofs.Yteljmfdlegohbaa
