/- DERIVED. A row of structs of numbers, Bools and texts that reads as data reads as its cells, one after the other. No condition. -/
import Derived.Test.YtkhakelhfnoeoaaDat
import Derived.Test.YtkhakelhfnoeoaaWide
namespace Go.Proofs.Ytkhakelhfnoeoaa
open Go.RowKit

def flatSh : Sh → Bool
  | .row _ => false
  | _ => true
def ceV : Sh → Ce → Value
  | .int k, .int n => .int k n
  | .bool, .bool b => .bool b
  | .str, .str s => .string s
  | _, _ => .bool false
def cesV : List Sh → List Ce → List Value
  | s :: ss, c :: cs => ceV s c :: cesV ss cs
  | _, _ => []
theorem rdL_flat {w : World} : ∀ (es : List Sh) (vs : List Value) (cs : List Ce), (∀ s ∈ es, flatSh s = true) → RdL w es vs cs → vs = cesV es cs
  | [], vs, cs, _, h => by simp only [RdL] at h; obtain ⟨rfl, rfl⟩ := h; rfl
  | s :: es, vs, cs, hf, h => by
    simp only [RdL] at h
    obtain ⟨v, vs', c, cs', rfl, rfl, h3, h4⟩ := h
    have ih := rdL_flat es vs' cs' (fun s hs => hf s (List.mem_cons_of_mem _ hs)) h4
    rw [cesV, ← ih]
    have hs := hf s List.mem_cons_self
    cases s with
    | int k => simp only [RdC] at h3; obtain ⟨n, rfl, rfl⟩ := h3; rfl
    | bool => simp only [RdC] at h3; obtain ⟨b, rfl, rfl⟩ := h3; rfl
    | str => simp only [RdC] at h3; obtain ⟨b, rfl, rfl⟩ := h3; rfl
    | row es => simp [flatSh] at hs
theorem flat_get {α : Type} {f : α → List Value} {k : Nat} (hk0 : 0 < k) : ∀ (rs : List α), (∀ r ∈ rs, (f r).length = k) → ∀ j (h : j < (rs.flatMap f).length), ∃ i r, ∃ (hi : i < rs.length) (_ : r < k), j = i * k + r ∧ (f rs[i])[r]? = some (rs.flatMap f)[j]
  | [], _, j, h => by simp at h
  | x :: rs, hk, j, h => by
    have hx := hk x List.mem_cons_self
    by_cases hj : j < k
    · refine ⟨0, j, by simp, hj, by simp, ?_⟩
      simp only [List.getElem_cons_zero, List.flatMap_cons]
      rw [List.getElem_append_left (by omega), List.getElem?_eq_getElem (by omega)]
    · have hl : j - k < (rs.flatMap f).length := by
        simp only [List.flatMap_cons, List.length_append] at h; omega
      obtain ⟨i, r, hi, hr, he, hg⟩ := flat_get hk0 rs (fun r hr => hk r (List.mem_cons_of_mem _ hr)) (j - k) hl
      refine ⟨i + 1, r, by simpa using hi, hr, by rw [Nat.succ_mul]; omega, ?_⟩
      simp only [List.getElem_cons_succ, List.flatMap_cons]
      rw [List.getElem_append_right (by omega), hg]
      congr 2
      omega
theorem rdN_of_rdC {w : World} {es : List Sh} {v : Value} {rs : List (List Ce)} (hf : ∀ s ∈ es, flatSh s = true) (h0 : 0 < es.length) (h : RdC w (.row es) v (.row rs)) :
    RdN w v rs.length (rs.flatMap (cesV es)) ∧ rs.length ≤ maxLen ∧ (∀ r ∈ rs, ∃ vs, RdL w es vs r) ∧ ∃ a cap, v = .slice a rs.length cap := by
  simp only [RdC] at h
  obtain ⟨rs', a, cap, hc, hv, hl, h⟩ := h
  obtain rfl : rs = rs' := by simpa using hc
  rcases h with rfl | ⟨b, off, ha, hlt, h⟩
  · exact ⟨⟨a, cap, hv, .inl rfl⟩, hl, by simp, a, cap, hv⟩
  · have hlen : ∀ r ∈ rs, (cesV es r).length = es.length := fun r hr => by
      obtain ⟨i, hi, rfl⟩ := List.getElem_of_mem hr
      obtain ⟨vs, h1, _, h3⟩ := h i hi
      rw [← rdL_flat es vs _ hf h3, h1]
    refine ⟨⟨a, cap, hv, .inr ⟨b, off, ha, hlt, fun j hj => ?_⟩⟩, hl, fun r hr => ?_, a, cap, hv⟩
    · obtain ⟨i, r, hi, hr, he, hg⟩ := flat_get h0 rs hlen j hj
      obtain ⟨vs, h1, h2, h3⟩ := h i hi
      have := h2 r (by omega)
      have e2 : (⟨b, off + j, none⟩ : Addr) = ⟨b, off + i * es.length + r, none⟩ := by rw [he, Nat.add_assoc]
      have e := rdL_flat es vs _ hf h3
      rw [← e, List.getElem?_eq_getElem (by omega), Option.some.injEq] at hg
      rw [e2, this, hg]
    · obtain ⟨i, hi, rfl⟩ := List.getElem_of_mem hr
      obtain ⟨vs, _, _, h3⟩ := h i hi
      exact ⟨vs, h3⟩

end Go.Proofs.Ytkhakelhfnoeoaa
