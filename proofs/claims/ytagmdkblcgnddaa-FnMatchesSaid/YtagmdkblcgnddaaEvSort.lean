/- DERIVED. Events in order, and the first of them. No condition. -/
import Derived.Test.YtagmdkblcgnddaaEvSpec
namespace Go.Proofs.Ytagmdkblcgnddaa
open Go.RowKit

/-- All events are valid and none is before lo, each no later than the next. -/
def sortE : List Ev → Int → Prop
  | [], _ => True
  | e :: l, lo => okEv e = true ∧ lo ≤ e.t ∧ sortE l e.t
theorem sortE.low : ∀ {l : List Ev} {lo lo' : Int}, sortE l lo → lo' ≤ lo → sortE l lo'
  | [], _, _, _, _ => trivial
  | _ :: _, _, _, h, hl => ⟨h.1, by have := h.2.1; omega, h.2.2⟩
theorem sortE.all : ∀ {l : List Ev} {lo : Int}, sortE l lo → ∀ e ∈ l, lo ≤ e.t ∧ okEv e = true
  | [], _, _ => fun _ hm => by cases hm
  | x :: l, lo, h => fun e he => by
    rcases List.mem_cons.1 he with rfl | he
    · exact ⟨h.2.1, h.1⟩
    · have := h.2.2.all e he
      exact ⟨by have := h.2.1; omega, this.2⟩
theorem sortE_at {l : List Ev} (h : ∀ j, j < l.length → okEv (evD l j) = true ∧ (0 < j → (evD l (j - 1)).t ≤ (evD l j).t)) : ∀ (m j : Nat), j + m = l.length → sortE (l.drop j) (if j = 0 then 0 else (evD l (j - 1)).t)
  | 0, j, hj => by rw [List.drop_of_length_le (by omega)]; trivial
  | m + 1, j, hj => by
    have hlt : j < l.length := by omega
    have hd : l.drop j = evD l j :: l.drop (j + 1) := by
      rw [List.drop_eq_getElem_cons hlt, evD, List.getD_eq_getElem?_getD, List.getElem?_eq_getElem hlt]; rfl
    rw [hd]
    have h1 := h j hlt
    refine ⟨h1.1, ?_, ?_⟩
    · split
      · exact (okEv_key h1.1).1
      · exact h1.2 (by omega)
    · have := sortE_at h m (j + 1) (by omega)
      rw [if_neg (by omega), show j + 1 - 1 = j by omega] at this
      exact this
theorem sortE_of {l : List Ev} (h : okEvs l = true) : sortE l 0 := by
  unfold okEvs at h
  rw [Bool.and_eq_true] at h
  have := sortE_at (l := l) (fun j hj => by
    have h1 := okEvN_at h.1 j hj
    unfold okAt at h1
    simp only [Bool.and_eq_true, Bool.not_eq_true', Bool.and_eq_false_iff, decide_eq_false_iff_not] at h1
    refine ⟨h1.1.1, fun h0 => ?_⟩
    rcases h1.1.2 with h2 | h2
    · omega
    · omega) l.length 0 (by omega)
  simpa using this
theorem sortE.take : ∀ {l : List Ev} {lo : Int} (k : Nat), sortE l lo → k < l.length → ∀ e ∈ l.drop k, (evD l k).t ≤ e.t ∧ okEv e = true
  | x :: l, lo, 0, h, _ => fun e he => by
    show x.t ≤ e.t ∧ _
    rcases List.mem_cons.1 he with rfl | he
    · exact ⟨Int.le_refl _, h.1⟩
    · exact h.2.2.all e he
  | x :: l, lo, k + 1, h, hk => fun e he => h.2.2.take k (by simpa using hk) e he
theorem flatEv_take : ∀ (l : List Ev) (k : Nat), flatEv (l.take k) = (flatEv l).take (k * 3)
  | [], k => by simp [flatEv]
  | e :: l, 0 => by simp [flatEv]
  | e :: l, k + 1 => by
    have ih := flatEv_take l k
    have h1 : flatEv (e :: l) = e.cells ++ flatEv l := by simp [flatEv]
    have h2 : flatEv ((e :: l).take (k + 1)) = e.cells ++ flatEv (l.take k) := by simp [flatEv]
    have hc : e.cells.length = 3 := rfl
    rw [h1, h2, ih, show (k + 1) * 3 = e.cells.length + k * 3 by rw [hc]; omega, List.take_length_add_append]
theorem rdN_takeE {w : World} {g : Option Addr} {n c k : Nat} {l : List Ev} (h : RdN w (.slice g n c) n (flatEv l)) (hk : k ≤ n) : RdN w (.slice g k c) k (flatEv (l.take k)) := by
  obtain ⟨a, c', e, h⟩ := h
  simp only [Value.slice.injEq, true_and] at e
  obtain ⟨rfl, rfl⟩ := e
  refine ⟨g, c, rfl, ?_⟩
  rcases h with h | ⟨b, off, rfl, hlt, hc⟩
  · exact .inl (by omega)
  · refine .inr ⟨b, off, rfl, hlt, fun j hj => ?_⟩
    have hj' := hj
    rw [flatEv_take, List.length_take] at hj'
    rw [hc j (by omega)]
    congr 1
    have : (flatEv (l.take k))[j]? = (flatEv l)[j]? := by rw [flatEv_take, List.getElem?_take_of_lt (by omega)]
    rw [List.getElem?_eq_getElem hj, List.getElem?_eq_getElem (by omega)] at this
    exact (Option.some.inj this).symm
theorem mem_evD {l : List Ev} {k : Nat} (hk : k < l.length) : evD l k ∈ l := by
  have h2 : evD l k = l[k] := by unfold evD; rw [List.getD_eq_getElem?_getD, List.getElem?_eq_getElem hk]; rfl
  rw [h2]; exact List.getElem_mem hk

end Go.Proofs.Ytagmdkblcgnddaa
