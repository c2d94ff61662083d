/- DERIVED. Chapter 4's functions, of the reference and of the program, as the laws call them: what is returned, as data, and which memory holds it. -/
import Derived.Test.YtkhakelhfnoeoaaEvLawC
import Derived.Test.YtkhakelhfnoeoaaIntsLaw
import Derived.Test.YtkhakelhfnoeoaaEvImpl3
import Derived.Test.YtkhakelhfnoeoaaEvImpl4
import Derived.Test.YtkhakelhfnoeoaaEvImpl5
namespace Go.Proofs.Ytkhakelhfnoeoaa
open Go.RowKit

theorem intsOutL {R : List Int} {b : Bool} {w w' : World} {e : Ending} (hl : R.length ≤ 1048576) (h : IntsOut R b w e w') : IntsOutL R b w e w' := by
  obtain ⟨u, he, ho, hb⟩ := h
  obtain ⟨a, c, fp, rfl, h⟩ := owC_len ho hl
  exact ⟨a, c, fp, he, h, hb⟩
theorem specEventsOf_law (v : Value) (zs : List Int) (R : List Ev) (b : Bool) (w : World) (h : evsR zs = (R, b)) (hl : zs.length ≤ 1048576) (hr : Rd w v (zs.map (.int .i64))) :
    Calls Try.prog 26 #[v] w (EvOutL R b w) :=
  (specEventsOf_any v zs w hl hr).mono fun _ _ hp => by rw [h] at hp; exact evOutL hp
theorem implEventsOf_law (v : Value) (zs : List Int) (R : List Ev) (b : Bool) (w : World) (h : evsR zs = (R, b)) (hl : zs.length ≤ 1048576) (hr : Rd w v (zs.map (.int .i64))) :
    Calls Try.prog 12 #[v] w (EvOutL R b w) :=
  (implEventsOf_any v zs w hl hr).mono fun _ _ hp => by rw [h] at hp; exact evOutL hp
theorem specMasksOf_law (v : Value) (l : List Ev) (n : Int) (R : List Int) (b : Bool) (w : World) (h : masksR l n = (R, b)) (hl : l.length ≤ 1048576) (hr : RdN w v l.length (flatEv l)) :
    Calls Try.prog 32 #[v, .int .i64 n] w (IntsOutL R b w) :=
  (specMasksOf_any v l n w (by unfold maxLen; omega) hr).mono fun _ _ hp => by
    have := masksR_len l n
    rw [h] at hp this; exact intsOutL this hp
theorem implMasksOf_law (v : Value) (l : List Ev) (n : Int) (R : List Int) (b : Bool) (w : World) (h : masksR l n = (R, b)) (hl : l.length ≤ 1048576) (hr : RdN w v l.length (flatEv l)) :
    Calls Try.prog 14 #[v, .int .i64 n] w (IntsOutL R b w) :=
  (implMasksOf_any v l n w (by unfold maxLen; omega) hr).mono fun _ _ hp => by
    have := masksR_len l n
    rw [h] at hp this; exact intsOutL this hp
theorem specReleaseAll_law (v : Value) (l : List Ev) (time : Int) (R : List Ev) (b : Bool) (w : World) (h : relR l time = (R, b)) (hl : l.length ≤ 1048576) (hr : RdN w v l.length (flatEv l)) (hnil : ∀ k, v = .slice none 0 k → k = 0) :
    Calls Try.prog 34 #[v, .int .i64 time] w (EvOutL R b w) :=
  (specReleaseAll_any v l time w hl hr hnil).mono fun _ _ hp => by rw [h] at hp; exact evOutL hp
theorem implReleaseAll_law (v : Value) (l : List Ev) (time : Int) (R : List Ev) (b : Bool) (w : World) (h : relR l time = (R, b)) (hl : l.length ≤ 1048576) (hr : RdN w v l.length (flatEv l)) (hnil : ∀ k, v = .slice none 0 k → k = 0) :
    Calls Try.prog 35 #[v, .int .i64 time] w (EvOutL R b w) :=
  (implReleaseAll_any v l time w hl hr hnil).mono fun _ _ hp => by rw [h] at hp; exact evOutL hp

end Go.Proofs.Ytkhakelhfnoeoaa
