/- DERIVED. The exact laws of IsEngine and HeldAt: each, called with any arguments, returns true and changes nothing that was there; what the program's function does is a premise. · What the exact laws of presses, releases and taps share: marks of reports, the sizes of what comes out. No condition. -/
import Derived.Test.YtjfckchoklepbaaGreatEnSpec2
import Derived.Test.YtjfckchoklepbaaGreatEnFn
import Derived.Test.YtjfckchoklepbaaGreatRpLaw2
import Derived.Deep.RegionHeld3
import Derived.Test.YtjfckchoklepbaaGreatEnPr
import Derived.Test.YtjfckchoklepbaaGreatRpsLaw
namespace Go.Proofs.YtjfckchoklepbaaGreat
open Go.RowKit

theorem lenS_in {L : List (List Ac)} {l : List Ac} (h : l ∈ L) : l.length ≤ lenS L L.length := by
  obtain ⟨i, hi, rfl⟩ := List.getElem_of_mem h
  have h1 := lenS_mono L (show i + 1 ≤ L.length from hi)
  have h2 : lenS L (i + 1) = lenS L i + (lD L i).length := rfl
  have h3 : lD L i = L[i] := by unfold lD; rw [List.getD_eq_getElem?_getD, List.getElem?_eq_getElem hi]; rfl
  rw [h3] at h2
  omega
theorem lenT_in {L : List (List St)} {l : List St} (h : l ∈ L) : l.length ≤ lenT L L.length := by
  obtain ⟨i, hi, rfl⟩ := List.getElem_of_mem h
  have h1 := lenT_mono L (show i + 1 ≤ L.length from hi)
  have h2 : lenT L (i + 1) = lenT L i + (lD L i).length := rfl
  have h3 : lD L i = L[i] := by unfold lD; rw [List.getD_eq_getElem?_getD, List.getElem?_eq_getElem hi]; rfl
  rw [h3] at h2
  omega
theorem enSz_of {e : En} (h : totE e ≤ 1048576) : EnSz e := by
  unfold totE at h
  exact ⟨by omega, fun l hl => by have := lenS_in hl; omega, by omega, by omega, fun l hl => by have := lenT_in hl; omega, by omega, by omega⟩

theorem markReportS_q (B : Nat) (v : Value) (L : List Rv) (fp : List Nat) (q q2 : Int) (hq : q2 = q + (lenQ L L.length : Int)) (w : World) (hn : L.length ≤ 1048576) (ht : lenQ L L.length ≤ 1048576) (hk : 0 ≤ q) (hk' : q ≤ 1000000000) (h : OwZ rpF w B 1 v L fp) :
    Calls Tryz.prog 52 #[v, .int .i64 q] w fun e w' => e = .returned (.int .i64 q2) ∧ OwZ rpF w' B 1 v (mkQ q L L.length) fp ∧ Turn w w' fp := by
  rw [hq]; exact markReportS_own B v L fp q w hn ht hk hk' h
theorem heldReportS_q (v : Value) (L : List Rv) (q q2 : Int) (hq : q2 = q + (lenQ L L.length : Int)) (w : World) (hn : L.length ≤ 1048576) (ht : lenQ L L.length ≤ 1048576) (hk : 0 ≤ q) (hk' : q ≤ 1000000000) (h : RdQ rpF w v (mkQ q L L.length)) :
    Calls Tryz.prog 54 #[v, .int .i64 q] w fun e w' => e = .returned (.int .i64 q2) ∧ w = w' := by
  rw [hq]; exact heldReportS_any v L q w hn ht hk hk' h
theorem enSz_zero : EnSz en0 := ⟨Nat.zero_le _, (fun _ h => by cases h), Nat.zero_le _, Nat.zero_le _, (fun _ h => by cases h), Nat.zero_le _, Nat.zero_le _⟩
/-- What the law asks of the sizes of what comes out. -/
def TprSz (t : Tpr) : Prop := EnSz t.e ∧ t.l.length ≤ 1048576 ∧ (∀ p ∈ t.l, p.2.length ≤ 1000000000000) ∧ lenQ t.l t.l.length ≤ 1048576
theorem lenQ_small {L : List Rv} (h : ∀ r ∈ L, r.2.length ≤ 56) : ∀ j, lenQ L j ≤ j * 57
  | 0 => Nat.le_refl _
  | j + 1 => by
    have h1 := lenQ_small h j
    have h2 := qD_le h j
    rw [lenQ]; omega
theorem tprSz_of {t : Tpr} (h1 : EnSz t.e) (h2 : t.l.length ≤ 18000) (h3 : ∀ r ∈ t.l, r.2.length ≤ 56) : TprSz t :=
  ⟨h1, by omega, fun r hr => by have := h3 r hr; omega, by have := lenQ_small h3 t.l.length; omega⟩

end Go.Proofs.YtjfckchoklepbaaGreat
